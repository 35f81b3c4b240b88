/-
  The contracts of slices.SortStableFunc at impl.byTerms and at few pairs.
-/
import Derived.Test.YtfplloabkceaoaaByT
import Derived.Test.YtfplloabkceaoaaMark
import Derived.Deep.RegionHeld3
import Derived.Outline
namespace Go.Proofs.Ytfplloabkceaoaa
open Go.RowKit

theorem sortG_start {l : List (Int × Int)} (h : 0 < l.length) : sortG l 1 ++ l.drop 1 = l := by
  cases l with
  | nil => simp at h
  | cons x r => simp [sortG, insP, posG]
/-- The list while x is carried to its place. -/
def midL (S : List (Int × Int)) (x : Int × Int) (R : List (Int × Int)) (j : Nat) : List (Int × Int) := S.take j ++ x :: S.drop j ++ R
theorem midL_length (S : List (Int × Int)) (x : Int × Int) (R : List (Int × Int)) (j : Nat) : (midL S x R j).length = S.length + 1 + R.length := by
  unfold midL
  simp only [List.length_append, List.length_take, List.length_cons, List.length_drop]
  omega
theorem midL_at {S : List (Int × Int)} {x : Int × Int} {R : List (Int × Int)} {j : Nat} (hj : j ≤ S.length) : (midL S x R j).getD j (0, 0) = x := by
  unfold midL
  rw [List.getD_eq_getElem?_getD, List.append_assoc, List.getElem?_append_right (by rw [List.length_take]; omega), List.length_take, Nat.min_eq_left hj]
  simp
theorem midL_ahead {S : List (Int × Int)} {x : Int × Int} {R : List (Int × Int)} {j k : Nat} (hj : j ≤ S.length) (hk : k < j) : (midL S x R j).getD k (0, 0) = S.getD k (0, 0) := by
  unfold midL
  rw [List.getD_eq_getElem?_getD, List.append_assoc, List.getElem?_append_left (by rw [List.length_take]; omega), List.getElem?_take, if_pos hk, ← List.getD_eq_getElem?_getD]
theorem set2 {α : Type} (a b y z : α) (T : List α) : ∀ A : List α, ((A ++ a :: b :: T).set (A.length + 1) y).set A.length z = A ++ z :: y :: T
  | [] => rfl
  | c :: A => by
    have := set2 a b y z T A
    simp only [List.cons_append, List.length_cons, List.set_cons_succ]
    rw [this]
theorem midL_back {S : List (Int × Int)} {x : Int × Int} {R : List (Int × Int)} {j : Nat} (hj : j < S.length) :
    ((midL S x R (j + 1)).set (j + 1) (S.getD j (0, 0))).set j x = midL S x R j := by
  have ey : S.getD j (0, 0) = S[j] := by rw [List.getD_eq_getElem?_getD, List.getElem?_eq_getElem hj]; rfl
  have e1 : midL S x R (j + 1) = S.take j ++ S[j] :: x :: (S.drop (j + 1) ++ R) := by
    unfold midL
    rw [List.take_add_one, List.getElem?_eq_getElem hj]
    show (S.take j ++ [S[j]]) ++ (x :: S.drop (j + 1)) ++ R = _
    rw [List.append_assoc, List.append_assoc]
    rfl
  have e2 : midL S x R j = S.take j ++ x :: S[j] :: (S.drop (j + 1) ++ R) := by
    unfold midL
    rw [List.drop_eq_getElem_cons hj]
    show S.take j ++ (x :: S[j] :: S.drop (j + 1)) ++ R = _
    rw [List.append_assoc]
    rfl
  have hl : (S.take j).length = j := by rw [List.length_take]; omega
  have h := set2 S[j] x S[j] x (S.drop (j + 1) ++ R) (S.take j)
  rw [hl] at h
  rw [e1, e2, ey, h]
theorem midL_start {l : List (Int × Int)} {i : Nat} (hi : i < l.length) : midL (sortG l i) (l.getD i (0, 0)) (l.drop (i + 1)) i = sortG l i ++ l.drop i := by
  unfold midL
  have e : (sortG l i).length = i := sortG_length l i
  rw [List.take_of_length_le (by omega), List.drop_of_length_le (by omega), List.drop_eq_getElem_cons hi, List.getD_eq_getElem?_getD, List.getElem?_eq_getElem hi]
  simp
theorem midL_done {l : List (Int × Int)} {i j : Nat} (hj : posG (sortG l i) (l.getD i (0, 0)) i = j) : midL (sortG l i) (l.getD i (0, 0)) (l.drop (i + 1)) j = sortG l (i + 1) ++ l.drop (i + 1) := by
  have e : (sortG l i).length = i := sortG_length l i
  rw [sortG, insP, e, hj]
  rfl

theorem insertion_nil (a : Option Addr) (c : Nat) (w : World) : Calls Try.prog 244 #[.slice a 0 c, .int .i64 0, .int .i64 0, (.func (.func 148) #[] #[])] w fun e w' => e = .returned (.tuple #[]) ∧ w' = w := by
  go_enter Try.func244, Try.ntmps244
  go_wp2
  go_loop [8] (fun i => i = .int .i64 1) (fun _ => 0)
  case atStart => rfl
  case round =>
    subst hrel
    go_wp2
    go_end0
    exact ⟨rfl, rfl⟩

set_option maxRecDepth 20000 in
set_option maxHeartbeats 4000000 in
theorem insertion_any (b c : Nat) (l : List (Int × Int)) (w : World) (h0 : 0 < l.length) (hn : l.length ≤ 1048576) (ho : Own w b l.length l l.length) :
    Calls Try.prog 244 #[.slice (some ⟨b, 0, none⟩) l.length c, .int .i64 0, .int .i64 l.length, (.func (.func 148) #[] #[])] w fun e w' => e = .returned (.tuple #[]) ∧ Own w' b l.length (sortP l) l.length ∧ Out b (b + 1) w w' := by
  have hb := ho.1
  have HS : Hid (sortG l 1 ++ l.drop 1 = l) := sortG_start h0
  go_enter Try.func244, Try.ntmps244
  go_wp2
  generalize hN : l.length = n at *
  have HN : Hid (l.length = n) := hN
  clear hN
  go_loopw [8] (fun x wr => ∃ i : Nat, 1 ≤ i ∧ i ≤ n ∧ x = .int .i64 i ∧ Own wr b n (sortG l i ++ l.drop i) n ∧ Out b (b + 1) w wr) (fun x _ => n - (intOf x).toNat)
  case atStart => exact ⟨1, Nat.le_refl _, by omega, rfl, by rw [HS.out]; exact ho, Out.refl _ _ _⟩
  case round =>
    obtain ⟨i, hi1, hi, rfl, hD, hO⟩ := hrel
    clear ho HS
    by_cases hlt : i < n
    · have hSl : Hid ((sortG l i).length = i) := sortG_length l i
      rw [← midL_start (by rw [HN.out]; exact hlt)] at hD
      go_wp2
      go_loopw [9] (fun y wz => ∃ j : Nat, j ≤ i ∧ y = .int .i64 j ∧ Hid (posG (sortG l i) (l.getD i (0, 0)) j = posG (sortG l i) (l.getD i (0, 0)) i) ∧ Own wz b n (midL (sortG l i) (l.getD i (0, 0)) (l.drop (i + 1)) j) n ∧ Out b (b + 1) w wz) (fun y _ => (intOf y).toNat)
      case atStart => exact ⟨i, Nat.le_refl _, rfl, rfl, hD, hO⟩
      case round =>
        clear hD hO
        obtain ⟨j, hj, rfl, hp, hM, hO⟩ := hrel
        by_cases hj0 : j = 0
        · subst hj0
          have hD : Hid (midL (sortG l i) (l.getD i (0, 0)) (l.drop (i + 1)) 0 = sortG l (i + 1) ++ l.drop (i + 1)) := midL_done hp.out.symm
          have D0 : Out b (b + 1) wr wr.drew := Out.ofBelow ((Below.refl _ _).drew)
          have hM2 := hM.below (Below.refl _ _).drew hM.1
          rw [hD.out] at hM2
          have hO2 := hO.trans D0
          go_wp2
          go_region
          all_goals
            go_wp2
            go_roundw
            case rel => exact ⟨i + 1, by omega, by omega, by go_num, hM2, hO2⟩
            case measure => simp [intOf]; omega
        · obtain ⟨j, rfl⟩ : ∃ k, j = k + 1 := ⟨j - 1, by omega⟩
          have hjS : j < (sortG l i).length := by rw [hSl.out]; omega
          have hxa := hM.2.2 (j + 1) (by omega)
          have hya := hM.2.2 j (by omega)
          rw [midL_at (by omega)] at hxa
          rw [midL_ahead (by omega) (by omega)] at hya
          have hback := midL_back (x := l.getD i (0, 0)) (R := l.drop (i + 1)) hjS
          have hML : (midL (sortG l i) (l.getD i (0, 0)) (l.drop (i + 1)) (j + 1)).length = n := by rw [midL_length, hSl.out, List.length_drop, HN.out]; omega
          have hless := cmpP_less (l.getD i (0, 0)) ((sortG l i).getD j (0, 0))
          have hstep : Hid (lessP (l.getD i (0, 0)) ((sortG l i).getD j (0, 0)) = true → posG (sortG l i) (l.getD i (0, 0)) j = posG (sortG l i) (l.getD i (0, 0)) i) := fun h => by rw [← hp.out, posG_on h]
          have hstop : Hid (¬ lessP (l.getD i (0, 0)) ((sortG l i).getD j (0, 0)) = true → posG (sortG l i) (l.getD i (0, 0)) i = j + 1) := fun h => by rw [← hp.out, posG_end (by simpa using h)]
          have hdone : Hid (posG (sortG l i) (l.getD i (0, 0)) i = j + 1 → midL (sortG l i) (l.getD i (0, 0)) (l.drop (i + 1)) (j + 1) = sortG l (i + 1) ++ l.drop (i + 1)) := fun h => midL_done h
          have hD0 : Below wr.heap.size wr wr.drew := (Below.refl _ _).drew
          have k1 : (0 : Int) ≤ (j : Int) + 1 := by omega
          have k2 : (j : Int) + 1 < (n : Int) := by omega
          have k3 : (0 : Int) ≤ (j : Int) := by omega
          have k4 : (j : Int) < (n : Int) := by omega
          have k5 : (0 : Int) < (j : Int) + 1 := by omega
          have kw : IntKind.i64.wrap ((j : Int) + 1 - 1) = (j : Int) := by rw [IntKind.wrap_i64]; omega
          have kw2 : IntKind.i64.wrap (j : Int) = (j : Int) := by rw [IntKind.wrap_i64]; omega
          have kn : n ≤ 1048576 := hn
          have hbz := hM.1
          generalize hx0 : l.getD i (0, 0) = x at *
          generalize hy0 : (sortG l i).getD j (0, 0) = y at *
          have HX0 : Hid (l.getD i (0, 0) = x) := hx0
          clear hx0 hy0
          go_wp2
          go_region_held3 (fun W => W.cell? ⟨b, (j + 1) * 2, none⟩ = some (.int .i64 x.1) ∧ W.cell? ⟨b, (j + 1) * 2 + 1, none⟩ = some (.int .i64 x.2) ∧ W.cell? ⟨b, j * 2, none⟩ = some (.int .i64 y.1) ∧ W.cell? ⟨b, j * 2 + 1, none⟩ = some (.int .i64 y.2)) (go_keep)
            (first | (go_at_call 148; refine (byTerms_any x y _).mono ?_; rintro e w3 ⟨rfl, hb3⟩; have z0 := (hb3.cell (p := ⟨b, (j + 1) * 2, none⟩) hbz).trans hxa.1; have z1 := (hb3.cell (p := ⟨b, (j + 1) * 2 + 1, none⟩) hbz).trans hxa.2; have z2 := (hb3.cell (p := ⟨b, j * 2, none⟩) hbz).trans hya.1; have z3 := (hb3.cell (p := ⟨b, j * 2 + 1, none⟩) hbz).trans hya.2))
          all_goals
            have hb4 : Below wr.heap.size wr w3 := hD0.trans hb3
            have hM3 := hM.below hb4 hbz
            have hO3 := hO.trans (Out.ofBelow hb4)
            clear hb4 hb3 hD0 hM hO hless hxa hya
            cases hl : lessP x y
            · clear z0 z1 z2 z3
              have hfin := hdone.out (hstop.out (by rw [hl]; decide))
              rw [hfin] at hM3
              clear hdone hstop hstep hback hML hl hjS
              go_wp2
              go_roundw
              case rel => exact ⟨i + 1, by omega, by omega, by go_num, hM3, hO3⟩
              case measure => simp [intOf]; omega
            · have hst := hstep.out hl
              have hput := (hM3.put (j := j + 1) hML y).put (j := j) (by rw [List.length_set]; exact hML) x
              rw [hback] at hput
              have hput2 := hput.drew
              have hO4 : Out b (b + 1) w ((((w3.setCell ⟨b, (j + 1) * 2, none⟩ (.int .i64 y.1)).setCell ⟨b, (j + 1) * 2 + 1, none⟩ (.int .i64 y.2)).setCell ⟨b, j * 2, none⟩ (.int .i64 x.1)).setCell ⟨b, j * 2 + 1, none⟩ (.int .i64 x.2)).drew :=
                ((((hO3.trans (Out.set b _ _ _)).trans (Out.set b _ _ _)).trans (Out.set b _ _ _)).trans (Out.set b _ _ _)).trans (Out.ofBelow (Below.refl _ _).drew)
              have f0 := (hM3.2.1 ((j + 1) * 2) (by omega)).2
              have f1 := (hM3.2.1 ((j + 1) * 2 + 1) (by omega)).2
              have f2 := (hM3.2.1 (j * 2) (by omega)).2
              have f3 := (hM3.2.1 (j * 2 + 1) (by omega)).2
              clear hdone hstop hstep hback hML hl hjS hM3 hO3 hput
              go_wp2
              go_region
              all_goals
                go_wp2
                go_roundw
                case rel => exact ⟨j, by omega, by go_num, hst, hput2, hO4⟩
                case measure => simp [intOf]
    · obtain rfl : i = n := by omega
      have hfin : Hid (sortG l i ++ l.drop i = sortP l) := by show _ = _; rw [List.drop_of_length_le (by rw [HN.out]; exact Nat.le_refl _), List.append_nil, sortP, HN.out]
      rw [hfin.out] at hD
      go_wp2
      go_end0
      exact ⟨rfl, by rw [HN.out]; exact hD, hO⟩

set_option maxRecDepth 20000 in
set_option maxHeartbeats 4000000 in
theorem sortStable_any (b c : Nat) (l : List (Int × Int)) (w : World) (h0 : 0 < l.length) (hn : l.length ≤ 12) (ho : Own w b l.length l l.length) :
    Calls Try.prog 147 #[.slice (some ⟨b, 0, none⟩) l.length c, (.func (.func 148) #[] #[])] w fun e w' => e = .returned (.tuple #[]) ∧ Own w' b l.length (sortP l) l.length ∧ Out b (b + 1) w w' := by
  have hin := insertion_any b c l w h0 (by omega) ho
  have hst : Calls Try.prog 212 #[.slice (some ⟨b, 0, none⟩) l.length c, .int .i64 l.length, (.func (.func 148) #[] #[])] w fun e w' => e = .returned (.tuple #[]) ∧ Own w' b l.length (sortP l) l.length ∧ Out b (b + 1) w w' := by
    clear ho
    generalize l.length = n at *
    go_enter Try.func212, Try.ntmps212
    go_wp2
    go_loop [7, 8] (fun x y => x = .int .i64 0 ∧ y = .int .i64 20) (fun _ _ => 0)
    case atStart => exact ⟨rfl, rfl⟩
    case round =>
      obtain ⟨rfl, rfl⟩ := hrel
      go_wp2_with fail
      refine hin.mono ?_
      rintro e w1 ⟨rfl, h1, h2⟩
      go_wp2
      go_loop [6] (fun x => x = .int .i64 20) (fun _ => 0)
      case atStart => rfl
      case round =>
        subst hrel
        go_wp2
        go_end0
        exact ⟨rfl, h1, h2⟩
  clear hin ho
  generalize l.length = n at *
  go_enter Try.func147, Try.ntmps147
  go_wp2_with fail
  refine hst.mono ?_
  rintro e w1 ⟨rfl, h1, h2⟩
  go_wp2
  go_end0
  exact ⟨rfl, h1, h2⟩

theorem sortStable_nil (a : Option Addr) (c : Nat) (w : World) :
    Calls Try.prog 147 #[.slice a 0 c, (.func (.func 148) #[] #[])] w fun e w' => e = .returned (.tuple #[]) ∧ w' = w := by
  have hst : Calls Try.prog 212 #[.slice a 0 c, .int .i64 0, (.func (.func 148) #[] #[])] w fun e w' => e = .returned (.tuple #[]) ∧ w' = w := by
    go_enter Try.func212, Try.ntmps212
    go_wp2
    go_loop [7, 8] (fun x y => x = .int .i64 0 ∧ y = .int .i64 20) (fun _ _ => 0)
    case atStart => exact ⟨rfl, rfl⟩
    case round =>
      obtain ⟨rfl, rfl⟩ := hrel
      go_wp2_with fail
      refine (insertion_nil a c w).mono ?_
      rintro e w1 ⟨rfl, rfl⟩
      go_wp2
      go_loop [6] (fun x => x = .int .i64 20) (fun _ => 0)
      case atStart => rfl
      case round =>
        subst hrel
        go_wp2
        go_end0
        exact ⟨rfl, rfl⟩
  go_enter Try.func147, Try.ntmps147
  go_wp2_with fail
  refine hst.mono ?_
  rintro e w1 ⟨rfl, rfl⟩
  go_wp2
  go_end0
  exact ⟨rfl, rfl⟩

end Go.Proofs.Ytfplloabkceaoaa
