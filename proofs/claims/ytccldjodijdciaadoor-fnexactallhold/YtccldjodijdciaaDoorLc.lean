/-
  The contracts of bytes.Cut at a byte 10, and of impl.linesOf.
-/
import Derived.Test.YtccldjodijdciaaDoorLo
import Derived.OwnWalk
namespace Go.Proofs.YtccldjodijdciaaDoor
open Go.RowKit


set_option maxHeartbeats 2000000 in
set_option maxRecDepth 1000000 in
theorem cut_hit (b off n c Z k : Nat) (l : List Int) (w : World) (hl : l.length = n) (hn : n ≤ 1048576) (hnc : n ≤ c) (hk : k < n) (hi : Lib.indexByte (Lib.bytesOf l) (10 : Int).toNat.toUInt8 = k) (hc : ∀ i, i < n → w.cell? ⟨b, off + i, none⟩ = some (.int .u8 (l.getD i 0))) (hz : w.cell? ⟨Z, 0, none⟩ = some (.int .u8 10)) :
    Calls Tryd.prog 19 #[.slice (some ⟨b, off, none⟩) n c, .slice (some ⟨Z, 0, none⟩) 1 1] w fun e w' => ∃ q c', e = .returned (.tuple #[.slice (some ⟨b, off, none⟩) k c, .slice (some ⟨b, q, none⟩) (n - (k + 1)) c', .bool true]) ∧ (q = off + (k + 1) ∨ n - (k + 1) = 0) ∧ c' = c - (k + 1) ∧ Below w.heap.size w w' := by
  have hcon := index_any b off n c Z l w hl hc hz
  rw [hi] at hcon
  clear hi hc hz
  have hD : Below w.heap.size w w.drew := (Below.refl _ _).drew
  have h0 : ¬ ((k : Int) < 0) := by omega
  go_enter Tryd.func19, Tryd.ntmps19
  go_wp2_with fail
  refine hcon.mono ?_
  rintro e w' ⟨rfl, rfl⟩
  go_wp2
  go_region
  all_goals go_wp2
  all_goals
    go_ret3
    first
      | exact ⟨off + (k + 1), _, rfl, .inl rfl, rfl, hD⟩
      | exact ⟨off, _, rfl, .inr (by omega), by omega, hD⟩

set_option maxHeartbeats 2000000 in
set_option maxRecDepth 1000000 in
theorem cut_miss (b off n c Z : Nat) (l : List Int) (w : World) (hl : l.length = n) (hi : Lib.indexByte (Lib.bytesOf l) (10 : Int).toNat.toUInt8 = -1) (hc : ∀ i, i < n → w.cell? ⟨b, off + i, none⟩ = some (.int .u8 (l.getD i 0))) (hz : w.cell? ⟨Z, 0, none⟩ = some (.int .u8 10)) :
    Calls Tryd.prog 19 #[.slice (some ⟨b, off, none⟩) n c, .slice (some ⟨Z, 0, none⟩) 1 1] w fun e w' => e = .returned (.tuple #[.slice (some ⟨b, off, none⟩) n c, .slice none 0 0, .bool false]) ∧ Below w.heap.size w w' := by
  have hcon := index_any b off n c Z l w hl hc hz
  rw [hi] at hcon
  clear hi hc hz
  go_enter Tryd.func19, Tryd.ntmps19
  go_wp2_with fail
  refine hcon.mono ?_
  rintro e w' ⟨rfl, rfl⟩
  go_wp2
  go_ret3
  exact ⟨rfl, Below.refl _ _⟩

def slen : Value → Nat
  | .slice _ n _ => n
  | _ => 0

set_option maxRecDepth 20000 in
set_option maxHeartbeats 2000000 in
theorem linesOf_any (b : Nat) (l : List Int) (w : World) (hn : l.length ≤ 1048576) (hr : OwnY w b l.length l l.length) (hby : ∀ x ∈ l, 0 ≤ x ∧ x < 256) :
    Calls Tryd.prog 17 #[.slice (some ⟨b, 0, none⟩) l.length l.length] w fun e w' => ∃ v, e = .returned v ∧ LRow w' w.heap.size v (linesV l) ∧ Below w.heap.size w w' := by
  have hb := hr.1
  have hc := hr.2.2
  have HL : Hid (linesV l = cutG [] (l.drop 0)) := rfl
  have HLE : Hid (∀ o : List (List Int), ∀ x : List (List Int), o ++ x = linesV l → o.length ≤ l.length) := by
    intro o x h
    have h1 := linesV_le l
    rw [← h, List.length_append] at h1
    omega
  clear hr
  generalize hN : l.length = n at *
  have HN : Hid (l.length = n) := hN
  clear hN
  go_enter Tryd.func17, Tryd.ntmps17
  go_wp2
  go_loopw [0, 3] (fun x v wr => ∃ (f m : Nat) (o : List (List Int)), f + m = n ∧ ((∃ q, x = .slice (some ⟨b, q, none⟩) m m ∧ (q = f ∨ m = 0)) ∨ (m = 0 ∧ x = .slice none 0 0)) ∧ LRow wr w.heap.size v o ∧ Hid (o ++ cutG [] (l.drop f) = linesV l) ∧ Below w.heap.size w wr) (fun x _ _ => slen x)
  case atStart => exact ⟨0, n, [], by omega, .inl ⟨0, rfl, .inl rfl⟩, LRow.nil _ _, by show _ = _; rw [HL.out]; rfl, Below.refl _ _⟩
  case round =>
    obtain ⟨f, m, o, hfm, hx, ho, hg, hbw⟩ := hrel
    by_cases hm : m = 0
    · have hlin : Hid (linesV l = o) := by
        show _ = _
        have e : l.drop f = [] := List.drop_eq_nil_of_le (by rw [HN.out]; omega)
        rw [← hg.out, e]
        simp [cutG]
      rcases hx with ⟨q, rfl, _⟩ | ⟨_, rfl⟩
      · subst hm
        go_wp2
        go_ret
        exact ⟨_, rfl, by rw [hlin.out]; exact ho, hbw⟩
      · go_wp2
        go_ret
        exact ⟨_, rfl, by rw [hlin.out]; exact ho, hbw⟩
    obtain rfl : u0 = .slice (some ⟨b, f, none⟩) m m := by
      rcases hx with ⟨q, h, rfl | h2⟩ | ⟨h, _⟩
      · exact h
      · omega
      · omega
    clear hx
    have hdl : (l.drop f).length = m := by rw [List.length_drop, HN.out]; omega
    have hget : ∀ i, (l.drop f).getD i 0 = l.getD (f + i) 0 := by intro i; rw [List.getD_eq_getElem?_getD, List.getElem?_drop, ← List.getD_eq_getElem?_getD]
    have LZ : Below wr.heap.size wr (wr.alloc (.cells #[.int .u8 10] 5)) := (Below.refl _ _).alloc (Nat.le_refl _) _
    have hbr : b < wr.heap.size := Nat.lt_of_lt_of_le hb hbw.size
    have hcz : ∀ i, i < m → (wr.alloc (.cells #[.int .u8 10] 5)).cell? ⟨b, f + i, none⟩ = some (.int .u8 ((l.drop f).getD i 0)) := by
      intro i hi
      rw [LZ.cell (p := ⟨b, f + i, none⟩) hbr, hbw.cell (p := ⟨b, f + i, none⟩) hb, hc (f + i) (by omega), hget]
    have hzz : (wr.alloc (.cells #[.int .u8 10] 5)).cell? ⟨wr.heap.size, 0, none⟩ = some (.int .u8 10) := by simp
    have hown := ho.own_lt
    have hoff : u3.ownBlock ≠ some b := by intro e; have := (hown b e).1; omega
    have hol1 := HLE.out _ _ hg.out
    rcases idx10 (l.drop f) (fun x hx => hby x (List.mem_of_mem_drop hx)) with ⟨i1, i2⟩ | ⟨k, hk, i1, i2, i3⟩
    · have hcut := cut_miss b f m m wr.heap.size (l.drop f) _ hdl i1 hcz hzz
      have hg2 : Hid ((o ++ [l.drop f]) ++ cutG [] (l.drop n) = linesV l) := by
        show _ = _
        have e : l.drop n = [] := List.drop_eq_nil_of_le (by rw [HN.out]; omega)
        rw [← hg.out, cutG_miss _ _ i2 (by simp; rw [HN.out]; omega), e]
        simp [cutG]
      go_wp2_with fail
      refine hcut.mono ?_
      rintro e w1 ⟨rfl, L1⟩
      have LA : Below wr.heap.size wr w1 := LZ.trans (L1.mono (by simp))
      have hol : o.length < 1048576 := by
        have := HLE.out _ _ hg2.out
        simp at this
        omega
      have hyo : YOff w1 u3.ownBlock (some ⟨b, f, none⟩) (l.drop f) := .inr ⟨b, f, rfl, hoff, Nat.lt_of_lt_of_le hbr LA.size, fun i hi => by
        rw [L1.cell (p := ⟨b, f + i, none⟩) (by simp; omega)]
        exact hcz i (by omega)⟩
      obtain ⟨v2, w2, r2, ho2, L2⟩ := (ho.below LA).push (ci := m) hyo (Nat.le_trans hbw.size LA.size) hol 1
      rw [hdl] at r2
      have hbw2 := (hbw.trans (LA.mono hbw.size)).trans L2
      have R2 := (show Hid _ from r2)
      clear r2 hyo hown hol hol1 hg ho LA L1 L2 LZ hbw hcz hzz hcut HL HLE i2 hget hdl
      go_wp2_with (at_builtin; refine wpList_append_run rfl _ _ 32 32 rfl u3 (.slice (some ⟨w1.heap.size, 0, none⟩) 1 1) v2 w2 rfl rfl R2.out ?_)
      go_roundw
      case rel => exact ⟨n, 0, _, by omega, .inr ⟨rfl, rfl⟩, ho2, hg2, hbw2⟩
      case measure => simp [slen]; omega
    · rw [hdl] at hk
      have hcut := cut_hit b f m m wr.heap.size k (l.drop f) _ hdl (by omega) (Nat.le_refl _) hk i1 hcz hzz
      have hg2 : Hid ((o ++ [(l.drop f).take k]) ++ cutG [] (l.drop (f + (k + 1))) = linesV l) := by
        show _ = _
        rw [← hg.out, cutG_hit _ _ k (by omega) i3 i2, List.drop_drop]
        simp
      have hkl : ((l.drop f).take k).length = k := by rw [List.length_take]; omega
      go_wp2_with fail
      refine hcut.mono ?_
      rintro e w1 ⟨q, c', rfl, hq, rfl, L1⟩
      have LA : Below wr.heap.size wr w1 := LZ.trans (L1.mono (by simp))
      have hol : o.length < 1048576 := by
        have := HLE.out _ _ hg2.out
        simp at this
        omega
      have hyo : YOff w1 u3.ownBlock (some ⟨b, f, none⟩) ((l.drop f).take k) := .inr ⟨b, f, rfl, hoff, Nat.lt_of_lt_of_le hbr LA.size, fun i hi => by
        rw [hkl] at hi
        rw [L1.cell (p := ⟨b, f + i, none⟩) (by simp; omega), hcz i (by omega)]
        congr 2
        rw [List.getD_eq_getElem?_getD, List.getD_eq_getElem?_getD, List.getElem?_take, if_pos hi]⟩
      obtain ⟨v2, w2, r2, ho2, L2⟩ := (ho.below LA).push (ci := m) hyo (Nat.le_trans hbw.size LA.size) hol 1
      rw [hkl] at r2
      have hbw2 := (hbw.trans (LA.mono hbw.size)).trans L2
      have R2 := (show Hid _ from r2)
      clear r2 hyo hown hol hol1 hg ho LA L1 L2 LZ hbw hcz hzz hcut HL HLE i2 i3 hget hdl hkl
      go_wp2_with (at_builtin; refine wpList_append_run rfl _ _ 32 32 rfl u3 (.slice (some ⟨w1.heap.size, 0, none⟩) 1 1) v2 w2 rfl rfl R2.out ?_)
      go_roundw
      case rel => exact ⟨f + (k + 1), m - (k + 1), _, by omega, .inl ⟨q, rfl, hq⟩, ho2, hg2, hbw2⟩
      case measure => simp [slen]; omega

end Go.Proofs.YtccldjodijdciaaDoor
