/-
  The contracts of CountOf and AllHold, in package spec and in package impl.
-/
import Derived.Test.YtccldjodijdciaaDoorLc
import Derived.Test.YtccldjodijdciaaDoorLs
import Derived.Test.YtccldjodijdciaaDoorVt
import Derived.Test.YtccldjodijdciaaDoorVtW
import Derived.Laws.BytesString
import Derived.Deep.RegionWith
namespace Go.Proofs.YtccldjodijdciaaDoor
open Go.RowKit


def eqS (x y : List Int) : Bool := (strOfNums x).toList == (strOfNums y).toList
theorem conv_any {a : Option Addr} {c : Nat} {l : List Int} {w : World} (h : YRow w a l) : (convert 22 9 (.slice a l.length c)).run Tryd.prog w = .ok (.string (strOfNums l)) w := by
  rcases h with rfl | ⟨b, off, rfl, _, hc⟩
  · rw [List.length_nil, run_convert_bytes_string w 22 9 5 a 0 c Tryd.underlying22 Tryd.underlying5 Tryd.underlying9]
    cases a <;> rfl
  · exact run_convert_bytes_arg w 22 5 Tryd.underlying22 Tryd.underlying5 b off l.length c l rfl hc 9 Tryd.underlying9

theorem equal_any (a a' : Option Addr) (c c' : Nat) (l l' : List Int) (w : World) (h : YRow w a l) (h' : YRow w a' l') :
    Calls Tryd.prog 18 #[.slice a l.length c, .slice a' l'.length c'] w fun e w' => e = .returned (.bool (eqS l l')) ∧ w' = w := by
  have h1 := conv_any (c := c) h
  have h2 := conv_any (c := c') h'
  have HE : Hid (eqS l l' = ((strOfNums l).toList == (strOfNums l').toList)) := rfl
  clear h h'
  generalize strOfNums l = s1 at *
  generalize strOfNums l' = s2 at *
  go_enter Tryd.func18, Tryd.ntmps18
  go_wp2
  go_ret
  exact ⟨by rw [HE.out]; rfl, rfl⟩

/-- How many of some lines are that word. -/
def cntS (word : List Int) (ls : List (List Int)) : Nat := (ls.filter fun x => eqS x word).length
theorem cnt_step {word : List Int} {ls : List (List Int)} {k : Nat} (hk : k < ls.length) : cntS word (ls.take (k + 1)) = cntS word (ls.take k) + if eqS (ls.getD k []) word = true then 1 else 0 := by
  unfold cntS
  rw [List.take_add_one, List.getElem?_eq_getElem hk, List.filter_append, List.length_append]
  congr 1
  rw [List.getD_eq_getElem?_getD, List.getElem?_eq_getElem hk]
  by_cases e : eqS ls[k] word = true
  · simp [e]
  · simp [e]
theorem cnt_le (word : List Int) (ls : List (List Int)) : cntS word ls ≤ ls.length := List.length_filter_le _ _
def cntV (l : List Int) (v : Int) : Int := if l.length > 20000 ∨ v < 0 ∨ 4 < v then -1 else cntS (vw v) (linesV l)
theorem vw_some {v : Int} (h0 : 0 ≤ v) (h1 : v ≤ 4) : 0 < (vw v).length := by
  obtain rfl | rfl | rfl | rfl | rfl : v = 0 ∨ v = 1 ∨ v = 2 ∨ v = 3 ∨ v = 4 := by omega
  all_goals decide
theorem ByteIn.yrow {w : World} {lo hi n : Nat} {a : Option Addr} {l : List Int} (h : ByteIn w lo hi a n l) : YRow w a l := by
  obtain ⟨h1, h0 | ⟨b, rfl, _, _, h3⟩⟩ := h
  · exact .inl (List.eq_nil_of_length_eq_zero (by omega))
  · exact .inr ⟨b, 0, rfl, h3.1, fun i hi => by rw [Nat.zero_add]; exact h3.2.2 i (by omega)⟩
theorem LRow.cellAt {w : World} {base : Nat} {v : Value} {ls : List (List Int)} (h : LRow w base v ls) {k : Nat} (hk : k < ls.length) : ∃ g c ai ci, v = .slice (some ⟨g, 0, none⟩) ls.length c ∧ g < w.heap.size ∧ w.cell? ⟨g, k, none⟩ = some (.slice ai (ls.getD k []).length ci) ∧ YRow w ai (ls.getD k []) := by
  have hlt := h.own_lt
  obtain ⟨vals, ho, hl⟩ := h
  obtain ⟨ai, ci, h1, h2⟩ := hl k hk
  rcases ho.2 with ⟨_, h0⟩ | ⟨g, cap, cur, rfl, _⟩
  · omega
  · refine ⟨g, cap, ai, ci, rfl, (hlt g rfl).2, ?_, h2.row⟩
    rw [ho.cellAt k (by omega)]
    exact h1

set_option maxRecDepth 20000 in
set_option maxHeartbeats 2000000 in
theorem sCountOf_any (b : Nat) (l : List Int) (v : Int) (w : World) (hn : l.length ≤ 1048576) (hr : OwnY w b l.length l l.length) :
    Calls Tryd.prog 11 #[.slice (some ⟨b, 0, none⟩) l.length l.length, .int .i64 v] w fun e w' => e = .returned (.int .i64 (cntV l v)) ∧ Below w.heap.size w w' := by
  by_cases c0 : 20000 < l.length
  · have HV : Hid (cntV l v = -1) := by show cntV l v = -1; unfold cntV; rw [if_pos (.inl c0)]
    go_enter Tryd.func11, Tryd.ntmps11
    go_wp2
    go_ret
    exact ⟨ret_int HV.out.symm, Below.refl _ _⟩
  by_cases c1 : v < 0
  · have HV : Hid (cntV l v = -1) := by show cntV l v = -1; unfold cntV; rw [if_pos (.inr (.inl c1))]
    go_enter Tryd.func11, Tryd.ntmps11
    go_wp2
    go_ret
    exact ⟨ret_int HV.out.symm, Below.refl _ _⟩
  by_cases c2 : 4 < v
  · have HV : Hid (cntV l v = -1) := by show cntV l v = -1; unfold cntV; rw [if_pos (.inr (.inr c2))]
    go_enter Tryd.func11, Tryd.ntmps11
    go_wp2
    go_ret
    exact ⟨ret_int HV.out.symm, Below.refl _ _⟩
  have HV : Hid (cntV l v = (cntS (vw v) (linesV l) : Int)) := by show cntV l v = _; unfold cntV; rw [if_neg (by omega)]
  have HLL : Hid ((linesV l).length ≤ 20000) := by have := linesV_le l; show _ ≤ _; omega
  have hcon := l9lines_any b l w hn hr
  clear hr
  go_enter Tryd.func11, Tryd.ntmps11
  go_wp2_with fail
  refine hcon.mono ?_
  rintro e w1 ⟨vv, rfl, ho, L1⟩
  clear hcon
  obtain ⟨ls, hls⟩ : ∃ ls, linesV l = ls := ⟨_, rfl⟩
  have HLS : Hid (linesV l = ls) := hls
  rw [hls] at ho
  rw [HLS.out] at HV HLL
  have hlen := HLL.out
  clear hls
  obtain ⟨va, vc, hvf⟩ := ho.form
  subst hvf
  generalize hm : ls.length = m at *
  have HM : Hid (ls.length = m) := hm
  go_wp2
  go_loopw [5, 7] (fun q i wr => ∃ k : Nat, k ≤ m ∧ i = .int .i64 k ∧ q = .int .i64 (cntS (vw v) (ls.take k)) ∧ Below w.heap.size w wr ∧ Below w1.heap.size w1 wr) (fun _ i _ => m - (intOf i).toNat)
  case atStart => exact ⟨0, Nat.zero_le _, rfl, by simp [cntS], L1, Below.refl _ _⟩
  case round =>
    obtain ⟨k, hk, rfl, rfl, hbw, hb1⟩ := hrel
    by_cases hlt : k < m
    · have hst := cnt_step (word := vw v) (ls := ls) (k := k) (by omega)
      have hcl := cnt_le (vw v) (ls.take k)
      rw [List.length_take] at hcl
      obtain ⟨g, c, ai, ci, hv1, hv2, hv3, hv4⟩ := ho.cellAt (k := k) (by omega)
      have hva : va = some ⟨g, 0, none⟩ := by injection hv1
      subst hva
      clear hv1
      have hx := hb1.cell (p := ⟨g, k, none⟩) hv2
      rw [hv3] at hx
      have hy := hv4.below hb1
      generalize ls.getD k [] = line at *
      generalize cntS (vw v) (ls.take k) = cc at *
      have hcc2 : cc ≤ 20000 := by omega
      have HST := (show Hid _ from hst)
      clear hst hcl
      have D0 : Below wr.heap.size wr wr.drew := (Below.refl _ _).drew
      have hk2 : k < ls.length := by omega
      have z1 := conv_any (c := ci) hy
      have z2 := conv_any (c := ci) (hy.below D0)
      have hx2 := (D0.cell (p := ⟨g, k, none⟩) (Nat.lt_of_lt_of_le hv2 hb1.size)).trans hx
      have hkm : (k : Int) < (m : Int) := by omega
      clear hm hk2 hv3 ho
      go_wp2_with fail
      go_region_with (first
        | (go_at_call 6; refine (sVerdict_any v _).mono ?_; rintro e w3 ⟨aw, cw, rfl, hw3, hb3⟩; have z3 := conv_any (c := cw) hw3.yrow; have z4 := conv_any (c := ci) ((hy.below D0).below hb3); have hx3 := (hb3.cell (p := ⟨g, k, none⟩) (by simp; exact Nat.lt_of_lt_of_le hv2 hb1.size)).trans hx2))
      all_goals
        have hb4 : Below wr.heap.size wr w3 := D0.trans (hb3.mono (by simp))
        have hbw2 := hbw.trans (hb4.mono hbw.size)
        have hb12 := hb1.trans (hb4.mono hb1.size)
        clear hb4 hb3 hb1 hbw D0 z1 z2 z3 z4 hx hx2 hx3 hy hw3
        go_wp2
        all_goals
          rename_i h
          first
            | (have hh : eqS line (vw v) = true := h
               have hq : Hid (cntS (vw v) (ls.take (k + 1)) = cc + 1) := by show _ = _; rw [HST.out, if_pos hh]
               clear hh h HST
               go_roundw
               case rel => exact ⟨k + 1, by omega, by go_num, by rw [hq.out]; go_num, hbw2, hb12⟩
               case measure => simp [intOf]; omega)
            | (have hh : eqS line (vw v) = false := h
               have hq : Hid (cntS (vw v) (ls.take (k + 1)) = cc) := by show _ = _; rw [HST.out, if_neg (by rw [hh]; decide)]; rfl
               clear hh h HST
               go_roundw
               case rel => exact ⟨k + 1, by omega, by go_num, by rw [hq.out], hbw2, hb12⟩
               case measure => simp [intOf]; omega)
    · obtain rfl : k = m := by omega
      have hfin : Hid (cntS (vw v) ls = cntS (vw v) (ls.take k)) := by show _ = _; rw [List.take_of_length_le (by omega)]
      go_wp2
      go_ret
      exact ⟨ret_int (by rw [HV.out, hfin.out]), hbw⟩

set_option maxRecDepth 20000 in
set_option maxHeartbeats 2000000 in
theorem iCountOf_any (b : Nat) (l : List Int) (v : Int) (w : World) (hn : l.length ≤ 1048576) (hr : OwnY w b l.length l l.length) (hby : ∀ x ∈ l, 0 ≤ x ∧ x < 256) (hL : verdict.Lw w) :
    Calls Tryd.prog 13 #[.slice (some ⟨b, 0, none⟩) l.length l.length, .int .i64 v] w fun e w' => e = .returned (.int .i64 (cntV l v)) ∧ Below w.heap.size w w' := by
  have hver := iVerdict_any v w hL.c0 hL.c1 hL.c2 hL.c3 hL.c4
  have HLE : Hid ((vw v).length ≤ 9) := vw_le v
  by_cases c0 : 20000 < l.length
  · have HV : Hid (cntV l v = -1) := by show cntV l v = -1; unfold cntV; rw [if_pos (.inl c0)]
    go_enter Tryd.func13, Tryd.ntmps13
    go_wp2_with fail
    refine hver.mono ?_
    rintro e w1 ⟨aw, cw, rfl, hw1, L1⟩
    go_wp2
    go_ret
    exact ⟨ret_int HV.out.symm, L1⟩
  by_cases c1 : v < 0 ∨ 4 < v
  · have HV : Hid (cntV l v = -1) := by show cntV l v = -1; unfold cntV; rw [if_pos (.inr c1)]
    have hnil := vw_none c1
    unfold VTo at hver
    rw [hnil] at hver
    go_enter Tryd.func13, Tryd.ntmps13
    go_wp2_with fail
    refine hver.mono ?_
    rintro e w1 ⟨aw, cw, rfl, hw1, L1⟩
    go_wp2
    go_ret
    exact ⟨ret_int HV.out.symm, L1⟩
  have HV : Hid (cntV l v = (cntS (vw v) (linesV l) : Int)) := by show cntV l v = _; unfold cntV; rw [if_neg (by omega)]
  have HLL : Hid ((linesV l).length ≤ 20000) := by have := linesV_le l; show _ ≤ _; omega
  have hpos := vw_some (v := v) (by omega) (by omega)
  go_enter Tryd.func13, Tryd.ntmps13
  go_wp2_with fail
  refine hver.mono ?_
  rintro e w1 ⟨aw, cw, rfl, hw1, L1⟩
  clear hver
  have hyw := hw1.yrow
  have hcon := linesOf_any b l w1 hn (hr.below L1 hr.1) hby
  clear hr hby hw1
  obtain ⟨wd, hwd⟩ : ∃ wd, vw v = wd := ⟨_, rfl⟩
  rw [hwd] at HV hpos hyw
  rw [hwd]
  have hwl : wd.length ≤ 9 := by rw [← hwd]; exact HLE.out
  clear hwd HLE
  obtain ⟨wl, hwl0⟩ : ∃ wl, wd.length = wl := ⟨_, rfl⟩
  have HWL : Hid (wd.length = wl) := hwl0
  rw [hwl0] at hwl hpos ⊢
  clear hwl0
  have hp2 : ((wl : Int) == 0) = false := beq_eq_false_iff_ne.2 (by omega)
  have hp3 : ¬ (wl : Int) = 0 := by omega
  have hp4 : ¬ wl = 0 := by omega
  have hli : ¬ (20000 < (l.length : Int)) := by omega
  go_wp2_with fail
  refine hcon.mono ?_
  rintro e w2 ⟨vv, rfl, ho, L2⟩
  clear hcon
  have L3 := L1.trans (L2.mono L1.size)
  obtain ⟨ls, hls⟩ : ∃ ls, linesV l = ls := ⟨_, rfl⟩
  have HLS : Hid (linesV l = ls) := hls
  rw [hls] at ho
  rw [HLS.out] at HV HLL
  have hlen := HLL.out
  clear hls
  obtain ⟨va, vc, hvf⟩ := ho.form
  subst hvf
  generalize hm : ls.length = m at *
  have HM : Hid (ls.length = m) := hm
  have hyw2 := hyw.below L2
  clear hyw L1 L2
  go_wp2
  go_loopw [6, 22] (fun q i wr => ∃ k : Nat, k ≤ m ∧ i = .int .i64 k ∧ q = .int .i64 (cntS wd (ls.take k)) ∧ Below w.heap.size w wr ∧ Below w2.heap.size w2 wr) (fun _ i _ => m - (intOf i).toNat)
  case atStart => exact ⟨0, Nat.zero_le _, rfl, by simp [cntS], L3, Below.refl _ _⟩
  case round =>
    obtain ⟨k, hk, rfl, rfl, hbw, hb1⟩ := hrel
    by_cases hlt : k < m
    · have hst := cnt_step (word := wd) (ls := ls) (k := k) (by omega)
      have hcl := cnt_le wd (ls.take k)
      rw [List.length_take] at hcl
      obtain ⟨g, c, ai, ci, hv1, hv2, hv3, hv4⟩ := ho.cellAt (k := k) (by omega)
      have hva : va = some ⟨g, 0, none⟩ := by injection hv1
      subst hva
      clear hv1
      have hx := hb1.cell (p := ⟨g, k, none⟩) hv2
      rw [hv3] at hx
      have hy := hv4.below hb1
      have hyw3 := hyw2.below hb1
      generalize ls.getD k [] = line at *
      generalize cntS wd (ls.take k) = cc at *
      have hcc2 : cc ≤ 20000 := by omega
      have HST := (show Hid _ from hst)
      have hkm : (k : Int) < (m : Int) := by omega
      have heq := equal_any ai aw ci cw line wd wr hy hyw3
      rw [HWL.out] at heq
      clear hst hcl hm hv3 ho hy hyw3 hyw2
      go_wp2_with fail
      refine heq.mono ?_
      rintro e w3 ⟨rfl, rfl⟩
      clear heq
      cases hq0 : eqS line wd
      · have hq : Hid (cntS wd (ls.take (k + 1)) = cc) := by show _ = _; rw [HST.out, if_neg (by rw [hq0]; decide)]; rfl
        clear HST hq0
        go_wp2
        go_roundw
        case rel => exact ⟨k + 1, by omega, by go_num, by rw [hq.out], hbw, hb1⟩
        case measure => simp [intOf]; omega
      · have hq : Hid (cntS wd (ls.take (k + 1)) = cc + 1) := by show _ = _; rw [HST.out, if_pos hq0]
        clear HST hq0
        go_wp2
        go_roundw
        case rel => exact ⟨k + 1, by omega, by go_num, by rw [hq.out]; go_num, hbw, hb1⟩
        case measure => simp [intOf]; omega
    · obtain rfl : k = m := by omega
      have hfin : Hid (cntS wd ls = cntS wd (ls.take k)) := by show _ = _; rw [List.take_of_length_le (by omega)]
      go_wp2
      go_ret
      exact ⟨ret_int (by rw [HV.out, hfin.out]), hbw⟩

end Go.Proofs.YtccldjodijdciaaDoor
