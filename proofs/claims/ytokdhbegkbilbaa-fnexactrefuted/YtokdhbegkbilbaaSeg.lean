/-
  The contracts of impl's add and trail, and of spec.l2seg.
-/
import Derived.Test.YtokdhbegkbilbaaTrl
import Derived.Laws.AppendOwnNone
namespace Go.Proofs.Ytokdhbegkbilbaa
open Go.RowKit Go.Maps

set_option maxHeartbeats 400000 in
theorem add_any (b N : Nat) (p : Int → Bool) (x : Int) (w : World) (wx : (Lit.int .i64 x).wf = true) (hN : N ≤ 1048576) (hm : HS w b N p) :
    Calls Try.prog 111 #[.map (some b), .int .i64 x] w fun e w' => e = .returned (.bool (!p x)) ∧ HS w' b (N + 1) (fun z => p z || decide (z = x)) ∧ Out b (b + 1) w w' := by
  have hc := has_any b N p x w wx hm
  cases hp : p x
  · rw [hp] at hc
    go_enter Try.func111, Try.ntmps111
    go_wp2_with fail
    refine hc.mono ?_
    rintro e w1 ⟨rfl, hb⟩
    obtain ⟨Dm, hown, hf⟩ := hm.keep hb
    have HF : Hid (∀ x, Maps.has Dm (ik x) = p x) := hf
    clear hf hc hm
    go_wp2_with (first
      | (at_mapUpdate; refine wpList_mapUpdate_own _ rfl _ _ _ 91 rfl 3 117 law3 Try.underlying91 _ b N _ rfl hown (by unfold maxLen; omega) _ _ _ rfl rfl (keyOf_int_mk Try.underlying3 wx) _ [] unitElem_mk ?_; intro w2 hown1 hgrow1)
      | go_in)
    go_ret
    exact ⟨rfl, ⟨_, hown1, hs_put _ hown.isMap HF.out⟩, (Out.ofBelow hb).trans (grown_out hgrow1)⟩
  · rw [hp] at hc
    have HP : Hid (p x = true) := hp
    clear hp
    go_enter Try.func111, Try.ntmps111
    go_wp2_with fail
    refine hc.mono ?_
    rintro e w1 ⟨rfl, hb⟩
    go_wp2
    go_ret
    refine ⟨rfl, ?_, Out.ofBelow hb⟩
    have e : (fun z => p z || decide (z = x)) = p := by
      funext z
      by_cases e : z = x
      · subst e; rw [HP.out]; rfl
      · simp [e]
    rw [e]
    exact (hm.keep hb).mono (Nat.le_succ _)

def lenOf : Value → Nat | .slice _ n _ => n | _ => 0

theorem owns_out {w w' : World} {lo hi base n : Nat} {v : Value} {xs : List Value} (h : w.ownsRow base 3 1 v n xs) (ho : Out lo hi w w') (hr : hi ≤ base) : w'.ownsRow base 3 1 v n xs := by
  refine ⟨h.1, ?_⟩
  have hlt := h.lt
  rcases h.2 with hn | ⟨g, cap, cur, rfl, hb, hg, rest⟩
  · exact .inl hn
  · exact .inr ⟨g, cap, cur, rfl, hb, (ho.block g (hlt g rfl).2 (by omega)).trans hg, rest⟩

theorem intv {c : Int} {y : Int} (h : (DataW.lit (.int .i64 y) : DataW Unit) = .lit (.int .i64 c)) : c = y := by
  injection h with h
  injection h with _ h
  exact h.symm

set_option maxRecDepth 100000 in
set_option maxHeartbeats 1000000 in
theorem trail_any (bm : Nat) (h : List Int) (from' to : Int) (w : World) (wx : (Lit.int .i64 from').wf = true) (e0 : h.getD 0 0 = -1) (hr : Hid (∀ i, i < 7 → -1 ≤ h.getD i 0 ∧ h.getD i 0 ≤ 6)) (hm : HM w bm 7 (hp h 7)) :
    Calls Try.prog 99 #[.map (some bm), .int .i64 from', .int .i64 to] w fun e w' => ∃ a c, e = .returned (.tuple #[.slice a (trl h to 7 [] from').1.length c, .int .i64 (trl h to 7 [] from').2]) ∧
      IntIn w' w.heap.size w'.heap.size a (trl h to 7 [] from').1.length (trl h to 7 [] from').1 ∧ Below w.heap.size w w' := by
  have hmm := @run_makeMap Try.prog
  have HE0 : Hid (h.getD 0 0 = -1) := e0
  clear e0
  have s0 := HS.made w
  have hm0 := hm.alloc (.map #[] 0)
  have L0 : Below w.heap.size w (w.alloc (.map #[] 0)) := (Below.refl _ _).alloc (Nat.le_refl _) _
  have hbm := hm.lt
  have e1 : (w.alloc (.map #[] 0)).heap.size = w.heap.size + 1 := by simp
  obtain ⟨T, eT⟩ : ∃ T, Hid (trl h to 7 [] from' = T) := ⟨_, rfl⟩
  rw [eT.out]
  obtain ⟨i0, hi, hz0, hz1, hz2⟩ := Try.i3
  clear hm
  go_enter Try.func99, Try.ntmps99
  go_wp2
  go_loopw [9, 10] (fun v x wr => ∃ (l : List Int) (z : Int), x = .int .i64 z ∧ (Lit.int .i64 z).wf = true ∧ wr.ownsRow (w.heap.size + 1) 3 1 v l.length (ic l) ∧ HS wr w.heap.size l.length (fun q => decide (q ∈ l)) ∧ HM wr bm 7 (hp h 7) ∧ Below w.heap.size w wr ∧ w.heap.size + 1 ≤ wr.heap.size ∧
      Hid (l.Nodup ∧ (∀ y ∈ l, okp h y = true) ∧ trl h to (7 - l.length) l z = T)) (fun v _ _ => 7 - (lenOf v))
  case atStart =>
    exact ⟨[], from', rfl, wx, World.ownsRow_nil _ _ _ _, by simpa using s0, hm0, L0, by simp, ⟨by simp, by simp, eT.out⟩⟩
  case round =>
    clear s0 hm0 L0
    obtain ⟨l, z, rfl, wz, hown, hs, hm, hbw, hsz, HI⟩ := hrel
    have hle : l.length ≤ 6 := okp_len HE0.out HI.out.1 HI.out.2.1
    obtain ⟨f, hf⟩ : ∃ f, 7 - l.length = f + 1 := ⟨6 - l.length, by omega⟩
    rw [hf] at HI
    by_cases c1 : z = to
    · have ET : Hid (T = (l, z)) := by have := HI.out.2.2; rw [trl_stop (fun q => q.1 c1)] at this; exact this.symm
      subst c1
      obtain ⟨a, c, rfl, hin⟩ := IntIn.ofOwns hown
      go_wp2
      go_ret2
      rw [ET.out]
      exact ⟨a, c, rfl, hin.mono (by omega) (Nat.le_refl _), hbw⟩
    · have hc := there_any bm 7 _ z wr wz hm
      cases hk : okp h z
      · have ET : Hid (T = (l, z)) := by have := HI.out.2.2; rw [trl_stop (fun q => by rw [hk] at q; exact absurd q.2.1 (by simp))] at this; exact this.symm
        have hk2 : (hp h 7 z).isSome = false := hk
        rw [hk2] at hc
        clear hk hk2
        obtain ⟨a, c, rfl, hin⟩ := IntIn.ofOwns hown
        go_wp2_with (go_at_call 104; refine hc.mono ?_; rintro e w1 ⟨rfl, rfl⟩)
        go_ret2
        rw [ET.out]
        exact ⟨a, c, rfl, hin.mono (by omega) (Nat.le_refl _), hbw⟩
      · have hk2 : (hp h 7 z).isSome = true := hk
        rw [hk2] at hc
        obtain ⟨k1, k2, k3, k4⟩ := okp_at HE0.out hk
        have HK : Hid (okp h z = true) := hk
        clear hk hk2
        have hca := add_any w.heap.size l.length _ z wr wz (by omega) hs
        by_cases c2 : z ∈ l
        · have ET : Hid (T = (l, z)) := by have := HI.out.2.2; rw [trl_stop (fun q => q.2.2 c2)] at this; exact this.symm
          rw [show (!decide (z ∈ l)) = false by simp [c2]] at hca
          go_wp2_with fail
          refine hc.mono ?_
          rintro e w1 ⟨rfl, rfl⟩
          go_wp2_with fail
          refine hca.mono ?_
          rintro e w2 ⟨rfl, -, ho⟩
          have hown2 := owns_out hown ho (Nat.le_refl _)
          have hbw2 := hbw.trans (ho.below (Nat.le_refl _) (by omega))
          clear hown hbw hca hc c2
          obtain ⟨a, c, rfl, hin⟩ := IntIn.ofOwns hown2
          go_wp2
          go_ret2
          rw [ET.out]
          exact ⟨a, c, rfl, hin.mono (by omega) (Nat.le_refl _), hbw2⟩
        · have HI2 : Hid ((l ++ [z]).Nodup ∧ (∀ y ∈ l ++ [z], okp h y = true) ∧ trl h to (7 - (l ++ [z]).length) (l ++ [z]) (gn h z) = T) := by
            refine ⟨nodup_snoc HI.out.1 c2, fun y hy => ?_, ?_⟩
            · rw [List.mem_append] at hy
              rcases hy with hy | hy
              · exact HI.out.2.1 y hy
              · simp at hy; rw [hy]; exact HK.out
            · have := HI.out.2.2
              rw [trl_go ⟨c1, HK.out, c2⟩] at this
              rw [show 7 - (l ++ [z]).length = f by simp; omega]
              exact this
          rw [show (!decide (z ∈ l)) = true by simp [c2]] at hca
          have eS : (fun q => decide (q ∈ l) || decide (q = z)) = fun q => decide (q ∈ l ++ [z]) := by funext q; simp
          rw [eS] at hca
          go_wp2_with fail
          refine hc.mono ?_
          rintro e w1 ⟨rfl, rfl⟩
          go_wp2_with fail
          refine hca.mono ?_
          rintro e w2 ⟨rfl, hs2, ho⟩
          have hown2 := owns_out hown ho (Nat.le_refl _)
          have hbw2 := hbw.trans (ho.below (Nat.le_refl _) (by omega))
          have hm2 := hm.out ho (by omega)
          have hsz2 := Nat.le_trans hsz ho.size
          have hgr : -1 ≤ gn h z ∧ gn h z ≤ 6 := by have := hr.out z.toNat (by omega); exact this
          have hgw : (Lit.int .i64 (gn h z)).wf = true := WalkArith.wf_i64 (by omega)
          have hn : (l ++ [z]).length = l.length + 1 := by simp
          have hown2' := hown2
          clear hown hbw hca hc c2 HI hs hm hsz ho eS hf
          go_wp2_with (at_builtin; refine wpList_append_own _ rfl _ _ 39 rfl (w.heap.size + 1) 3 i0 (.int .i64 0) 1 8 Try.underlying39 hi hz0 hz1 hz2 rfl (by decide) _ _ _ rfl (hown2.alloc _) ⟨w2.heap.size, 0, none⟩ 1 1 [.int .i64 z] rfl rfl ?c1 ?c2 ?c3 ?c4 ?c5 ?_)
          case c1 =>
            intro j u hj
            match j, hj with
            | 0, hj => simp at hj; subst hj; simp [Addr.add]
          case c2 => intro u hu; simp at hu; subst hu; rfl
          case c3 => unfold maxLen; omega
          case c4 => omega
          case c5 => simp; omega
          · intro v' w4 hown' hg hiff
            have hb4 := (hbw2.alloc hbw2.size _).grown hg (Nat.le_trans hbw2.size (by simp)) (by intro q hq; have := (hown2.lt q hq).1; omega)
            have hs4 := (hs2.alloc _).block (hg.block w.heap.size (hs2.alloc _).lt (fun q => by have := (hown2.lt _ q.symm).1; omega))
            obtain ⟨Dm, hownm, hfm⟩ := (hm2.alloc _).block (hg.block bm (hm2.alloc _).lt (fun q => by have := (hown2.lt _ q.symm).1; omega))
            have HFM : Hid (∀ zz, Dm.atKey (ik z) zz = .lit (.int .i64 (gn h z))) := ((hfm z).2 _ k3).2
            have hm4 : HM w4 bm 7 (hp h 7) := ⟨Dm, hownm, hfm⟩
            have hsz4 : w.heap.size + 1 ≤ w4.heap.size := Nat.le_trans (by simp; omega) hg.size
            clear hiff hg hown2 hbw2 hs2 hm2 hfm k3 k4 hsz2
            obtain ⟨a', c', rfl, hin'⟩ : ∃ a c, v' = .slice a (l.length + 1) c ∧ IntIn w4 (w.heap.size + 1) w4.heap.size a (l.length + 1) (l ++ [z]) := by
              have q : w4.ownsRow (w.heap.size + 1) 3 1 v' (l.length + 1) (ic (l ++ [z])) := by simpa [ic] using hown'
              exact IntIn.ofOwns q
            go_wp2_with (first
              | (at_lookup; refine wpList_lookup_own_int _ rfl _ _ 93 rfl 3 3 .i64 law3 Try.underlying93 Try.underlying3 (zero3 _) bm 7 _ rfl hownm _ _ rfl (keyOf_int_mk Try.underlying3 wz) ?_; intro cc hat hwc)
              | go_in)
            rw [HFM.out] at hat
            have ecc := intv hat
            go_roundw
            case rel => exact ⟨l ++ [z], gn h z, by rw [ecc], hgw, by rw [hn]; simpa [ic] using hown', by rw [hn]; exact hs4, hm4, hb4, hsz4, HI2⟩
            case measure =>
              obtain ⟨a0, c0, e0, -⟩ := IntIn.ofOwns hown2'
              simp [e0, lenOf]; omega

end Go.Proofs.Ytokdhbegkbilbaa
