/-
  Proved: at every argument the law FnExactRefuted of package laws returns true and reads its arguments as before (the function of package impl answers as the one of package spec, writes into no argument, and its answer is memory of its own), at the landed commit; no condition.
-/
import Derived.Test.YtokdhbegkbilbaaRfW
import Derived.Test.YtokdhbegkbilbaaOpen
import Derived.Test.YtokdhbegkbilbaaQOpen
import Derived.Test.YtokdhbegkbilbaaIni
import Derived.OpenShut
import Derived.ChangeOld
namespace Go.Proofs.Ytokdhbegkbilbaa.refuted
open Go.ChangeShapes Go.WideShapes Go.ChangeAt Go.RowKit
set_option linter.unusedVariables false

theorem own : ownKnob Try.prog.godebug = none := by kernel_rfl
theorem laidOut : laidOutB Try.prog = true := by kernel_rfl

set_option maxRecDepth 100000 in
theorem lifted (os : Os) (started : os.Started) (H : Type) (enc : TypeId × Value → H) :
    ReturnsInHanded {} Try.checked os 19 .any (Rows.fnExactRefutedSpec.pre6 enc Try.prog Try.f19 Rows.fnExactRefutedRow.domain false) (Rows.fnExactRefutedSpec.post enc Try.prog Try.f19 false true false false) := by
  refine returnsInHanded_of_change (C := Try.checked) own started (by kernel_rfl) Try.func19
    (ChangeSpec.witness6 (enc := enc) (C := Try.checked) false ⟨#[], #[.agg #[.slice none 0 0, .slice none 0 0], .agg #[.slice none 0 0, .slice none 0 0, .slice none 0 0, .slice none 0 0], .agg #[.slice none 0 0, .slice none 0 0, .slice none 0 0, .slice none 0 0]], []⟩ 8 (by kernel_rfl) (by kernel_rfl) (by kernel_rfl) (by kernel_rfl)) ?_
  intro W base args ds gs before hval0 hW hcnd _
  have hval : ∀ (j : Nat) t v, Try.f19.params[j]? = some t → args[j]? = some v → Value.okWide Try.prog W .any base t v := hval0
  have hW' := hW
  obtain ⟨p, q, hA0, hV, rfl, hfz, hnd⟩ := hW
  have hA : DataW.TrodAll enc Try.prog W 0 (fun _ => true) true Try.f19.params.toList args.toList ds p := hA0
  rw [Try.params19] at hA hval
  obtain ⟨v0, vs0, d0, ds0, p0, q0, hargs, rfl, rfl, h0, t0⟩ := trodAll_cons hA
  obtain ⟨v1, vs1, d1, ds1, p1, q1, rfl, rfl, rfl, h1, t1⟩ := trodAll_cons t0
  obtain ⟨v2, vs2, d2, ds2, p2, q2, rfl, rfl, rfl, h2, t2⟩ := trodAll_cons t1
  obtain ⟨rfl, rfl, rfl⟩ := trodAll_nil t2
  obtain rfl : args = #[v0, v1, v2] := by cases args; simp_all
  obtain ⟨rfl, rfl⟩ := trodVars_none hV
  have k0 := h0
  have lt0 : ∀ x ∈ p0, x.block < W.heap.size := by obtain ⟨m, hm⟩ := k0; exact DataW.trod_lt m _ _ _ hm
  obtain ⟨a00, a01, c00, c01, l00, l01, rfl, m00, m01, r00, r01⟩ := open_state (hval 0 41 v0 rfl rfl) h0
  have k1 := h1
  have lt1 : ∀ x ∈ p1, x.block < W.heap.size := by obtain ⟨m, hm⟩ := k1; exact DataW.trod_lt m _ _ _ hm
  obtain ⟨a10, a11, a12, a13, c10, c11, c12, c13, l10, l11, l12, l13, rfl, m10, m11, m12, m13, r10, r11, r12, r13⟩ := Q.open_asn (hval 1 24 v1 rfl rfl) h1
  have k2 := h2
  have lt2 : ∀ x ∈ p2, x.block < W.heap.size := by obtain ⟨m, hm⟩ := k2; exact DataW.trod_lt m _ _ _ hm
  obtain ⟨a20, a21, a22, a23, c20, c21, c22, c23, l20, l21, l22, l23, rfl, m20, m21, m22, m23, r20, r21, r22, r23⟩ := Q.open_asn (hval 2 24 v2 rfl rfl) h2
  clear hA0 hval0
  refine (walk a00 a01 c00 c01 l00 l01 a10 a11 a12 a13 c10 c11 c12 c13 l10 l11 l12 l13 a20 a21 a22 a23 c20 c21 c22 c23 l20 l21 l22 l23 W m00 m01 r00 r01 m10 m11 m12 m13 r10 r11 r12 r13 m20 m21 m22 m23 r20 r21 r22 r23).mono fun e W' ⟨he, bel⟩ => ?_
  subst he
  exact ⟨_, rfl, _, _, _, [], _, [], hW', trodAll_mk1 (shut_bool Try.underlying4 _), (trodAll_cons_mk (Below.trod laidOut (by kernel_rfl) (of_decide_eq_true (by kernel_rfl)) k0 bel lt0) (trodAll_cons_mk (Below.trod laidOut (by kernel_rfl) (of_decide_eq_true (by kernel_rfl)) k1 bel lt1) (trodAll_cons_mk (Below.trod laidOut (by kernel_rfl) (of_decide_eq_true (by kernel_rfl)) k2 bel lt2) trodAll_mk0))), rfl, bel.frame _, fun h => by cases h⟩

theorem tfn : Try.pinned.checked.prog.funcNamed Rows.fnExactRefutedRow.func = some 19 := by kernel_rfl
theorem tf : Try.pinned.checked.prog.funcs[19]? = some Try.f19 := Try.func19
set_option maxRecDepth 100000 in
theorem tcl : joinedFacts Try.pinned.checked.prog 19 Try.f19 Rows.fnExactRefutedSpec Rows.fnExactRefutedRow = true := by
  unfold joinedFacts
  iterate 4 (rw [Bool.and_eq_true]; refine ⟨?_, by as_aux_lemma => kernel_rfl⟩)
  rw [Bool.and_eq_true]; refine ⟨?_, by rw [ini.makeC]; rfl⟩
  rw [Bool.and_eq_true]; refine ⟨?_, by rw [ini.liftF]; rfl⟩
  rw [Bool.and_eq_true]; refine ⟨?_, ini.mayE⟩
  iterate 24 (rw [Bool.and_eq_true]; refine ⟨?_, by as_aux_lemma => kernel_rfl⟩)
  as_aux_lemma => kernel_rfl
theorem tin : Try.f19.isInstance Try.pinned.checked.prog Rows.fnExactRefutedRow.origin Rows.fnExactRefutedRow.targs := of_decide_eq_true (by kernel_rfl)
theorem twr : Try.f19.isWrapper Try.pinned.checked.prog Rows.fnExactRefutedRow.wrapper Rows.fnExactRefutedRow.mainSum := by unfold Func.isWrapper; first | (rw [if_pos (by decide +kernel)]; kernel_rfl) | (rw [if_neg (by decide +kernel)]; exact ⟨rfl, rfl⟩)
theorem over : Rows.fnExactRefutedRow.holds Try.pinned (OpenSpec.ofChange Rows.fnExactRefutedSpec) :=
  OpenClaim.holds_of_wide 19 Try.f19 rfl rfl rfl rfl rfl rfl rfl ⟨rfl, rfl, rfl, rfl, rfl⟩ rfl rfl rfl rfl rfl tfn tf tcl tin twr
    (fun os started H enc _ => lifted os started H enc)

theorem proved : Rows.FnExactRefutedSaid := over
#print axioms proved
end Go.Proofs.Ytokdhbegkbilbaa.refuted
