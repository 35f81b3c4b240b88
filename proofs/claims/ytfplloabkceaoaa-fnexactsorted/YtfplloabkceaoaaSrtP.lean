/-
  Proved: at every argument the law FnExactSorted of package laws returns true and reads its arguments as before (the function of package impl answers as the one of package spec, writes into no argument, and its answer is memory of its own), at the landed commit; no condition.
-/
import Derived.Test.YtfplloabkceaoaaSrtW
import Derived.Test.YtfplloabkceaoaaOpen
import Derived.Test.YtfplloabkceaoaaIni
import Derived.OpenShut
import Derived.ChangeOld
namespace Go.Proofs.Ytfplloabkceaoaa.sorted
open Go.ChangeShapes Go.WideShapes Go.ChangeAt Go.RowKit
set_option linter.unusedVariables false

theorem own : ownKnob Try.prog.godebug = none := by kernel_rfl
theorem laidOut : laidOutB Try.prog = true := by kernel_rfl

set_option maxRecDepth 100000 in
theorem lifted (os : Os) (started : os.Started) (H : Type) (enc : TypeId × Value → H) :
    ReturnsInHanded {} Try.checked os 7 .any (Rows.fnExactSortedSpec.pre6 enc Try.prog Try.f7 Rows.fnExactSortedRow.domain false) (Rows.fnExactSortedSpec.post enc Try.prog Try.f7 false true false false) := by
  refine returnsInHanded_of_change (C := Try.checked) own started (by kernel_rfl) Try.func7
    (ChangeSpec.witness6 (enc := enc) (C := Try.checked) false ⟨#[], #[.agg #[.slice none 0 0, .slice none 0 0, .slice none 0 0, .slice none 0 0]], []⟩ 8 (by kernel_rfl) (by kernel_rfl) (by kernel_rfl) (by kernel_rfl)) ?_
  intro W base args ds gs before hval0 hW hcnd _
  have hval : ∀ (j : Nat) t v, Try.f7.params[j]? = some t → args[j]? = some v → Value.okWide Try.prog W .any base t v := hval0
  have hW' := hW
  obtain ⟨p, q, hA0, hV, rfl, hfz, hnd⟩ := hW
  have hA : DataW.TrodAll enc Try.prog W 0 (fun _ => true) true Try.f7.params.toList args.toList ds p := hA0
  rw [Try.params7] at hA hval
  obtain ⟨v0, vs0, d0, ds0, p0, q0, hargs, rfl, rfl, h0, t0⟩ := trodAll_cons hA
  obtain ⟨rfl, rfl, rfl⟩ := trodAll_nil t0
  obtain rfl : args = #[v0] := by cases args; simp_all
  obtain ⟨rfl, rfl⟩ := trodVars_none hV
  have k0 := h0
  have lt0 : ∀ x ∈ p0, x.block < W.heap.size := by obtain ⟨m, hm⟩ := k0; exact DataW.trod_lt m _ _ _ hm
  obtain ⟨a00, a01, a02, a03, c00, c01, c02, c03, l00, l01, l02, l03, rfl, m00, m01, m02, m03, r00, r01, r02, r03⟩ := open_asn (hval 0 24 v0 rfl rfl) h0
  clear hA0 hval0
  refine (walk a00 a01 a02 a03 c00 c01 c02 c03 l00 l01 l02 l03 W m00 m01 m02 m03 r00 r01 r02 r03).mono fun e W' ⟨he, bel⟩ => ?_
  subst he
  exact ⟨_, rfl, _, _, _, [], _, [], hW', trodAll_mk1 (shut_bool Try.underlying4 _), (trodAll_cons_mk (Below.trod laidOut (by kernel_rfl) (of_decide_eq_true (by kernel_rfl)) k0 bel lt0) trodAll_mk0), rfl, bel.frame _, fun h => by cases h⟩

theorem tfn : Try.pinned.checked.prog.funcNamed Rows.fnExactSortedRow.func = some 7 := by kernel_rfl
theorem tf : Try.pinned.checked.prog.funcs[7]? = some Try.f7 := Try.func7
set_option maxRecDepth 100000 in
set_option maxHeartbeats 8000000 in
theorem tcl : joinedFacts Try.pinned.checked.prog 7 Try.f7 Rows.fnExactSortedSpec Rows.fnExactSortedRow = true := by
  unfold joinedFacts
  iterate 4 (rw [Bool.and_eq_true]; refine ⟨?_, by as_aux_lemma => kernel_rfl⟩)
  rw [Bool.and_eq_true]; refine ⟨?_, ini.mk_of ini.makeC rfl⟩
  rw [Bool.and_eq_true]; refine ⟨?_, ini.lf_of ini.liftF rfl⟩
  rw [Bool.and_eq_true]; refine ⟨?_, ini.mayE⟩
  iterate 24 (rw [Bool.and_eq_true]; refine ⟨?_, by as_aux_lemma => kernel_rfl⟩)
  as_aux_lemma => kernel_rfl
theorem tin : Try.f7.isInstance Try.pinned.checked.prog Rows.fnExactSortedRow.origin Rows.fnExactSortedRow.targs := of_decide_eq_true (by kernel_rfl)
theorem twr : Try.f7.isWrapper Try.pinned.checked.prog Rows.fnExactSortedRow.wrapper Rows.fnExactSortedRow.mainSum := by unfold Func.isWrapper; first | (rw [if_pos (by decide +kernel)]; kernel_rfl) | (rw [if_neg (by decide +kernel)]; exact ⟨rfl, rfl⟩)
theorem over : Rows.fnExactSortedRow.holds Try.pinned (OpenSpec.ofChange Rows.fnExactSortedSpec) :=
  OpenClaim.holds_of_wide 7 Try.f7 rfl rfl rfl rfl rfl rfl rfl ⟨rfl, rfl, rfl, rfl, rfl⟩ rfl rfl rfl rfl rfl tfn tf tcl tin twr
    (fun os started H enc _ => lifted os started H enc)

theorem proved : Rows.FnExactSortedSaid := over
#print axioms proved
end Go.Proofs.Ytfplloabkceaoaa.sorted
