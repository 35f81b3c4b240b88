/-
  What lies in a slice of pairs, as the source of an append; the contracts of impl.behind and impl.copyOf for any slices.
-/
import Derived.Test.YtfplloabkceaoaaRoom
namespace Go.Proofs.Ytfplloabkceaoaa
open Go.RowKit

theorem PRow.news {w : World} {a : Addr} {l : List (Int × Int)} (h : PRow w (some a) l) : ∀ j u, (pc l)[j]? = some u → w.cell? (a.add j) = some u := by
  rcases h with rfl | ⟨b, off, e, hlt, hc⟩
  · intro j u hu; simp [pc] at hu
  · injection e with e; subst e
    intro j u hu
    rw [addr_add]
    obtain ⟨i, hi, ⟨rfl, rfl⟩ | ⟨rfl, rfl⟩⟩ := pc_inv hu
    · exact (hc i hi).1
    · exact (hc i hi).2

theorem PRow.empty {w : World} {l : List (Int × Int)} (h : PRow w none l) : l = [] := by
  rcases h with h | ⟨b, off, e, _⟩
  · exact h
  · cases e

theorem RowIn.ofOwns0 {w : World} {base n : Nat} {v : Value} {l : List (Int × Int)} (h : w.ownsRow base 69 2 v n (pc l)) : ∃ a cap, v = .slice a n cap ∧ RowIn w base w.heap.size a n l ∧ (a = none → cap = 0) := by
  rcases h.2 with ⟨rfl, rfl⟩ | ⟨g, cap, cur, rfl, _⟩
  · exact ⟨none, 0, rfl, ⟨by have := h.1; rw [pc_length] at this; omega, .inl rfl⟩, fun _ => rfl⟩
  · obtain ⟨hl, hb, ho⟩ := Own.ofOwns h
    exact ⟨_, _, rfl, RowIn.ofOwn ho hl hb ho.1, fun e => by cases e⟩

theorem wpList_append_src {ops : Array Oper} {rest : List Oper} {o : Oper} {a : Act} {w : World} {Q : Exit → Act → World → Prop} (hgd : o.guard = none) (s x : Operand)
    (ho : o.op = Op.call { callee := Callee.builtin Builtin.append, args := #[s, x], argTypes := #[26, 26] })
    (base : Nat) (v : Value) (n : Nat) (l : List (Int × Int)) (hs : a.eval s = v) (hown : w.ownsRow base 69 2 v n (pc l))
    (a2 : Option Addr) (m c2 : Nat) (k : List (Int × Int)) (hk : k.length = m) (hx : a.eval x = .slice a2 m c2) (hr : PRow w a2 k) (hc : a2 = none → c2 = 0)
    (hn : n + m ≤ 4194304) (hbase : base ≤ w.heap.size)
    (h : ∀ v' w', w'.ownsRow base 69 2 v' (n + m) (pc (l ++ k)) → w.grownBy w' v.ownBlock → wpList Try.prog ops Q rest (a.put o.dst v') w') : wpList Try.prog ops Q (o :: rest) a w := by
  obtain ⟨i0, hi, hz0, hz1, hz2⟩ := Try.i57
  subst hk
  cases a2 with
  | none =>
    obtain rfl := hr.empty
    rw [hc rfl] at hx
    refine wpList_append_own_none hgd s x 26 ho base 69 i0 2 Try.underlying26 hi v n (pc l) hs hown hx ?_
    refine h v w ?_ ⟨rfl, rfl, rfl, Nat.le_refl _, fun _ _ _ => rfl⟩
    simpa using hown
  | some p =>
    refine wpList_append_own w hgd s x 26 ho base 69 i0 (.agg #[.int .i64 0, .int .i64 0]) 2 16 Try.underlying26 hi hz0 hz1 hz2 rfl (by decide) v n (pc l) hs hown p k.length c2 (pc k) hx (pc_length k) hr.news pc_one (by unfold maxLen; omega) (by omega) hbase ?_
    intro v' w' h1 h2 _
    rw [← pc_append] at h1
    exact h v' w' h1 h2

set_option maxHeartbeats 1000000 in
theorem behind_any (a1 a2 : Option Addr) (n1 n2 c1 c2 : Nat) (l k : List (Int × Int)) (w : World) (e1 : l.length = n1) (e2 : k.length = n2) (hn : n1 + n2 ≤ 4194304) (r1 : PRow w a1 l) (r2 : PRow w a2 k) (z1 : a1 = none → c1 = 0) (z2 : a2 = none → c2 = 0) :
    Calls Try.prog 139 #[.slice a1 n1 c1, .slice a2 n2 c2] w fun e w' => ∃ a c, e = .returned (.slice a (n1 + n2) c) ∧ RowIn w' w.heap.size w'.heap.size a (n1 + n2) (l ++ k) ∧ (a = none → c = 0) ∧ Below w.heap.size w w' := by
  have hnil := World.ownsRow_nil w w.heap.size 69 2
  go_enter Try.func139, Try.ntmps139
  go_wp2_with (at_builtin; refine wpList_append_src rfl _ _ rfl w.heap.size _ 0 [] rfl hnil a1 n1 c1 l e1 rfl r1 z1 (by omega) (Nat.le_refl _) ?_)
  intro v1 w1 h1 g1
  have hb := (Below.refl w.heap.size w).grown g1 (Nat.le_refl _) (by intro k hk; simp [Value.ownBlock] at hk)
  try rw [Nat.zero_add] at h1
  try rw [List.nil_append] at h1
  replace r2 := r2.below hb (Nat.le_refl _)
  clear g1 hnil r1
  go_wp2_with (at_builtin; refine wpList_append_src rfl _ _ rfl w.heap.size v1 n1 l rfl h1 a2 n2 c2 k e2 rfl r2 z2 (by omega) hb.size ?_)
  intro v2 w2 h2 g2
  have hb2 := hb.grown g2 hb.size (by intro q hq; exact (h1.lt q hq).1)
  obtain ⟨a, c, rfl, hr, hz⟩ := RowIn.ofOwns0 h2
  clear g2 h1 h2 hb
  go_wp2
  go_ret
  exact ⟨a, c, rfl, hr, hz, hb2⟩

set_option maxHeartbeats 400000 in
theorem copy_any (a1 : Option Addr) (n1 c1 : Nat) (l : List (Int × Int)) (w : World) (e1 : l.length = n1) (hn : n1 ≤ 4194304) (r1 : PRow w a1 l) (z1 : a1 = none → c1 = 0) :
    Calls Try.prog 144 #[.slice a1 n1 c1] w fun e w' => ∃ a c, e = .returned (.slice a n1 c) ∧ RowIn w' w.heap.size w'.heap.size a n1 l ∧ (a = none → c = 0) ∧ Below w.heap.size w w' := by
  go_enter Try.func144, Try.ntmps144
  go_wp2_with fail
  refine (behind_any none a1 0 n1 0 c1 [] l w rfl e1 (by omega) (.inl rfl) r1 (fun _ => rfl) z1).mono ?_
  rintro e w1 ⟨a, c, rfl, hr, hz, hb⟩
  try rw [Nat.zero_add] at hr
  try rw [List.nil_append] at hr
  try rw [Nat.zero_add]
  go_wp2
  go_ret
  exact ⟨a, c, rfl, hr, hz, hb⟩

end Go.Proofs.Ytfplloabkceaoaa
