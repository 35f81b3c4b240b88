/-
  Ways through a heap, as plain lists: the way that the specification tells, the one that the program goes, and that both are one. No statement is proved here.
-/
import Derived.Test.YtokdhbegkbilbaaHm
namespace Go.Proofs.Ytokdhbegkbilbaa

def gn (h : List Int) (x : Int) : Int := h.getD x.toNat 0
def okp (h : List Int) (x : Int) : Bool := (hp h 7 x).isSome

def seg (h : List Int) : Nat → Int → Int → Option (List Int)
  | 0, x, to => if x = to then some [] else none
  | n + 1, x, to => if x = to then some [] else if okp h x = true then (seg h n (gn h x) to).map (x :: ·) else none

def trl (h : List Int) (to : Int) : Nat → List Int → Int → List Int × Int
  | 0, l, x => (l, x)
  | n + 1, l, x => if x ≠ to ∧ okp h x = true ∧ x ∉ l then trl h to n (l ++ [x]) (gn h x) else (l, x)

theorem nodup_len : ∀ (l S : List Int), l.Nodup → (∀ y ∈ l, y ∈ S) → l.length ≤ S.length
  | [], _, _, _ => Nat.zero_le _
  | x :: l, S, hn, hs => by
    have hx : x ∈ S := hs x (by simp)
    rw [List.nodup_cons] at hn
    have := nodup_len l (S.erase x) hn.2 (fun y hy => (List.mem_erase_of_ne (fun e => hn.1 (by rw [← e]; exact hy))).2 (hs y (by simp [hy])))
    rw [List.length_erase_of_mem hx] at this
    have h0 : 0 < S.length := List.length_pos_of_mem hx
    simp
    omega

theorem okp_at {h : List Int} (h0 : h.getD 0 0 = -1) {x : Int} (e : okp h x = true) : 1 ≤ x ∧ x ≤ 6 ∧ hp h 7 x = some (gn h x) ∧ gn h x ≠ -1 := by
  unfold okp hp at e
  by_cases c : 0 ≤ x ∧ x < (7 : Nat) ∧ h.getD x.toNat 0 ≠ -1
  · have hx : x ≠ 0 := fun q => by subst q; exact c.2.2 h0
    refine ⟨by omega, by omega, ?_, c.2.2⟩
    unfold hp
    rw [if_pos c]
    rfl
  · rw [if_neg c] at e; cases e

theorem okp_len {h : List Int} (h0 : h.getD 0 0 = -1) {l : List Int} (hn : l.Nodup) (hl : ∀ y ∈ l, okp h y = true) : l.length ≤ 6 :=
  nodup_len l [1, 2, 3, 4, 5, 6] hn (fun y hy => by
    have := okp_at h0 (hl y hy)
    simp
    omega)

theorem seg_never {h : List Int} {to : Int} {S : List Int} (hS : ∀ y ∈ S, y ≠ to ∧ gn h y ∈ S) : ∀ n, ∀ y ∈ S, seg h n y to = none
  | 0, y, hy => by unfold seg; rw [if_neg (hS y hy).1]
  | n + 1, y, hy => by
    unfold seg
    rw [if_neg (hS y hy).1, seg_never hS n _ (hS y hy).2]
    split <;> rfl

theorem trl_stop {h : List Int} {to x : Int} {l : List Int} {n : Nat} (c : ¬ (x ≠ to ∧ okp h x = true ∧ x ∉ l)) : trl h to (n + 1) l x = (l, x) := by
  unfold trl; rw [if_neg c]
theorem trl_go {h : List Int} {to x : Int} {l : List Int} {n : Nat} (c : x ≠ to ∧ okp h x = true ∧ x ∉ l) : trl h to (n + 1) l x = trl h to n (l ++ [x]) (gn h x) := by
  rw [trl]; rw [if_pos c]
theorem nodup_snoc {l : List Int} {x : Int} (hn : l.Nodup) (h : x ∉ l) : (l ++ [x]).Nodup := by
  rw [List.nodup_append]
  refine ⟨hn, by simp, fun a ha b hb => ?_⟩
  simp at hb
  subst hb
  exact fun q => h (q ▸ ha)

theorem seg_trl {h : List Int} (h0 : h.getD 0 0 = -1) (to : Int) : ∀ (n : Nat) (l : List Int) (x : Int), l.length + n = 7 → l.Nodup → (∀ y ∈ l, y ≠ to ∧ okp h y = true ∧ (gn h y ∈ l ∨ gn h y = x)) →
    (seg h n x to).map (l ++ ·) = if (trl h to n l x).2 = to then some (trl h to n l x).1 else none
  | 0, l, x, hl, hn, hI => by
    have := okp_len h0 hn (fun y hy => (hI y hy).2.1)
    omega
  | n + 1, l, x, hl, hn, hI => by
    unfold seg
    by_cases e1 : x = to
    · rw [if_pos e1, trl_stop (fun q => q.1 e1), if_pos e1]
      simp
    · rw [if_neg e1]
      by_cases e2 : okp h x = true
      · rw [if_pos e2]
        by_cases e3 : x ∈ l
        · rw [trl_stop (fun q => q.2.2 e3), if_neg e1, seg_never (S := l) (fun y hy => ⟨(hI y hy).1, by rcases (hI y hy).2.2 with q | q; exact q; rw [q]; exact e3⟩) n _ (by rcases (hI x e3).2.2 with q | q; exact q; rw [q]; exact e3)]
          rfl
        · rw [trl_go ⟨e1, e2, e3⟩]
          have := seg_trl h0 to n (l ++ [x]) (gn h x) (by simp; omega) (nodup_snoc hn e3) (fun y hy => by
            rw [List.mem_append] at hy
            rcases hy with hy | hy
            · refine ⟨(hI y hy).1, (hI y hy).2.1, .inl ?_⟩
              rw [List.mem_append]
              rcases (hI y hy).2.2 with q | q
              · exact .inl q
              · exact .inr (by simp [q])
            · simp at hy
              subst hy
              exact ⟨e1, e2, .inr rfl⟩)
          rw [← this]
          cases seg h n (gn h x) to <;> simp
      · rw [if_neg e2, trl_stop (fun q => e2 q.2.1), if_neg e1]
        rfl

/-- The way from one address to another one, as both tell it. -/
theorem seg_is {h : List Int} (h0 : h.getD 0 0 = -1) (x to : Int) : seg h 7 x to = if (trl h to 7 [] x).2 = to then some (trl h to 7 [] x).1 else none := by
  have := seg_trl h0 to 7 [] x rfl (by simp) (by simp)
  rw [← this]
  cases seg h 7 x to <;> simp

end Go.Proofs.Ytokdhbegkbilbaa
