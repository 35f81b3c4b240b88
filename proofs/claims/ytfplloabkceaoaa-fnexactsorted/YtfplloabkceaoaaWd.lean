/-
  The four rows of an assertion as one word: in blocks that lie apart (Four), or just to be read (Seen).
-/
import Derived.Test.YtfplloabkceaoaaMg
import Derived.Test.YtfplloabkceaoaaEqR
namespace Go.Proofs.Ytfplloabkceaoaa
open Go.RowKit

/-- Four rows of pairs in blocks from lo to hi, no two in one block. -/
def Four (w : World) (lo hi : Nat) (a0 a1 a2 a3 : Option Addr) (n0 n1 n2 n3 : Nat) (l0 l1 l2 l3 : List (Int × Int)) : Prop :=
  ∃ s0 t0 s1 t1 s2 t2 s3 t3, (lo ≤ s0 ∧ t0 ≤ hi ∧ RowIn w s0 t0 a0 n0 l0) ∧ (lo ≤ s1 ∧ t1 ≤ hi ∧ RowIn w s1 t1 a1 n1 l1) ∧ (lo ≤ s2 ∧ t2 ≤ hi ∧ RowIn w s2 t2 a2 n2 l2) ∧ (lo ≤ s3 ∧ t3 ≤ hi ∧ RowIn w s3 t3 a3 n3 l3) ∧ (t0 ≤ s1 ∨ t1 ≤ s0) ∧ (t0 ≤ s2 ∨ t2 ≤ s0) ∧ (t0 ≤ s3 ∨ t3 ≤ s0) ∧ (t1 ≤ s2 ∨ t2 ≤ s1) ∧ (t1 ≤ s3 ∨ t3 ≤ s1) ∧ (t2 ≤ s3 ∨ t3 ≤ s2)

/-- Four rows of pairs in blocks from lo to hi. -/
def Seen (w : World) (lo hi : Nat) (a0 a1 a2 a3 : Option Addr) (n0 n1 n2 n3 : Nat) (l0 l1 l2 l3 : List (Int × Int)) : Prop :=
  RowIn w lo hi a0 n0 l0 ∧ RowIn w lo hi a1 n1 l1 ∧ RowIn w lo hi a2 n2 l2 ∧ RowIn w lo hi a3 n3 l3

theorem Four.below {B : Nat} {w' : World} {w : World} {lo hi : Nat} {a0 a1 a2 a3 : Option Addr} {n0 n1 n2 n3 : Nat} {l0 l1 l2 l3 : List (Int × Int)} (h : Four w lo hi a0 a1 a2 a3 n0 n1 n2 n3 l0 l1 l2 l3) (hb : Below B w w') (hr : hi ≤ B) : Four w' lo hi a0 a1 a2 a3 n0 n1 n2 n3 l0 l1 l2 l3 := by
  obtain ⟨s0, t0, s1, t1, s2, t2, s3, t3, ⟨p0, q0, r0⟩, ⟨p1, q1, r1⟩, ⟨p2, q2, r2⟩, ⟨p3, q3, r3⟩, d01, d02, d03, d12, d13, d23⟩ := h
  exact ⟨s0, t0, s1, t1, s2, t2, s3, t3, ⟨p0, q0, r0.below hb (by omega)⟩, ⟨p1, q1, r1.below hb (by omega)⟩, ⟨p2, q2, r2.below hb (by omega)⟩, ⟨p3, q3, r3.below hb (by omega)⟩, d01, d02, d03, d12, d13, d23⟩

theorem Four.out {lo' hi' : Nat} {w' : World} {w : World} {lo hi : Nat} {a0 a1 a2 a3 : Option Addr} {n0 n1 n2 n3 : Nat} {l0 l1 l2 l3 : List (Int × Int)} (h : Four w lo hi a0 a1 a2 a3 n0 n1 n2 n3 l0 l1 l2 l3) (hb : Out lo' hi' w w') (hr : hi ≤ lo' ∨ hi' ≤ lo) : Four w' lo hi a0 a1 a2 a3 n0 n1 n2 n3 l0 l1 l2 l3 := by
  obtain ⟨s0, t0, s1, t1, s2, t2, s3, t3, ⟨p0, q0, r0⟩, ⟨p1, q1, r1⟩, ⟨p2, q2, r2⟩, ⟨p3, q3, r3⟩, d01, d02, d03, d12, d13, d23⟩ := h
  exact ⟨s0, t0, s1, t1, s2, t2, s3, t3, ⟨p0, q0, r0.out hb (by omega)⟩, ⟨p1, q1, r1.out hb (by omega)⟩, ⟨p2, q2, r2.out hb (by omega)⟩, ⟨p3, q3, r3.out hb (by omega)⟩, d01, d02, d03, d12, d13, d23⟩

theorem Four.mono {lo' hi' : Nat} {w : World} {lo hi : Nat} {a0 a1 a2 a3 : Option Addr} {n0 n1 n2 n3 : Nat} {l0 l1 l2 l3 : List (Int × Int)} (h : Four w lo hi a0 a1 a2 a3 n0 n1 n2 n3 l0 l1 l2 l3) (h1 : lo' ≤ lo) (h2 : hi ≤ hi') : Four w lo' hi' a0 a1 a2 a3 n0 n1 n2 n3 l0 l1 l2 l3 := by
  obtain ⟨s0, t0, s1, t1, s2, t2, s3, t3, ⟨p0, q0, r0⟩, ⟨p1, q1, r1⟩, ⟨p2, q2, r2⟩, ⟨p3, q3, r3⟩, d01, d02, d03, d12, d13, d23⟩ := h
  exact ⟨s0, t0, s1, t1, s2, t2, s3, t3, ⟨by omega, by omega, r0⟩, ⟨by omega, by omega, r1⟩, ⟨by omega, by omega, r2⟩, ⟨by omega, by omega, r3⟩, d01, d02, d03, d12, d13, d23⟩

theorem Four.seen {w : World} {lo hi : Nat} {a0 a1 a2 a3 : Option Addr} {n0 n1 n2 n3 : Nat} {l0 l1 l2 l3 : List (Int × Int)} (h : Four w lo hi a0 a1 a2 a3 n0 n1 n2 n3 l0 l1 l2 l3) : Seen w lo hi a0 a1 a2 a3 n0 n1 n2 n3 l0 l1 l2 l3 := by
  obtain ⟨s0, t0, s1, t1, s2, t2, s3, t3, ⟨p0, q0, r0⟩, ⟨p1, q1, r1⟩, ⟨p2, q2, r2⟩, ⟨p3, q3, r3⟩, d01, d02, d03, d12, d13, d23⟩ := h
  exact ⟨r0.mono p0 q0, r1.mono p1 q1, r2.mono p2 q2, r3.mono p3 q3⟩

theorem Seen.below {B : Nat} {w' : World} {w : World} {lo hi : Nat} {a0 a1 a2 a3 : Option Addr} {n0 n1 n2 n3 : Nat} {l0 l1 l2 l3 : List (Int × Int)} (h : Seen w lo hi a0 a1 a2 a3 n0 n1 n2 n3 l0 l1 l2 l3) (hb : Below B w w') (hr : hi ≤ B) : Seen w' lo hi a0 a1 a2 a3 n0 n1 n2 n3 l0 l1 l2 l3 :=
  ⟨h.1.below hb hr, h.2.1.below hb hr, h.2.2.1.below hb hr, h.2.2.2.below hb hr⟩

theorem Seen.out {lo' hi' : Nat} {w' : World} {w : World} {lo hi : Nat} {a0 a1 a2 a3 : Option Addr} {n0 n1 n2 n3 : Nat} {l0 l1 l2 l3 : List (Int × Int)} (h : Seen w lo hi a0 a1 a2 a3 n0 n1 n2 n3 l0 l1 l2 l3) (hb : Out lo' hi' w w') (hr : hi ≤ lo' ∨ hi' ≤ lo) : Seen w' lo hi a0 a1 a2 a3 n0 n1 n2 n3 l0 l1 l2 l3 :=
  ⟨h.1.out hb hr, h.2.1.out hb hr, h.2.2.1.out hb hr, h.2.2.2.out hb hr⟩

theorem Seen.mono {lo' hi' : Nat} {w : World} {lo hi : Nat} {a0 a1 a2 a3 : Option Addr} {n0 n1 n2 n3 : Nat} {l0 l1 l2 l3 : List (Int × Int)} (h : Seen w lo hi a0 a1 a2 a3 n0 n1 n2 n3 l0 l1 l2 l3) (hl : lo' ≤ lo) (hr : hi ≤ hi') : Seen w lo' hi' a0 a1 a2 a3 n0 n1 n2 n3 l0 l1 l2 l3 :=
  ⟨h.1.mono hl hr, h.2.1.mono hl hr, h.2.2.1.mono hl hr, h.2.2.2.mono hl hr⟩

theorem Four.ofOwn {w : World} {lo hi b0 b1 b2 b3 : Nat} {l0 l1 l2 l3 : List (Int × Int)} (h0 : lo ≤ b0) (h1 : b0 < b1) (h2 : b1 < b2) (h3 : b2 < b3) (h4 : b3 < hi) (o0 : Own w b0 l0.length l0 l0.length) (o1 : Own w b1 l1.length l1 l1.length) (o2 : Own w b2 l2.length l2 l2.length) (o3 : Own w b3 l3.length l3 l3.length) :
    Four w lo hi (some ⟨b0, 0, none⟩) (some ⟨b1, 0, none⟩) (some ⟨b2, 0, none⟩) (some ⟨b3, 0, none⟩) l0.length l1.length l2.length l3.length l0 l1 l2 l3 :=
  ⟨b0, b0 + 1, b1, b1 + 1, b2, b2 + 1, b3, b3 + 1, ⟨by omega, by omega, RowIn.ofOwn o0 rfl (Nat.le_refl _) (by omega)⟩, ⟨by omega, by omega, RowIn.ofOwn o1 rfl (Nat.le_refl _) (by omega)⟩, ⟨by omega, by omega, RowIn.ofOwn o2 rfl (Nat.le_refl _) (by omega)⟩, ⟨by omega, by omega, RowIn.ofOwn o3 rfl (Nat.le_refl _) (by omega)⟩, by omega, by omega, by omega, by omega, by omega, by omega⟩

theorem Seen.none (w : World) (lo hi : Nat) : Seen w lo hi none none none none 0 0 0 0 [] [] [] [] := ⟨⟨rfl, .inl rfl⟩, ⟨rfl, .inl rfl⟩, ⟨rfl, .inl rfl⟩, ⟨rfl, .inl rfl⟩⟩

theorem Four.none (w : World) (lo : Nat) : Four w lo lo none none none none 0 0 0 0 [] [] [] [] :=
  ⟨lo, lo, lo, lo, lo, lo, lo, lo, ⟨Nat.le_refl _, Nat.le_refl _, rfl, .inl rfl⟩, ⟨Nat.le_refl _, Nat.le_refl _, rfl, .inl rfl⟩, ⟨Nat.le_refl _, Nat.le_refl _, rfl, .inl rfl⟩, ⟨Nat.le_refl _, Nat.le_refl _, rfl, .inl rfl⟩, .inl (Nat.le_refl _), .inl (Nat.le_refl _), .inl (Nat.le_refl _), .inl (Nat.le_refl _), .inl (Nat.le_refl _), .inl (Nat.le_refl _)⟩

theorem markAsn_four (lo hi : Nat) (a0 a1 a2 a3 : Option Addr) (n0 n1 n2 n3 c0 c1 c2 c3 : Nat) (l0 l1 l2 l3 : List (Int × Int)) (k : Int) (w : World)
    (hk0 : 0 ≤ k) (hk : k ≤ 33554432) (m0 : n0 ≤ 2097152) (m1 : n1 ≤ 2097152) (m2 : n2 ≤ 2097152) (m3 : n3 ≤ 2097152) (hs : hi ≤ w.heap.size) (h : Four w lo hi a0 a1 a2 a3 n0 n1 n2 n3 l0 l1 l2 l3) :
    Calls Try.prog 44 #[.agg #[.slice a0 n0 c0, .slice a1 n1 c1, .slice a2 n2 c2, .slice a3 n3 c3], .int .i64 k] w fun e w' => e = .returned (.int .i64 (k + 2 * (n0 : Int) + 2 * (n1 : Int) + 2 * (n2 : Int) + 2 * (n3 : Int))) ∧ Four w' lo hi a0 a1 a2 a3 n0 n1 n2 n3 (marks (k) n0) (marks (k + 2 * (n0 : Int)) n1) (marks (k + 2 * (n0 : Int) + 2 * (n1 : Int)) n2) (marks (k + 2 * (n0 : Int) + 2 * (n1 : Int) + 2 * (n2 : Int)) n3) ∧ Out lo hi w w' := by
  obtain ⟨s0, t0, s1, t1, s2, t2, s3, t3, ⟨p0, q0, r0⟩, ⟨p1, q1, r1⟩, ⟨p2, q2, r2⟩, ⟨p3, q3, r3⟩, d01, d02, d03, d12, d13, d23⟩ := h
  refine (markAsn_gen lo hi s0 t0 s1 t1 s2 t2 s3 t3 a0 a1 a2 a3 n0 n1 n2 n3 c0 c1 c2 c3 l0 l1 l2 l3 k w hk0 hk m0 m1 m2 m3 p0 p1 p2 p3 q0 q1 q2 q3 d01 d02 d03 d12 d13 d23 hs r0 r1 r2 r3).mono ?_
  rintro e w' ⟨rfl, u0, u1, u2, u3, ho⟩
  exact ⟨rfl, ⟨s0, t0, s1, t1, s2, t2, s3, t3, ⟨p0, q0, u0⟩, ⟨p1, q1, u1⟩, ⟨p2, q2, u2⟩, ⟨p3, q3, u3⟩, d01, d02, d03, d12, d13, d23⟩, ho⟩

theorem heldAsn_four (lo hi : Nat) (a0 a1 a2 a3 : Option Addr) (n0 n1 n2 n3 c0 c1 c2 c3 : Nat) (k : Int) (w : World)
    (hk0 : 0 ≤ k) (hk : k ≤ 33554432) (m0 : n0 ≤ 2097152) (m1 : n1 ≤ 2097152) (m2 : n2 ≤ 2097152) (m3 : n3 ≤ 2097152) (hs : hi ≤ w.heap.size) (h : Four w lo hi a0 a1 a2 a3 n0 n1 n2 n3 (marks (k) n0) (marks (k + 2 * (n0 : Int)) n1) (marks (k + 2 * (n0 : Int) + 2 * (n1 : Int)) n2) (marks (k + 2 * (n0 : Int) + 2 * (n1 : Int) + 2 * (n2 : Int)) n3)) :
    Calls Try.prog 45 #[.agg #[.slice a0 n0 c0, .slice a1 n1 c1, .slice a2 n2 c2, .slice a3 n3 c3], .int .i64 k] w fun e w' => e = .returned (.int .i64 (k + 2 * (n0 : Int) + 2 * (n1 : Int) + 2 * (n2 : Int) + 2 * (n3 : Int))) ∧ Below w.heap.size w w' := by
  obtain ⟨s0, t0, s1, t1, s2, t2, s3, t3, ⟨p0, q0, r0⟩, ⟨p1, q1, r1⟩, ⟨p2, q2, r2⟩, ⟨p3, q3, r3⟩, d01, d02, d03, d12, d13, d23⟩ := h
  exact heldAsn_gen s0 t0 s1 t1 s2 t2 s3 t3 a0 a1 a2 a3 n0 n1 n2 n3 c0 c1 c2 c3 k w hk0 hk m0 m1 m2 m3 (by omega) (by omega) (by omega) (by omega) r0 r1 r2 r3

theorem eqAsn_seen (lo hi lo' hi' : Nat) (a0 a1 a2 a3 d0 d1 d2 d3 : Option Addr) (n0 n1 n2 n3 c0 c1 c2 c3 e0 e1 e2 e3 : Nat) (l0 l1 l2 l3 : List (Int × Int)) (w : World)
    (m0 : n0 ≤ 1048576) (m1 : n1 ≤ 1048576) (m2 : n2 ≤ 1048576) (m3 : n3 ≤ 1048576) (h : Seen w lo hi a0 a1 a2 a3 n0 n1 n2 n3 l0 l1 l2 l3) (h' : Seen w lo' hi' d0 d1 d2 d3 n0 n1 n2 n3 l0 l1 l2 l3) :
    Calls Try.prog 43 #[.agg #[.slice a0 n0 c0, .slice a1 n1 c1, .slice a2 n2 c2, .slice a3 n3 c3], .agg #[.slice d0 n0 e0, .slice d1 n1 e1, .slice d2 n2 e2, .slice d3 n3 e3]] w fun e w' => e = .returned (.bool true) ∧ Below w.heap.size w w' :=
  eqAsn_rows _ _ _ _ _ _ _ _ _ _ _ _ _ _ _ _ _ _ _ _ _ _ _ _ _ m0 m1 m2 m3 h.1.row h.2.1.row h.2.2.1.row h.2.2.2.row h'.1.row h'.2.1.row h'.2.2.1.row h'.2.2.2.row h.1.1 h.2.1.1 h.2.2.1.1 h.2.2.2.1

end Go.Proofs.Ytfplloabkceaoaa
