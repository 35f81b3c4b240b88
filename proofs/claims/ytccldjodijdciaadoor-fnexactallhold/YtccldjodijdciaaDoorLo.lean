/-
  The contracts of bytes.Cut at a byte 10, and of impl.linesOf.
-/
import Derived.Test.YtccldjodijdciaaDoorLn
import Derived.Lib.BytesEntry
import Derived.Laws.Externs
namespace Go.Proofs.YtccldjodijdciaaDoor
open Go.RowKit


theorem byte10 {x : Int} (h0 : 0 ≤ x) (h1 : x < 256) : (x.toNat.toUInt8 == (10 : Int).toNat.toUInt8) = decide (x = 10) := by
  obtain ⟨n, rfl⟩ : ∃ n : Nat, x = n := ⟨x.toNat, by omega⟩
  have hn : n < 256 := by omega
  rw [Bool.eq_iff_iff, beq_iff_eq, decide_eq_true_eq]
  constructor
  · intro h
    have h2 := congrArg UInt8.toNat h
    simp at h2
    omega
  · intro h
    rw [h]
/-- Where the first byte 10 is. -/
theorem idx10 : ∀ (l : List Int), (∀ x ∈ l, 0 ≤ x ∧ x < 256) →
    (Lib.indexByte (Lib.bytesOf l) (10 : Int).toNat.toUInt8 = -1 ∧ ∀ j, j < l.length → ¬ l.getD j 0 = 10) ∨
    (∃ k : Nat, k < l.length ∧ Lib.indexByte (Lib.bytesOf l) (10 : Int).toNat.toUInt8 = k ∧ l.getD k 0 = 10 ∧ ∀ j, j < k → ¬ l.getD j 0 = 10)
  | [], _ => .inl ⟨rfl, fun j hj => by simp at hj⟩
  | x :: r, h => by
    have hx := h x (by simp)
    have hb := byte10 hx.1 hx.2
    have e : Lib.indexByte (Lib.bytesOf (x :: r)) (10 : Int).toNat.toUInt8 = if x.toNat.toUInt8 == (10 : Int).toNat.toUInt8 then 0 else if Lib.indexByte (Lib.bytesOf r) (10 : Int).toNat.toUInt8 == -1 then -1 else Lib.indexByte (Lib.bytesOf r) (10 : Int).toNat.toUInt8 + 1 := rfl
    rw [hb] at e
    rw [e]
    by_cases h10 : x = 10
    · subst h10
      exact .inr ⟨0, by simp, by simp, by simp, fun j hj => by omega⟩
    · rw [decide_eq_false h10]
      rcases idx10 r (fun y hy => h y (by simp [hy])) with ⟨h1, h2⟩ | ⟨k, hk, h1, h2, h3⟩
      · refine .inl ⟨by rw [h1]; rfl, fun j hj => ?_⟩
        match j, hj with
        | 0, _ => simpa using h10
        | j + 1, hj => simpa using h2 j (by simpa using hj)
      · refine .inr ⟨k + 1, by simpa using hk, ?_, by simpa using h2, fun j hj => ?_⟩
        · have hne : (Lib.indexByte (Lib.bytesOf r) (10 : Int).toNat.toUInt8 == -1) = false := beq_eq_false_iff_ne.2 (by omega)
          simp only [Bool.false_eq_true, if_false]
          rw [hne, h1]
          simp
        · match j, hj with
          | 0, _ => simpa using h10
          | j + 1, hj => simpa using h3 j (by omega)

set_option maxHeartbeats 2000000 in
set_option maxRecDepth 1000000 in
theorem indexByte_any (b off n c : Nat) (l : List Int) (w : World) (hl : l.length = n) (hc : ∀ i, i < n → w.cell? ⟨b, off + i, none⟩ = some (.int .u8 (l.getD i 0))) :
    Calls Tryd.prog 21 #[.slice (some ⟨b, off, none⟩) n c, .int .u8 10] w fun e w' => e = .returned (.int .i64 (Lib.indexByte (Lib.bytesOf l) (10 : Int).toNat.toUInt8)) ∧ w' = w := by
  go_enter Tryd.func21, Tryd.ntmps21
  go_wp2
  rw [run_callFunc_extern Tryd.func25 (by kernel_rfl) (by kernel_rfl) (by kernel_rfl) (e := Extern.BytealgIndexByte.indexByte) (by kernel_rfl), Lib.run_indexByteSlice w b off n c l hl hc 10]
  simp only [Result.andThen]
  rw [Oper.upon_value]
  go_wp2
  go_ret
  exact ⟨rfl, rfl⟩

set_option maxHeartbeats 2000000 in
set_option maxRecDepth 1000000 in
theorem index_any (b off n c Z : Nat) (l : List Int) (w : World) (hl : l.length = n) (hc : ∀ i, i < n → w.cell? ⟨b, off + i, none⟩ = some (.int .u8 (l.getD i 0))) (hz : w.cell? ⟨Z, 0, none⟩ = some (.int .u8 10)) :
    Calls Tryd.prog 20 #[.slice (some ⟨b, off, none⟩) n c, .slice (some ⟨Z, 0, none⟩) 1 1] w fun e w' => e = .returned (.int .i64 (Lib.indexByte (Lib.bytesOf l) (10 : Int).toNat.toUInt8)) ∧ w' = w := by
  have hcon := indexByte_any b off n c l w hl hc
  clear hc
  generalize Lib.indexByte (Lib.bytesOf l) (10 : Int).toNat.toUInt8 = r at hcon ⊢
  go_enter Tryd.func20, Tryd.ntmps20
  go_wp2_with (go_at_call 21; refine hcon.mono ?_; rintro e w' ⟨rfl, rfl⟩)
  go_ret
  exact ⟨rfl, rfl⟩

end Go.Proofs.YtccldjodijdciaaDoor
