/- The document's varint, and what wire.Uint, Int, Text and the document's own answer: contracts. -/
import Derived.Test.YtihbibhmkpefgaaWrite
import Derived.RegionTactic
import Derived.ChangeAlike
import Derived.Deep.RegionWith
namespace Go.Proofs.Ytihbibhmkpefgaa.Wr
open Go.RowKit Wm
set_option linter.unusedVariables false

/-- One byte as a text. -/
def b1 (b : UInt8) : ByteArray := ⟨#[b]⟩
theorem b1_le (b : UInt8) : (b1 b).size ≤ 1 := Nat.le_refl _
theorem vs_le {x : Nat} (h : x < 18446744073709551616) : (vs x).size ≤ 10 := by rw [vs_size]; exact vb_len h
theorem vs_lo {x : Nat} (h : x < 128) : b1 (UInt8.ofNat x) = vs x := by rw [b1, vs, vb_lo h]
theorem vs_hi {x : Nat} (h : 128 ≤ x) : b1 (UInt8.ofNat (128 + x % 128)) ++ vs (x / 128) = vs x := by
  conv => rhs; rw [vs, vb_hi h]
  apply ByteArray.ext
  simp [b1, vs]
theorem conv_one (b : UInt8) (W : World) (g : Nat) (h : W.cell? ⟨g, 0, none⟩ = some (bv b)) : (convert 46 9 (.slice (some ⟨g, 0, none⟩) 1 1)).run Try.prog W = .ok (.string (b1 b)) W :=
  run_convert_bytes_back W 46 9 5 ⟨g, 0, none⟩ 1 [b] Try.underlying46 Try.underlying5 Try.underlying9 (fun j hj => by
    match j, hj with
    | 0, _ => exact h)

theorem kept_cell {w w1 : World} {v : Value} {t : TypeId} (hb : Below (w.alloc (.cells #[v] t)).drew.heap.size (w.alloc (.cells #[v] t)).drew w1) : w1.cell? ⟨w.heap.size, 0, none⟩ = some v := by
  refine (hb.cell (p := ⟨w.heap.size, 0, none⟩) ?_).trans ?_
  · simp
  · go_simp

theorem below_ac {w w1 : World} {o : Obj} (hb : Below (w.alloc o).drew.heap.size (w.alloc o).drew w1) : Below w.heap.size w w1 :=
  (((Below.refl _ _).alloc (Nat.le_refl _) o).drew).trans (hb.mono (by simp))
theorem below_ca {w w1 : World} {o : Obj} (hb : Below w.drew.heap.size w.drew w1) : Below w.heap.size w (w1.alloc o) :=
  ((Below.refl _ w).drew.trans hb).alloc hb.size o

set_option maxRecDepth 100000 in
set_option maxHeartbeats 1000000 in
theorem refvarint_any (k : Nat) : ∀ (X : Nat) (w : World), X < 128 ^ (k + 1) → X < 18446744073709551616 →
    Calls Try.prog 31 #[.int .u64 (X : Int)] w fun e w' => e = .returned (.string (vs X)) ∧ Below w.heap.size w w' := by
  induction k with
  | zero =>
    intro X w h hX
    have hlt : X < 128 := by omega
    have hcv := fun W g h => conv_one (UInt8.ofNat X) W g h
    rw [vs_lo hlt, ← low_byte X hlt] at hcv
    go_enter Try.func31, Try.ntmps31
    go_wp2_with fail
    go_ret
    exact ⟨rfl, (Below.refl _ _).alloc (Nat.le_refl _) _⟩
  | succ k ih =>
    intro X w h hX
    by_cases hlt : X < 128
    · have hcv := fun W g h => conv_one (UInt8.ofNat X) W g h
      rw [vs_lo hlt, ← low_byte X hlt] at hcv
      go_enter Try.func31, Try.ntmps31
      go_wp2_with fail
      go_ret
      exact ⟨rfl, (Below.refl _ _).alloc (Nat.le_refl _) _⟩
    · have hcv := fun W g h => conv_one (UInt8.ofNat (128 + X % 128)) W g h
      have e : bv (UInt8.ofNat (128 + X % 128)) = .int .u8 (128 + (X : Int) % 128) := by
        rw [bv]; congr 1; simp; omega
      rw [e] at hcv
      have hs1 := b1_le (UInt8.ofNat (128 + X % 128))
      have hs2 : (vs (X / 128)).size ≤ 10 := vs_le (by omega)
      rw [← vs_hi (by omega)]
      obtain ⟨B, hB⟩ : ∃ B, B = b1 (UInt8.ofNat (128 + X % 128)) := ⟨_, rfl⟩
      rw [← hB] at hcv hs1 ⊢
      clear hB e
      have hc := fun W => ih (X / 128) W (by rw [Nat.div_lt_iff_lt_mul (by omega)]; rw [Nat.pow_succ] at h; exact h) (by omega)
      obtain ⟨V, hV⟩ : ∃ V, V = vs (X / 128) := ⟨_, rfl⟩
      rw [← hV] at hc hs2 ⊢
      rw [show ((X / 128 : Nat) : Int) = (X : Int) / 128 by omega] at hc
      have ht : (X : Int).tmod 128 = (X : Int) % 128 := Int.tmod_eq_emod_of_nonneg (by omega)
      have hw1 : IntKind.u64.wrap (128 + (X : Int) % 128) = 128 + (X : Int) % 128 := by rw [IntKind.wrap_u64]; omega
      have hw2 : IntKind.u8.wrap (128 + (X : Int) % 128) = 128 + (X : Int) % 128 := by rw [IntKind.wrap_u8]; omega
      have hw3 : IntKind.u64.wrap ((X : Int) / 128) = (X : Int) / 128 := by rw [IntKind.wrap_u64]; omega
      clear hV ih h
      go_enter Try.func31, Try.ntmps31
      go_wp2_with fail
      go_region_with ((go_at_call 31; refine (hc _).mono ?_; rintro e w1 ⟨rfl, hb⟩; try (have hcl := kept_cell hb)))
      all_goals
        go_wp2_with fail
        go_ret
        first | exact ⟨rfl, below_ac hb⟩ | exact ⟨rfl, below_ca hb⟩

end Go.Proofs.Ytihbibhmkpefgaa.Wr
