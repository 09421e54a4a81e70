/- The document's varint, and what wire.Uint, Int, Text and the document's own answer: contracts. -/
import Derived.Test.YtpfgijmhoenpkaaWrite
import Derived.RegionTactic
import Derived.ChangeAlike
import Derived.Deep.RegionWith
namespace Go.Proofs.Ytpfgijmhoenpkaa.Wr
open Go.RowKit Wm
set_option linter.unusedVariables false

/-- One byte as a text. -/
def b1 (b : UInt8) : ByteArray := ⟨#[b]⟩
theorem b1_le (b : UInt8) : (b1 b).size ≤ 1 := Nat.le_refl _
theorem vs_le {x : Nat} (h : x < 18446744073709551616) : (vs x).size ≤ 10 := by rw [vs_size]; exact vb_len h
theorem vs_lo {x : Nat} (h : x < 128) : b1 (UInt8.ofNat x) = vs x := by rw [b1, vs, vb_lo h]
theorem vs_hi {x : Nat} (h : 128 ≤ x) : b1 (UInt8.ofNat (128 + x % 128)) ++ vs (x / 128) = vs x := by
  conv => rhs; rw [vs, vb_hi h]
  apply ByteArray.ext
  simp [b1, vs]
theorem conv_one (b : UInt8) (W : World) (g : Nat) (h : W.cell? ⟨g, 0, none⟩ = some (bv b)) : (convert 32 9 (.slice (some ⟨g, 0, none⟩) 1 1)).run Try.prog W = .ok (.string (b1 b)) W :=
  run_convert_bytes_back W 32 9 5 ⟨g, 0, none⟩ 1 [b] Try.underlying32 Try.underlying5 Try.underlying9 (fun j hj => by
    match j, hj with
    | 0, _ => exact h)

theorem kept_cell {w w1 : World} {v : Value} {t : TypeId} (hb : Below (w.alloc (.cells #[v] t)).drew.heap.size (w.alloc (.cells #[v] t)).drew w1) : w1.cell? ⟨w.heap.size, 0, none⟩ = some v := by
  refine (hb.cell (p := ⟨w.heap.size, 0, none⟩) ?_).trans ?_
  · simp
  · go_simp

theorem below_ac {w w1 : World} {o : Obj} (hb : Below (w.alloc o).drew.heap.size (w.alloc o).drew w1) : Below w.heap.size w w1 :=
  (((Below.refl _ _).alloc (Nat.le_refl _) o).drew).trans (hb.mono (by simp))
theorem below_ca {w w1 : World} {o : Obj} (hb : Below w.drew.heap.size w.drew w1) : Below w.heap.size w (w1.alloc o) :=
  ((Below.refl _ w).drew.trans hb).alloc hb.size o

end Go.Proofs.Ytpfgijmhoenpkaa.Wr
