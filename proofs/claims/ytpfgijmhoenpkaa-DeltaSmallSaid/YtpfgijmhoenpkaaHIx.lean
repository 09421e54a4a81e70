/- Package delta's index, as it lies in memory: the map of first places (Mf), the whole (Ix). -/
import Derived.Test.YtpfgijmhoenpkaaHMath
import Derived.Test.YtpfgijmhoenpkaaWrite
import Derived.Maps.Own
import Derived.Laws.OwnMore
namespace Go.Proofs.Ytpfgijmhoenpkaa.Dl
open Go.RowKit Wm Wr Dm
open Go.Maps (Keyed)
set_option linter.unusedVariables false

theorem zeroI (w : World) : (zeroValue 3).run Try.prog w = .ok (.int .i64 0) w := by kernel_rfl
theorem keyU : Keyed Try.prog 56 := Go.Maps.int_keyed Try.underlying56
theorem keyAt {k : Nat} (h : k < 4294967296) : keyOf Try.prog 56 (.int .u32 (k : Int)) = some (.int .u32 (k : Int)) :=
  Go.Maps.keyOf_int_mk Try.underlying56 (by simp [Lit.wf, IntKind.min, IntKind.max, IntKind.signed, IntKind.bits]; omega)
/-- Block b is a map that reads as f. -/
def Mf (w : World) (b n : Nat) (f : Nat → Nat) : Prop := ∃ D : DataW Unit, w.ownsMap Try.prog 56 (plainElem Try.prog 3) b n D ∧ Go.Maps.IsMap D ∧ ∀ k : Nat, D.atKey (.int .u32 (k : Int)) (.lit (.int .i64 0)) = .lit (.int .i64 (f k : Nat))
theorem Mf.lt {w : World} {b n : Nat} {f : Nat → Nat} (h : Mf w b n f) : b < w.heap.size := by
  obtain ⟨D, h, _⟩ := h
  exact h.lt
theorem Mf.kept {w w1 : World} {b n : Nat} {f : Nat → Nat} (h : Mf w b n f) (he : w1.heap[b]? = w.heap[b]?) : Mf w1 b n f := by
  obtain ⟨D, ⟨es, c, h1, h2⟩, r⟩ := h
  exact ⟨D, ⟨es, c, he.trans h1, h2⟩, r⟩
theorem Mf.look {w : World} {b n : Nat} {f : Nat → Nat} (h : Mf w b n f) {k : Nat} (hk : k < 4294967296) :
    (Instr.lookup 52 (.map (some b)) (.int .u32 (k : Int)) false).run Try.prog w = .ok (.int .i64 (f k : Nat)) w := by
  obtain ⟨D, ho, _, hr⟩ := h
  obtain ⟨c, hrun, hat, _⟩ := ho.lookup_int keyU Try.underlying52 Try.underlying3 (zeroI _) (keyAt hk)
  rw [hr k] at hat
  injection hat with hat
  injection hat with _ hat
  rw [hrun, hat]
theorem Mf.store {w : World} {b n : Nat} {f : Nat → Nat} (h : Mf w b n f) {k v : Nat} (hk : k < 4294967296) (hv : v ≤ 9223372036854775807) (hn : n < maxLen) :
    ∃ w', (Instr.mapUpdate 52 (.map (some b)) (.int .u32 (k : Int)) (.int .i64 (v : Int))).run Try.prog w = .ok () w' ∧ Mf w' b (n + 1) (fun q => if q = k then v else f q) ∧ w.grownBy w' (some b) := by
  obtain ⟨D, ho, hm, hr⟩ := h
  obtain ⟨w', hrun, ho', hg⟩ := ho.update keyU Try.underlying52 hn (keyAt hk) (plainElem_int Try.underlying3 (a := (v : Int)) (by simp [Lit.wf, IntKind.min, IntKind.max, IntKind.signed, IntKind.bits]; omega))
  refine ⟨w', hrun, ⟨_, ho', hm.put _ _, fun q => ?_⟩, hg⟩
  show _ = DataW.lit (.int .i64 ((if q = k then v else f q : Nat) : Int))
  by_cases he : q = k
  · subst he
    rw [Go.Maps.atKey_put_same hm (keyU.key (keyAt hk)), if_pos rfl]
  · rw [Go.Maps.atKey_put_other (fun e => he (by injection e with _ e; omega)), if_neg he]
    exact hr q
theorem mf_made (w : World) : Mf (w.alloc (.map #[] 0)) w.heap.size 0 (fun _ => 0) := ⟨_, World.ownsMap_made w _ _ _, ⟨[], rfl⟩, fun k => rfl⟩
end Go.Proofs.Ytpfgijmhoenpkaa.Dl
