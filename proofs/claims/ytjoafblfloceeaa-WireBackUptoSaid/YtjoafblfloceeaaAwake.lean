/- What the statements' own 'awake' answers: true. -/
import Derived.Test.YtjoafblfloceeaaPut
namespace Go.Proofs.Ytjoafblfloceeaa.Wr
open Go.RowKit Wm
set_option linter.unusedVariables false

theorem below_new {w w1 : World} {o : Obj} (h : Below w.heap.size w w1) : Below w.heap.size w (w1.alloc o) := h.alloc h.size o
theorem below_at {w w1 w2 : World} {b : Nat} (h : Below w.heap.size w w1) (hg : w1.grownBy w2 (some b)) (hb : w.heap.size ≤ b) : Below w.heap.size w w2 :=
  h.grown hg h.size (fun k hk => by injection hk with hk; omega)
theorem below_call {w w1 w2 : World} (h : Below w.heap.size w w1) (h2 : Below w1.heap.size w1 w2) : Below w.heap.size w w2 := h.trans (h2.mono h.size)

theorem vs300 : vs 300 = ⟨#[172, 2]⟩ := by
  rw [vs, vb_hi (by omega), vb_lo (by omega)]
  rfl
theorem us300 : us 300 = ⟨#[172, 2]⟩ := by
  rw [us, if_neg (by omega)]
  exact vs300
theorem ue300 : ue 300 = 0 := by rfl
theorem vs1 : vs (zz (-1)) = ⟨#[1]⟩ := by
  have : zz (-1) = 1 := by rfl
  rw [this, vs, vb_lo (by omega)]
  rfl
theorem tsab : ts ⟨#[97, 98]⟩ = ⟨#[2, 97, 98]⟩ := by
  rw [ts, vs, show (ByteArray.mk #[97, 98]).size = 2 from rfl, vb_lo (by omega)]
  apply ByteArray.ext
  rfl

set_option maxRecDepth 100000 in
set_option maxHeartbeats 400000 in
theorem awake_any (w : World) : Calls Try.prog 11 #[] w fun e w' => e = .returned (.bool true) ∧ Below w.heap.size w w' := by
  have c1 := fun W => putUint_any 300 W (by omega) (by omega)
  rw [us300, ue300] at c1
  have c2 := fun W => new_any ⟨#[172, 2]⟩ W
  have c3 := fun b W h => uint_any b ⟨#[172, 2]⟩ W h (by decide)
  have e3 : rdU (ByteArray.mk #[172, 2]).data.toList = (300, 2, 0) := by decide
  rw [e3] at c3
  have c4 := fun W => putInt_any (-1) W (by omega) (by omega)
  rw [vs1] at c4
  have c5 := fun W => putText_any ⟨#[97, 98]⟩ W (by decide)
  rw [tsab] at c5
  clear e3
  go_enter Try.func11, Try.ntmps11
  go_wp2_with (first
    | (go_at_call 9; refine (c1 _).mono ?_; rintro e w1 ⟨rfl, hb1⟩)
    | (go_at_call 17; refine (c2 _).mono ?_; rintro e w2 ⟨rfl, rfl⟩)
    | (go_at_call 20; refine (c3 _ _ (rat_new _ _)).mono ?_; rintro e w3 ⟨rfl, hR, hg⟩)
    | (go_at_call 12; refine (c4 _).mono ?_; rintro e w4 ⟨rfl, hb4⟩)
    | (go_at_call 14; refine (c5 _).mono ?_; rintro e w5 ⟨rfl, hb5⟩))
  go_ways
  go_outline
  go_ret
  exact ⟨rfl, below_call (below_call (below_at (below_new hb1) hg hb1.size) hb4) hb5⟩

end Go.Proofs.Ytjoafblfloceeaa.Wr
