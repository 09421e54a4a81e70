/- What the statements' own 'awake' of paths answers: true. -/
import Derived.Test.YtgefkgdokjehnaaPImpl
namespace Go.Proofs.Ytgefkgdokjehnaa.Pr
open Go.RowKit Pm Tx
set_option linter.unusedVariables false

set_option maxRecDepth 100000 in
theorem awake_any3 (w : World) : Calls Try.prog 7 #[] w fun e w' => e = .returned (.bool true) ∧ Below w.heap.size w w' := by
  have c1 := fun W => pCheck_any ⟨#[97, 47, 98, 95, 49]⟩ 2 W (by decide) (by omega) (by omega)
  rw [show chk (ByteArray.mk #[97, 47, 98, 95, 49]).data.toList 2 = 0 by decide] at c1
  have c2 := fun W => pCheck_any ⟨#[97, 47, 66]⟩ 2 W (by decide) (by omega) (by omega)
  rw [show chk (ByteArray.mk #[97, 47, 66]).data.toList 2 = 10 by decide] at c2
  have c3 := fun W => pParent_any ⟨#[97, 47, 98, 47, 99]⟩ W (by decide)
  rw [show par (ByteArray.mk #[97, 47, 98, 47, 99]).data.toList = [97, 47, 98] by decide] at c3
  have c4 := fun W => pUnder_any ⟨#[97, 47, 98]⟩ ⟨#[97]⟩ W (by decide) (by decide)
  rw [show und (ByteArray.mk #[97, 47, 98]).data.toList (ByteArray.mk #[97]).data.toList = true by decide] at c4
  have c5 := fun W => pUnder_any ⟨#[97, 98]⟩ ⟨#[97]⟩ W (by decide) (by decide)
  rw [show und (ByteArray.mk #[97, 98]).data.toList (ByteArray.mk #[97]).data.toList = false by decide] at c5
  have e3 : tb [97, 47, 98] = ⟨#[97, 47, 98]⟩ := rfl
  rw [e3] at c3
  clear e3
  go_enter Try.func7, Try.ntmps7
  go_wp2_with fail
  go_at_call 8
  refine (c1 _).mono ?_
  rintro e w1 ⟨rfl, hb1⟩
  go_wp2_with fail
  go_at_call 8
  refine (c2 _).mono ?_
  rintro e w2 ⟨rfl, hb2⟩
  go_wp2_with (go_at_call 12; refine (c3 _).mono ?_; rintro e w3 ⟨rfl, hb3⟩)
  go_at_call 18
  refine (c4 _).mono ?_
  rintro e w4 ⟨rfl, hb4⟩
  go_wp2_with fail
  go_at_call 18
  refine (c5 _).mono ?_
  rintro e w5 ⟨rfl, hb5⟩
  go_wp2_with fail
  go_ret
  exact ⟨rfl, below_call (below_call (below_call (below_call hb1 hb2) hb3) hb4) hb5⟩

end Go.Proofs.Ytgefkgdokjehnaa.Pr
