/- What the statements' own 'awake' answers: true. -/
import Derived.Test.YtihbibhmkpefgaaFImpl
namespace Go.Proofs.Ytihbibhmkpefgaa.Fr
open Go.RowKit Wm Wr Fm
set_option linter.unusedVariables false

theorem crc9 : fsum (ByteArray.mk #[49, 50, 51, 52, 53, 54, 55, 56, 57]).data.toList = 3421780262 := by decide +kernel
theorem pk_a : pk ⟨#[97]⟩ = ⟨#[1, 97, 67, 190, 183, 232]⟩ := by
  have h : le4 (fsum [97]) = [67, 190, 183, 232] := by decide +kernel
  apply ByteArray.ext
  apply Array.toList_inj.1
  rw [pk_list, show (ByteArray.mk #[97]).size = 1 from rfl, vb_lo (by omega), show (ByteArray.mk #[97]).data.toList = [97] from rfl, h]
  rfl
theorem fr_a : frAt ⟨#[120, 1, 97, 67, 190, 183, 232, 121]⟩ 1 = (⟨#[97]⟩, 7, 0) := by
  have e : (ByteArray.mk #[120, 1, 97, 67, 190, 183, 232, 121]).extract (1 : Int).toNat (ByteArray.mk #[120, 1, 97, 67, 190, 183, 232, 121]).size = ⟨#[1, 97, 67, 190, 183, 232, 121]⟩ := by rfl
  have r : rdT ⟨#[1, 97, 67, 190, 183, 232, 121]⟩ = (⟨#[97]⟩, 2, 0) := by
    have u : rdU (ByteArray.mk #[1, 97, 67, 190, 183, 232, 121]).data.toList = (1, 1, 0) := by decide
    rw [rdT, u]
    rfl
  have f : fr ⟨#[1, 97, 67, 190, 183, 232, 121]⟩ = (⟨#[97]⟩, 6, 0) := by
    rw [fr, r, if_neg (fun h => h rfl), if_neg (by decide), if_neg]
    simp only [pk_a]
    intro h
    exact h rfl
  rw [frAt, e, f, if_neg (by decide), if_neg (fun h => h rfl)]
  rfl

set_option maxRecDepth 100000 in
theorem awake_any2 (w : World) : Calls Try.prog 8 #[] w fun e w' => e = .returned (.bool true) ∧ Below w.heap.size w w' := by
  have c1 := fun W => fRead_any ⟨#[120, 1, 97, 67, 190, 183, 232, 121]⟩ 1 W (by decide) (by omega) (by omega)
  rw [fr_a] at c1
  have c2 := fun W => fSum_any ⟨#[49, 50, 51, 52, 53, 54, 55, 56, 57]⟩ W (by decide)
  rw [crc9] at c2
  have c3 := fun W => fPack_any ⟨#[97]⟩ W (by decide)
  rw [pk_a] at c3
  go_enter Try.func8, Try.ntmps8
  go_wp2_with (first
    | (go_at_call 15; refine (c1 _).mono ?_; rintro e w1 ⟨rfl, hb1⟩)
    | (go_at_call 9; refine (c2 _).mono ?_; rintro e w2 ⟨rfl, hb2⟩)
    | (go_at_call 11; refine (c3 _).mono ?_; rintro e w3 ⟨rfl, hb3⟩))
  go_ret
  exact ⟨rfl, below_call (below_call hb1 hb2) hb3⟩

end Go.Proofs.Ytihbibhmkpefgaa.Fr
