/- Roomy of whatever list, and what its answer is good for. -/
import Derived.Test.YthokkobmlhbfgaaTAwake
import Derived.Test.YthokkobmlhbfgaaEApart3
namespace Go.Proofs.Ythokkobmlhbfgaa.En
open Go.RowKit Tx Pm Pr
set_option linter.unusedVariables false

set_option maxRecDepth 100000 in
set_option maxHeartbeats 1000000 in
theorem roomy_zero (x : Addr) (c : Nat) (w : World) :
    Calls Try.prog 8 #[.slice (some x) 0 c] w (RoomyTo [] w) := by
  obtain ⟨i0, hi, hz0, hz1, hz2⟩ := info_parts infoE
  have hB : ∀ o, Below w.heap.size w (w.alloc o) := fun o => (Below.refl _ _).alloc (Nat.le_refl _) _
  have hown0 := World.ownsRow_made (base := w.heap.size) (e := 51) (size := 3) w #[] 0 (Nat.le_refl _) (Nat.zero_le _) rfl
  have hB0 := hB (.cells #[] 51)
  have he : (w.alloc (.cells #[] 51)).heap.size = w.heap.size + 1 := by simp
  go_enter Try.func8, Try.ntmps8
  go_wp2_with ((at_builtin; refine wpList_append_own _ rfl _ _ 22 rfl w.heap.size 51 i0 (.agg #[.string ⟨#[]⟩, .int .i64 0, .string ⟨#[]⟩]) 3 40 Try.underlying22 hi hz0 hz1 hz2 rfl (by decide) _ _ _ rfl (hown0.alloc _) ⟨w.heap.size + 1, 0, none⟩ 1 1 (cells spare) rfl rfl ?c1 ?c2 ?c3 ?c4 ?c5 ?_))
  case c1 =>
    rw [← he]
    exact cell_three_new _ _ _ _ _
  case c2 => exact cells_one spare
  case c3 => unfold maxLen; omega
  case c4 => omega
  case c5 => simp; omega
  intro v2 w2 hown2 hgrow2 _
  have hB2 := below_step hB0 hown0 hgrow2
  obtain ⟨g, cap, rfl, hcap, hcap2⟩ := own_shape hown2 (by omega)
  have hO : Own w2 w.heap.size (.slice (some ⟨g, 0, none⟩) (([] : List Et).length + 1) cap) ([] ++ [spare]) := by
    unfold Own
    exact hown2
  have hR := hB2
  unfold maxLen at hcap2
  clear hown2 hgrow2 hB2 hB hown0
  go_wp2_with fail
  go_ret
  exact ⟨g, cap, rfl, hO, hR⟩


theorem refRoomy_all (a : Option Addr) (n c : Nat) (l : List Et) (w : World) (hl : Ents w a n l) (hnil : a = none → c = 0) (hn : n ≤ 1000000000000) :
    Calls Try.prog 8 #[.slice a n c] w (RoomyTo l w) := by
  by_cases h0 : n = 0
  · subst h0
    obtain rfl : l = [] := List.length_eq_zero_iff.1 hl.1
    cases a with
    | none =>
      obtain rfl := hnil rfl
      exact roomy_none w
    | some x => exact roomy_zero x c w
  · obtain ⟨b, off, rfl, hb, hc⟩ := hl.2.resolve_left h0
    exact roomy_some b off n c l w hl.1 (.inl hb) hc hn
/-- What Roomy answers, as the others take it. -/
theorem roomy_form {l : List Et} {w w' : World} {e : Ending} (h : RoomyTo l w e w') : ∃ g cap, e = .returned (.slice (some ⟨g, 0, none⟩) l.length cap) ∧ Own w' w.heap.size (.slice (some ⟨g, 0, none⟩) (l.length + 1) cap) (l ++ [spare]) ∧ Ents w' (some ⟨g, 0, none⟩) (l.length + 1) (l ++ [spare]) ∧ Ents w' (some ⟨g, 0, none⟩) l.length l ∧ l.length + 1 ≤ cap ∧ cap ≤ 9223372036854775807 ∧ w.heap.size ≤ g ∧ g < w'.heap.size ∧ Below w.heap.size w w' := by
  obtain ⟨g, cap, he, ho, hb⟩ := h
  obtain ⟨a, k, hv, hen, h1, h2⟩ := Own.form ho
  injection hv with hv1 hv2 hv3
  subst hv1
  subst hv3
  rw [List.length_append] at hen h1
  have hen2 := hen.take (m := l.length) (by simp)
  rw [List.take_append_of_le_length (Nat.le_refl _), List.take_of_length_le (Nat.le_refl _)] at hen2
  unfold maxLen at h2
  refine ⟨g, cap, he, ho, hen, hen2, h1, h2, ?_, ?_, hb⟩
  · rcases ho.2 with ⟨hv, _⟩ | ⟨g', cap', cur, hv, hg, hh, _⟩
    · cases hv
    · injection hv with hv
      injection hv with hv
      injection hv with hv
      subst hv
      exact hg
  · rcases ho.2 with ⟨hv, _⟩ | ⟨g', cap', cur, hv, hg, hh, _⟩
    · cases hv
    · injection hv with hv
      injection hv with hv
      injection hv with hv
      subst hv
      exact (Array.getElem?_eq_some_iff.1 hh).1
end Go.Proofs.Ythokkobmlhbfgaa.En
