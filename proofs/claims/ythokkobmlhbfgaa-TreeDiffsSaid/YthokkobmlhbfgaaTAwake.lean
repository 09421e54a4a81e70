/- What the statements' own 'awake' answers: true. -/
import Derived.Test.YthokkobmlhbfgaaTImpl
namespace Go.Proofs.Ythokkobmlhbfgaa.En
open Go.RowKit Tx Pm Pr
set_option linter.unusedVariables false

instance : DecidableEq Nd := fun a b => decidable_of_iff (a.kind = b.kind ∧ a.data = b.data) ⟨fun h => by cases a; cases b; simp at h; rw [h.1, h.2], fun h => by rw [h]; exact ⟨rfl, rfl⟩⟩
instance : DecidableEq Et := fun a b => decidable_of_iff (a.path = b.path ∧ a.node = b.node) ⟨fun h => by cases a; cases b; simp at h; rw [h.1, h.2], fun h => by rw [h]; exact ⟨rfl, rfl⟩⟩
theorem pair_form {l : List Et} {c : Nat} {w w' : World} {e : Ending} (h : PairTo (l, c) w e w') : ∃ a k, e = .returned (.tuple #[.slice a l.length k, .int .i64 (c : Int)]) ∧ Own w' w.heap.size (.slice a l.length k) l ∧ Ents w' a l.length l ∧ Below w.heap.size w w' := by
  obtain ⟨v, h1, h2, h3⟩ := h
  obtain ⟨a, k, hv, he, _, _⟩ := Own.form h2
  subst hv
  exact ⟨a, k, h1, h2, he, h3⟩

def eA : Et := ⟨⟨#[97]⟩, ⟨1, ⟨#[]⟩⟩⟩
def eX : Et := ⟨⟨#[97, 47, 120]⟩, ⟨2, ⟨#[104, 105]⟩⟩⟩
theorem put_a : tput [] ⟨#[97]⟩ ⟨1, ⟨#[]⟩⟩ = ([eA], 0) := by decide +kernel
theorem put_x : tput [eA] ⟨#[97, 47, 120]⟩ ⟨2, ⟨#[104, 105]⟩⟩ = ([eA, eX], 0) := by decide +kernel
theorem check_0 : tcheck [] = 0 := by decide +kernel
theorem check_a : tcheck [eA] = 0 := by decide +kernel
theorem check_x : tcheck [eA, eX] = 0 := by decide +kernel
theorem small_x : Small [eA, eX] := by
  intro x hx
  rcases List.mem_cons.1 hx with rfl | hx
  · exact ⟨by decide, by decide⟩
  · rcases List.mem_cons.1 hx with rfl | hx
    · exact ⟨by decide, by decide⟩
    · cases hx
theorem size_x : tsize [eA, eX] = 2 := by decide +kernel

set_option maxRecDepth 100000 in
set_option maxHeartbeats 1000000 in
theorem awake_any4 (w : World) : Calls Try.prog 9 #[] w fun e w' => e = .returned (.bool true) ∧ Below w.heap.size w w' := by
  have c1 := fun W => tPut_any none 0 0 [] ⟨#[97]⟩ ⟨1, ⟨#[]⟩⟩ W ⟨rfl, .inl rfl⟩ check_0 (by decide) (by decide) (fun _ => rfl) spot_none (by decide) (by decide)
  rw [put_a] at c1
  unfold nv at c1
  go_enter Try.func9, Try.ntmps9
  go_wp2_with fail
  go_at_call 27
  refine (c1 _).mono ?_
  intro e w1 hp1
  obtain ⟨a1, k1, rfl, ho1, he1, hb1⟩ := pair_form hp1
  obtain ⟨sp1, nl1, cp1, cm1⟩ := spot_own ho1
  have c2 := tPut_any a1 1 k1 [eA] ⟨#[97, 47, 120]⟩ ⟨2, ⟨#[104, 105]⟩⟩ w1 he1 check_a cp1 cm1 nl1 sp1 (by decide) (by decide)
  rw [put_x] at c2
  unfold nv at c2
  clear c1 he1 hp1 ho1 sp1 nl1 cp1 cm1
  go_wp2_with fail
  go_at_call 27
  refine c2.mono ?_
  intro e w2 hp2
  obtain ⟨a2, k2, rfl, ho2, he2, hb2'⟩ := pair_form hp2
  obtain ⟨sp2, nl2, cp2, cm2⟩ := spot_own ho2
  have cp2' : 2 ≤ k2 := cp2
  clear sp2 nl2 ho2 cp2
  have hb2 := below_call hb1 hb2'
  clear hp2 c2
  obtain ⟨b, off, rfl, hb, hc⟩ := he2.2.resolve_left (by decide)
  have hx := (hc 1 eX rfl).1
  unfold eX at hx
  simp only at hx
  have c3 := tSize_any (some ⟨b, off, none⟩) 2 k2 [eA, eX] w2 he2 check_x
  rw [size_x] at c3
  have c4 := fun W (h : Below w2.heap.size w2 W) => tCheck_any (some ⟨b, off, none⟩) 2 k2 [eA, eX] W (he2.below h) cp2' cm2 (by omega) small_x
  rw [check_x] at c4
  have hlen : ([eA, eX] : List Et).length = 2 := rfl
  rw [hlen]
  clear hc he2 hlen cp2' cm2
  go_wp2_with fail
  go_at_call 20
  refine c3.mono ?_
  rintro e w3 ⟨rfl, hb3⟩
  go_wp2_with fail
  go_at_call 10
  refine (c4 _ hb3).mono ?_
  rintro e w4 ⟨rfl, hb4⟩
  go_wp2_with fail
  go_ret
  exact ⟨rfl, below_call (below_call hb2 hb3) hb4⟩
end Go.Proofs.Ythokkobmlhbfgaa.En
