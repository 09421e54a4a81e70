/-
  FramePacks: for every string s and every int: frame.Sum, frame.Pack and frame.Turn answer what the document's own functions answer: the law returns true, and writes nothing that was there. No condition.
-/
import Derived.Test.YtihbibhmkpefgaaFAwake
import Derived.ProofKit
import Derived.OpenShut
import Derived.ChangeOld
import Derived.Below
import Derived.SizedLaws
import Derived.ShutString
namespace Go.Proofs.Ytihbibhmkpefgaa.framePacks
open Go.ChangeMaps (open_string shut_string)
open Go.ChangeShapes Go.WideShapes Go.ChangeAt Go.RowKit Wm Wr Fm Fr
set_option linter.unusedVariables false

theorem own : ownKnob Try.prog.godebug = none := by kernel_rfl
theorem laidOut : laidOutB Try.prog = true := by kernel_rfl

set_option maxRecDepth 100000 in
set_option maxHeartbeats 400000 in
theorem walk (s : ByteArray) (n : Int) (w : World) (hs : s.size ≤ 140737488351232) (h1 : -9223372036854775808 ≤ n) (h2 : n ≤ 9223372036854775807) :
    Calls Try.prog 3 #[.string s, .int .i64 n] w fun e w' => e = .returned (.bool true) ∧ Below w.heap.size w w' := by
  have c1 := fun W => fSum_any s W (by unfold maxLen; omega)
  have c2 := fun W => refSum_any s W (by unfold maxLen; omega)
  have c3 := fun W => fPack_any s W (by omega)
  have c4 := fun W => refPack_any s W (by omega)
  have c5 := fun W => fTurn_any s n W (by omega) h1 h2
  have c6 := fun W => refTurn_any s n W (by omega) h1 h2
  obtain ⟨V, hV⟩ : ∃ V, V = fsum s.data.toList := ⟨_, rfl⟩
  rw [← hV] at c1 c2
  obtain ⟨U, hU⟩ : ∃ U, U = pk s := ⟨_, rfl⟩
  rw [← hU] at c3 c4
  obtain ⟨T, hT⟩ : ∃ T, T = tn s n := ⟨_, rfl⟩
  rw [← hT] at c5 c6
  clear hV hU hT
  go_enter Try.func3, Try.ntmps3
  go_wp2_with (first
    | (go_at_call 8; refine (awake_any2 _).mono ?_; rintro e wa ⟨rfl, hb1⟩)
    | (go_at_call 9; refine (c1 _).mono ?_; rintro e wb ⟨rfl, hb2⟩)
    | (go_at_call 10; refine (c2 _).mono ?_; rintro e wc ⟨rfl, rfl⟩)
    | (go_at_call 11; refine (c3 _).mono ?_; rintro e wd ⟨rfl, hb4⟩)
    | (go_at_call 12; refine (c4 _).mono ?_; rintro e we ⟨rfl, hb5⟩)
    | (go_at_call 13; refine (c5 _).mono ?_; rintro e wf ⟨rfl, hb6⟩)
    | (go_at_call 14; refine (c6 _).mono ?_; rintro e wg ⟨rfl, hb7⟩))
  go_ret
  exact ⟨rfl, below_call (below_call (below_call (below_call (below_call hb1 hb2) hb4) hb5) hb6) hb7⟩

set_option maxRecDepth 100000 in
theorem lifted (os : Os) (started : os.Started) (H : Type) (enc : TypeId × Value → H) :
    ReturnsInHanded {} Try.checked os 3 .any (Rows.framePacksSpec.pre6 enc Try.prog Try.f3 Rows.framePacksRow.domain false) (Rows.framePacksSpec.post enc Try.prog Try.f3 false true false false) := by
  refine returnsInHanded_of_change_sized (C := Try.checked) own started (by kernel_rfl) Try.func3
    (ChangeSpec.witness6 (enc := enc) (C := Try.checked) false ⟨#[], #[.string ByteArray.empty, .int .i64 0], []⟩ 8 (by kernel_rfl) (by kernel_rfl) (by kernel_rfl) (by kernel_rfl)) ?_
  intro W base args ds gs before hval0 hW _ hsz0 _
  have hsz : (DataW.weightsEach Try.prog (Try.f3.params.toList ++ Rows.framePacksSpec.plain.varTypes Try.prog) (ds ++ gs)).all (· ≤ reachBytes) = true := hsz0
  clear hsz0
  have hval : ∀ (j : Nat) t v, Try.f3.params[j]? = some t → args[j]? = some v → Value.okWide Try.prog W .any base t v := hval0
  have hW' := hW
  obtain ⟨p, q, hA0, hV, rfl, hfz, hnd⟩ := hW
  have hA : DataW.TrodAll enc Try.prog W 0 (fun _ => true) true Try.f3.params.toList args.toList ds p := hA0
  rw [Try.params3] at hA hval hsz
  obtain ⟨v0, vs0, d0, ds0, p0, q0, hargs, rfl, rfl, h0, r0⟩ := trodAll_cons hA
  obtain ⟨v1, vs1, d1, ds1, p1, q1, rfl, rfl, rfl, h1, r1⟩ := trodAll_cons r0
  obtain ⟨rfl, rfl, rfl⟩ := trodAll_nil r1
  obtain rfl : args = #[v0, v1] := by cases args; simp_all
  obtain ⟨rfl, rfl⟩ := trodVars_none hV
  obtain ⟨s1, rfl, rfl, rfl, w1⟩ := open_string Try.underlying9 (hval 0 9 v0 rfl rfl) h0
  obtain ⟨a0, rfl, rfl, rfl, w0⟩ := open_int Try.underlying3 (hval 1 3 v1 rfl rfl) h1
  have hreach : s1.size ≤ 140737488351232 := by
    have := sized_string hsz (j := 0) (t := 9) rfl rfl
    simpa [reachBytes] using this
  have bd : -9223372036854775808 ≤ a0 ∧ a0 ≤ 9223372036854775807 := by simpa [Lit.wf, IntKind.min, IntKind.max, IntKind.signed, IntKind.bits] using w0
  clear hA0 hval0
  simp only [List.append_nil] at hW'
  refine (walk s1 a0 W (by omega) bd.1 bd.2).mono fun e W' ⟨he, bel⟩ => ?_
  subst he
  exact ⟨_, rfl, _, _, _, [], [], [], hW', trodAll_mk1 (shut_bool Try.underlying4 _), (trodAll_cons_mk (shut_string Try.underlying9 w1) (trodAll_cons_mk (shut_int Try.underlying3 w0) trodAll_mk0)), rfl, bel.frame _, fun h => by cases h⟩

theorem over : Rows.framePacksRow.holds Try.pinned (OpenSpec.ofChange Rows.framePacksSpec) :=
  OpenClaim.holds_of_wide 3 Try.f3 rfl rfl rfl rfl rfl rfl rfl ⟨rfl, rfl, rfl, rfl, rfl⟩ rfl rfl rfl rfl rfl (by kernel_rfl) Try.func3 (by kernel_rfl)
    (of_decide_eq_true (by kernel_rfl)) (by unfold Func.isWrapper; first | (rw [if_pos (by decide +kernel)]; kernel_rfl) | (rw [if_neg (by decide +kernel)]; exact ⟨rfl, rfl⟩))
    (fun os started H enc _ => lifted os started H enc)

end Go.Proofs.Ytihbibhmkpefgaa.framePacks
namespace Go.Proofs.Ytihbibhmkpefgaa
theorem framePacks_holds : Rows.FramePacksSaid := framePacks.over
#print axioms framePacks_holds
end Go.Proofs.Ytihbibhmkpefgaa
