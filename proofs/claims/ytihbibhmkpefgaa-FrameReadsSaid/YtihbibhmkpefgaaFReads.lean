/-
  FrameReads: for every string s and every int at: frame.Read answers at that place what the document's own Read answers of the bytes from there on, or refuses: the law returns true, and writes nothing that was there. No condition.
-/
import Derived.Test.YtihbibhmkpefgaaFAwake
import Derived.ProofKit
import Derived.OpenShut
import Derived.ChangeOld
import Derived.Below
import Derived.SizedLaws
import Derived.ShutString
namespace Go.Proofs.Ytihbibhmkpefgaa.frameReads
open Go.ChangeMaps (open_string shut_string)
open Go.ChangeShapes Go.WideShapes Go.ChangeAt Go.RowKit Wm Wr Fm Fr
set_option linter.unusedVariables false

theorem own : ownKnob Try.prog.godebug = none := by kernel_rfl
theorem laidOut : laidOutB Try.prog = true := by kernel_rfl

set_option maxRecDepth 100000 in
set_option maxHeartbeats 400000 in
theorem walk (s : ByteArray) (a : Int) (w : World) (hs : s.size ≤ 140737488351232) (h1 : -9223372036854775808 ≤ a) (h2 : a ≤ 9223372036854775807) :
    Calls Try.prog 4 #[.string s, .int .i64 a] w fun e w' => e = .returned (.bool true) ∧ Below w.heap.size w w' := by
  have c1 := fun W => fRead_any s a W (by omega) h1 h2
  by_cases hout : a < 0 ∨ (s.size : Int) < a
  · rw [frAt_out hout] at c1
    rcases hout with hout | hout
    all_goals
      go_enter Try.func4, Try.ntmps4
      go_wp2_with fail
      go_at_call 15
      refine (c1 _).mono ?_
      rintro e wa ⟨rfl, hb1⟩
      go_wp2_with fail
      go_at_call 8
      refine (awake_any2 _).mono ?_
      rintro e wb ⟨rfl, hb2⟩
      go_wp2_with fail
      go_at_call 8
      refine (awake_any2 _).mono ?_
      rintro e wc ⟨rfl, hb3⟩
      go_wp2_with fail
      go_ret
      exact ⟨rfl, below_call (below_call hb1 hb2) hb3⟩
  · obtain ⟨k, rfl⟩ : ∃ k : Nat, a = (k : Int) := ⟨a.toNat, by omega⟩
    have hk : k ≤ s.size := by omega
    have hk' : (k : Int) ≤ s.size := by omega
    clear hout
    have c2 := fun W => refRead_any (s.extract k s.size) W (by simp; omega)
    obtain ⟨t, n, e, h⟩ := trip (fr (s.extract k s.size))
    rw [h] at c2
    by_cases he : e = 0
    · subst he
      rw [frAt_ok hk h] at c1
      have hn := (fr_ok h).2.2.1
      rw [show (s.extract k s.size).size = s.size - k by simp] at hn
      clear h
      go_enter Try.func4, Try.ntmps4
      go_wp2_with (first
        | (go_at_call 15; refine (c1 _).mono ?_; rintro e wa ⟨rfl, hb1⟩)
        | (go_at_call 8; refine (awake_any2 _).mono ?_; rintro e wb ⟨rfl, hb2⟩)
        | (go_at_call 16; refine (c2 _).mono ?_; rintro e wc ⟨rfl, hb3⟩))
      go_ret
      exact ⟨rfl, below_call (below_call hb1 hb2) hb3⟩
    · rw [frAt_bad hk h he] at c1
      have e1 : ((e : Int) == 0) = false := by simp; omega
      have e2 : (!((e : Int) == 0)) = true := by simp; omega
      clear h he
      go_enter Try.func4, Try.ntmps4
      go_wp2_with (first
        | (go_at_call 15; refine (c1 _).mono ?_; rintro e wa ⟨rfl, hb1⟩)
        | (go_at_call 8; refine (awake_any2 _).mono ?_; rintro e wb ⟨rfl, hb2⟩)
        | (go_at_call 16; refine (c2 _).mono ?_; rintro e wc ⟨rfl, hb3⟩))
      go_ret
      exact ⟨rfl, below_call (below_call hb1 hb2) hb3⟩

set_option maxRecDepth 100000 in
theorem lifted (os : Os) (started : os.Started) (H : Type) (enc : TypeId × Value → H) :
    ReturnsInHanded {} Try.checked os 4 .any (Rows.frameReadsSpec.pre6 enc Try.prog Try.f4 Rows.frameReadsRow.domain false) (Rows.frameReadsSpec.post enc Try.prog Try.f4 false true false false) := by
  refine returnsInHanded_of_change_sized (C := Try.checked) own started (by kernel_rfl) Try.func4
    (ChangeSpec.witness6 (enc := enc) (C := Try.checked) false ⟨#[], #[.string ByteArray.empty, .int .i64 0], []⟩ 8 (by kernel_rfl) (by kernel_rfl) (by kernel_rfl) (by kernel_rfl)) ?_
  intro W base args ds gs before hval0 hW _ hsz0 _
  have hsz : (DataW.weightsEach Try.prog (Try.f4.params.toList ++ Rows.frameReadsSpec.plain.varTypes Try.prog) (ds ++ gs)).all (· ≤ reachBytes) = true := hsz0
  clear hsz0
  have hval : ∀ (j : Nat) t v, Try.f4.params[j]? = some t → args[j]? = some v → Value.okWide Try.prog W .any base t v := hval0
  have hW' := hW
  obtain ⟨p, q, hA0, hV, rfl, hfz, hnd⟩ := hW
  have hA : DataW.TrodAll enc Try.prog W 0 (fun _ => true) true Try.f4.params.toList args.toList ds p := hA0
  rw [Try.params4] at hA hval hsz
  obtain ⟨v0, vs0, d0, ds0, p0, q0, hargs, rfl, rfl, h0, r0⟩ := trodAll_cons hA
  obtain ⟨v1, vs1, d1, ds1, p1, q1, rfl, rfl, rfl, h1, r1⟩ := trodAll_cons r0
  obtain ⟨rfl, rfl, rfl⟩ := trodAll_nil r1
  obtain rfl : args = #[v0, v1] := by cases args; simp_all
  obtain ⟨rfl, rfl⟩ := trodVars_none hV
  obtain ⟨s1, rfl, rfl, rfl, w1⟩ := open_string Try.underlying9 (hval 0 9 v0 rfl rfl) h0
  obtain ⟨a0, rfl, rfl, rfl, w0⟩ := open_int Try.underlying3 (hval 1 3 v1 rfl rfl) h1
  have hreach : s1.size ≤ 140737488351232 := by
    have := sized_string hsz (j := 0) (t := 9) rfl rfl
    simpa [reachBytes] using this
  have bd : -9223372036854775808 ≤ a0 ∧ a0 ≤ 9223372036854775807 := by simpa [Lit.wf, IntKind.min, IntKind.max, IntKind.signed, IntKind.bits] using w0
  clear hA0 hval0
  simp only [List.append_nil] at hW'
  refine (walk s1 a0 W (by omega) bd.1 bd.2).mono fun e W' ⟨he, bel⟩ => ?_
  subst he
  exact ⟨_, rfl, _, _, _, [], [], [], hW', trodAll_mk1 (shut_bool Try.underlying4 _), (trodAll_cons_mk (shut_string Try.underlying9 w1) (trodAll_cons_mk (shut_int Try.underlying3 w0) trodAll_mk0)), rfl, bel.frame _, fun h => by cases h⟩

theorem over : Rows.frameReadsRow.holds Try.pinned (OpenSpec.ofChange Rows.frameReadsSpec) :=
  OpenClaim.holds_of_wide 4 Try.f4 rfl rfl rfl rfl rfl rfl rfl ⟨rfl, rfl, rfl, rfl, rfl⟩ rfl rfl rfl rfl rfl (by kernel_rfl) Try.func4 (by kernel_rfl)
    (of_decide_eq_true (by kernel_rfl)) (by unfold Func.isWrapper; first | (rw [if_pos (by decide +kernel)]; kernel_rfl) | (rw [if_neg (by decide +kernel)]; exact ⟨rfl, rfl⟩))
    (fun os started H enc _ => lifted os started H enc)

end Go.Proofs.Ytihbibhmkpefgaa.frameReads
namespace Go.Proofs.Ytihbibhmkpefgaa
theorem frameReads_holds : Rows.FrameReadsSaid := frameReads.over
#print axioms frameReads_holds
end Go.Proofs.Ytihbibhmkpefgaa
