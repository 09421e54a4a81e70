/-
  DeltaSmall: what package delta's Encode makes of a base and a text of at most 4096 bytes each has at most 8 bytes more than the text; of a text that is the base itself, of 8 bytes or more, at most 8 bytes: the law returns true, and writes nothing that was there. No condition beside the sizes that every first form has.
-/
import Derived.Test.YtpfgijmhoenpkaaHLaw
import Derived.ProofKit
import Derived.OpenShut
import Derived.ChangeOld
import Derived.Below
import Derived.SizedLaws
import Derived.ShutString
import Derived.JoinedCond
import Derived.Deep.CondSized
namespace Go.Proofs.Ytpfgijmhoenpkaa.deltaSmall
open Go.ChangeMaps (open_string shut_string)
open Go.ChangeShapes Go.WideShapes Go.ChangeAt Go.RowKit Wm Wr Dm Dl
set_option linter.unusedVariables false

set_option maxRecDepth 100000 in
set_option maxHeartbeats 1000000 in
theorem walk (base text : ByteArray) (w : World) (hb : base.size ≤ 140737488351232) (ht : text.size ≤ 140737488351232) :
    Calls Try.prog 5 #[.string base, .string text] w fun e w' => e = .returned (.bool true) ∧ Below w.heap.size w w' := by
  by_cases h : 4096 < text.size ∨ 4096 < base.size
  · by_cases h1 : 4096 < text.size
    · have h1z : (4096 : Int) < (text.size : Int) := by omega
      go_enter Try.func5, Try.ntmps5
      go_wp2_with fail
      go_at_call 8
      refine (awake_any9 _).mono ?_
      rintro e w9 ⟨rfl, hb9⟩
      go_wp2_with fail
      go_at_call 8
      refine (awake_any9 _).mono ?_
      rintro e w4 ⟨rfl, hb4⟩
      have hbb := Wr.below_call hb9 hb4
      go_wp2_with fail
      go_ret
      exact ⟨rfl, hbb⟩
    · have h1z : ¬ ((4096 : Int) < (text.size : Int)) := by omega
      have h2z : (4096 : Int) < (base.size : Int) := by omega
      go_enter Try.func5, Try.ntmps5
      go_wp2_with fail
      go_at_call 8
      refine (awake_any9 _).mono ?_
      rintro e w9 ⟨rfl, hb9⟩
      go_wp2_with fail
      go_at_call 8
      refine (awake_any9 _).mono ?_
      rintro e w4 ⟨rfl, hb4⟩
      have hbb := Wr.below_call hb9 hb4
      go_wp2_with fail
      go_ret
      exact ⟨rfl, hbb⟩
  · have h1z : ¬ ((4096 : Int) < (text.size : Int)) := by omega
    have h2z : ¬ ((4096 : Int) < (base.size : Int)) := by omega
    have ce := fun W => encode_any base text W (by omega) (by omega)
    have hs := en_small base.data.toList text.data.toList (by rw [Wm.len_l]; omega) (by rw [Wm.len_l]; omega)
    rw [Wm.len_l, ← Tx.tb_size] at hs
    generalize Tx.tb (en base.data.toList text.data.toList) = D at ce hs
    have hsz : ¬ ((text.size : Int) + 8 < (D.size : Int)) := by omega
    by_cases h8 : base.size < 8
    · have h8z : (base.size : Int) < 8 := by omega
      go_enter Try.func5, Try.ntmps5
      go_wp2_with fail
      go_at_call 8
      refine (awake_any9 _).mono ?_
      rintro e w9 ⟨rfl, hb9⟩
      go_wp2_with fail
      go_at_call 9
      refine (ce _).mono ?_
      rintro e w4 ⟨rfl, hb4⟩
      have hbb := Wr.below_call hb9 hb4
      go_wp2_with fail
      go_ret
      exact ⟨rfl, hbb⟩
    · have h8z : ¬ ((base.size : Int) < 8) := by omega
      have ce2 := fun W => encode_any base base W (by omega) (by omega)
      have hs2 := en_same base.data.toList (by rw [Wm.len_l]; omega) (by rw [Wm.len_l]; omega)
      rw [← Tx.tb_size] at hs2
      generalize Tx.tb (en base.data.toList base.data.toList) = D2 at ce2 hs2
      have hsz2 : (D2.size : Int) ≤ 8 := by omega
      go_enter Try.func5, Try.ntmps5
      go_wp2_with fail
      go_at_call 8
      refine (awake_any9 _).mono ?_
      rintro e w9 ⟨rfl, hb9⟩
      go_wp2_with fail
      go_at_call 9
      refine (ce _).mono ?_
      rintro e w4 ⟨rfl, hb4⟩
      go_wp2_with fail
      go_at_call 9
      refine (ce2 _).mono ?_
      rintro e w5 ⟨rfl, hb5⟩
      have hbb := Wr.below_call (Wr.below_call hb9 hb4) hb5
      go_wp2_with fail
      go_ret
      exact ⟨rfl, hbb⟩

theorem own : ownKnob Try.prog.godebug = none := by kernel_rfl
theorem laidOut : laidOutB Try.prog = true := by kernel_rfl

set_option maxRecDepth 100000 in
theorem contract (H : Type) (enc : TypeId × Value → H) (W : World) (base : Nat) (args : Array Value) (ds gs : List (DataW H)) (before : List MemPlace)
    (hval0 : ∀ (j : Nat) t v, Try.f5.params[j]? = some t → args[j]? = some v → Value.okWide Try.prog W .any base t v)
    (hW : DataW.Whole enc Try.prog Try.f5.params.toList Rows.deltaSmallSpec.vars false W args.toList ds gs before)
    (hsz0 : (DataW.weightsEach Try.prog (Try.f5.params.toList ++ Rows.deltaSmallSpec.plain.varTypes Try.prog) (ds ++ gs)).all (· ≤ reachBytes) = true) :
    Calls Try.prog 5 args W fun e W' => ∃ v, e = .returned v ∧ Rows.deltaSmallSpec.post enc Try.prog Try.f5 false true false false W args v W' := by
  have hval : ∀ (j : Nat) t v, Try.f5.params[j]? = some t → args[j]? = some v → Value.okWide Try.prog W .any base t v := hval0
  have hsz := hsz0
  clear hsz0
  have hW' := hW
  obtain ⟨p, q, hA0, hV, rfl, hfz, hnd⟩ := hW
  have hA : DataW.TrodAll enc Try.prog W 0 (fun _ => true) true Try.f5.params.toList args.toList ds p := hA0
  rw [Try.params5] at hA hval hsz
  obtain ⟨v0, vs0, d0, ds0, p0, q0, hargs, rfl, rfl, h0, r0⟩ := trodAll_cons hA
  obtain ⟨v1, vs1, d1, ds1, p1, q1, rfl, rfl, rfl, h1, r1⟩ := trodAll_cons r0
  obtain ⟨rfl, rfl, rfl⟩ := trodAll_nil r1
  obtain rfl : args = #[v0, v1] := by cases args; simp_all
  obtain ⟨rfl, rfl⟩ := trodVars_none hV
  obtain ⟨s0, rfl, rfl, rfl, w0⟩ := open_string Try.underlying9 (hval 0 9 v0 rfl rfl) h0
  have hreach0 : s0.size ≤ 140737488351232 := by
    have := sized_string hsz (j := 0) (t := 9) rfl rfl
    simpa [reachBytes] using this
  obtain ⟨s1, rfl, rfl, rfl, w1⟩ := open_string Try.underlying9 (hval 1 9 v1 rfl rfl) h1
  have hreach1 : s1.size ≤ 140737488351232 := by
    have := sized_string hsz (j := 1) (t := 9) rfl rfl
    simpa [reachBytes] using this
  clear hA0 hval0
  refine (walk s0 s1 W hreach0 hreach1).mono fun e W' ⟨he, bel⟩ => ?_
  subst he
  exact ⟨_, rfl, _, _, _, [], _, [], hW', trodAll_mk1 (shut_bool Try.underlying4 _), (trodAll_cons_mk (shut_string Try.underlying9 w0) (trodAll_cons_mk (shut_string Try.underlying9 w1) trodAll_mk0)), rfl, bel.frame _, fun h => by cases h⟩

set_option maxRecDepth 100000 in
theorem lifted (os : Os) (started : os.Started) (H : Type) (enc : TypeId × Value → H) :
    ReturnsInHanded {} Try.checked os 5 .any (Rows.deltaSmallSpec.pre6 enc Try.prog Try.f5 Rows.deltaSmallRow.domain false) (Rows.deltaSmallSpec.post enc Try.prog Try.f5 false true false false) := by
  refine returnsInHanded_of_change_sized (C := Try.checked) own started (by kernel_rfl) Try.func5
    (ChangeSpec.witness6 (enc := enc) (C := Try.checked) false ⟨#[], #[.string ByteArray.empty, .string ByteArray.empty], []⟩ 8 (by kernel_rfl) (by kernel_rfl) (by kernel_rfl) (by kernel_rfl)) ?_
  intro W base args ds gs before hval0 hW _ hsz0 _
  exact contract H enc W base args ds gs before hval0 hW hsz0

theorem over : Rows.deltaSmallRow.holds Try.pinned (OpenSpec.ofChange Rows.deltaSmallSpec) :=
  OpenClaim.holds_of_wide 5 Try.f5 rfl rfl rfl rfl rfl rfl rfl ⟨rfl, rfl, rfl, rfl, rfl⟩ rfl rfl rfl rfl rfl (by kernel_rfl) Try.func5 (by kernel_rfl)
    (of_decide_eq_true (by kernel_rfl)) (by unfold Func.isWrapper; first | (rw [if_pos (by decide +kernel)]; kernel_rfl) | (rw [if_neg (by decide +kernel)]; exact ⟨rfl, rfl⟩))
    (fun os started H enc _ => lifted os started H enc)

end Go.Proofs.Ytpfgijmhoenpkaa.deltaSmall
namespace Go.Proofs.Ytpfgijmhoenpkaa
theorem deltaSmall_holds : Rows.DeltaSmallSaid := deltaSmall.over
#print axioms deltaSmall_holds
end Go.Proofs.Ytpfgijmhoenpkaa
