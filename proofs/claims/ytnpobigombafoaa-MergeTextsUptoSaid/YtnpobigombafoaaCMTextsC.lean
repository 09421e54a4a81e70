/-
  MergeTexts: of every three texts: the merged text, how many conflicts it has, and the refusal, are the document's.
  It is said of the code of package merge as it landed, for every argument of the given row's domain, in the second form: what comes in is of bulk at most 1048576. The law returns true, and writes nothing that was there. No other condition.
-/
import Derived.Test.YtnpobigombafoaaT4
import Derived.ProofKit
import Derived.Deep.CondSized
import Derived.OpenShut
import Derived.ShutString
import Derived.ChangeOld
import Derived.Below
import Derived.JoinedCond
namespace Go.Proofs.Ytnpobigombafoaa.mergeTexts
open Go.ChangeMaps (open_string shut_string)
open Go.ChangeShapes Go.WideShapes Go.ChangeAt Go.RowKit Tx Um Ud Aq Km Kd Lm Ln Mg
set_option linter.unusedVariables false
theorem same_text (s : ByteArray) : (s.toList == s.toList) = true := beq_self_eq_true _
set_option maxRecDepth 100000 in
set_option maxHeartbeats 2000000 in
theorem walk {Q : ByteArray → ByteArray → ByteArray → Prop} (hM : Impl Q) (s t u : ByteArray) (w : World) (hs : s.size ≤ 8796093022207) (ht : t.size ≤ 8796093022207) (hu : u.size ≤ 8796093022207) (q : Q s t u) :
    Calls Try.prog 4 #[.string s, .string t, .string u] w fun e w' => e = .returned (.bool true) ∧ Below w.heap.size w w' := by
  have c1 := fun w1 => hM.merge s t u w1 q
  have c2 := fun w1 => refMerge_any s t u w1 hs ht hu
  unfold MgTo at c1 c2
  obtain ⟨X, hX⟩ : ∃ X, X = mtx s t u := ⟨_, rfl⟩
  obtain ⟨n, hn⟩ : ∃ n, n = mcf s t u := ⟨_, rfl⟩
  obtain ⟨er, her⟩ : ∃ er, er = err3 s t u := ⟨_, rfl⟩
  rw [← hX, ← hn, ← her] at c1 c2
  have g1 := same_text X
  have g2 : ((n : Int) == (n : Int)) = true := beq_self_eq_true _
  have g3 : ((er : Int) == (er : Int)) = true := beq_self_eq_true _
  have C1 := Lib.hid c1
  have C2 := Lib.hid c2
  clear c1 c2 hX hn her
  go_enter Try.func4, Try.ntmps4
  go_wp2_with fail
  go_at_call 14
  refine (C1.out _).mono ?_
  rintro e w1 ⟨rfl, hb1⟩
  go_wp2_with fail
  go_at_call 15
  refine (C2.out _).mono ?_
  rintro e w2 ⟨rfl, hb2⟩
  have hB2 := below_call hb1 hb2
  go_wp2_with fail
  go_at_call 11
  refine (awake_any14 hM _).mono ?_
  rintro e w3 ⟨rfl, hb3⟩
  have hB3 := below_call hB2 hb3
  go_wp2_with fail
  go_ret
  exact ⟨rfl, hB3⟩
theorem own : ownKnob Try.prog.godebug = none := by kernel_rfl
theorem laidOut : laidOutB Try.prog = true := by kernel_rfl
set_option maxRecDepth 100000 in
theorem contract {Q : ByteArray → ByteArray → ByteArray → Prop} (hM : Impl Q) (H : Type) (enc : TypeId × Value → H) (W : World) (base : Nat) (args : Array Value) (ds gs : List (DataW H)) (before : List MemPlace)
    (hval0 : ∀ (j : Nat) t v, Try.f4.params[j]? = some t → args[j]? = some v → Value.okWide Try.prog W .any base t v)
    (hW : DataW.Whole enc Try.prog Try.f4.params.toList Rows.mergeTextsSpec.vars false W args.toList ds gs before)
    (hk : Rows.uptoSmall H (ds ++ gs) = true)
    (hsz0 : (DataW.weightsEach Try.prog (Try.f4.params.toList ++ Rows.mergeTextsSpec.plain.varTypes Try.prog) (ds ++ gs)).all (· ≤ reachBytes) = true) :
    Calls Try.prog 4 args W fun e W' => ∃ v, e = .returned v ∧ Rows.mergeTextsSpec.post enc Try.prog Try.f4 false true false false W args v W' := by
  have hval : ∀ (j : Nat) t v, Try.f4.params[j]? = some t → args[j]? = some v → Value.okWide Try.prog W .any base t v := hval0
  have hsz := hsz0
  clear hsz0
  have hW' := hW
  obtain ⟨p, q, hA0, hV, rfl, hfz, hnd⟩ := hW
  have hA : DataW.TrodAll enc Try.prog W 0 (fun _ => true) true Try.f4.params.toList args.toList ds p := hA0
  rw [Try.params4] at hA hval hsz
  obtain ⟨v0, vs0, d0, ds0, p0, q0, hargs, rfl, rfl, h0, r0⟩ := trodAll_cons hA
  obtain ⟨v1, vs1, d1, ds1, p1, q1, rfl, rfl, rfl, h1, r1⟩ := trodAll_cons r0
  obtain ⟨v2, vs2, d2, ds2, p2, q2, rfl, rfl, rfl, h2, r2⟩ := trodAll_cons r1
  obtain ⟨rfl, rfl, rfl⟩ := trodAll_nil r2
  obtain rfl : args = #[v0, v1, v2] := by cases args; simp_all
  obtain ⟨rfl, rfl⟩ := trodVars_none hV
  obtain ⟨s0, rfl, rfl, rfl, w0⟩ := open_string Try.underlying9 (hval 0 9 v0 rfl rfl) h0
  have hreach0 : s0.size ≤ 140737488351232 := by
    have := sized_string hsz (j := 0) (t := 9) rfl rfl
    simpa [reachBytes] using this
  obtain ⟨s1, rfl, rfl, rfl, w1⟩ := open_string Try.underlying9 (hval 1 9 v1 rfl rfl) h1
  have hreach1 : s1.size ≤ 140737488351232 := by
    have := sized_string hsz (j := 1) (t := 9) rfl rfl
    simpa [reachBytes] using this
  obtain ⟨s2, rfl, rfl, rfl, w2⟩ := open_string Try.underlying9 (hval 2 9 v2 rfl rfl) h2
  have hreach2 : s2.size ≤ 140737488351232 := by
    have := sized_string hsz (j := 2) (t := 9) rfl rfl
    simpa [reachBytes] using this
  clear hA0 hval0
  have hbulk : s0.size + s1.size + s2.size ≤ 1048576 := by
    have h := of_decide_eq_true hk
    rw [List.append_nil] at h
    have x : Rows.uptoBulkAll [DataW.lit (H := H) (.string s0.data.toList), .lit (.string s1.data.toList), .lit (.string s2.data.toList)] = (s0.data.toList.length + 1) + ((s1.data.toList.length + 1) + ((s2.data.toList.length + 1) + 0)) := rfl
    rw [x, len_l, len_l, len_l] at h
    omega
  refine (walk hM s0 s1 s2 W (by omega) (by omega) (by omega) (hM.small _ _ _ (by omega))).mono fun e W' ⟨he, bel⟩ => ?_
  subst he
  exact ⟨_, rfl, _, _, _, [], _, [], hW', trodAll_mk1 (shut_bool Try.underlying4 _), (trodAll_cons_mk (shut_string Try.underlying9 w0) (trodAll_cons_mk (shut_string Try.underlying9 w1) (trodAll_cons_mk (shut_string Try.underlying9 w2) trodAll_mk0))), rfl, bel.frame _, fun h => by cases h⟩
set_option maxRecDepth 100000 in
theorem lifted {Q : ByteArray → ByteArray → ByteArray → Prop} (hM : Impl Q) (os : Os) (started : os.Started) (H : Type) (enc : TypeId × Value → H) (F : Stop.Interp) :
    ReturnsInHanded {} Try.checked os 4 .any ((Rows.OpenSpec.upto Rows.mergeTextsSpec).pre6 enc Try.prog Try.f4 Rows.mergeTextsUptoRow.domain false) (((Rows.OpenSpec.upto Rows.mergeTextsSpec).at F).post enc Try.prog Try.f4 false true false false) := by
  refine returnsInHanded_of_cond_sized (C := Try.checked) (s := Rows.OpenSpec.upto Rows.mergeTextsSpec) (k := Rows.uptoSmall) rfl own started (by kernel_rfl) Try.func4
    (OpenSpec.witness (enc := enc) (C := Try.checked) (s := Rows.OpenSpec.upto Rows.mergeTextsSpec) (k := Rows.uptoSmall) rfl false ⟨#[], #[.string ByteArray.empty, .string ByteArray.empty, .string ByteArray.empty], []⟩ 8 (by kernel_rfl) (by kernel_rfl) (by kernel_rfl)
      (x := ([.lit (.string []), .lit (.string []), .lit (.string [])], [], [])) (by kernel_rfl) rfl (by kernel_rfl)) ?_
  intro W base args ds gs before hval hW _ hk hsz0 _
  exact contract hM H enc W base args ds gs before hval hW hk hsz0
theorem over {Q : ByteArray → ByteArray → ByteArray → Prop} (hM : Impl Q) : Rows.mergeTextsUptoRow.holds Try.pinned (Rows.OpenSpec.upto Rows.mergeTextsSpec) :=
  OpenClaim.holds_of_cond 4 Try.f4 rfl rfl rfl rfl rfl rfl rfl ⟨rfl, rfl, rfl, rfl, rfl⟩ rfl rfl rfl rfl rfl (by kernel_rfl) Try.func4 (by kernel_rfl)
    (of_decide_eq_true (by kernel_rfl)) (by unfold Func.isWrapper; first | (rw [if_pos (by decide +kernel)]; kernel_rfl) | (rw [if_neg (by decide +kernel)]; exact ⟨rfl, rfl⟩))
    (fun os started H enc _ F => lifted hM os started H enc F)
end Go.Proofs.Ytnpobigombafoaa.mergeTexts

namespace Go.Proofs.Ytnpobigombafoaa
theorem mergeTextsUpto_holds : Rows.MergeTextsUptoSaid := mergeTexts.over Mg.impl
#print axioms mergeTextsUpto_holds
end Go.Proofs.Ytnpobigombafoaa
