/-
  DeltaBack, up to the bound: what package delta's Encode makes of a base and a text (together of at most 1048576 values and letters) is applied as that text, if it has at most 4096 bytes, and is refused with ErrLimit else; encoded again it is the same: the law returns true, and writes nothing that was there. Condition: the bound of the second form.
-/
import Derived.Test.YtpfgijmhoenpkaaHLaw
import Derived.ProofKit
import Derived.OpenShut
import Derived.ChangeOld
import Derived.Below
import Derived.SizedLaws
import Derived.ShutString
import Derived.JoinedCond
import Derived.Deep.CondSized
namespace Go.Proofs.Ytpfgijmhoenpkaa.deltaBack
open Go.ChangeMaps (open_string shut_string)
open Go.ChangeShapes Go.WideShapes Go.ChangeAt Go.RowKit Wm Wr Dm Dl
set_option linter.unusedVariables false

set_option maxRecDepth 100000 in
set_option maxHeartbeats 1000000 in
theorem walk (base text : ByteArray) (w : World) (hb : base.size ≤ 1048576) (ht : text.size ≤ 1048576) :
    Calls Try.prog 4 #[.string base, .string text] w fun e w' => e = .returned (.bool true) ∧ Below w.heap.size w w' := by
  have ce := fun W => encode_any base text W (by omega) (by omega)
  have hap := ap_en base.data.toList text.data.toList (by rw [Wm.len_l]; omega) (by rw [Wm.len_l]; omega)
  rw [Wm.len_l] at hap
  obtain ⟨D, hD⟩ : ∃ D, D = Tx.tb (en base.data.toList text.data.toList) := ⟨_, rfl⟩
  have hDl : D.data.toList = en base.data.toList text.data.toList := by rw [hD]; rfl
  rw [← hD] at ce
  rw [← hDl] at hap
  have hDs : D.size ≤ 23068682 := by rw [← Wm.len_l, hDl]; exact en_len base text hb ht
  have ca := fun W => apply_any base D W (by unfold maxLen; omega) (by unfold maxLen; omega)
  rw [hap] at ca
  have hDD : (D.toList == D.toList) = true := beq_self_eq_true _
  clear hD hDl hap
  by_cases h4 : 4096 < text.size
  · rw [if_pos h4] at ca
    simp only at ca
    rw [show Tx.tb [] = (⟨#[]⟩ : ByteArray) from rfl] at ca
    have h4z : (4096 : Int) < (text.size : Int) := by omega
    go_enter Try.func4, Try.ntmps4
    go_wp2_with fail
    go_at_call 9
    refine (ce _).mono ?_
    rintro e w1 ⟨rfl, hb1⟩
    go_wp2_with fail
    go_at_call 6
    refine (ca _).mono ?_
    rintro e w2 ⟨rfl, hb2⟩
    go_wp2_with fail
    go_at_call 8
    refine (awake_any9 _).mono ?_
    rintro e w3 ⟨rfl, hb3⟩
    go_wp2_with fail
    go_at_call 8
    refine (awake_any9 _).mono ?_
    rintro e w4 ⟨rfl, hb4⟩
    have hbb := Wr.below_call (Wr.below_call (Wr.below_call hb1 hb2) hb3) hb4
    go_wp2_with fail
    go_ret
    exact ⟨rfl, hbb⟩
  · rw [if_neg h4] at ca
    simp only at ca
    rw [Tx.tb_of] at ca
    have h4z : ¬ ((4096 : Int) < (text.size : Int)) := by omega
    have hTT : (text.toList == text.toList) = true := beq_self_eq_true _
    go_enter Try.func4, Try.ntmps4
    go_wp2_with fail
    go_at_call 9
    refine (ce _).mono ?_
    rintro e w1 ⟨rfl, hb1⟩
    go_wp2_with fail
    go_at_call 6
    refine (ca _).mono ?_
    rintro e w2 ⟨rfl, hb2⟩
    go_wp2_with fail
    go_at_call 8
    refine (awake_any9 _).mono ?_
    rintro e w3 ⟨rfl, hb3⟩
    go_wp2_with fail
    go_at_call 9
    refine (ce _).mono ?_
    rintro e w4 ⟨rfl, hb4⟩
    have hbb := Wr.below_call (Wr.below_call (Wr.below_call hb1 hb2) hb3) hb4
    go_wp2_with fail
    go_ret
    exact ⟨rfl, hbb⟩

theorem own : ownKnob Try.prog.godebug = none := by kernel_rfl
theorem laidOut : laidOutB Try.prog = true := by kernel_rfl

set_option maxRecDepth 100000 in
theorem contract (H : Type) (enc : TypeId × Value → H) (W : World) (base : Nat) (args : Array Value) (ds gs : List (DataW H)) (before : List MemPlace)
    (hval0 : ∀ (j : Nat) t v, Try.f4.params[j]? = some t → args[j]? = some v → Value.okWide Try.prog W .any base t v)
    (hW : DataW.Whole enc Try.prog Try.f4.params.toList Rows.deltaBackSpec.vars false W args.toList ds gs before)
    (hk : Rows.uptoSmall H (ds ++ gs) = true)
    (hsz0 : (DataW.weightsEach Try.prog (Try.f4.params.toList ++ Rows.deltaBackSpec.plain.varTypes Try.prog) (ds ++ gs)).all (· ≤ reachBytes) = true) :
    Calls Try.prog 4 args W fun e W' => ∃ v, e = .returned v ∧ Rows.deltaBackSpec.post enc Try.prog Try.f4 false true false false W args v W' := by
  have hval : ∀ (j : Nat) t v, Try.f4.params[j]? = some t → args[j]? = some v → Value.okWide Try.prog W .any base t v := hval0
  have hsz := hsz0
  clear hsz0
  have hW' := hW
  obtain ⟨p, q, hA0, hV, rfl, hfz, hnd⟩ := hW
  have hA : DataW.TrodAll enc Try.prog W 0 (fun _ => true) true Try.f4.params.toList args.toList ds p := hA0
  rw [Try.params4] at hA hval hsz
  obtain ⟨v0, vs0, d0, ds0, p0, q0, hargs, rfl, rfl, h0, r0⟩ := trodAll_cons hA
  obtain ⟨v1, vs1, d1, ds1, p1, q1, rfl, rfl, rfl, h1, r1⟩ := trodAll_cons r0
  obtain ⟨rfl, rfl, rfl⟩ := trodAll_nil r1
  obtain rfl : args = #[v0, v1] := by cases args; simp_all
  obtain ⟨rfl, rfl⟩ := trodVars_none hV
  obtain ⟨s0, rfl, rfl, rfl, w0⟩ := open_string Try.underlying9 (hval 0 9 v0 rfl rfl) h0
  have hreach0 : s0.size ≤ 140737488351232 := by
    have := sized_string hsz (j := 0) (t := 9) rfl rfl
    simpa [reachBytes] using this
  obtain ⟨s1, rfl, rfl, rfl, w1⟩ := open_string Try.underlying9 (hval 1 9 v1 rfl rfl) h1
  have hreach1 : s1.size ≤ 140737488351232 := by
    have := sized_string hsz (j := 1) (t := 9) rfl rfl
    simpa [reachBytes] using this
  clear hA0 hval0
  have hbulk : s0.size ≤ 1048576 ∧ s1.size ≤ 1048576 := by
    have h := of_decide_eq_true hk
    rw [List.append_nil] at h
    have x : Rows.uptoBulkAll [DataW.lit (H := H) (.string s0.data.toList), DataW.lit (.string s1.data.toList)] = (s0.data.toList.length + 1) + ((s1.data.toList.length + 1) + 0) := rfl
    rw [x, Wm.len_l, Wm.len_l] at h
    omega
  refine (walk s0 s1 W hbulk.1 hbulk.2).mono fun e W' ⟨he, bel⟩ => ?_
  subst he
  exact ⟨_, rfl, _, _, _, [], _, [], hW', trodAll_mk1 (shut_bool Try.underlying4 _), (trodAll_cons_mk (shut_string Try.underlying9 w0) (trodAll_cons_mk (shut_string Try.underlying9 w1) trodAll_mk0)), rfl, bel.frame _, fun h => by cases h⟩

set_option maxRecDepth 100000 in
theorem lifted (os : Os) (started : os.Started) (H : Type) (enc : TypeId × Value → H) (F : Stop.Interp) :
    ReturnsInHanded {} Try.checked os 4 .any ((Rows.OpenSpec.upto Rows.deltaBackSpec).pre6 enc Try.prog Try.f4 Rows.deltaBackUptoRow.domain false) (((Rows.OpenSpec.upto Rows.deltaBackSpec).at F).post enc Try.prog Try.f4 false true false false) := by
  refine returnsInHanded_of_cond_sized (C := Try.checked) (s := Rows.OpenSpec.upto Rows.deltaBackSpec) (k := Rows.uptoSmall) rfl own started (by kernel_rfl) Try.func4
    (OpenSpec.witness (enc := enc) (C := Try.checked) (s := Rows.OpenSpec.upto Rows.deltaBackSpec) (k := Rows.uptoSmall) rfl false ⟨#[], #[.string ByteArray.empty, .string ByteArray.empty], []⟩ 8 (by kernel_rfl) (by kernel_rfl) (by kernel_rfl)
      (x := ([.lit (.string []), .lit (.string [])], [], [])) (by kernel_rfl) rfl (by kernel_rfl)) ?_
  intro W base args ds gs before hval hW _ hk hsz0 _
  exact contract H enc W base args ds gs before hval hW hk hsz0

theorem over : Rows.deltaBackUptoRow.holds Try.pinned (Rows.OpenSpec.upto Rows.deltaBackSpec) :=
  OpenClaim.holds_of_cond 4 Try.f4 rfl rfl rfl rfl rfl rfl rfl ⟨rfl, rfl, rfl, rfl, rfl⟩ rfl rfl rfl rfl rfl (by kernel_rfl) Try.func4 (by kernel_rfl)
    (of_decide_eq_true (by kernel_rfl)) (by unfold Func.isWrapper; first | (rw [if_pos (by decide +kernel)]; kernel_rfl) | (rw [if_neg (by decide +kernel)]; exact ⟨rfl, rfl⟩))
    (fun os started H enc _ F => lifted os started H enc F)

end Go.Proofs.Ytpfgijmhoenpkaa.deltaBack
namespace Go.Proofs.Ytpfgijmhoenpkaa
theorem deltaBackUpto_holds : Rows.DeltaBackUptoSaid := deltaBack.over
#print axioms deltaBackUpto_holds
end Go.Proofs.Ytpfgijmhoenpkaa
