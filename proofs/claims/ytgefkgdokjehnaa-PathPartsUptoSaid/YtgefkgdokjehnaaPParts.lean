/-
  PathParts: up to the bound on the inputs.
-/
import Derived.Test.YtgefkgdokjehnaaPAwake
import Derived.ProofKit
import Derived.OpenShut
import Derived.ChangeOld
import Derived.Below
import Derived.SizedLaws
import Derived.ShutString
import Derived.JoinedCond
import Derived.Deep.CondSized
namespace Go.Proofs.Ytgefkgdokjehnaa.pathParts
open Go.ChangeMaps (open_string shut_string)
open Go.ChangeShapes Go.WideShapes Go.ChangeAt Go.RowKit Pm Tx Pr
set_option linter.unusedVariables false

set_option maxRecDepth 100000 in
set_option maxHeartbeats 1000000 in
theorem walk (p q : ByteArray) (w : World) (hs : p.size ≤ 1048576) (ht : q.size ≤ 1048576) :
    Calls Try.prog 4 #[.string p, .string q] w fun e w' => e = .returned (.bool true) ∧ Below w.heap.size w w' := by
  have c1 := fun W => pParent_any p W (by omega)
  have c2 := fun W => refParent_any p W (by omega)
  have c3 := fun W => pBase_any p W (by omega)
  have c4 := fun W => refBase_any p W (by omega)
  have c5 := fun W => pJoin_any p q W (by omega)
  have c6 := fun W => refJoin_any p q W (by omega)
  have c7 := fun W => pUnder_any p q W (by omega) (by omega)
  have c8 := fun W => refUnder_any p q W (by omega) (by omega)
  have c9 := fun W => pDeep_any p W (by omega)
  have c10 := fun W => refDeep_any p W (by omega)
  obtain ⟨A, hA⟩ : ∃ A, A = tb (par p.data.toList) := ⟨_, rfl⟩
  obtain ⟨B, hB⟩ : ∃ B, B = tb (bas p.data.toList) := ⟨_, rfl⟩
  obtain ⟨J, hJ⟩ : ∃ J, J = tb (joi p.data.toList q.data.toList) := ⟨_, rfl⟩
  obtain ⟨U, hU⟩ : ∃ U, U = und p.data.toList q.data.toList := ⟨_, rfl⟩
  obtain ⟨D, hD⟩ : ∃ D, D = dep p.data.toList := ⟨_, rfl⟩
  rw [← hA] at c1 c2
  rw [← hB] at c3 c4
  rw [← hJ] at c5 c6
  rw [← hU] at c7 c8
  rw [← hD] at c9 c10
  clear hA hB hJ hU hD
  have eA : (A.toList == A.toList) = true := beq_self_eq_true _
  have eB : (B.toList == B.toList) = true := beq_self_eq_true _
  have eJ : (J.toList == J.toList) = true := beq_self_eq_true _
  go_enter Try.func4, Try.ntmps4
  go_wp2_with (first
    | (go_at_call 7; refine (awake_any3 _).mono ?_; rintro e wa ⟨rfl, hb1⟩)
    | (go_at_call 12; refine (c1 _).mono ?_; rintro e wb ⟨rfl, hb2⟩)
    | (go_at_call 13; refine (c2 _).mono ?_; rintro e wc ⟨rfl, rfl⟩)
    | (go_at_call 14; refine (c3 _).mono ?_; rintro e wd ⟨rfl, hb3⟩)
    | (go_at_call 15; refine (c4 _).mono ?_; rintro e we ⟨rfl, rfl⟩)
    | (go_at_call 16; refine (c5 _).mono ?_; rintro e wf ⟨rfl, hb4⟩)
    | (go_at_call 17; refine (c6 _).mono ?_; rintro e wg ⟨rfl, rfl⟩)
    | (go_at_call 18; refine (c7 _).mono ?_; rintro e wh ⟨rfl, hb5⟩)
    | (go_at_call 19; refine (c8 _).mono ?_; rintro e wi ⟨rfl, rfl⟩)
    | (go_at_call 20; refine (c9 _).mono ?_; rintro e wj ⟨rfl, hb6⟩)
    | (go_at_call 21; refine (c10 _).mono ?_; rintro e wk ⟨rfl, hb7⟩))
  go_ret
  exact ⟨rfl, below_call (below_call (below_call (below_call (below_call (below_call hb1 hb2) hb3) hb4) hb5) hb6) hb7⟩

theorem own : ownKnob Try.prog.godebug = none := by kernel_rfl
theorem laidOut : laidOutB Try.prog = true := by kernel_rfl

theorem contract (H : Type) (enc : TypeId × Value → H) (W : World) (base : Nat) (args : Array Value) (ds gs : List (DataW H)) (before : List MemPlace)
    (hval0 : ∀ (j : Nat) t v, Try.f4.params[j]? = some t → args[j]? = some v → Value.okWide Try.prog W .any base t v)
    (hW : DataW.Whole enc Try.prog Try.f4.params.toList Rows.pathPartsSpec.vars false W args.toList ds gs before)
    (hk : Rows.uptoSmall H (ds ++ gs) = true)
    (hsz0 : (DataW.weightsEach Try.prog (Try.f4.params.toList ++ Rows.pathPartsSpec.plain.varTypes Try.prog) (ds ++ gs)).all (· ≤ reachBytes) = true) :
    Calls Try.prog 4 args W fun e W' => ∃ v, e = .returned v ∧ Rows.pathPartsSpec.post enc Try.prog Try.f4 false true false false W args v W' := by
  have hval : ∀ (j : Nat) t v, Try.f4.params[j]? = some t → args[j]? = some v → Value.okWide Try.prog W .any base t v := hval0
  have hsz := hsz0
  clear hsz0
  have hW' := hW
  obtain ⟨p, q, hA0, hV, rfl, hfz, hnd⟩ := hW
  have hA : DataW.TrodAll enc Try.prog W 0 (fun _ => true) true Try.f4.params.toList args.toList ds p := hA0
  rw [Try.params4] at hA hval hsz
  obtain ⟨v0, vs0, d0, ds0, p0, q0, hargs, rfl, rfl, h0, r0⟩ := trodAll_cons hA
  obtain ⟨v1, vs1, d1, ds1, p1, q1, rfl, rfl, rfl, h1, r1⟩ := trodAll_cons r0
  obtain ⟨rfl, rfl, rfl⟩ := trodAll_nil r1
  obtain rfl : args = #[v0, v1] := by cases args; simp_all
  obtain ⟨rfl, rfl⟩ := trodVars_none hV
  obtain ⟨s0, rfl, rfl, rfl, w0⟩ := open_string Try.underlying9 (hval 0 9 v0 rfl rfl) h0
  have hreach0 : s0.size ≤ 140737488351232 := by
    have := sized_string hsz (j := 0) (t := 9) rfl rfl
    simpa [reachBytes] using this
  obtain ⟨s1, rfl, rfl, rfl, w1⟩ := open_string Try.underlying9 (hval 1 9 v1 rfl rfl) h1
  have hreach1 : s1.size ≤ 140737488351232 := by
    have := sized_string hsz (j := 1) (t := 9) rfl rfl
    simpa [reachBytes] using this
  clear hA0 hval0
  have hbulk : s0.size + s1.size ≤ 1048576 := by
    have h := of_decide_eq_true hk
    rw [List.append_nil] at h
    have x : Rows.uptoBulkAll [DataW.lit (H := H) (.string s0.data.toList), DataW.lit (.string s1.data.toList)] = (s0.data.toList.length + 1) + ((s1.data.toList.length + 1) + 0) := rfl
    rw [x, len_l, len_l] at h
    omega
  refine (walk s0 s1 W (by omega) (by omega)).mono fun e W' ⟨he, bel⟩ => ?_
  subst he
  exact ⟨_, rfl, _, _, _, [], _, [], hW', trodAll_mk1 (shut_bool Try.underlying4 _), (trodAll_cons_mk (shut_string Try.underlying9 w0) (trodAll_cons_mk (shut_string Try.underlying9 w1) trodAll_mk0)), rfl, bel.frame _, fun h => by cases h⟩

set_option maxRecDepth 100000 in
theorem lifted (os : Os) (started : os.Started) (H : Type) (enc : TypeId × Value → H) (F : Stop.Interp) :
    ReturnsInHanded {} Try.checked os 4 .any ((Rows.OpenSpec.upto Rows.pathPartsSpec).pre6 enc Try.prog Try.f4 Rows.pathPartsUptoRow.domain false) (((Rows.OpenSpec.upto Rows.pathPartsSpec).at F).post enc Try.prog Try.f4 false true false false) := by
  refine returnsInHanded_of_cond_sized (C := Try.checked) (s := Rows.OpenSpec.upto Rows.pathPartsSpec) (k := Rows.uptoSmall) rfl own started (by kernel_rfl) Try.func4
    (OpenSpec.witness (enc := enc) (C := Try.checked) (s := Rows.OpenSpec.upto Rows.pathPartsSpec) (k := Rows.uptoSmall) rfl false ⟨#[], #[.string ByteArray.empty, .string ByteArray.empty], []⟩ 8 (by kernel_rfl) (by kernel_rfl) (by kernel_rfl)
      (x := ([.lit (.string []), .lit (.string [])], [], [])) (by kernel_rfl) rfl (by kernel_rfl)) ?_
  intro W base args ds gs before hval hW _ hk hsz0 _
  exact contract H enc W base args ds gs before hval hW hk hsz0

theorem over : Rows.pathPartsUptoRow.holds Try.pinned (Rows.OpenSpec.upto Rows.pathPartsSpec) :=
  OpenClaim.holds_of_cond 4 Try.f4 rfl rfl rfl rfl rfl rfl rfl ⟨rfl, rfl, rfl, rfl, rfl⟩ rfl rfl rfl rfl rfl (by kernel_rfl) Try.func4 (by kernel_rfl)
    (of_decide_eq_true (by kernel_rfl)) (by unfold Func.isWrapper; first | (rw [if_pos (by decide +kernel)]; kernel_rfl) | (rw [if_neg (by decide +kernel)]; exact ⟨rfl, rfl⟩))
    (fun os started H enc _ F => lifted os started H enc F)

end Go.Proofs.Ytgefkgdokjehnaa.pathParts
namespace Go.Proofs.Ytgefkgdokjehnaa
theorem pathPartsUpto_holds : Rows.PathPartsUptoSaid := pathParts.over
#print axioms pathPartsUpto_holds
end Go.Proofs.Ytgefkgdokjehnaa
