/-
  MergeOne: of every three texts that can be merged: where just one side has changed, or both alike, that side is the merge, without a conflict; sides changed about make as many conflicts, and the same text where there are none.
  It is said of the code of package merge as it landed, for every argument of the given row's domain, in the second form: what comes in is of bulk at most 1048576. The law returns true, and writes nothing that was there. No other condition.
-/
import Derived.Test.YtnpobigombafoaaT4
import Derived.ProofKit
import Derived.Deep.CondSized
import Derived.OpenShut
import Derived.ShutString
import Derived.ChangeOld
import Derived.Below
import Derived.JoinedCond
namespace Go.Proofs.Ytnpobigombafoaa.mergeOne
open Go.ChangeMaps (open_string shut_string)
open Go.ChangeShapes Go.WideShapes Go.ChangeAt Go.RowKit Tx Um Ud Aq Km Kd Lm Ln Mg
set_option linter.unusedVariables false
theorem err_all {s t u : ByteArray} (hs : txt s = 0) (ht : txt t = 0) (hu : txt u = 0) : err3 s t u = 0 := by unfold err3; simp [hs, ht, hu]
theorem mtx_all {s t u : ByteArray} (h : err3 s t u = 0) : mtx s t u = txs (pcs3 s t u) ∧ mcf s t u = cfs (pcs3 s t u) := by unfold mtx mcf; rw [if_pos h, if_pos h]; exact ⟨rfl, rfl⟩
theorem same_text (s : ByteArray) : (s.toList == s.toList) = true := beq_self_eq_true _
set_option maxRecDepth 100000 in
set_option maxHeartbeats 2000000 in
theorem walk {Q : ByteArray → ByteArray → ByteArray → Prop} (hM : Impl Q) (s t u : ByteArray) (w : World) (hs : s.size ≤ 562949953421312) (ht : t.size ≤ 562949953421312) (hu : u.size ≤ 562949953421312) (q1 : Q s t s) (q2 : Q s s u) (q3 : Q s t t) (q4 : Q s t u) (q5 : Q s u t) :
    Calls Try.prog 6 #[.string s, .string t, .string u] w fun e w' => e = .returned (.bool true) ∧ Below w.heap.size w w' := by
  by_cases h0 : txt s = 0
  · by_cases h1 : txt t = 0
    · by_cases h2 : txt u = 0
      · have c1 := fun w1 => hM.merge s t s w1 q1
        have c2 := fun w1 => hM.merge s s u w1 q2
        have c3 := fun w1 => hM.merge s t t w1 q3
        have c4 := fun w1 => hM.merge s t u w1 q4
        have c5 := fun w1 => hM.merge s u t w1 q5
        unfold MgTo at c1 c2 c3 c4 c5
        obtain ⟨x1, y1⟩ := mtx_all (err_all h0 h1 h0)
        obtain ⟨x2, y2⟩ := mtx_all (err_all h0 h0 h2)
        obtain ⟨x3, y3⟩ := mtx_all (err_all h0 h1 h1)
        obtain ⟨x4, y4⟩ := mtx_all (err_all h0 h1 h2)
        obtain ⟨x5, y5⟩ := mtx_all (err_all h0 h2 h1)
        obtain ⟨m1, n1⟩ := merge_left s t
        obtain ⟨m2, n2⟩ := merge_right s u
        obtain ⟨m3, n3⟩ := merge_both s t
        obtain ⟨f1, f2⟩ := merge_flip s t u
        rw [err_all h0 h1 h0, x1, y1, m1, n1] at c1
        rw [err_all h0 h0 h2, x2, y2, m2, n2] at c2
        rw [err_all h0 h1 h1, x3, y3, m3, n3] at c3
        rw [err_all h0 h1 h2, x4, y4] at c4
        rw [err_all h0 h2 h1, x5, y5, f1] at c5
        obtain ⟨S, hS⟩ : ∃ S, S = txs (pcs3 s t u) := ⟨_, rfl⟩
        obtain ⟨T, hT⟩ : ∃ T, T = txs (pcs3 s u t) := ⟨_, rfl⟩
        obtain ⟨n, hn⟩ : ∃ n, n = cfs (pcs3 s t u) := ⟨_, rfl⟩
        rw [← hS, ← hn] at c4 f2
        rw [← hT, ← hn] at c5
        rw [← hT] at f2
        have g1 := same_text t
        have g2 := same_text u
        have C1 := Lib.hid c1
        have C2 := Lib.hid c2
        have C3 := Lib.hid c3
        have C4 := Lib.hid c4
        have C5 := Lib.hid c5
        have H0 := Lib.hid h0
        have H1 := Lib.hid h1
        have H2 := Lib.hid h2
        have gn : ((n : Int) == (n : Int)) = true := beq_self_eq_true _
        clear c1 c2 c3 c4 c5 x1 y1 x2 y2 x3 y3 x4 y4 x5 y5 m1 n1 m2 n2 m3 n3 f1 hS hT hn q1 q2 q3 q4 q5 h0 h1 h2
        by_cases hz : n = 0
        · obtain rfl := f2 hz
          subst hz
          have g3 := same_text T
          go_enter Try.func6, Try.ntmps6
          go_wp2_with fail
          go_at_call 11
          refine (awake_any14 hM _).mono ?_
          rintro e w1 ⟨rfl, hb1⟩
          go_wp2_with fail
          go_at_call 18
          refine (text_lines s _ (by omega)).mono ?_
          rintro e w1' ⟨rfl, rfl⟩
          rw [H0.out]
          go_wp2_with fail
          go_at_call 18
          refine (text_lines t _ (by omega)).mono ?_
          rintro e w1' ⟨rfl, rfl⟩
          rw [H1.out]
          go_wp2_with fail
          go_at_call 18
          refine (text_lines u _ (by omega)).mono ?_
          rintro e w1' ⟨rfl, rfl⟩
          rw [H2.out]
          go_wp2_with fail
          go_at_call 14
          refine (C1.out _).mono ?_
          rintro e w2 ⟨rfl, hb2⟩
          have hB2 := below_call hb1 hb2
          go_wp2_with fail
          go_at_call 14
          refine (C2.out _).mono ?_
          rintro e w3 ⟨rfl, hb3⟩
          have hB3 := below_call hB2 hb3
          go_wp2_with fail
          go_at_call 14
          refine (C3.out _).mono ?_
          rintro e w4 ⟨rfl, hb4⟩
          have hB4 := below_call hB3 hb4
          go_wp2_with fail
          go_at_call 14
          refine (C4.out _).mono ?_
          rintro e w5 ⟨rfl, hb5⟩
          have hB5 := below_call hB4 hb5
          go_wp2_with fail
          go_at_call 14
          refine (C5.out _).mono ?_
          rintro e w6 ⟨rfl, hb6⟩
          have hB6 := below_call hB5 hb6
          clear hb1 hb2 hb3 hb4 hb5 hb6 hB2 hB3 hB4 hB5
          go_wp2_with fail
          go_ret
          exact ⟨rfl, hB6⟩
        · have g4 : (0 : Int) < (n : Int) := by omega
          have g5 : decide ((0 : Int) < (n : Int)) = true := decide_eq_true g4
          clear f2
          go_enter Try.func6, Try.ntmps6
          go_wp2_with fail
          go_at_call 11
          refine (awake_any14 hM _).mono ?_
          rintro e w1 ⟨rfl, hb1⟩
          go_wp2_with fail
          go_at_call 18
          refine (text_lines s _ (by omega)).mono ?_
          rintro e w1' ⟨rfl, rfl⟩
          rw [H0.out]
          go_wp2_with fail
          go_at_call 18
          refine (text_lines t _ (by omega)).mono ?_
          rintro e w1' ⟨rfl, rfl⟩
          rw [H1.out]
          go_wp2_with fail
          go_at_call 18
          refine (text_lines u _ (by omega)).mono ?_
          rintro e w1' ⟨rfl, rfl⟩
          rw [H2.out]
          go_wp2_with fail
          go_at_call 14
          refine (C1.out _).mono ?_
          rintro e w2 ⟨rfl, hb2⟩
          have hB2 := below_call hb1 hb2
          go_wp2_with fail
          go_at_call 14
          refine (C2.out _).mono ?_
          rintro e w3 ⟨rfl, hb3⟩
          have hB3 := below_call hB2 hb3
          go_wp2_with fail
          go_at_call 14
          refine (C3.out _).mono ?_
          rintro e w4 ⟨rfl, hb4⟩
          have hB4 := below_call hB3 hb4
          go_wp2_with fail
          go_at_call 14
          refine (C4.out _).mono ?_
          rintro e w5 ⟨rfl, hb5⟩
          have hB5 := below_call hB4 hb5
          go_wp2_with fail
          go_at_call 14
          refine (C5.out _).mono ?_
          rintro e w6 ⟨rfl, hb6⟩
          have hB6 := below_call hB5 hb6
          clear hb1 hb2 hb3 hb4 hb5 hb6 hB2 hB3 hB4 hB5
          go_wp2_with fail
          go_ret
          exact ⟨rfl, hB6⟩
      · have e2 : ((txt u : Int) == 0) = false := beq_eq_false_iff_ne.2 (by omega)
        have e2b : (txt u == 0) = false := beq_eq_false_iff_ne.2 (by omega)
        have e0 : ((txt s : Int) == 0) = true := beq_iff_eq.2 (by omega)
        have e1 : ((txt t : Int) == 0) = true := beq_iff_eq.2 (by omega)
        go_enter Try.func6, Try.ntmps6
        go_wp2_with fail
        go_at_call 11
        refine (awake_any14 hM _).mono ?_
        rintro e w1 ⟨rfl, hb1⟩
        go_wp2_with fail
        go_at_call 18
        refine (text_lines s _ (by omega)).mono ?_
        rintro e w1' ⟨rfl, rfl⟩
        rw [h0]
        go_wp2_with fail
        go_at_call 18
        refine (text_lines t _ (by omega)).mono ?_
        rintro e w1' ⟨rfl, rfl⟩
        rw [h1]
        go_wp2_with fail
        go_at_call 18
        refine (text_lines u _ (by omega)).mono ?_
        rintro e w1' ⟨rfl, rfl⟩
        go_wp2_with fail
        go_at_call 11
        refine (awake_any14 hM _).mono ?_
        rintro e w2 ⟨rfl, hb2⟩
        have hB2 := below_call hb1 hb2
        go_wp2_with fail
        go_ret
        exact ⟨rfl, hB2⟩
    · have e1 : ((txt t : Int) == 0) = false := beq_eq_false_iff_ne.2 (by omega)
      have e1b : (txt t == 0) = false := beq_eq_false_iff_ne.2 (by omega)
      have e0 : ((txt s : Int) == 0) = true := beq_iff_eq.2 (by omega)
      go_enter Try.func6, Try.ntmps6
      go_wp2_with fail
      go_at_call 11
      refine (awake_any14 hM _).mono ?_
      rintro e w1 ⟨rfl, hb1⟩
      go_wp2_with fail
      go_at_call 18
      refine (text_lines s _ (by omega)).mono ?_
      rintro e w1' ⟨rfl, rfl⟩
      rw [h0]
      go_wp2_with fail
      go_at_call 18
      refine (text_lines t _ (by omega)).mono ?_
      rintro e w1' ⟨rfl, rfl⟩
      go_wp2_with fail
      go_at_call 11
      refine (awake_any14 hM _).mono ?_
      rintro e w2 ⟨rfl, hb2⟩
      have hB2 := below_call hb1 hb2
      go_wp2_with fail
      go_ret
      exact ⟨rfl, hB2⟩
  · have e0 : ((txt s : Int) == 0) = false := beq_eq_false_iff_ne.2 (by omega)
    have e0b : (txt s == 0) = false := beq_eq_false_iff_ne.2 (by omega)
    go_enter Try.func6, Try.ntmps6
    go_wp2_with fail
    go_at_call 11
    refine (awake_any14 hM _).mono ?_
    rintro e w1 ⟨rfl, hb1⟩
    go_wp2_with fail
    go_at_call 18
    refine (text_lines s _ (by omega)).mono ?_
    rintro e w1' ⟨rfl, rfl⟩
    go_wp2_with fail
    go_at_call 11
    refine (awake_any14 hM _).mono ?_
    rintro e w2 ⟨rfl, hb2⟩
    have hB2 := below_call hb1 hb2
    go_wp2_with fail
    go_ret
    exact ⟨rfl, hB2⟩
theorem own : ownKnob Try.prog.godebug = none := by kernel_rfl
theorem laidOut : laidOutB Try.prog = true := by kernel_rfl
set_option maxRecDepth 100000 in
theorem contract {Q : ByteArray → ByteArray → ByteArray → Prop} (hM : Impl Q) (H : Type) (enc : TypeId × Value → H) (W : World) (base : Nat) (args : Array Value) (ds gs : List (DataW H)) (before : List MemPlace)
    (hval0 : ∀ (j : Nat) t v, Try.f6.params[j]? = some t → args[j]? = some v → Value.okWide Try.prog W .any base t v)
    (hW : DataW.Whole enc Try.prog Try.f6.params.toList Rows.mergeOneSpec.vars false W args.toList ds gs before)
    (hk : Rows.uptoSmall H (ds ++ gs) = true)
    (hsz0 : (DataW.weightsEach Try.prog (Try.f6.params.toList ++ Rows.mergeOneSpec.plain.varTypes Try.prog) (ds ++ gs)).all (· ≤ reachBytes) = true) :
    Calls Try.prog 6 args W fun e W' => ∃ v, e = .returned v ∧ Rows.mergeOneSpec.post enc Try.prog Try.f6 false true false false W args v W' := by
  have hval : ∀ (j : Nat) t v, Try.f6.params[j]? = some t → args[j]? = some v → Value.okWide Try.prog W .any base t v := hval0
  have hsz := hsz0
  clear hsz0
  have hW' := hW
  obtain ⟨p, q, hA0, hV, rfl, hfz, hnd⟩ := hW
  have hA : DataW.TrodAll enc Try.prog W 0 (fun _ => true) true Try.f6.params.toList args.toList ds p := hA0
  rw [Try.params6] at hA hval hsz
  obtain ⟨v0, vs0, d0, ds0, p0, q0, hargs, rfl, rfl, h0, r0⟩ := trodAll_cons hA
  obtain ⟨v1, vs1, d1, ds1, p1, q1, rfl, rfl, rfl, h1, r1⟩ := trodAll_cons r0
  obtain ⟨v2, vs2, d2, ds2, p2, q2, rfl, rfl, rfl, h2, r2⟩ := trodAll_cons r1
  obtain ⟨rfl, rfl, rfl⟩ := trodAll_nil r2
  obtain rfl : args = #[v0, v1, v2] := by cases args; simp_all
  obtain ⟨rfl, rfl⟩ := trodVars_none hV
  obtain ⟨s0, rfl, rfl, rfl, w0⟩ := open_string Try.underlying9 (hval 0 9 v0 rfl rfl) h0
  have hreach0 : s0.size ≤ 140737488351232 := by
    have := sized_string hsz (j := 0) (t := 9) rfl rfl
    simpa [reachBytes] using this
  obtain ⟨s1, rfl, rfl, rfl, w1⟩ := open_string Try.underlying9 (hval 1 9 v1 rfl rfl) h1
  have hreach1 : s1.size ≤ 140737488351232 := by
    have := sized_string hsz (j := 1) (t := 9) rfl rfl
    simpa [reachBytes] using this
  obtain ⟨s2, rfl, rfl, rfl, w2⟩ := open_string Try.underlying9 (hval 2 9 v2 rfl rfl) h2
  have hreach2 : s2.size ≤ 140737488351232 := by
    have := sized_string hsz (j := 2) (t := 9) rfl rfl
    simpa [reachBytes] using this
  clear hA0 hval0
  have hbulk : s0.size + s1.size + s2.size ≤ 1048576 := by
    have h := of_decide_eq_true hk
    rw [List.append_nil] at h
    have x : Rows.uptoBulkAll [DataW.lit (H := H) (.string s0.data.toList), .lit (.string s1.data.toList), .lit (.string s2.data.toList)] = (s0.data.toList.length + 1) + ((s1.data.toList.length + 1) + ((s2.data.toList.length + 1) + 0)) := rfl
    rw [x, len_l, len_l, len_l] at h
    omega
  refine (walk hM s0 s1 s2 W (by omega) (by omega) (by omega) (hM.small _ _ _ (by omega)) (hM.small _ _ _ (by omega)) (hM.small _ _ _ (by omega)) (hM.small _ _ _ (by omega)) (hM.small _ _ _ (by omega))).mono fun e W' ⟨he, bel⟩ => ?_
  subst he
  exact ⟨_, rfl, _, _, _, [], _, [], hW', trodAll_mk1 (shut_bool Try.underlying4 _), (trodAll_cons_mk (shut_string Try.underlying9 w0) (trodAll_cons_mk (shut_string Try.underlying9 w1) (trodAll_cons_mk (shut_string Try.underlying9 w2) trodAll_mk0))), rfl, bel.frame _, fun h => by cases h⟩
set_option maxRecDepth 100000 in
theorem lifted {Q : ByteArray → ByteArray → ByteArray → Prop} (hM : Impl Q) (os : Os) (started : os.Started) (H : Type) (enc : TypeId × Value → H) (F : Stop.Interp) :
    ReturnsInHanded {} Try.checked os 6 .any ((Rows.OpenSpec.upto Rows.mergeOneSpec).pre6 enc Try.prog Try.f6 Rows.mergeOneUptoRow.domain false) (((Rows.OpenSpec.upto Rows.mergeOneSpec).at F).post enc Try.prog Try.f6 false true false false) := by
  refine returnsInHanded_of_cond_sized (C := Try.checked) (s := Rows.OpenSpec.upto Rows.mergeOneSpec) (k := Rows.uptoSmall) rfl own started (by kernel_rfl) Try.func6
    (OpenSpec.witness (enc := enc) (C := Try.checked) (s := Rows.OpenSpec.upto Rows.mergeOneSpec) (k := Rows.uptoSmall) rfl false ⟨#[], #[.string ByteArray.empty, .string ByteArray.empty, .string ByteArray.empty], []⟩ 8 (by kernel_rfl) (by kernel_rfl) (by kernel_rfl)
      (x := ([.lit (.string []), .lit (.string []), .lit (.string [])], [], [])) (by kernel_rfl) rfl (by kernel_rfl)) ?_
  intro W base args ds gs before hval hW _ hk hsz0 _
  exact contract hM H enc W base args ds gs before hval hW hk hsz0
theorem over {Q : ByteArray → ByteArray → ByteArray → Prop} (hM : Impl Q) : Rows.mergeOneUptoRow.holds Try.pinned (Rows.OpenSpec.upto Rows.mergeOneSpec) :=
  OpenClaim.holds_of_cond 6 Try.f6 rfl rfl rfl rfl rfl rfl rfl ⟨rfl, rfl, rfl, rfl, rfl⟩ rfl rfl rfl rfl rfl (by kernel_rfl) Try.func6 (by kernel_rfl)
    (of_decide_eq_true (by kernel_rfl)) (by unfold Func.isWrapper; first | (rw [if_pos (by decide +kernel)]; kernel_rfl) | (rw [if_neg (by decide +kernel)]; exact ⟨rfl, rfl⟩))
    (fun os started H enc _ F => lifted hM os started H enc F)
end Go.Proofs.Ytnpobigombafoaa.mergeOne

namespace Go.Proofs.Ytnpobigombafoaa
theorem mergeOneUpto_holds : Rows.MergeOneUptoSaid := mergeOne.over Mg.impl
#print axioms mergeOneUpto_holds
end Go.Proofs.Ytnpobigombafoaa
