/-
  MergeMarks: of every three texts that have no marks' bytes themselves: the merge has as many of each mark as it has conflicts.
  It is said of the code of package merge as it landed, for every argument of the given row's domain, in the second form: what comes in is of bulk at most 1048576. The law returns true, and writes nothing that was there. No other condition.
-/
import Derived.Test.YtnpobigombafoaaT4
import Derived.ProofKit
import Derived.Deep.CondSized
import Derived.OpenShut
import Derived.ShutString
import Derived.ChangeOld
import Derived.Below
import Derived.JoinedCond
namespace Go.Proofs.Ytnpobigombafoaa.mergeMarks
open Go.ChangeMaps (open_string shut_string)
open Go.ChangeShapes Go.WideShapes Go.ChangeAt Go.RowKit Tx Um Ud Aq Km Kd Lm Ln Mg
set_option linter.unusedVariables false
theorem three (s : ByteArray) : mks s.data.toList (⟨#[60, 61, 62]⟩ : ByteArray).data.toList = cb 60 s + cb 61 s + cb 62 s := by
  rw [mks_cb]
  show cb 60 s + (cb 61 s + (cb 62 s + 0)) = _
  omega
theorem one (c : UInt8) (s : ByteArray) : mks s.data.toList (⟨#[c]⟩ : ByteArray).data.toList = cb c s := by
  rw [mks_cb]
  show cb c s + 0 = _
  omega
theorem ahead : (cb 60 AH + cb 60 MI + cb 60 BH = 7) ∧ (cb 61 AH + cb 61 MI + cb 61 BH = 7) ∧ (cb 62 AH + cb 62 MI + cb 62 BH = 7) := by decide +kernel
set_option maxRecDepth 100000 in
set_option maxHeartbeats 2000000 in
theorem walk {Q : ByteArray → ByteArray → ByteArray → Prop} (hM : Impl Q) (s t u : ByteArray) (w : World) (hs : s.size ≤ 140737488355328) (ht : t.size ≤ 140737488355328) (hu : u.size ≤ 140737488355328) (q1 : Q s t u) :
    Calls Try.prog 8 #[.string s, .string t, .string u] w fun e w' => e = .returned (.bool true) ∧ Below w.heap.size w w' := by
  have c1 := hM.merge s t u w q1
  unfold MgTo at c1
  obtain ⟨er, her⟩ : ∃ er, er = err3 s t u := ⟨_, rfl⟩
  rw [← her] at c1
  by_cases hz : er = 0
  · have h0 : err3 s t u = 0 := by omega
    have hx : mtx s t u = txs (pcs3 s t u) ∧ mcf s t u = cfs (pcs3 s t u) := by unfold mtx mcf; rw [if_pos h0, if_pos h0]; exact ⟨rfl, rfl⟩
    rw [hx.1, hx.2] at c1
    subst hz
    obtain ⟨k1, k2, k3⟩ := txs_size s t u
    obtain ⟨_, _, _, l1, l2, l3⟩ := err_lines h0
    have mk := fun c hc h1 h2 => merge_marks (c := c) hc s t u h1 h2
    obtain ⟨S, hS⟩ : ∃ S, S = txs (pcs3 s t u) := ⟨_, rfl⟩
    obtain ⟨n, hn⟩ : ∃ n, n = cfs (pcs3 s t u) := ⟨_, rfl⟩
    rw [← hS] at c1 k1
    rw [← hn] at c1 k2
    have mk : ∀ c, c ≠ 10 → cb c t = 0 → cb c u = 0 → cb c S = (cb c AH + cb c MI + cb c BH) * n := fun c hc h1 h2 => by rw [hS, hn]; exact mk c hc h1 h2
    have hn12 : n ≤ 1200 := by omega
    have hS9 : S.size ≤ 1125899906842624 := by omega
    have C1 := Lib.hid c1
    clear c1 hx k1 k2 k3 l1 l2 l3 hS hn her h0
    by_cases P0 : 0 < cb 60 s + cb 61 s + cb 62 s
    · clear mk
      go_enter Try.func8, Try.ntmps8
      go_wp2_with fail
      go_at_call 14
      refine C1.out.mono ?_
      rintro e w1 ⟨rfl, hb1⟩
      go_wp2_with fail
      go_at_call 11
      refine (awake_any14 hM _).mono ?_
      rintro e w2 ⟨rfl, hb2⟩
      have hB2 := below_call hb1 hb2
      go_wp2_with fail
      go_at_call 20
      refine (marks_any s ⟨#[60, 61, 62]⟩ _ (by omega) (by decide)).mono ?_
      rintro e w3 ⟨rfl, hb3⟩
      rw [three]
      have hB3 := below_call hB2 hb3
      obtain ⟨n0, hn0⟩ : ∃ n, n = cb 60 s + cb 61 s + cb 62 s := ⟨_, rfl⟩
      rw [← hn0] at P0 ⊢
      have p0 : (0 : Int) < (n0 : Int) := by omega
      clear hn0 P0
      go_wp2_with fail
      go_at_call 11
      refine (awake_any14 hM _).mono ?_
      rintro e w9 ⟨rfl, hb9⟩
      have hB9 := below_call hB3 hb9
      go_wp2_with fail
      go_ret
      exact ⟨rfl, hB9⟩
    · by_cases P1 : 0 < cb 60 t + cb 61 t + cb 62 t
      · clear mk
        go_enter Try.func8, Try.ntmps8
        go_wp2_with fail
        go_at_call 14
        refine C1.out.mono ?_
        rintro e w1 ⟨rfl, hb1⟩
        go_wp2_with fail
        go_at_call 11
        refine (awake_any14 hM _).mono ?_
        rintro e w2 ⟨rfl, hb2⟩
        have hB2 := below_call hb1 hb2
        go_wp2_with fail
        go_at_call 20
        refine (marks_any s ⟨#[60, 61, 62]⟩ _ (by omega) (by decide)).mono ?_
        rintro e w3 ⟨rfl, hb3⟩
        rw [three]
        have hB3 := below_call hB2 hb3
        obtain ⟨n0, hn0⟩ : ∃ n, n = cb 60 s + cb 61 s + cb 62 s := ⟨_, rfl⟩
        rw [← hn0] at P0 ⊢
        have p0 : ¬ (0 : Int) < (n0 : Int) := by omega
        clear hn0 P0
        go_wp2_with fail
        go_at_call 20
        refine (marks_any t ⟨#[60, 61, 62]⟩ _ (by omega) (by decide)).mono ?_
        rintro e w4 ⟨rfl, hb4⟩
        rw [three]
        have hB4 := below_call hB3 hb4
        obtain ⟨n1, hn1⟩ : ∃ n, n = cb 60 t + cb 61 t + cb 62 t := ⟨_, rfl⟩
        rw [← hn1] at P1 ⊢
        have p1 : (0 : Int) < (n1 : Int) := by omega
        clear hn1 P1
        go_wp2_with fail
        go_at_call 11
        refine (awake_any14 hM _).mono ?_
        rintro e w9 ⟨rfl, hb9⟩
        have hB9 := below_call hB4 hb9
        go_wp2_with fail
        go_ret
        exact ⟨rfl, hB9⟩
      · by_cases P2 : 0 < cb 60 u + cb 61 u + cb 62 u
        · clear mk
          go_enter Try.func8, Try.ntmps8
          go_wp2_with fail
          go_at_call 14
          refine C1.out.mono ?_
          rintro e w1 ⟨rfl, hb1⟩
          go_wp2_with fail
          go_at_call 11
          refine (awake_any14 hM _).mono ?_
          rintro e w2 ⟨rfl, hb2⟩
          have hB2 := below_call hb1 hb2
          go_wp2_with fail
          go_at_call 20
          refine (marks_any s ⟨#[60, 61, 62]⟩ _ (by omega) (by decide)).mono ?_
          rintro e w3 ⟨rfl, hb3⟩
          rw [three]
          have hB3 := below_call hB2 hb3
          obtain ⟨n0, hn0⟩ : ∃ n, n = cb 60 s + cb 61 s + cb 62 s := ⟨_, rfl⟩
          rw [← hn0] at P0 ⊢
          have p0 : ¬ (0 : Int) < (n0 : Int) := by omega
          clear hn0 P0
          go_wp2_with fail
          go_at_call 20
          refine (marks_any t ⟨#[60, 61, 62]⟩ _ (by omega) (by decide)).mono ?_
          rintro e w4 ⟨rfl, hb4⟩
          rw [three]
          have hB4 := below_call hB3 hb4
          obtain ⟨n1, hn1⟩ : ∃ n, n = cb 60 t + cb 61 t + cb 62 t := ⟨_, rfl⟩
          rw [← hn1] at P1 ⊢
          have p1 : ¬ (0 : Int) < (n1 : Int) := by omega
          clear hn1 P1
          go_wp2_with fail
          go_at_call 20
          refine (marks_any u ⟨#[60, 61, 62]⟩ _ (by omega) (by decide)).mono ?_
          rintro e w5 ⟨rfl, hb5⟩
          rw [three]
          have hB5 := below_call hB4 hb5
          obtain ⟨n2, hn2⟩ : ∃ n, n = cb 60 u + cb 61 u + cb 62 u := ⟨_, rfl⟩
          rw [← hn2] at P2 ⊢
          have p2 : (0 : Int) < (n2 : Int) := by omega
          clear hn2 P2
          go_wp2_with fail
          go_at_call 11
          refine (awake_any14 hM _).mono ?_
          rintro e w9 ⟨rfl, hb9⟩
          have hB9 := below_call hB5 hb9
          go_wp2_with fail
          go_ret
          exact ⟨rfl, hB9⟩
        · have F0 : Hid (cb 60 S = 7 * n) := by show _ = _; rw [mk 60 (by decide) (by omega) (by omega), ahead.1]
          have F1 : Hid (cb 61 S = 7 * n) := by show _ = _; rw [mk 61 (by decide) (by omega) (by omega), ahead.2.1]
          have F2 : Hid (cb 62 S = 7 * n) := by show _ = _; rw [mk 62 (by decide) (by omega) (by omega), ahead.2.2]
          have w7 : IntKind.i64.wrap (7 * (n : Int)) = 7 * (n : Int) := IntWalk.i64_in _ (by omega)
          have g7 : (((7 * n : Nat) : Int) == 7 * (n : Int)) = true := beq_iff_eq.2 (by omega)
          clear mk
          go_enter Try.func8, Try.ntmps8
          go_wp2_with fail
          go_at_call 14
          refine C1.out.mono ?_
          rintro e w1 ⟨rfl, hb1⟩
          go_wp2_with fail
          go_at_call 11
          refine (awake_any14 hM _).mono ?_
          rintro e w2 ⟨rfl, hb2⟩
          have hB2 := below_call hb1 hb2
          go_wp2_with fail
          go_at_call 20
          refine (marks_any s ⟨#[60, 61, 62]⟩ _ (by omega) (by decide)).mono ?_
          rintro e w3 ⟨rfl, hb3⟩
          rw [three]
          have hB3 := below_call hB2 hb3
          obtain ⟨n0, hn0⟩ : ∃ n, n = cb 60 s + cb 61 s + cb 62 s := ⟨_, rfl⟩
          rw [← hn0] at P0 ⊢
          have p0 : ¬ (0 : Int) < (n0 : Int) := by omega
          clear hn0 P0
          go_wp2_with fail
          go_at_call 20
          refine (marks_any t ⟨#[60, 61, 62]⟩ _ (by omega) (by decide)).mono ?_
          rintro e w4 ⟨rfl, hb4⟩
          rw [three]
          have hB4 := below_call hB3 hb4
          obtain ⟨n1, hn1⟩ : ∃ n, n = cb 60 t + cb 61 t + cb 62 t := ⟨_, rfl⟩
          rw [← hn1] at P1 ⊢
          have p1 : ¬ (0 : Int) < (n1 : Int) := by omega
          clear hn1 P1
          go_wp2_with fail
          go_at_call 20
          refine (marks_any u ⟨#[60, 61, 62]⟩ _ (by omega) (by decide)).mono ?_
          rintro e w5 ⟨rfl, hb5⟩
          rw [three]
          have hB5 := below_call hB4 hb5
          obtain ⟨n2, hn2⟩ : ∃ n, n = cb 60 u + cb 61 u + cb 62 u := ⟨_, rfl⟩
          rw [← hn2] at P2 ⊢
          have p2 : ¬ (0 : Int) < (n2 : Int) := by omega
          clear hn2 P2
          go_wp2_with fail
          go_at_call 20
          refine (marks_any S ⟨#[60]⟩ _ (by omega) (by decide)).mono ?_
          rintro e w6 ⟨rfl, hb6⟩
          rw [one, F0.out]
          have hB6 := below_call hB5 hb6
          go_wp2_with fail
          go_at_call 20
          refine (marks_any S ⟨#[61]⟩ _ (by omega) (by decide)).mono ?_
          rintro e w7 ⟨rfl, hb7⟩
          rw [one, F1.out]
          have hB7 := below_call hB6 hb7
          go_wp2_with fail
          go_at_call 20
          refine (marks_any S ⟨#[62]⟩ _ (by omega) (by decide)).mono ?_
          rintro e w8 ⟨rfl, hb8⟩
          rw [one, F2.out]
          have hB8 := below_call hB7 hb8
          go_wp2_with fail
          go_ret
          exact ⟨rfl, hB8⟩
  · have C1 := Lib.hid c1
    clear c1
    have e1 : ((er : Int) == 0) = false := beq_eq_false_iff_ne.2 (by omega)
    have e1b : (er == 0) = false := beq_eq_false_iff_ne.2 hz
    clear her
    go_enter Try.func8, Try.ntmps8
    go_wp2_with fail
    go_at_call 14
    refine C1.out.mono ?_
    rintro e w1 ⟨rfl, hb1⟩
    go_wp2_with fail
    go_at_call 11
    refine (awake_any14 hM _).mono ?_
    rintro e w2 ⟨rfl, hb2⟩
    have hB2 := below_call hb1 hb2
    go_wp2_with fail
    go_at_call 11
    refine (awake_any14 hM _).mono ?_
    rintro e w3 ⟨rfl, hb3⟩
    have hB3 := below_call hB2 hb3
    go_wp2_with fail
    go_ret
    exact ⟨rfl, hB3⟩
theorem own : ownKnob Try.prog.godebug = none := by kernel_rfl
theorem laidOut : laidOutB Try.prog = true := by kernel_rfl
set_option maxRecDepth 100000 in
theorem contract {Q : ByteArray → ByteArray → ByteArray → Prop} (hM : Impl Q) (H : Type) (enc : TypeId × Value → H) (W : World) (base : Nat) (args : Array Value) (ds gs : List (DataW H)) (before : List MemPlace)
    (hval0 : ∀ (j : Nat) t v, Try.f8.params[j]? = some t → args[j]? = some v → Value.okWide Try.prog W .any base t v)
    (hW : DataW.Whole enc Try.prog Try.f8.params.toList Rows.mergeMarksSpec.vars false W args.toList ds gs before)
    (hk : Rows.uptoSmall H (ds ++ gs) = true)
    (hsz0 : (DataW.weightsEach Try.prog (Try.f8.params.toList ++ Rows.mergeMarksSpec.plain.varTypes Try.prog) (ds ++ gs)).all (· ≤ reachBytes) = true) :
    Calls Try.prog 8 args W fun e W' => ∃ v, e = .returned v ∧ Rows.mergeMarksSpec.post enc Try.prog Try.f8 false true false false W args v W' := by
  have hval : ∀ (j : Nat) t v, Try.f8.params[j]? = some t → args[j]? = some v → Value.okWide Try.prog W .any base t v := hval0
  have hsz := hsz0
  clear hsz0
  have hW' := hW
  obtain ⟨p, q, hA0, hV, rfl, hfz, hnd⟩ := hW
  have hA : DataW.TrodAll enc Try.prog W 0 (fun _ => true) true Try.f8.params.toList args.toList ds p := hA0
  rw [Try.params8] at hA hval hsz
  obtain ⟨v0, vs0, d0, ds0, p0, q0, hargs, rfl, rfl, h0, r0⟩ := trodAll_cons hA
  obtain ⟨v1, vs1, d1, ds1, p1, q1, rfl, rfl, rfl, h1, r1⟩ := trodAll_cons r0
  obtain ⟨v2, vs2, d2, ds2, p2, q2, rfl, rfl, rfl, h2, r2⟩ := trodAll_cons r1
  obtain ⟨rfl, rfl, rfl⟩ := trodAll_nil r2
  obtain rfl : args = #[v0, v1, v2] := by cases args; simp_all
  obtain ⟨rfl, rfl⟩ := trodVars_none hV
  obtain ⟨s0, rfl, rfl, rfl, w0⟩ := open_string Try.underlying9 (hval 0 9 v0 rfl rfl) h0
  have hreach0 : s0.size ≤ 140737488351232 := by
    have := sized_string hsz (j := 0) (t := 9) rfl rfl
    simpa [reachBytes] using this
  obtain ⟨s1, rfl, rfl, rfl, w1⟩ := open_string Try.underlying9 (hval 1 9 v1 rfl rfl) h1
  have hreach1 : s1.size ≤ 140737488351232 := by
    have := sized_string hsz (j := 1) (t := 9) rfl rfl
    simpa [reachBytes] using this
  obtain ⟨s2, rfl, rfl, rfl, w2⟩ := open_string Try.underlying9 (hval 2 9 v2 rfl rfl) h2
  have hreach2 : s2.size ≤ 140737488351232 := by
    have := sized_string hsz (j := 2) (t := 9) rfl rfl
    simpa [reachBytes] using this
  clear hA0 hval0
  have hbulk : s0.size + s1.size + s2.size ≤ 1048576 := by
    have h := of_decide_eq_true hk
    rw [List.append_nil] at h
    have x : Rows.uptoBulkAll [DataW.lit (H := H) (.string s0.data.toList), .lit (.string s1.data.toList), .lit (.string s2.data.toList)] = (s0.data.toList.length + 1) + ((s1.data.toList.length + 1) + ((s2.data.toList.length + 1) + 0)) := rfl
    rw [x, len_l, len_l, len_l] at h
    omega
  refine (walk hM s0 s1 s2 W (by omega) (by omega) (by omega) (hM.small _ _ _ (by omega))).mono fun e W' ⟨he, bel⟩ => ?_
  subst he
  exact ⟨_, rfl, _, _, _, [], _, [], hW', trodAll_mk1 (shut_bool Try.underlying4 _), (trodAll_cons_mk (shut_string Try.underlying9 w0) (trodAll_cons_mk (shut_string Try.underlying9 w1) (trodAll_cons_mk (shut_string Try.underlying9 w2) trodAll_mk0))), rfl, bel.frame _, fun h => by cases h⟩
set_option maxRecDepth 100000 in
theorem lifted {Q : ByteArray → ByteArray → ByteArray → Prop} (hM : Impl Q) (os : Os) (started : os.Started) (H : Type) (enc : TypeId × Value → H) (F : Stop.Interp) :
    ReturnsInHanded {} Try.checked os 8 .any ((Rows.OpenSpec.upto Rows.mergeMarksSpec).pre6 enc Try.prog Try.f8 Rows.mergeMarksUptoRow.domain false) (((Rows.OpenSpec.upto Rows.mergeMarksSpec).at F).post enc Try.prog Try.f8 false true false false) := by
  refine returnsInHanded_of_cond_sized (C := Try.checked) (s := Rows.OpenSpec.upto Rows.mergeMarksSpec) (k := Rows.uptoSmall) rfl own started (by kernel_rfl) Try.func8
    (OpenSpec.witness (enc := enc) (C := Try.checked) (s := Rows.OpenSpec.upto Rows.mergeMarksSpec) (k := Rows.uptoSmall) rfl false ⟨#[], #[.string ByteArray.empty, .string ByteArray.empty, .string ByteArray.empty], []⟩ 8 (by kernel_rfl) (by kernel_rfl) (by kernel_rfl)
      (x := ([.lit (.string []), .lit (.string []), .lit (.string [])], [], [])) (by kernel_rfl) rfl (by kernel_rfl)) ?_
  intro W base args ds gs before hval hW _ hk hsz0 _
  exact contract hM H enc W base args ds gs before hval hW hk hsz0
theorem over {Q : ByteArray → ByteArray → ByteArray → Prop} (hM : Impl Q) : Rows.mergeMarksUptoRow.holds Try.pinned (Rows.OpenSpec.upto Rows.mergeMarksSpec) :=
  OpenClaim.holds_of_cond 8 Try.f8 rfl rfl rfl rfl rfl rfl rfl ⟨rfl, rfl, rfl, rfl, rfl⟩ rfl rfl rfl rfl rfl (by kernel_rfl) Try.func8 (by kernel_rfl)
    (of_decide_eq_true (by kernel_rfl)) (by unfold Func.isWrapper; first | (rw [if_pos (by decide +kernel)]; kernel_rfl) | (rw [if_neg (by decide +kernel)]; exact ⟨rfl, rfl⟩))
    (fun os started H enc _ F => lifted hM os started H enc F)
end Go.Proofs.Ytnpobigombafoaa.mergeMarks

namespace Go.Proofs.Ytnpobigombafoaa
theorem mergeMarksUpto_holds : Rows.MergeMarksUptoSaid := mergeMarks.over Mg.impl
#print axioms mergeMarksUpto_holds
end Go.Proofs.Ytnpobigombafoaa
