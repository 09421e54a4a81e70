/-
  PathSorts: no condition.
-/
import Derived.Test.YtgefkgdokjehnaaPAwake
import Derived.Test.YtgefkgdokjehnaaPLawMath
import Derived.ProofKit
import Derived.OpenShut
import Derived.ChangeOld
import Derived.Below
import Derived.SizedLaws
import Derived.ShutString
namespace Go.Proofs.Ytgefkgdokjehnaa.pathSorts
open Go.ChangeMaps (open_string shut_string)
open Go.ChangeShapes Go.WideShapes Go.ChangeAt Go.RowKit Pm Tx Pr
set_option linter.unusedVariables false

set_option maxRecDepth 100000 in
set_option maxHeartbeats 1000000 in
theorem walk (t b o : ByteArray) (w : World) (hs : t.size ≤ 140737488351232) (hs2 : b.size ≤ 140737488351232) (hs3 : o.size ≤ 140737488351232) :
    Calls Try.prog 6 #[.string t, .string b, .string o] w fun e w' => e = .returned (.bool true) ∧ Below w.heap.size w w' := by
  have aw := fun W => awake_any3 W
  have c1 := fun W => pCheck_any t 5 W (by omega) (by omega) (by omega)
  have c2 := fun W => pCheck_any b 5 W (by omega) (by omega) (by omega)
  have c3 := fun W => pCheck_any o 5 W (by omega) (by omega) (by omega)
  rcases chk_two t.data.toList 5 with ht | ht
  case inr =>
    rw [ht] at c1
    clear ht
    go_enter Try.func6, Try.ntmps6
    go_wp2_with fail
    go_at_call 7
    refine (aw _).mono ?_
    rintro e w0 ⟨rfl, hb0⟩
    go_wp2_with fail
    go_at_call 8
    refine (c1 _).mono ?_
    rintro e w1 ⟨rfl, hb1⟩
    go_wp2_with fail
    go_at_call 7
    refine (aw _).mono ?_
    rintro e w2 ⟨rfl, hb2⟩
    go_wp2_with fail
    go_ret
    exact ⟨rfl, below_call (below_call (hb0) hb1) hb2⟩
  rw [ht] at c1
  rcases chk_two b.data.toList 5 with hb | hb
  case inr =>
    rw [hb] at c2
    clear ht hb
    go_enter Try.func6, Try.ntmps6
    go_wp2_with fail
    go_at_call 7
    refine (aw _).mono ?_
    rintro e w0 ⟨rfl, hb0⟩
    go_wp2_with fail
    go_at_call 8
    refine (c1 _).mono ?_
    rintro e w1 ⟨rfl, hb1⟩
    go_wp2_with fail
    go_at_call 8
    refine (c2 _).mono ?_
    rintro e w2 ⟨rfl, hb2⟩
    go_wp2_with fail
    go_at_call 7
    refine (aw _).mono ?_
    rintro e w3 ⟨rfl, hb3⟩
    go_wp2_with fail
    go_ret
    exact ⟨rfl, below_call (below_call (below_call (hb0) hb1) hb2) hb3⟩
  rw [hb] at c2
  rcases chk_two o.data.toList 5 with ho | ho
  case inr =>
    rw [ho] at c3
    clear ht hb ho
    go_enter Try.func6, Try.ntmps6
    go_wp2_with fail
    go_at_call 7
    refine (aw _).mono ?_
    rintro e w0 ⟨rfl, hb0⟩
    go_wp2_with fail
    go_at_call 8
    refine (c1 _).mono ?_
    rintro e w1 ⟨rfl, hb1⟩
    go_wp2_with fail
    go_at_call 8
    refine (c2 _).mono ?_
    rintro e w2 ⟨rfl, hb2⟩
    go_wp2_with fail
    go_at_call 8
    refine (c3 _).mono ?_
    rintro e w3 ⟨rfl, hb3⟩
    go_wp2_with fail
    go_at_call 7
    refine (aw _).mono ?_
    rintro e w4 ⟨rfl, hb4⟩
    go_wp2_with fail
    go_ret
    exact ⟨rfl, below_call (below_call (below_call (below_call (hb0) hb1) hb2) hb3) hb4⟩
  rw [ho] at c3
  have gt := (ok_of ht).2
  have gb := (ok_of hb).2
  have go := (ok_of ho).2
  have c4 := fun W => pJoin_any t b W (by omega)
  rw [joi_ne (good_ne gt) (good_ne gb)] at c4
  have c5 := fun W => pUnder_any o t W (by omega) (by omega)
  have e1 := less_app t.data.toList b.data.toList 47
  have ord := @order t.data.toList o.data.toList b.data.toList go
  obtain ⟨J, hJ⟩ : ∃ J, J = tb (t.data.toList ++ 47 :: b.data.toList) := ⟨_, rfl⟩
  have hJl : t.data.toList ++ 47 :: b.data.toList = J.data.toList := by rw [hJ]; rfl
  rw [← hJ] at c4
  rw [hJl] at e1 ord
  rw [← ByteArray.toList_eq, ← ByteArray.toList_eq] at e1
  by_cases hu : und o.data.toList t.data.toList = true
  · rw [hu] at c5
    clear ord hJ hJl hu gt gb go ht hb ho
    go_enter Try.func6, Try.ntmps6
    go_wp2_with fail
    go_at_call 7
    refine (aw _).mono ?_
    rintro e w0 ⟨rfl, hb0⟩
    go_wp2_with fail
    go_at_call 8
    refine (c1 _).mono ?_
    rintro e w1 ⟨rfl, hb1⟩
    go_wp2_with fail
    go_at_call 8
    refine (c2 _).mono ?_
    rintro e w2 ⟨rfl, hb2⟩
    go_wp2_with fail
    go_at_call 8
    refine (c3 _).mono ?_
    rintro e w3 ⟨rfl, hb3⟩
    go_wp2_with fail
    go_at_call 16
    refine (c4 _).mono ?_
    rintro e w4 ⟨rfl, hb4⟩
    go_wp2_with fail
    go_at_call 18
    refine (c5 _).mono ?_
    rintro e w5 ⟨rfl, hb5⟩
    go_wp2_with fail
    go_ret
    exact ⟨rfl, below_call (below_call (below_call (below_call (below_call (hb0) hb1) hb2) hb3) hb4) hb5⟩
  · rw [Bool.eq_false_iff.2 hu] at c5
    rcases ord (Bool.eq_false_iff.2 hu) with e2 | ⟨e2, e3⟩
    · rw [← ByteArray.toList_eq, ← ByteArray.toList_eq] at e2
      clear ord hJ hJl hu gt gb go ht hb ho
      go_enter Try.func6, Try.ntmps6
      go_wp2_with fail
      go_at_call 7
      refine (aw _).mono ?_
      rintro e w0 ⟨rfl, hb0⟩
      go_wp2_with fail
      go_at_call 8
      refine (c1 _).mono ?_
      rintro e w1 ⟨rfl, hb1⟩
      go_wp2_with fail
      go_at_call 8
      refine (c2 _).mono ?_
      rintro e w2 ⟨rfl, hb2⟩
      go_wp2_with fail
      go_at_call 8
      refine (c3 _).mono ?_
      rintro e w3 ⟨rfl, hb3⟩
      go_wp2_with fail
      go_at_call 16
      refine (c4 _).mono ?_
      rintro e w4 ⟨rfl, hb4⟩
      go_wp2_with fail
      go_at_call 18
      refine (c5 _).mono ?_
      rintro e w5 ⟨rfl, hb5⟩
      go_wp2_with fail
      go_ret
      exact ⟨rfl, below_call (below_call (below_call (below_call (below_call (hb0) hb1) hb2) hb3) hb4) hb5⟩
    · have e4 : (o.toList == J.toList) = false := bytes_ne (fun e => e3 (by rw [e]))
      rw [← ByteArray.toList_eq, ← ByteArray.toList_eq] at e2
      by_cases e5 : Op.bytesLess o.toList t.toList = true
      · clear ord hJ hJl hu gt gb go ht hb ho e3
        go_enter Try.func6, Try.ntmps6
        go_wp2_with fail
        go_at_call 7
        refine (aw _).mono ?_
        rintro e w0 ⟨rfl, hb0⟩
        go_wp2_with fail
        go_at_call 8
        refine (c1 _).mono ?_
        rintro e w1 ⟨rfl, hb1⟩
        go_wp2_with fail
        go_at_call 8
        refine (c2 _).mono ?_
        rintro e w2 ⟨rfl, hb2⟩
        go_wp2_with fail
        go_at_call 8
        refine (c3 _).mono ?_
        rintro e w3 ⟨rfl, hb3⟩
        go_wp2_with fail
        go_at_call 16
        refine (c4 _).mono ?_
        rintro e w4 ⟨rfl, hb4⟩
        go_wp2_with fail
        go_at_call 18
        refine (c5 _).mono ?_
        rintro e w5 ⟨rfl, hb5⟩
        go_wp2_with fail
        go_ret
        exact ⟨rfl, below_call (below_call (below_call (below_call (below_call (hb0) hb1) hb2) hb3) hb4) hb5⟩
      · have e6 := Bool.eq_false_iff.2 e5
        clear ord hJ hJl hu gt gb go ht hb ho e3 e5
        go_enter Try.func6, Try.ntmps6
        go_wp2_with fail
        go_at_call 7
        refine (aw _).mono ?_
        rintro e w0 ⟨rfl, hb0⟩
        go_wp2_with fail
        go_at_call 8
        refine (c1 _).mono ?_
        rintro e w1 ⟨rfl, hb1⟩
        go_wp2_with fail
        go_at_call 8
        refine (c2 _).mono ?_
        rintro e w2 ⟨rfl, hb2⟩
        go_wp2_with fail
        go_at_call 8
        refine (c3 _).mono ?_
        rintro e w3 ⟨rfl, hb3⟩
        go_wp2_with fail
        go_at_call 16
        refine (c4 _).mono ?_
        rintro e w4 ⟨rfl, hb4⟩
        go_wp2_with fail
        go_at_call 18
        refine (c5 _).mono ?_
        rintro e w5 ⟨rfl, hb5⟩
        go_wp2_with fail
        go_ret
        exact ⟨rfl, below_call (below_call (below_call (below_call (below_call (hb0) hb1) hb2) hb3) hb4) hb5⟩

theorem own : ownKnob Try.prog.godebug = none := by kernel_rfl
theorem laidOut : laidOutB Try.prog = true := by kernel_rfl

theorem contract (H : Type) (enc : TypeId × Value → H) (W : World) (base : Nat) (args : Array Value) (ds gs : List (DataW H)) (before : List MemPlace)
    (hval0 : ∀ (j : Nat) t v, Try.f6.params[j]? = some t → args[j]? = some v → Value.okWide Try.prog W .any base t v)
    (hW : DataW.Whole enc Try.prog Try.f6.params.toList Rows.pathSortsSpec.vars false W args.toList ds gs before)
    (hsz0 : (DataW.weightsEach Try.prog (Try.f6.params.toList ++ Rows.pathSortsSpec.plain.varTypes Try.prog) (ds ++ gs)).all (· ≤ reachBytes) = true) :
    Calls Try.prog 6 args W fun e W' => ∃ v, e = .returned v ∧ Rows.pathSortsSpec.post enc Try.prog Try.f6 false true false false W args v W' := by
  have hval : ∀ (j : Nat) t v, Try.f6.params[j]? = some t → args[j]? = some v → Value.okWide Try.prog W .any base t v := hval0
  have hsz := hsz0
  clear hsz0
  have hW' := hW
  obtain ⟨p, q, hA0, hV, rfl, hfz, hnd⟩ := hW
  have hA : DataW.TrodAll enc Try.prog W 0 (fun _ => true) true Try.f6.params.toList args.toList ds p := hA0
  rw [Try.params6] at hA hval hsz
  obtain ⟨v0, vs0, d0, ds0, p0, q0, hargs, rfl, rfl, h0, r0⟩ := trodAll_cons hA
  obtain ⟨v1, vs1, d1, ds1, p1, q1, rfl, rfl, rfl, h1, r1⟩ := trodAll_cons r0
  obtain ⟨v2, vs2, d2, ds2, p2, q2, rfl, rfl, rfl, h2, r2⟩ := trodAll_cons r1
  obtain ⟨rfl, rfl, rfl⟩ := trodAll_nil r2
  obtain rfl : args = #[v0, v1, v2] := by cases args; simp_all
  obtain ⟨rfl, rfl⟩ := trodVars_none hV
  obtain ⟨s0, rfl, rfl, rfl, w0⟩ := open_string Try.underlying9 (hval 0 9 v0 rfl rfl) h0
  have hreach0 : s0.size ≤ 140737488351232 := by
    have := sized_string hsz (j := 0) (t := 9) rfl rfl
    simpa [reachBytes] using this
  obtain ⟨s1, rfl, rfl, rfl, w1⟩ := open_string Try.underlying9 (hval 1 9 v1 rfl rfl) h1
  have hreach1 : s1.size ≤ 140737488351232 := by
    have := sized_string hsz (j := 1) (t := 9) rfl rfl
    simpa [reachBytes] using this
  obtain ⟨s2, rfl, rfl, rfl, w2⟩ := open_string Try.underlying9 (hval 2 9 v2 rfl rfl) h2
  have hreach2 : s2.size ≤ 140737488351232 := by
    have := sized_string hsz (j := 2) (t := 9) rfl rfl
    simpa [reachBytes] using this
  clear hA0 hval0
  refine (walk s0 s1 s2 W (by omega) (by omega) (by omega)).mono fun e W' ⟨he, bel⟩ => ?_
  subst he
  exact ⟨_, rfl, _, _, _, [], _, [], hW', trodAll_mk1 (shut_bool Try.underlying4 _), (trodAll_cons_mk (shut_string Try.underlying9 w0) (trodAll_cons_mk (shut_string Try.underlying9 w1) (trodAll_cons_mk (shut_string Try.underlying9 w2) trodAll_mk0))), rfl, bel.frame _, fun h => by cases h⟩

set_option maxRecDepth 100000 in
theorem lifted (os : Os) (started : os.Started) (H : Type) (enc : TypeId × Value → H) :
    ReturnsInHanded {} Try.checked os 6 .any (Rows.pathSortsSpec.pre6 enc Try.prog Try.f6 Rows.pathSortsRow.domain false) (Rows.pathSortsSpec.post enc Try.prog Try.f6 false true false false) := by
  refine returnsInHanded_of_change_sized (C := Try.checked) own started (by kernel_rfl) Try.func6
    (ChangeSpec.witness6 (enc := enc) (C := Try.checked) false ⟨#[], #[.string ByteArray.empty, .string ByteArray.empty, .string ByteArray.empty], []⟩ 8 (by kernel_rfl) (by kernel_rfl) (by kernel_rfl) (by kernel_rfl)) ?_
  intro W base args ds gs before hval0 hW _ hsz0 _
  exact contract H enc W base args ds gs before hval0 hW hsz0

theorem over : Rows.pathSortsRow.holds Try.pinned (OpenSpec.ofChange Rows.pathSortsSpec) :=
  OpenClaim.holds_of_wide 6 Try.f6 rfl rfl rfl rfl rfl rfl rfl ⟨rfl, rfl, rfl, rfl, rfl⟩ rfl rfl rfl rfl rfl (by kernel_rfl) Try.func6 (by kernel_rfl)
    (of_decide_eq_true (by kernel_rfl)) (by unfold Func.isWrapper; first | (rw [if_pos (by decide +kernel)]; kernel_rfl) | (rw [if_neg (by decide +kernel)]; exact ⟨rfl, rfl⟩))
    (fun os started H enc _ => lifted os started H enc)

end Go.Proofs.Ytgefkgdokjehnaa.pathSorts
namespace Go.Proofs.Ytgefkgdokjehnaa
theorem pathSorts_holds : Rows.PathSortsSaid := pathSorts.over
#print axioms pathSorts_holds
end Go.Proofs.Ytgefkgdokjehnaa
