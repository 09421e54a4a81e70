/-
  PathJoins: no condition.
-/
import Derived.Test.YtgefkgdokjehnaaPAwake
import Derived.Test.YtgefkgdokjehnaaPLawMath
import Derived.ProofKit
import Derived.OpenShut
import Derived.ChangeOld
import Derived.Below
import Derived.SizedLaws
import Derived.ShutString
namespace Go.Proofs.Ytgefkgdokjehnaa.pathJoins
open Go.ChangeMaps (open_string shut_string)
open Go.ChangeShapes Go.WideShapes Go.ChangeAt Go.RowKit Pm Tx Pr
set_option linter.unusedVariables false

set_option maxRecDepth 100000 in
set_option maxHeartbeats 1000000 in
theorem walk (p q : ByteArray) (a b : Int) (w : World) (hs : p.size ≤ 140737488351232) (ht : q.size ≤ 140737488351232) (h1 : -9223372036854775808 ≤ a) (h2 : a ≤ 9223372036854775807) (h3 : -9223372036854775808 ≤ b) (h4 : b ≤ 9223372036854775807) :
    Calls Try.prog 5 #[.string p, .string q, .int .i64 a, .int .i64 b] w fun e w' => e = .returned (.bool true) ∧ Below w.heap.size w w' := by
  have aw := fun W => awake_any3 W
  have c1 := fun W => pCheck_any p a W (by omega) h1 h2
  have c2 := fun W => pCheck_any q b W (by omega) h3 h4
  rcases chk_two p.data.toList a with hp | hp
  case inr =>
    rw [hp] at c1
    clear hp c2
    go_enter Try.func5, Try.ntmps5
    go_wp2_with fail
    go_at_call 7
    refine (aw _).mono ?_
    rintro e w0 ⟨rfl, hb0⟩
    go_wp2_with fail
    go_at_call 8
    refine (c1 _).mono ?_
    rintro e w1 ⟨rfl, hb1⟩
    go_wp2_with fail
    go_at_call 7
    refine (aw _).mono ?_
    rintro e w2 ⟨rfl, hb2⟩
    go_wp2_with fail
    go_ret
    exact ⟨rfl, below_call (below_call (hb0) hb1) hb2⟩
  rcases chk_two q.data.toList b with hq | hq
  case inr =>
    rw [hp] at c1
    rw [hq] at c2
    clear hp hq
    go_enter Try.func5, Try.ntmps5
    go_wp2_with fail
    go_at_call 7
    refine (aw _).mono ?_
    rintro e w0 ⟨rfl, hb0⟩
    go_wp2_with fail
    go_at_call 8
    refine (c1 _).mono ?_
    rintro e w1 ⟨rfl, hb1⟩
    go_wp2_with fail
    go_at_call 8
    refine (c2 _).mono ?_
    rintro e w2 ⟨rfl, hb2⟩
    go_wp2_with fail
    go_at_call 7
    refine (aw _).mono ?_
    rintro e w3 ⟨rfl, hb3⟩
    go_wp2_with fail
    go_ret
    exact ⟨rfl, below_call (below_call (below_call (hb0) hb1) hb2) hb3⟩
  rw [hp] at c1
  rw [hq] at c2
  by_cases ha : 1000 < a
  · clear hp hq
    go_enter Try.func5, Try.ntmps5
    go_wp2_with fail
    go_at_call 7
    refine (aw _).mono ?_
    rintro e w0 ⟨rfl, hb0⟩
    go_wp2_with fail
    go_at_call 8
    refine (c1 _).mono ?_
    rintro e w1 ⟨rfl, hb1⟩
    go_wp2_with fail
    go_at_call 8
    refine (c2 _).mono ?_
    rintro e w2 ⟨rfl, hb2⟩
    go_wp2_with fail
    go_at_call 7
    refine (aw _).mono ?_
    rintro e w3 ⟨rfl, hb3⟩
    go_wp2_with fail
    go_ret
    exact ⟨rfl, below_call (below_call (below_call (hb0) hb1) hb2) hb3⟩
  by_cases hb : 1000 < b
  · clear hp hq
    go_enter Try.func5, Try.ntmps5
    go_wp2_with fail
    go_at_call 7
    refine (aw _).mono ?_
    rintro e w0 ⟨rfl, hb0⟩
    go_wp2_with fail
    go_at_call 8
    refine (c1 _).mono ?_
    rintro e w1 ⟨rfl, hb1⟩
    go_wp2_with fail
    go_at_call 8
    refine (c2 _).mono ?_
    rintro e w2 ⟨rfl, hb2⟩
    go_wp2_with fail
    go_at_call 7
    refine (aw _).mono ?_
    rintro e w3 ⟨rfl, hb3⟩
    go_wp2_with fail
    go_ret
    exact ⟨rfl, below_call (below_call (below_call (hb0) hb1) hb2) hb3⟩
  obtain ⟨lp, gp⟩ := ok_of hp
  obtain ⟨lq, gq⟩ := ok_of hq
  have pp := spl_pos p.data.toList
  have pq := spl_pos q.data.toList
  have hj := joi_ne (good_ne gp) (good_ne gq)
  have hl := spl_app p.data.toList q.data.toList
  have c3 := fun W => pJoin_any p q W (by omega)
  rw [hj] at c3
  have gj := good_app gp gq
  have hpl := par_len p.data.toList
  have hbl := bas_len p.data.toList
  rw [len_l] at hpl hbl
  have c4 := fun W => pParent_any p W (by omega)
  have c5 := fun W => pBase_any p W (by omega)
  have c6 := fun W => pJoin_any (tb (par p.data.toList)) (tb (bas p.data.toList)) W (by rw [tb_size, tb_size]; omega)
  rw [tb_list, tb_list, joi_back gp, tb_of] at c6
  have c7 := fun W => pName_any (tb (bas p.data.toList)) W (by rw [tb_size]; omega)
  rw [tb_list, bas_name gp] at c7
  have jz : (tb (p.data.toList ++ 47 :: q.data.toList)).size ≤ 281474976710657 := by rw [tb_size, List.length_append, List.length_cons, len_l, len_l]; omega
  have c8 := fun W => pCheck_any (tb (p.data.toList ++ 47 :: q.data.toList)) (a + b) W (by omega) (by omega) (by omega)
  rw [tb_list, ok_to (by rw [hl, List.length_append]; omega) gj] at c8
  have c9 := fun W => pDeep_any (tb (p.data.toList ++ 47 :: q.data.toList)) W (by omega)
  rw [tb_list, dep_good gj, hl, List.length_append] at c9
  have c10 := fun W => pDeep_any p W (by omega)
  rw [dep_good gp] at c10
  have c11 := fun W => pDeep_any q W (by omega)
  rw [dep_good gq] at c11
  have c12 := fun W => pUnder_any (tb (p.data.toList ++ 47 :: q.data.toList)) p W (by omega) (by omega)
  rw [tb_list, und_below] at c12
  have c13 := fun W => pUnder_any p (tb (p.data.toList ++ 47 :: q.data.toList)) W (by omega) (by omega)
  rw [tb_list, und_above] at c13
  have c14 := fun W => pUnder_any p p W (by omega) (by omega)
  rw [und_self] at c14
  have c15 := fun W => pCheck_any (tb (p.data.toList ++ 47 :: q.data.toList)) (((spl p.data.toList).length + (spl q.data.toList).length : Nat) - 1) W (by omega) (by omega) (by omega)
  rw [tb_list, bad_to (by rw [hl, List.length_append]; omega)] at c15
  have c16 := fun W => pUnder_any p (tb (par p.data.toList)) W (by omega) (by rw [tb_size]; omega)
  rw [tb_list, und_par] at c16
  have b1 : ((spl p.data.toList).length : Int) ≤ 1000 := by omega
  have b2 : ((spl q.data.toList).length : Int) ≤ 1000 := by omega
  obtain ⟨J, hJ⟩ : ∃ J, J = tb (p.data.toList ++ 47 :: q.data.toList) := ⟨_, rfl⟩
  obtain ⟨P, hP⟩ : ∃ P, P = tb (par p.data.toList) := ⟨_, rfl⟩
  obtain ⟨B, hB⟩ : ∃ B, B = tb (bas p.data.toList) := ⟨_, rfl⟩
  obtain ⟨n, hn⟩ : ∃ n, n = (spl p.data.toList).length := ⟨_, rfl⟩
  obtain ⟨m, hm⟩ : ∃ m, m = (spl q.data.toList).length := ⟨_, rfl⟩
  rw [← hn] at pp b1 lp
  rw [← hm] at pq b2 lq
  rw [← hJ] at c3 c8 c9 c12 c13 c15
  rw [← hP] at c4 c6 c16
  rw [← hB] at c5 c6 c7
  rw [← hn] at c9 c10 c15
  rw [← hm] at c9 c11 c15
  have eP : (p.toList == p.toList) = true := beq_self_eq_true _
  have eN : ((n : Int) + m == (n : Int) + m) = true := beq_self_eq_true _
  have eC : ((n + m : Nat) : Int) = (n : Int) + m := by omega
  rw [eC] at c9 c15
  clear hJ hP hB hn hm gp gq gj hj hl hp hq hpl hbl jz eC
  go_enter Try.func5, Try.ntmps5
  go_wp2_with fail
  go_at_call 7
  refine (aw _).mono ?_
  rintro e w0 ⟨rfl, hb0⟩
  go_wp2_with fail
  go_at_call 8
  refine (c1 _).mono ?_
  rintro e w1 ⟨rfl, hb1⟩
  go_wp2_with fail
  go_at_call 8
  refine (c2 _).mono ?_
  rintro e w2 ⟨rfl, hb2⟩
  go_wp2_with fail
  go_at_call 16
  refine (c3 _).mono ?_
  rintro e w3 ⟨rfl, hb3⟩
  go_wp2_with fail
  go_at_call 12
  refine (c4 _).mono ?_
  rintro e w4 ⟨rfl, hb4⟩
  go_wp2_with fail
  go_at_call 14
  refine (c5 _).mono ?_
  rintro e w5 ⟨rfl, hb5⟩
  go_wp2_with fail
  go_at_call 16
  refine (c6 _).mono ?_
  rintro e w6 ⟨rfl, hb6⟩
  go_wp2_with fail
  go_at_call 14
  refine (c5 _).mono ?_
  rintro e w7 ⟨rfl, hb7⟩
  go_wp2_with fail
  go_at_call 10
  refine (c7 _).mono ?_
  rintro e w8 ⟨rfl, hb8⟩
  go_wp2_with fail
  go_at_call 8
  refine (c8 _).mono ?_
  rintro e w9 ⟨rfl, hb9⟩
  go_wp2_with fail
  go_at_call 20
  refine (c9 _).mono ?_
  rintro e w10 ⟨rfl, hb10⟩
  go_wp2_with fail
  go_at_call 20
  refine (c10 _).mono ?_
  rintro e w11 ⟨rfl, hb11⟩
  go_wp2_with fail
  go_at_call 20
  refine (c11 _).mono ?_
  rintro e w12 ⟨rfl, hb12⟩
  go_wp2_with fail
  go_at_call 18
  refine (c12 _).mono ?_
  rintro e w13 ⟨rfl, hb13⟩
  go_wp2_with fail
  go_at_call 18
  refine (c13 _).mono ?_
  rintro e w14 ⟨rfl, hb14⟩
  go_wp2_with fail
  go_at_call 18
  refine (c14 _).mono ?_
  rintro e w15 ⟨rfl, hb15⟩
  go_wp2_with fail
  go_at_call 20
  refine (c9 _).mono ?_
  rintro e w16 ⟨rfl, hb16⟩
  go_wp2_with fail
  go_at_call 8
  refine (c15 _).mono ?_
  rintro e w17 ⟨rfl, hb17⟩
  go_wp2_with fail
  go_at_call 12
  refine (c4 _).mono ?_
  rintro e w18 ⟨rfl, hb18⟩
  go_wp2_with fail
  go_at_call 18
  refine (c16 _).mono ?_
  rintro e w19 ⟨rfl, hb19⟩
  go_wp2_with fail
  go_ret
  exact ⟨rfl, below_call (below_call (below_call (below_call (below_call (below_call (below_call (below_call (below_call (below_call (below_call (below_call (below_call (below_call (below_call (below_call (below_call (below_call (below_call (hb0) hb1) hb2) hb3) hb4) hb5) hb6) hb7) hb8) hb9) hb10) hb11) hb12) hb13) hb14) hb15) hb16) hb17) hb18) hb19⟩

theorem own : ownKnob Try.prog.godebug = none := by kernel_rfl
theorem laidOut : laidOutB Try.prog = true := by kernel_rfl

theorem contract (H : Type) (enc : TypeId × Value → H) (W : World) (base : Nat) (args : Array Value) (ds gs : List (DataW H)) (before : List MemPlace)
    (hval0 : ∀ (j : Nat) t v, Try.f5.params[j]? = some t → args[j]? = some v → Value.okWide Try.prog W .any base t v)
    (hW : DataW.Whole enc Try.prog Try.f5.params.toList Rows.pathJoinsSpec.vars false W args.toList ds gs before)
    (hsz0 : (DataW.weightsEach Try.prog (Try.f5.params.toList ++ Rows.pathJoinsSpec.plain.varTypes Try.prog) (ds ++ gs)).all (· ≤ reachBytes) = true) :
    Calls Try.prog 5 args W fun e W' => ∃ v, e = .returned v ∧ Rows.pathJoinsSpec.post enc Try.prog Try.f5 false true false false W args v W' := by
  have hval : ∀ (j : Nat) t v, Try.f5.params[j]? = some t → args[j]? = some v → Value.okWide Try.prog W .any base t v := hval0
  have hsz := hsz0
  clear hsz0
  have hW' := hW
  obtain ⟨p, q, hA0, hV, rfl, hfz, hnd⟩ := hW
  have hA : DataW.TrodAll enc Try.prog W 0 (fun _ => true) true Try.f5.params.toList args.toList ds p := hA0
  rw [Try.params5] at hA hval hsz
  obtain ⟨v0, vs0, d0, ds0, p0, q0, hargs, rfl, rfl, h0, r0⟩ := trodAll_cons hA
  obtain ⟨v1, vs1, d1, ds1, p1, q1, rfl, rfl, rfl, h1, r1⟩ := trodAll_cons r0
  obtain ⟨v2, vs2, d2, ds2, p2, q2, rfl, rfl, rfl, h2, r2⟩ := trodAll_cons r1
  obtain ⟨v3, vs3, d3, ds3, p3, q3, rfl, rfl, rfl, h3, r3⟩ := trodAll_cons r2
  obtain ⟨rfl, rfl, rfl⟩ := trodAll_nil r3
  obtain rfl : args = #[v0, v1, v2, v3] := by cases args; simp_all
  obtain ⟨rfl, rfl⟩ := trodVars_none hV
  obtain ⟨s0, rfl, rfl, rfl, w0⟩ := open_string Try.underlying9 (hval 0 9 v0 rfl rfl) h0
  have hreach0 : s0.size ≤ 140737488351232 := by
    have := sized_string hsz (j := 0) (t := 9) rfl rfl
    simpa [reachBytes] using this
  obtain ⟨s1, rfl, rfl, rfl, w1⟩ := open_string Try.underlying9 (hval 1 9 v1 rfl rfl) h1
  have hreach1 : s1.size ≤ 140737488351232 := by
    have := sized_string hsz (j := 1) (t := 9) rfl rfl
    simpa [reachBytes] using this
  obtain ⟨a2, rfl, rfl, rfl, w2⟩ := open_int Try.underlying3 (hval 2 3 v2 rfl rfl) h2
  have bd2 : -9223372036854775808 ≤ a2 ∧ a2 ≤ 9223372036854775807 := by simpa [Lit.wf, IntKind.min, IntKind.max, IntKind.signed, IntKind.bits] using w2
  obtain ⟨a3, rfl, rfl, rfl, w3⟩ := open_int Try.underlying3 (hval 3 3 v3 rfl rfl) h3
  have bd3 : -9223372036854775808 ≤ a3 ∧ a3 ≤ 9223372036854775807 := by simpa [Lit.wf, IntKind.min, IntKind.max, IntKind.signed, IntKind.bits] using w3
  clear hA0 hval0
  refine (walk s0 s1 a2 a3 W (by omega) (by omega) bd2.1 bd2.2 bd3.1 bd3.2).mono fun e W' ⟨he, bel⟩ => ?_
  subst he
  exact ⟨_, rfl, _, _, _, [], _, [], hW', trodAll_mk1 (shut_bool Try.underlying4 _), (trodAll_cons_mk (shut_string Try.underlying9 w0) (trodAll_cons_mk (shut_string Try.underlying9 w1) (trodAll_cons_mk (shut_int Try.underlying3 w2) (trodAll_cons_mk (shut_int Try.underlying3 w3) trodAll_mk0)))), rfl, bel.frame _, fun h => by cases h⟩

set_option maxRecDepth 100000 in
theorem lifted (os : Os) (started : os.Started) (H : Type) (enc : TypeId × Value → H) :
    ReturnsInHanded {} Try.checked os 5 .any (Rows.pathJoinsSpec.pre6 enc Try.prog Try.f5 Rows.pathJoinsRow.domain false) (Rows.pathJoinsSpec.post enc Try.prog Try.f5 false true false false) := by
  refine returnsInHanded_of_change_sized (C := Try.checked) own started (by kernel_rfl) Try.func5
    (ChangeSpec.witness6 (enc := enc) (C := Try.checked) false ⟨#[], #[.string ByteArray.empty, .string ByteArray.empty, .int .i64 0, .int .i64 0], []⟩ 8 (by kernel_rfl) (by kernel_rfl) (by kernel_rfl) (by kernel_rfl)) ?_
  intro W base args ds gs before hval0 hW _ hsz0 _
  exact contract H enc W base args ds gs before hval0 hW hsz0

theorem over : Rows.pathJoinsRow.holds Try.pinned (OpenSpec.ofChange Rows.pathJoinsSpec) :=
  OpenClaim.holds_of_wide 5 Try.f5 rfl rfl rfl rfl rfl rfl rfl ⟨rfl, rfl, rfl, rfl, rfl⟩ rfl rfl rfl rfl rfl (by kernel_rfl) Try.func5 (by kernel_rfl)
    (of_decide_eq_true (by kernel_rfl)) (by unfold Func.isWrapper; first | (rw [if_pos (by decide +kernel)]; kernel_rfl) | (rw [if_neg (by decide +kernel)]; exact ⟨rfl, rfl⟩))
    (fun os started H enc _ => lifted os started H enc)

end Go.Proofs.Ytgefkgdokjehnaa.pathJoins
namespace Go.Proofs.Ytgefkgdokjehnaa
theorem pathJoins_holds : Rows.PathJoinsSaid := pathJoins.over
#print axioms pathJoins_holds
end Go.Proofs.Ytgefkgdokjehnaa
