/-
  FrameTurns: for all strings s and behind, and every int: one bit of the frame of s that is turned, behind its length, is found (the checksum doesn't hold), and turned back the frame is as it was: the law returns true, and writes nothing that was there. No condition.
-/
import Derived.Test.YtihbibhmkpefgaaFAwake
import Derived.Test.YtihbibhmkpefgaaFTurnMath
import Derived.ProofKit
import Derived.OpenShut
import Derived.ShutString
import Derived.SizedLaws
import Derived.ChangeOld
import Derived.Below
namespace Go.Proofs.Ytihbibhmkpefgaa.frameTurns
open Go.ChangeMaps (open_string shut_string)
open Go.ChangeShapes Go.WideShapes Go.ChangeAt Go.RowKit Wm Wr Fm Fr
set_option linter.unusedVariables false

set_option maxRecDepth 100000 in
set_option maxHeartbeats 1000000 in
theorem walk (s r : ByteArray) (a : Int) (w : World) (hs : s.size ≤ 140737488351232) (hr : r.size ≤ 140737488351232) (h1 : -9223372036854775808 ≤ a) (h2 : a ≤ 9223372036854775807) :
    Calls Try.prog 7 #[.string s, .string r, .int .i64 a] w fun e w' => e = .returned (.bool true) ∧ Below w.heap.size w w' := by
  have c1 := fun W => fPack_any s W (by omega)
  have hsz := pk_size s
  have hv := vb_len (x := s.size) (by omega)
  have hv0 := vb_pos s.size
  obtain ⟨L, hL⟩ : ∃ L, L = (vb s.size).length := ⟨_, rfl⟩
  rw [← hL] at hsz hv hv0
  obtain ⟨P, hP⟩ : ∃ P, P = pk s := ⟨_, rfl⟩
  rw [← hP] at c1 hsz
  have hfrom : (P.size : Int) - (s.size : Int) - 4 = (L : Int) := by omega
  have hPl : (P.size : Int) ≤ 140737488351246 := by omega
  have hPl0 : 5 ≤ (P.size : Int) := by omega
  by_cases hout : a < 8 * (L : Int) ∨ 8 * (P.size : Int) ≤ a
  · have H := Lib.hid (And.intro hP (And.intro hL hsz))
    clear hP hL hsz
    rcases hout with hout | hout
    all_goals
      go_enter Try.func7, Try.ntmps7
      go_wp2_with (go_at_call 11; refine (c1 _).mono ?_; rintro e wa ⟨rfl, hb1⟩)
      go_at_call 8
      refine (awake_any2 _).mono ?_
      rintro e wb ⟨rfl, hb2⟩
      go_wp2_with fail
      go_at_call 8
      refine (awake_any2 _).mono ?_
      rintro e wc ⟨rfl, hb3⟩
      go_wp2_with fail
      go_ret
      exact ⟨rfl, below_call (below_call hb1 hb2) hb3⟩
  · obtain ⟨B, rfl⟩ : ∃ B : Nat, a = (B : Int) := ⟨a.toNat, by omega⟩
    have hB1 : 8 * L ≤ B := by omega
    have hB2 : B < 8 * P.size := by omega
    have hB1' : 8 * (L : Int) ≤ (B : Int) := by omega
    have hB2' : (B : Int) < 8 * (P.size : Int) := by omega
    have hturn : tn P B = trn P B := by
      rw [tn, if_neg (by omega), Int.emod_eq_of_lt (by omega) (by omega), Int.toNat_natCast]
    have hqs : (trn P B).size = P.size := trn_size P B (by omega)
    have hback : tn (trn P B) B = P := by
      rw [tn, hqs, if_neg (by omega), Int.emod_eq_of_lt (by omega) (by omega), Int.toNat_natCast, trn_trn P B (by omega)]
    have hne : trn P B ≠ P := trn_ne P B (by omega)
    have hread : frAt (trn P B ++ r) 0 = (⟨#[]⟩, 0, 6) := by
      have e0 : (trn P B ++ r).extract 0 (trn P B ++ r).size = ⟨((trn P B).data.toList ++ r.data.toList).toArray⟩ := by
        rw [extract_all]
        apply ByteArray.ext
        simp
      have e1 : fr ((trn P B ++ r).extract 0 (trn P B ++ r).size) = (⟨#[]⟩, 0, 6) := by
        rw [e0, hP]
        exact fr_turned s r.data.toList B (by omega) (by rw [← hL]; exact hB1) (by rw [← hP]; exact hB2)
      rw [frAt, if_neg (by omega), show (0 : Int).toNat = 0 from rfl, e1, if_pos (by simp)]
    have c2 := fun W => fTurn_any P B W (by omega) (by omega) (by omega)
    rw [hturn] at c2
    have c3 := fun W => fRead_any (trn P B ++ r) 0 W (by rw [ByteArray.size_append]; omega) (by omega) (by omega)
    rw [hread] at c3
    have c4 := fun W => fTurn_any (trn P B) B W (by omega) (by omega) (by omega)
    rw [hback] at c4
    have hx := bytes_ne hne
    have hx' : (!((trn P B).toList == P.toList)) = true := by rw [hx]; rfl
    obtain ⟨Q, hQ⟩ : ∃ Q, Q = trn P B := ⟨_, rfl⟩
    rw [← hQ] at c2 c3 c4 hx hx' hqs
    have hsum : Q.size + r.size ≤ 9223372036854775807 := by omega
    have hqs' : (Q.size : Int) = (P.size : Int) := by omega
    clear hturn hback hne hread hQ hqs hP hL hsz
    go_enter Try.func7, Try.ntmps7
    go_wp2_with fail
    go_at_call 11
    refine (c1 _).mono ?_
    rintro e wa ⟨rfl, hb1⟩
    go_wp2_with fail
    go_at_call 8
    refine (awake_any2 _).mono ?_
    rintro e wb ⟨rfl, hb2⟩
    go_wp2_with fail
    go_at_call 13
    refine (c2 _).mono ?_
    rintro e wc ⟨rfl, hb3⟩
    go_wp2_with fail
    go_at_call 15
    refine (c3 _).mono ?_
    rintro e wd ⟨rfl, hb4⟩
    go_wp2_with fail
    go_at_call 13
    refine (c4 _).mono ?_
    rintro e we ⟨rfl, hb5⟩
    go_wp2_with fail
    go_ret
    exact ⟨rfl, below_call (below_call (below_call (below_call hb1 hb2) hb3) hb4) hb5⟩

theorem own : ownKnob Try.prog.godebug = none := by kernel_rfl
theorem laidOut : laidOutB Try.prog = true := by kernel_rfl

theorem contract (H : Type) (enc : TypeId × Value → H) (W : World) (base : Nat) (args : Array Value) (ds gs : List (DataW H)) (before : List MemPlace)
    (hval0 : ∀ (j : Nat) t v, Try.f7.params[j]? = some t → args[j]? = some v → Value.okWide Try.prog W .any base t v)
    (hW : DataW.Whole enc Try.prog Try.f7.params.toList Rows.frameTurnsSpec.vars false W args.toList ds gs before)
    (hsz0 : (DataW.weightsEach Try.prog (Try.f7.params.toList ++ Rows.frameTurnsSpec.plain.varTypes Try.prog) (ds ++ gs)).all (· ≤ reachBytes) = true) :
    Calls Try.prog 7 args W fun e W' => ∃ v, e = .returned v ∧ Rows.frameTurnsSpec.post enc Try.prog Try.f7 false true false false W args v W' := by
  have hval : ∀ (j : Nat) t v, Try.f7.params[j]? = some t → args[j]? = some v → Value.okWide Try.prog W .any base t v := hval0
  have hsz := hsz0
  clear hsz0
  have hW' := hW
  obtain ⟨p, q, hA0, hV, rfl, hfz, hnd⟩ := hW
  have hA : DataW.TrodAll enc Try.prog W 0 (fun _ => true) true Try.f7.params.toList args.toList ds p := hA0
  rw [Try.params7] at hA hval hsz
  obtain ⟨v0, vs0, d0, ds0, p0, q0, hargs, rfl, rfl, h0, r0⟩ := trodAll_cons hA
  obtain ⟨v1, vs1, d1, ds1, p1, q1, rfl, rfl, rfl, h1, r1⟩ := trodAll_cons r0
  obtain ⟨v2, vs2, d2, ds2, p2, q2, rfl, rfl, rfl, h2, r2⟩ := trodAll_cons r1
  obtain ⟨rfl, rfl, rfl⟩ := trodAll_nil r2
  obtain rfl : args = #[v0, v1, v2] := by cases args; simp_all
  obtain ⟨rfl, rfl⟩ := trodVars_none hV
  obtain ⟨s0, rfl, rfl, rfl, w0⟩ := open_string Try.underlying9 (hval 0 9 v0 rfl rfl) h0
  have hreach0 : s0.size ≤ 140737488351232 := by
    have := sized_string hsz (j := 0) (t := 9) rfl rfl
    simpa [reachBytes] using this
  obtain ⟨s1, rfl, rfl, rfl, w1⟩ := open_string Try.underlying9 (hval 1 9 v1 rfl rfl) h1
  have hreach1 : s1.size ≤ 140737488351232 := by
    have := sized_string hsz (j := 1) (t := 9) rfl rfl
    simpa [reachBytes] using this
  obtain ⟨a2, rfl, rfl, rfl, w2⟩ := open_int Try.underlying3 (hval 2 3 v2 rfl rfl) h2
  have bd2 : -9223372036854775808 ≤ a2 ∧ a2 ≤ 9223372036854775807 := by simpa [Lit.wf, IntKind.min, IntKind.max, IntKind.signed, IntKind.bits] using w2
  clear hA0 hval0
  refine (walk s0 s1 a2 W hreach0 hreach1 bd2.1 bd2.2).mono fun e W' ⟨he, bel⟩ => ?_
  subst he
  exact ⟨_, rfl, _, _, _, [], _, [], hW', trodAll_mk1 (shut_bool Try.underlying4 _), (trodAll_cons_mk (shut_string Try.underlying9 w0) (trodAll_cons_mk (shut_string Try.underlying9 w1) (trodAll_cons_mk (shut_int Try.underlying3 w2) trodAll_mk0))), rfl, bel.frame _, fun h => by cases h⟩

set_option maxRecDepth 100000 in
theorem lifted (os : Os) (started : os.Started) (H : Type) (enc : TypeId × Value → H) :
    ReturnsInHanded {} Try.checked os 7 .any (Rows.frameTurnsSpec.pre6 enc Try.prog Try.f7 Rows.frameTurnsRow.domain false) (Rows.frameTurnsSpec.post enc Try.prog Try.f7 false true false false) := by
  refine returnsInHanded_of_change_sized (C := Try.checked) own started (by kernel_rfl) Try.func7
    (ChangeSpec.witness6 (enc := enc) (C := Try.checked) false ⟨#[], #[.string ByteArray.empty, .string ByteArray.empty, .int .i64 0], []⟩ 8 (by kernel_rfl) (by kernel_rfl) (by kernel_rfl) (by kernel_rfl)) ?_
  intro W base args ds gs before hval0 hW _ hsz0 _
  exact contract H enc W base args ds gs before hval0 hW hsz0

theorem over : Rows.frameTurnsRow.holds Try.pinned (OpenSpec.ofChange Rows.frameTurnsSpec) :=
  OpenClaim.holds_of_wide 7 Try.f7 rfl rfl rfl rfl rfl rfl rfl ⟨rfl, rfl, rfl, rfl, rfl⟩ rfl rfl rfl rfl rfl (by kernel_rfl) Try.func7 (by kernel_rfl)
    (of_decide_eq_true (by kernel_rfl)) (by unfold Func.isWrapper; first | (rw [if_pos (by decide +kernel)]; kernel_rfl) | (rw [if_neg (by decide +kernel)]; exact ⟨rfl, rfl⟩))
    (fun os started H enc _ => lifted os started H enc)

end Go.Proofs.Ytihbibhmkpefgaa.frameTurns
namespace Go.Proofs.Ytihbibhmkpefgaa
theorem frameTurns_holds : Rows.FrameTurnsSaid := frameTurns.over
#print axioms frameTurns_holds
end Go.Proofs.Ytihbibhmkpefgaa
