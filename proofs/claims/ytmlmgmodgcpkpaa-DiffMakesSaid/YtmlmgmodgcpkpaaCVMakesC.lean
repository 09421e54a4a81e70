/-
  DiffMakes: for every two lists of lines: the script makes the second list of the first; lists of more lines than may be are refused.
  It is said of the code of package diff as it landed, for every argument of the given row's domain, in the first form; the law returns true, and writes nothing that was there. No other condition.
-/
import Derived.Test.YtmlmgmodgcpkpaaT2
import Derived.ProofKit
import Derived.OpenShut
import Derived.ChangeOld
import Derived.Below
import Derived.JoinedCond
namespace Go.Proofs.Ytmlmgmodgcpkpaa.diffMakes
open Go.ChangeShapes Go.WideShapes Go.ChangeAt Go.RowKit Tx Um Ud Aq
set_option linter.unusedVariables false
set_option maxRecDepth 100000 in
set_option maxHeartbeats 1000000 in
theorem walk (hM : Impl) (A B : Option Addr) (ca cb : Nat) (a b : List ByteArray) (w : World) (hA : Strs w A a.length a) (hB : Strs w B b.length b) (hza : Szs a) (hzb : Szs b) (hAn : a.length ≤ 9223372036854775807) (hBn : b.length ≤ 9223372036854775807) :
    Calls Try.prog 4 #[.slice A a.length ca, .slice B b.length cb] w fun e w' => e = .returned (.bool true) ∧ Below w.heap.size w w' := by
  have c1 := hM.script A B ca cb a b w hA hB hza hzb
  clear hza hzb
  unfold PrsTo at c1
  cases hL : lng a b with
  | true =>
    rw [scr_yes hL, err_yes hL] at c1
    clear hL
    go_enter Try.func4, Try.ntmps4
    go_wp2_with fail
    go_at_call 7
    refine c1.mono ?_
    rintro e w1 ⟨v, rfl, hv, hb1⟩
    obtain ⟨ad, cc, rfl, _⟩ := hv.form
    clear hv c1
    go_wp2_with fail
    go_at_call 12
    refine (awake_any12 hM _).mono ?_
    rintro e w2 ⟨rfl, hb2⟩
    have hB2 := below_call hb1 hb2
    go_wp2_with fail
    go_at_call 12
    refine (awake_any12 hM _).mono ?_
    rintro e w3 ⟨rfl, hb3⟩
    have hB3 := below_call hB2 hb3
    go_wp2_with fail
    go_ret
    exact ⟨rfl, hB3⟩
  | false =>
    rw [scr_no hL, err_no hL] at c1
    obtain ⟨ha4, hb4⟩ := lng_small hL
    have hmk := makes a b
    have hrg := runs_good (steps a b)
    have hfl := runs_flat (steps a b)
    have hrl := runs_len (steps a b)
    have hln := hmk.lens
    have hll := lcs_le_left a b
    have hkk := kept a b
    obtain ⟨s, hs⟩ : ∃ s, s = steps a b := ⟨_, rfl⟩
    rw [← hs] at c1 hmk hrg hfl hrl hln hkk
    obtain ⟨R, hR⟩ : ∃ R, R = runs s := ⟨_, rfl⟩
    rw [← hR] at c1 hrg hfl hrl
    have hat := hmk.at
    have hendA : cA s = a.length := hln.1
    have hendB : cB s = b.length := hln.2.1
    have hs800 : s.length ≤ 800 := by omega
    obtain ⟨m, hm⟩ : ∃ m, m = a.length := ⟨_, rfl⟩
    obtain ⟨n, hn⟩ : ∃ n, n = b.length := ⟨_, rfl⟩
    rw [← hm] at c1 hendA ⊢
    rw [← hn] at c1 hendB ⊢
    obtain ⟨L, hLL⟩ : ∃ L, L = R.length := ⟨_, rfl⟩
    rw [← hLL] at hrl
    have HAT := Lib.hid hat
    have HRG := Lib.hid hrg
    have HFL := Lib.hid hfl
    have HEA := Lib.hid hendA
    have HEB := Lib.hid hendB
    have HM := Lib.hid hm
    have HN := Lib.hid hn
    have HLL := Lib.hid hLL
    have HAS := Lib.hid hA
    have HBS := Lib.hid hB
    have hm4 : m ≤ 400 := by omega
    have hn4 : n ≤ 400 := by omega
    clear hL hs hR hat hrg hfl hendA hendB hm hn hmk hln hll hkk hA hB hAn hBn ha4 hb4
    go_enter Try.func4, Try.ntmps4
    go_wp2_with fail
    go_at_call 7
    refine c1.mono ?_
    rintro e w1 ⟨v, rfl, hv, hb1⟩
    obtain ⟨ad, cc, rfl, hrd⟩ := hv.form
    rw [← hLL] at hrd ⊢
    clear hv c1 hLL
    go_wp2_with fail
    go_at_call 12
    refine (awake_any12 hM _).mono ?_
    rintro e w2 ⟨rfl, hb2⟩
    have hr2 := Lib.hid (hrd.below hb2)
    have hB2 := below_call hb1 hb2
    have HB2 := Lib.hid hB2
    clear hrd hb1 hb2 hB2
    go_wp2_with fail
    go_loopw [7, 8, 9, 10, 11] (fun i j z q _ wr => ∃ (t : Nat) (Z : Int), q = .int .i64 t ∧ t ≤ L ∧ i = .int .i64 (cA (s.take (pos R t)) : Nat) ∧ j = .int .i64 (cB (s.take (pos R t)) : Nat) ∧ z = .int .i64 Z ∧ Hid (∀ p, R[t]? = some p → (p.1 : Int) ≠ Z) ∧ Below w2.heap.size w2 wr) (fun _ _ _ q _ _ => L - (intOf q).toNat)
    case atStart => exact ⟨0, -1, rfl, Nat.zero_le _, rfl, rfl, rfl, fun p hp => by omega, Below.refl _ _⟩
    case round =>
      obtain ⟨t, Z, rfl, ht, rfl, rfl, rfl, HZ, hb⟩ := hrel
      by_cases hlt : t < L
      · have e1 : (t : Int) < (L : Int) := by omega
        obtain ⟨p, hp⟩ : ∃ p, R[t]? = some p := ⟨_, List.getElem?_eq_getElem (by rw [← HLL.out]; exact hlt)⟩
        obtain ⟨bb, ob, rfl, hbb, hc⟩ := hr2.out.2.resolve_left (by omega)
        obtain ⟨c1, c2⟩ := hc t p hp
        have d1 := (hb.cell (p := ⟨bb, _, none⟩) hbb).trans c1
        have d2 := (hb.cell (p := ⟨bb, _, none⟩) hbb).trans c2
        have HC1 := Lib.hid c1
        have HC2 := Lib.hid c2
        have hN1 := HRG.out.1 p (List.mem_iff_getElem?.2 ⟨t, hp⟩)
        have hzne := HZ.out p hp
        have HNX : Hid (∀ q, R[t + 1]? = some q → ((q.1 : Nat) : Int) ≠ (p.1 : Int)) := fun q hq h => HRG.out.2 t p q hp hq (by omega)
        have HPN := Lib.hid (pos_next hp)
        have HAT2 : Hid (∀ k, k < p.2 → s[pos R t + k]? = some p.1) := fun k hk => by
          have := flat_at hp hk
          rw [HFL.out] at this
          exact this
        have hx012 : p.1 = 0 ∨ p.1 = 1 ∨ p.1 = 2 := by
          rcases HAT.out _ _ (HAT2.out 0 hN1) with ⟨h, _⟩ | ⟨h, _⟩ | ⟨h, _⟩
          · exact .inl h
          · exact .inr (.inl h)
          · exact .inr (.inr h)
        have hNL : pos R t + p.2 ≤ 800 := by
          have := (List.getElem?_eq_some_iff.1 (HAT2.out (p.2 - 1) (by omega))).1
          omega
        obtain ⟨T, hT⟩ : ∃ T, T = pos R t := ⟨_, rfl⟩
        rw [← hT] at HPN HAT2 hNL ⊢
        obtain ⟨x, N⟩ := p
        unfold iv at d1 d2 HC1 HC2
        simp only at d1 d2 HC1 HC2 hN1 hzne HNX HPN HAT2 hx012 hNL
        clear hp hc c1 c2 HZ hT hr2
        have e2 : ¬ (N : Int) < 1 := by omega
        have e2' : ¬ N < 1 := by omega
        have e3 : ((x : Int) == Z) = false := beq_eq_false_iff_ne.2 hzne
        have e4 : ¬ (x : Int) < 0 := by omega
        have e5 : ¬ (2 : Int) < (x : Int) := by omega
        have e5' : ¬ 2 < x := by omega
        clear hzne
        go_wp2_with fail
        go_loopw [7, 8, 11] (fun i j q wx => ∃ k : Nat, k ≤ N ∧ i = .int .i64 (cA (s.take (T + k)) : Nat) ∧ j = .int .i64 (cB (s.take (T + k)) : Nat) ∧ q = .int .i64 k ∧ Below w2.heap.size w2 wx) (fun _ _ q _ => N - (intOf q).toNat)
        case atStart => exact ⟨0, Nat.zero_le _, rfl, rfl, rfl, hb⟩
        case round =>
          clear d1 d2 hb
          obtain ⟨k, hk, rfl, rfl, rfl, hbx⟩ := hrel
          have d1 := (hbx.cell (p := ⟨bb, _, none⟩) hbb).trans HC1.out
          have d2 := (hbx.cell (p := ⟨bb, _, none⟩) hbb).trans HC2.out
          by_cases hkl : k < N
          · have f1 : (k : Int) < (N : Int) := by omega
            have hxs := HAT2.out k hkl
            obtain ⟨tA, tB⟩ := take_at hxs
            rw [Nat.add_assoc] at tA tB
            have hr := HAT.out _ _ hxs
            obtain ⟨iA, hiA⟩ : ∃ iA, iA = cA (s.take (T + k)) := ⟨_, rfl⟩
            obtain ⟨iB, hiB⟩ : ∃ iB, iB = cB (s.take (T + k)) := ⟨_, rfl⟩
            obtain ⟨jA, hjA⟩ : ∃ jA, jA = cA (s.take (T + (k + 1))) := ⟨_, rfl⟩
            obtain ⟨jB, hjB⟩ : ∃ jB, jB = cB (s.take (T + (k + 1))) := ⟨_, rfl⟩
            have hBw : Below w.heap.size w wr := HB2.out.trans (hbx.mono HB2.out.size)
            rw [← hiA, ← hjA] at tA
            rw [← hiB, ← hjB] at tB
            rw [← hiA, ← hiB]
            have HJA := Lib.hid hjA
            have HJB := Lib.hid hjB
            rcases hr with ⟨hx0, hi, hj, he⟩ | ⟨hx0, hi⟩ | ⟨hx0, hj⟩
            · have hi0 := hi
              have hj0 := hj
              have hi : iA < m := by rw [hiA, HM.out]; exact hi0
              have hj : iB < n := by rw [hiB, HN.out]; exact hj0
              obtain ⟨ba, oa, hAe, g1⟩ := strs_cell (k := iA) HAS.out (by rw [← HM.out]; exact hi) hBw
              obtain ⟨bc, oc, hBe, g2⟩ := strs_cell (k := iB) HBS.out (by rw [← HN.out]; exact hj) hBw
              have hST : a[iA]'(by rw [← HM.out]; exact hi) = b[iB]'(by rw [← HN.out]; exact hj) := by
                simp only [hiA, hiB]
                exact he
              rw [hAe, hBe]
              rw [← hST] at g2
              obtain ⟨S, hS⟩ : ∃ S, S = a[iA]'(by rw [← HM.out]; exact hi) := ⟨_, rfl⟩
              rw [← hS] at g1 g2
              have e6 : (S.toList == S.toList) = true := beq_self_eq_true _
              have hi' : (iA : Int) < (m : Int) := by omega
              have hj' : (iB : Int) < (n : Int) := by omega
              have hi2 : ¬ (m : Int) ≤ (iA : Int) := by omega
              have hj2 : ¬ (n : Int) ≤ (iB : Int) := by omega
              have q0 : ((x : Int) == 0) = true := beq_iff_eq.2 (by omega)
              have r0 : (!((x : Int) == 0)) = false := by rw [q0]; rfl
              have q1 : ((x : Int) == 1) = false := beq_eq_false_iff_ne.2 (by omega)
              have r1 : (!((x : Int) == 1)) = true := by rw [q1]; rfl
              have q2 : ((x : Int) == 2) = false := beq_eq_false_iff_ne.2 (by omega)
              have r2 : (!((x : Int) == 2)) = true := by rw [q2]; rfl
              have s0 : decide ((x : Int) = 0) = true := by exact decide_eq_true (by omega)
              have t0 : ((x : Int) != 0) = false := by unfold bne; exact r0
              have u0 : (x == 0) = true := beq_iff_eq.2 (by omega)
              have v0 : (!(x == 0)) = false := by rw [u0]; rfl
              have s1 : decide ((x : Int) = 1) = false := by exact decide_eq_false (by omega)
              have t1 : ((x : Int) != 1) = true := by unfold bne; exact r1
              have u1 : (x == 1) = false := beq_eq_false_iff_ne.2 (by omega)
              have v1 : (!(x == 1)) = true := by rw [u1]; rfl
              have s2 : decide ((x : Int) = 2) = false := by exact decide_eq_false (by omega)
              have t2 : ((x : Int) != 2) = true := by unfold bne; exact r2
              have u2 : (x == 2) = false := beq_eq_false_iff_ne.2 (by omega)
              have v2 : (!(x == 2)) = true := by rw [u2]; rfl
              have hi3 : ¬ m ≤ iA := by omega
              have hj3 : ¬ n ≤ iB := by omega
              have tA' : jA = iA + 1 := by rw [tA, if_pos (.inl hx0)]
              have tB' : jB = iB + 1 := by rw [tB, if_pos (.inl hx0)]
              clear hx0
              clear hi0 hj0 he hST hS hAe hBe tA tB hBw hx012 hxs hiA hiB hjA hjB
              go_wp2_with fail
              go_region
              go_wp2_with fail
              go_roundw
              case rel => exact ⟨k + 1, by omega, by rw [← HJA.out, tA'] <;> first | rfl | go_num, by rw [← HJB.out, tB'] <;> first | rfl | go_num, by go_num, below_drewN hbx 1⟩
              case measure => simp only [intOf]; omega
            · have hi0 := hi
              have hi : iA < m := by rw [hiA, HM.out]; exact hi0
              have hi' : (iA : Int) < (m : Int) := by omega
              have hi2 : ¬ (m : Int) ≤ (iA : Int) := by omega
              have q0 : ((x : Int) == 0) = false := beq_eq_false_iff_ne.2 (by omega)
              have r0 : (!((x : Int) == 0)) = true := by rw [q0]; rfl
              have q1 : ((x : Int) == 1) = true := beq_iff_eq.2 (by omega)
              have r1 : (!((x : Int) == 1)) = false := by rw [q1]; rfl
              have q2 : ((x : Int) == 2) = false := beq_eq_false_iff_ne.2 (by omega)
              have r2 : (!((x : Int) == 2)) = true := by rw [q2]; rfl
              have s0 : decide ((x : Int) = 0) = false := by exact decide_eq_false (by omega)
              have t0 : ((x : Int) != 0) = true := by unfold bne; exact r0
              have u0 : (x == 0) = false := beq_eq_false_iff_ne.2 (by omega)
              have v0 : (!(x == 0)) = true := by rw [u0]; rfl
              have s1 : decide ((x : Int) = 1) = true := by exact decide_eq_true (by omega)
              have t1 : ((x : Int) != 1) = false := by unfold bne; exact r1
              have u1 : (x == 1) = true := beq_iff_eq.2 (by omega)
              have v1 : (!(x == 1)) = false := by rw [u1]; rfl
              have s2 : decide ((x : Int) = 2) = false := by exact decide_eq_false (by omega)
              have t2 : ((x : Int) != 2) = true := by unfold bne; exact r2
              have u2 : (x == 2) = false := beq_eq_false_iff_ne.2 (by omega)
              have v2 : (!(x == 2)) = true := by rw [u2]; rfl
              have hi3 : ¬ m ≤ iA := by omega
              have tA' : jA = iA + 1 := by rw [tA, if_pos (.inr hx0)]
              have tB' : jB = iB := by rw [tB, if_neg (by omega)]; rfl
              clear hx0
              clear hi0 tA tB hBw hx012 hxs hiA hiB hjA hjB
              go_wp2_with fail
              go_region
              go_wp2_with fail
              go_roundw
              case rel => exact ⟨k + 1, by omega, by rw [← HJA.out, tA'] <;> first | rfl | go_num, by rw [← HJB.out, tB'] <;> first | rfl | go_num, by go_num, below_drewN hbx 1⟩
              case measure => simp only [intOf]; omega
            · have hj0 := hj
              have hj : iB < n := by rw [hiB, HN.out]; exact hj0
              have hj' : (iB : Int) < (n : Int) := by omega
              have hj2 : ¬ (n : Int) ≤ (iB : Int) := by omega
              have q0 : ((x : Int) == 0) = false := beq_eq_false_iff_ne.2 (by omega)
              have r0 : (!((x : Int) == 0)) = true := by rw [q0]; rfl
              have q1 : ((x : Int) == 1) = false := beq_eq_false_iff_ne.2 (by omega)
              have r1 : (!((x : Int) == 1)) = true := by rw [q1]; rfl
              have q2 : ((x : Int) == 2) = true := beq_iff_eq.2 (by omega)
              have r2 : (!((x : Int) == 2)) = false := by rw [q2]; rfl
              have s0 : decide ((x : Int) = 0) = false := by exact decide_eq_false (by omega)
              have t0 : ((x : Int) != 0) = true := by unfold bne; exact r0
              have u0 : (x == 0) = false := beq_eq_false_iff_ne.2 (by omega)
              have v0 : (!(x == 0)) = true := by rw [u0]; rfl
              have s1 : decide ((x : Int) = 1) = false := by exact decide_eq_false (by omega)
              have t1 : ((x : Int) != 1) = true := by unfold bne; exact r1
              have u1 : (x == 1) = false := beq_eq_false_iff_ne.2 (by omega)
              have v1 : (!(x == 1)) = true := by rw [u1]; rfl
              have s2 : decide ((x : Int) = 2) = true := by exact decide_eq_true (by omega)
              have t2 : ((x : Int) != 2) = false := by unfold bne; exact r2
              have u2 : (x == 2) = true := beq_iff_eq.2 (by omega)
              have v2 : (!(x == 2)) = false := by rw [u2]; rfl
              have hj3 : ¬ n ≤ iB := by omega
              have tA' : jA = iA := by rw [tA, if_neg (by omega)]; rfl
              have tB' : jB = iB + 1 := by rw [tB, if_pos (.inr hx0)]
              clear hx0
              clear hj0 tA tB hBw hx012 hxs hiA hiB hjA hjB
              go_wp2_with fail
              go_region
              go_wp2_with fail
              go_roundw
              case rel => exact ⟨k + 1, by omega, by rw [← HJA.out, tA'] <;> first | rfl | go_num, by rw [← HJB.out, tB'] <;> first | rfl | go_num, by go_num, below_drewN hbx 1⟩
              case measure => simp only [intOf]; omega
          · obtain rfl : k = N := by omega
            have f1 : ¬ (k : Int) < (k : Int) := by omega
            have hcA := HPN.out
            rw [← hcA]
            clear hcA
            go_wp2_with fail
            go_roundw
            case rel => exact ⟨t + 1, (x : Int), by go_num, by omega, rfl, rfl, rfl, HNX, hbx⟩
            case measure => simp only [intOf]; omega
      · have e1 : ¬ (t : Int) < (L : Int) := by omega
        have hpe := pos_end R (n := t) (by rw [← HLL.out]; omega)
        rw [HFL.out] at hpe
        rw [hpe, List.take_length, HEA.out, HEB.out]
        have hB : Below w.heap.size w wr := HB2.out.trans (hb.mono HB2.out.size)
        clear hpe HZ
        go_wp2_with fail
        go_ret
        exact ⟨rfl, hB⟩
theorem own : ownKnob Try.prog.godebug = none := by kernel_rfl
theorem laidOut : laidOutB Try.prog = true := by kernel_rfl
set_option maxRecDepth 100000 in
theorem contract (hM : Impl) (H : Type) (enc : TypeId × Value → H) (W : World) (base : Nat) (args : Array Value) (ds gs : List (DataW H)) (before : List MemPlace)
    (hval0 : ∀ (j : Nat) t v, Try.f4.params[j]? = some t → args[j]? = some v → Value.okWide Try.prog W .any base t v)
    (hW : DataW.Whole enc Try.prog Try.f4.params.toList Rows.diffMakesSpec.vars false W args.toList ds gs before)
    (hsz0 : (DataW.weightsEach Try.prog (Try.f4.params.toList ++ Rows.diffMakesSpec.plain.varTypes Try.prog) (ds ++ gs)).all (· ≤ reachBytes) = true) :
    Calls Try.prog 4 args W fun e W' => ∃ v, e = .returned v ∧ Rows.diffMakesSpec.post enc Try.prog Try.f4 false true false false W args v W' := by
  have hval : ∀ (j : Nat) t v, Try.f4.params[j]? = some t → args[j]? = some v → Value.okWide Try.prog W .any base t v := hval0
  have hsz := hsz0
  clear hsz0
  have hW' := hW
  obtain ⟨p, q, hA0, hV, rfl, hfz, hnd⟩ := hW
  have hA : DataW.TrodAll enc Try.prog W 0 (fun _ => true) true Try.f4.params.toList args.toList ds p := hA0
  rw [Try.params4] at hA hval hsz
  obtain ⟨v0, vs0, d0, ds0, p0, q0, hargs, rfl, rfl, h0, r0⟩ := trodAll_cons hA
  obtain ⟨v1, vs1, d1, ds1, p1, q1, rfl, rfl, rfl, h1, r1⟩ := trodAll_cons r0
  obtain ⟨rfl, rfl, rfl⟩ := trodAll_nil r1
  obtain rfl : args = #[v0, v1] := by cases args; simp_all
  obtain ⟨rfl, rfl⟩ := trodVars_none hV
  obtain ⟨A0, n0, c0, rfl⟩ := okWide_slice Try.underlying22 (hval 0 22 v0 rfl rfl)
  have k0 := h0
  have lt0 : ∀ x ∈ p0, x.block < W.heap.size := by obtain ⟨m, hm⟩ := k0; exact DataW.trod_lt m _ _ _ hm
  obtain ⟨A1, n1, c1, rfl⟩ := okWide_slice Try.underlying22 (hval 1 22 v1 rfl rfl)
  have k1 := h1
  have lt1 : ∀ x ∈ p1, x.block < W.heap.size := by obtain ⟨m, hm⟩ := k1; exact DataW.trod_lt m _ _ _ hm
  clear hA0 hval0
  obtain ⟨l0, hl0⟩ := arg_list h0 (j := 0) hsz rfl rfl
  obtain ⟨l1, hl1⟩ := arg_list h1 (j := 1) hsz rfl rfl
  have e0 := hl0.1.1
  have e1 := hl1.1.1
  subst e0
  subst e1
  refine (walk hM A0 A1 c0 c1 l0 l1 W hl0.1 hl1.1 hl0.2.2.2 hl1.2.2.2 (by have := hl0.2.2.1; omega) (by have := hl1.2.2.1; omega)).mono fun e W' ⟨he, bel⟩ => ?_
  subst he
  exact ⟨_, rfl, _, _, _, [], _, [], hW', trodAll_mk1 (shut_bool Try.underlying4 _), (trodAll_cons_mk (Below.trod laidOut (by kernel_rfl) (of_decide_eq_true (by kernel_rfl)) k0 bel lt0) (trodAll_cons_mk (Below.trod laidOut (by kernel_rfl) (of_decide_eq_true (by kernel_rfl)) k1 bel lt1) trodAll_mk0)), rfl, bel.frame _, fun h => by cases h⟩
set_option maxRecDepth 100000 in
theorem lifted (hM : Impl) (os : Os) (started : os.Started) (H : Type) (enc : TypeId × Value → H) :
    ReturnsInHanded {} Try.checked os 4 .any (Rows.diffMakesSpec.pre6 enc Try.prog Try.f4 Rows.diffMakesRow.domain false) (Rows.diffMakesSpec.post enc Try.prog Try.f4 false true false false) := by
  refine returnsInHanded_of_change_sized (C := Try.checked) own started (by kernel_rfl) Try.func4
    (ChangeSpec.witness6 (enc := enc) (C := Try.checked) false ⟨#[], #[.slice none 0 0, .slice none 0 0], []⟩ 8 (by kernel_rfl) (by kernel_rfl) (by kernel_rfl) (by kernel_rfl)) ?_
  intro W base args ds gs before hval0 hW _ hsz0 _
  exact contract hM H enc W base args ds gs before hval0 hW hsz0
theorem over (hM : Impl) : Rows.diffMakesRow.holds Try.pinned (OpenSpec.ofChange Rows.diffMakesSpec) :=
  OpenClaim.holds_of_wide 4 Try.f4 rfl rfl rfl rfl rfl rfl rfl ⟨rfl, rfl, rfl, rfl, rfl⟩ rfl rfl rfl rfl rfl (by kernel_rfl) Try.func4 (by kernel_rfl)
    (of_decide_eq_true (by kernel_rfl)) (by unfold Func.isWrapper; first | (rw [if_pos (by decide +kernel)]; kernel_rfl) | (rw [if_neg (by decide +kernel)]; exact ⟨rfl, rfl⟩))
    (fun os started H enc _ => lifted hM os started H enc)
end Go.Proofs.Ytmlmgmodgcpkpaa.diffMakes

namespace Go.Proofs.Ytmlmgmodgcpkpaa
theorem diffMakes_holds : Rows.DiffMakesSaid := diffMakes.over Ud.impl
#print axioms diffMakes_holds
end Go.Proofs.Ytmlmgmodgcpkpaa
