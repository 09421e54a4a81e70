/-
  ReconTurns, of the landed code: with the sides changed about the same is said, turned about. Condition: the bound of the second form (what comes in holds at most 1048576 values and letters).
-/
import Derived.Test.YtkenmldiojeooaaGreatT6
import Derived.JoinedCond
import Derived.SizedLaws
import Derived.ChangeOld
import Derived.Deep.CondSized
namespace Go.Proofs.YtkenmldiojeooaaGreat.reconTurns
open Go.ChangeMaps (open_string shut_string)
open Go.ChangeShapes Go.WideShapes Go.ChangeAt Go.RowKit Tx Pm Pr En Rc
set_option linter.unusedVariables false
set_option linter.unusedSimpArgs false
set_option maxRecDepth 100000 in
set_option maxHeartbeats 8000000 in
theorem walk (A0 : Option Addr) (n0 c0 : Nat) (l0 : List Et) (A1 : Option Addr) (n1 c1 : Nat) (l1 : List Et) (A2 : Option Addr) (n2 c2 : Nat) (l2 : List Et) (w : World) (e0 : Ents w A0 n0 l0) (z0 : A0 = none → c0 = 0) (m0 : n0 ≤ 1048576) (s0 : Small l0) (e1 : Ents w A1 n1 l1) (z1 : A1 = none → c1 = 0) (m1 : n1 ≤ 1048576) (s1 : Small l1) (e2 : Ents w A2 n2 l2) (z2 : A2 = none → c2 = 0) (m2 : n2 ≤ 1048576) (s2 : Small l2) :
    Calls Tryz.prog 6 #[.slice A0 n0 c0, .slice A1 n1 c1, .slice A2 n2 c2] w fun e w' => e = .returned (.bool true) ∧ Below w.heap.size w w' := by
  have CT := Lib.hid (fun W (h : Below w.heap.size w W) => trees_any A0 A1 A2 n0 n1 n2 c0 c1 c2 l0 l1 l2 W (e0.below h) (e1.below h) (e2.below h) m0 m1 m2 s0 s1 s2)
  have E0 := Lib.hid (fun W (h : Below w.heap.size w W) => e0.below h)
  have E1 := Lib.hid (fun W (h : Below w.heap.size w W) => e1.below h)
  have E2 := Lib.hid (fun W (h : Below w.heap.size w W) => e2.below h)
  have Z0 := Lib.hid z0
  have S0 := Lib.hid s0
  have Z1 := Lib.hid z1
  have S1 := Lib.hid s1
  have Z2 := Lib.hid z2
  have S2 := Lib.hid s2
  clear e0 z0 s0 e1 z1 s1 e2 z2 s2
  go_enter Tryz.func6, Tryz.ntmps6
  go_wp2_with fail
  go_at_call 9
  refine (awake_any17 _).mono ?_
  rintro e w1 ⟨rfl, b1⟩
  have HB1 := Lib.hid b1
  clear b1
  go_wp2_with fail
  go_at_call 10
  refine (CT.out _ HB1.out).mono ?_
  rintro e w2 ⟨B, hB, rfl, b2⟩
  have HB2 := Lib.hid (below_call HB1.out b2)
  have HBB := Lib.hid hB
  clear b2 hB CT HB1
  cases B with
  | false =>
    clear E0 Z0 S0 E1 Z1 S1 E2 Z2 S2 
    go_wp2_with fail
    go_at_call 9
    refine (awake_any17 _).mono ?_
    rintro e w3 ⟨rfl, b3⟩
    have HB3 := Lib.hid (below_call HB2.out b3)
    clear b3
    go_wp2_with fail
    go_ret
    exact ⟨rfl, HB3.out⟩
  | true =>
    obtain ⟨ta, th, ts⟩ := HBB.out.1 rfl
    clear HBB
    have I1 := Lib.hid (fun W (h : Below w.heap.size w W) => its_any ta th ts A0 A1 A2 n0 n1 n2 c0 c1 c2 W (E0.out W h) (E1.out W h) (E2.out W h) Z0.out Z1.out Z2.out)
    have I2 := Lib.hid (fun W (h : Below w.heap.size w W) => its_any ta ts th A0 A2 A1 n0 n2 n1 c0 c2 c1 W (E0.out W h) (E2.out W h) (E1.out W h) Z0.out Z2.out Z1.out)
    have ht : items MM l0 l2 l1 = (items MM l0 l1 l2).map fun x => (x.1, tu x.2) := (items_its (M := MM) l0 l2 l1).one ((items_its (M := MM) l0 l1 l2).turn mm_turn)
    have y1 := its_len ta th ts
    rw [ht] at I2
    generalize items MM l0 l1 l2 = R at I1 I2 y1
    clear ht ta th ts E0 E1 E2 Z0 Z1 Z2 S0 S1 S2
    go_wp2_with fail
    go_at_call 12
    refine (I1.out _ HB2.out).mono ?_
    rintro e w3 ⟨v3, rfl, o3, b3⟩
    have HB3 := Lib.hid (below_call HB2.out b3)
    obtain ⟨a3, k3, rfl, r3⟩ := o3.form
    clear o3 b3 I1 HB2
    go_wp2_with fail
    go_at_call 12
    refine (I2.out _ HB3.out).mono ?_
    rintro e w4 ⟨v4, rfl, o4, b4⟩
    have HB4 := Lib.hid (below_call HB3.out b4)
    obtain ⟨a4, k4, rfl, r4⟩ := o4.form
    have r3' := r3.below b4
    clear r3
    clear o4 b4 I2 HB3
    obtain ⟨N, hN⟩ : ∃ N, N = R.length := ⟨_, rfl⟩
    rw [List.length_map] at r4 ⊢
    rw [← hN] at r3' r4 y1 ⊢
    have HN := Lib.hid hN
    have HR3 := Lib.hid r3'
    have HR4 := Lib.hid r4
    clear hN r3' r4
    go_wp2_with fail
    go_loopw [9] (fun i wr => ∃ k : Nat, k ≤ N ∧ i = .int .i64 k ∧ Below w4.heap.size w4 wr) (fun i _ => N - (intOf i).toNat)
    case atStart => exact ⟨0, Nat.zero_le _, rfl, Below.refl _ _⟩
    case round =>
      obtain ⟨k, hk, rfl, hW⟩ := hrel
      by_cases hlt : k < N
      · obtain ⟨x, hx⟩ : ∃ x, R[k]? = some x := ⟨_, List.getElem?_eq_getElem (by rw [← HN.out]; exact hlt)⟩
        have hx2 : (R.map fun x => (x.1, tu x.2))[k]? = some (x.1, tu x.2) := by rw [List.getElem?_map, hx]; rfl
        obtain ⟨g3, o3, rfl, hg3, hc3⟩ := HR3.out.2.resolve_left (by omega)
        obtain ⟨g4, o4, rfl, hg4, hc4⟩ := HR4.out.2.resolve_left (by omega)
        have d1 := (hW.cell (p := ⟨g3, _, none⟩) hg3).trans (hc3 k _ hx).1
        have d2 := (hW.cell (p := ⟨g3, _, none⟩) hg3).trans (hc3 k _ hx).2
        have d3 := (hW.cell (p := ⟨g4, _, none⟩) hg4).trans (hc4 k _ hx2).1
        have d4 := (hW.cell (p := ⟨g4, _, none⟩) hg4).trans (hc4 k _ hx2).2
        have hltz : (k : Int) < (N : Int) := by omega
        obtain ⟨P, V⟩ := x
        simp only at d1 d2 d3 d4
        clear hx hx2 hc3 hc4
        by_cases e3 : V = 3
        · subst e3
          rw [show tu 3 = 2 from rfl] at d4
          go_wp2_with fail
          go_quiet (fail)
          go_wp2_with fail
          go_roundw
          case rel => exact ⟨k + 1, by omega, by go_num, below_drewN hW _⟩
          case measure => simp only [intOf]; omega
        · have f3 : ((V : Int) == 3) = false := beq_eq_false_iff_ne.2 (by omega)
          by_cases e2 : V = 2
          · subst e2
            rw [show tu 2 = 3 from rfl] at d4
            go_wp2_with fail
            go_quiet (fail)
            go_wp2_with fail
            go_roundw
            case rel => exact ⟨k + 1, by omega, by go_num, below_drewN hW _⟩
            case measure => simp only [intOf]; omega
          · have f2 : ((V : Int) == 2) = false := beq_eq_false_iff_ne.2 (by omega)
            rw [show tu V = V by unfold tu; rw [if_neg e3, if_neg e2]] at d4
            go_wp2_with fail
            go_quiet (fail)
            go_wp2_with fail
            go_roundw
            case rel => exact ⟨k + 1, by omega, by go_num, below_drewN hW _⟩
            case measure => simp only [intOf]; omega
      · obtain rfl : k = N := by omega
        have hkz : ¬ (k : Int) < (k : Int) := by omega
        go_wp2_with fail
        go_ret
        exact ⟨rfl, below_call HB4.out hW⟩
theorem own : ownKnob Tryz.prog.godebug = none := by kernel_rfl
theorem laidOut : laidOutB Tryz.prog = true := by kernel_rfl
set_option maxRecDepth 100000 in
theorem contract (H : Type) (enc : TypeId × Value → H) (W : World) (base : Nat) (args : Array Value) (ds gs : List (DataW H)) (before : List MemPlace)
    (hval0 : ∀ (j : Nat) t v, Tryz.f6.params[j]? = some t → args[j]? = some v → Value.okWide Tryz.prog W .any base t v)
    (hW : DataW.Whole enc Tryz.prog Tryz.f6.params.toList Rows.reconTurnsSpec.vars false W args.toList ds gs before)
    (hk : Rows.uptoSmall H (ds ++ gs) = true)
    (hsz0 : (DataW.weightsEach Tryz.prog (Tryz.f6.params.toList ++ Rows.reconTurnsSpec.plain.varTypes Tryz.prog) (ds ++ gs)).all (· ≤ reachBytes) = true) :
    Calls Tryz.prog 6 args W fun e W' => ∃ v, e = .returned v ∧ Rows.reconTurnsSpec.post enc Tryz.prog Tryz.f6 false true false false W args v W' := by
  have hval : ∀ (j : Nat) t v, Tryz.f6.params[j]? = some t → args[j]? = some v → Value.okWide Tryz.prog W .any base t v := hval0
  have hsz := hsz0
  clear hsz0
  have hW' := hW
  obtain ⟨p, q, hA0, hV, rfl, hfz, hnd⟩ := hW
  have hA : DataW.TrodAll enc Tryz.prog W 0 (fun _ => true) true Tryz.f6.params.toList args.toList ds p := hA0
  rw [Tryz.params6] at hA hval hsz
  obtain ⟨v0, vs0, d0, ds0, p0, q0, hargs, rfl, rfl, h0, r0⟩ := trodAll_cons hA
  obtain ⟨v1, vs1, d1, ds1, p1, q1, rfl, rfl, rfl, h1, r1⟩ := trodAll_cons r0
  obtain ⟨v2, vs2, d2, ds2, p2, q2, rfl, rfl, rfl, h2, r2⟩ := trodAll_cons r1
  obtain ⟨rfl, rfl, rfl⟩ := trodAll_nil r2
  obtain rfl : args = #[v0, v1, v2] := by cases args; simp_all
  obtain ⟨rfl, rfl⟩ := trodVars_none hV
  obtain ⟨A0, n0, c0, rfl⟩ := okWide_slice Tryz.underlying22 (hval 0 22 v0 rfl rfl)
  have k0 := h0
  have lt0 : ∀ x ∈ p0, x.block < W.heap.size := by obtain ⟨m, hm⟩ := k0; exact DataW.trod_lt m _ _ _ hm
  obtain ⟨A1, n1, c1, rfl⟩ := okWide_slice Tryz.underlying22 (hval 1 22 v1 rfl rfl)
  have k1 := h1
  have lt1 : ∀ x ∈ p1, x.block < W.heap.size := by obtain ⟨m, hm⟩ := k1; exact DataW.trod_lt m _ _ _ hm
  obtain ⟨A2, n2, c2, rfl⟩ := okWide_slice Tryz.underlying22 (hval 2 22 v2 rfl rfl)
  have k2 := h2
  have lt2 : ∀ x ∈ p2, x.block < W.heap.size := by obtain ⟨m, hm⟩ := k2; exact DataW.trod_lt m _ _ _ hm
  clear hA0 hval0
  obtain ⟨l0, e0, z0, _, m0, sm0⟩ := arg_ents k0
  obtain ⟨l1, e1, z1, _, m1, sm1⟩ := arg_ents k1
  obtain ⟨l2, e2, z2, _, m2, sm2⟩ := arg_ents k2
  have hbulk : Rows.uptoBulk d0 ≤ 1048576 ∧ Rows.uptoBulk d1 ≤ 1048576 ∧ Rows.uptoBulk d2 ≤ 1048576 := by
    have h := of_decide_eq_true hk
    rw [List.append_nil] at h
    have x : Rows.uptoBulkAll [d0, d1, d2] = Rows.uptoBulk d0 + (Rows.uptoBulk d1 + (Rows.uptoBulk d2 + 0)) := rfl
    rw [x] at h
    omega
  refine (walk A0 n0 c0 l0 A1 n1 c1 l1 A2 n2 c2 l2 W e0 z0 (by omega) (fun x hx => by have := sm0 x hx; omega) e1 z1 (by omega) (fun x hx => by have := sm1 x hx; omega) e2 z2 (by omega) (fun x hx => by have := sm2 x hx; omega)).mono fun e W' ⟨he, belF⟩ => ?_
  subst he
  exact ⟨_, rfl, _, _, _, [], _, [], hW', trodAll_mk1 (shut_bool Tryz.underlying4 _), (trodAll_cons_mk (Below.trod laidOut (by kernel_rfl) (of_decide_eq_true (by kernel_rfl)) k0 belF lt0) (trodAll_cons_mk (Below.trod laidOut (by kernel_rfl) (of_decide_eq_true (by kernel_rfl)) k1 belF lt1) (trodAll_cons_mk (Below.trod laidOut (by kernel_rfl) (of_decide_eq_true (by kernel_rfl)) k2 belF lt2) trodAll_mk0))), rfl, belF.frame _, fun h => by cases h⟩
set_option maxRecDepth 100000 in
theorem lifted (os : Os) (started : os.Started) (H : Type) (enc : TypeId × Value → H) (F : Stop.Interp) :
    ReturnsInHanded {} Tryz.checked os 6 .any ((Rows.OpenSpec.upto Rows.reconTurnsSpec).pre6 enc Tryz.prog Tryz.f6 Rows.reconTurnsUptoRow.domain false) (((Rows.OpenSpec.upto Rows.reconTurnsSpec).at F).post enc Tryz.prog Tryz.f6 false true false false) := by
  refine returnsInHanded_of_cond_sized (C := Tryz.checked) (s := Rows.OpenSpec.upto Rows.reconTurnsSpec) (k := Rows.uptoSmall) rfl own started (by kernel_rfl) Tryz.func6
    (OpenSpec.witness (enc := enc) (C := Tryz.checked) (s := Rows.OpenSpec.upto Rows.reconTurnsSpec) (k := Rows.uptoSmall) rfl false ⟨#[], #[.slice none 0 0, .slice none 0 0, .slice none 0 0], []⟩ 8 (by kernel_rfl) (by kernel_rfl) (by kernel_rfl)
      (x := ([.nil, .nil, .nil], [], [])) (by kernel_rfl) rfl (by kernel_rfl)) ?_
  intro W base args ds gs before hval hW _ hk hsz0 _
  exact contract H enc W base args ds gs before hval hW hk hsz0
theorem over : Rows.reconTurnsUptoRow.holds Tryz.pinned (Rows.OpenSpec.upto Rows.reconTurnsSpec) :=
  OpenClaim.holds_of_cond 6 Tryz.f6 rfl rfl rfl rfl rfl rfl rfl ⟨rfl, rfl, rfl, rfl, rfl⟩ rfl rfl rfl rfl rfl (by kernel_rfl) Tryz.func6 (by kernel_rfl)
    (of_decide_eq_true (by kernel_rfl)) (by unfold Func.isWrapper; first | (rw [if_pos (by decide +kernel)]; kernel_rfl) | (rw [if_neg (by decide +kernel)]; exact ⟨rfl, rfl⟩))
    (fun os started H enc _ F => lifted os started H enc F)
end Go.Proofs.YtkenmldiojeooaaGreat.reconTurns

namespace Go.Proofs.YtkenmldiojeooaaGreat
theorem reconTurnsUpto_holds : Rows.ReconTurnsUptoSaid := reconTurns.over
#print axioms reconTurnsUpto_holds
end Go.Proofs.YtkenmldiojeooaaGreat
