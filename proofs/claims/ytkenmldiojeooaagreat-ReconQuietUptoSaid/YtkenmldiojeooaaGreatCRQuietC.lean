/-
  ReconQuiet, of the landed code: nothing is said of three trees that are alike; where the sides are alike, or one side hasn't changed since the archive, nothing clashes and nothing is merged, and only the other side's changes go over. Condition: the bound of the second form (what comes in holds at most 1048576 values and letters).
-/
import Derived.Test.YtkenmldiojeooaaGreatT6
import Derived.JoinedCond
import Derived.SizedLaws
import Derived.ChangeOld
import Derived.Deep.CondSized
namespace Go.Proofs.YtkenmldiojeooaaGreat.reconQuiet
open Go.ChangeMaps (open_string shut_string)
open Go.ChangeShapes Go.WideShapes Go.ChangeAt Go.RowKit Tx Pm Pr En Rc
set_option linter.unusedVariables false
set_option linter.unusedSimpArgs false
set_option maxRecDepth 100000 in
set_option maxHeartbeats 8000000 in
theorem walk (A0 : Option Addr) (n0 c0 : Nat) (l0 : List Et) (A1 : Option Addr) (n1 c1 : Nat) (l1 : List Et) (w : World) (e0 : Ents w A0 n0 l0) (z0 : A0 = none → c0 = 0) (m0 : n0 ≤ 1048576) (s0 : Small l0) (e1 : Ents w A1 n1 l1) (z1 : A1 = none → c1 = 0) (m1 : n1 ≤ 1048576) (s1 : Small l1) :
    Calls Tryz.prog 5 #[.slice A0 n0 c0, .slice A1 n1 c1] w fun e w' => e = .returned (.bool true) ∧ Below w.heap.size w w' := by
  have CT := Lib.hid (fun W (h : Below w.heap.size w W) => trees_any A0 A1 none n0 n1 0 c0 c1 0 l0 l1 [] W (e0.below h) (e1.below h) ⟨rfl, .inl rfl⟩ m0 m1 (by decide) s0 s1 (fun x hx => by cases hx))
  have E0 := Lib.hid (fun W (h : Below w.heap.size w W) => e0.below h)
  have E1 := Lib.hid (fun W (h : Below w.heap.size w W) => e1.below h)
  have Z0 := Lib.hid z0
  have S0 := Lib.hid s0
  have Z1 := Lib.hid z1
  have S1 := Lib.hid s1
  clear e0 z0 s0 e1 z1 s1
  go_enter Tryz.func5, Tryz.ntmps5
  go_wp2_with fail
  go_at_call 9
  refine (awake_any17 _).mono ?_
  rintro e w1 ⟨rfl, b1⟩
  have HB1 := Lib.hid b1
  clear b1
  go_wp2_with fail
  go_at_call 10
  refine (CT.out _ HB1.out).mono ?_
  rintro e w2 ⟨B, hB, rfl, b2⟩
  have HB2 := Lib.hid (below_call HB1.out b2)
  have HBB := Lib.hid hB
  clear b2 hB CT HB1
  cases B with
  | false =>
    clear E0 Z0 S0 E1 Z1 S1 
    go_wp2_with fail
    go_at_call 9
    refine (awake_any17 _).mono ?_
    rintro e w3 ⟨rfl, b3⟩
    have HB3 := Lib.hid (below_call HB2.out b3)
    clear b3
    go_wp2_with fail
    go_ret
    exact ⟨rfl, HB3.out⟩
  | true =>
    obtain ⟨ta, th, ts⟩ := HBB.out.1 rfl
    clear HBB
    have q1 : items MM l0 l0 l0 = [] := quiet_all (items_its (M := MM) l0 l0 l0)
    have I1 := Lib.hid (fun W (h : Below w.heap.size w W) => its_any ta ta ta A0 A0 A0 n0 n0 n0 c0 c0 c0 W (E0.out W h) (E0.out W h) (E0.out W h) Z0.out Z0.out Z0.out)
    have I2 := Lib.hid (fun W (h : Below w.heap.size w W) => its_any ta th th A0 A1 A1 n0 n1 n1 c0 c1 c1 W (E0.out W h) (E1.out W h) (E1.out W h) Z0.out Z1.out Z1.out)
    have I3 := Lib.hid (fun W (h : Below w.heap.size w W) => its_any ta ta th A0 A0 A1 n0 n0 n1 c0 c0 c1 W (E0.out W h) (E0.out W h) (E1.out W h) Z0.out Z0.out Z1.out)
    have I4 := Lib.hid (fun W (h : Below w.heap.size w W) => its_any ta th ta A0 A1 A0 n0 n1 n0 c0 c1 c0 W (E0.out W h) (E1.out W h) (E0.out W h) Z0.out Z1.out Z0.out)
    rw [q1] at I1
    have g2 : ∀ i, i ∈ items MM l0 l1 l1 → i.2 = 1 ∨ i.2 = 1 := fun i hi => by
      obtain ⟨_, _, h3, h4⟩ := ((items_its (M := MM) l0 l1 l1).mem i).1 hi
      rw [h3] at h4 ⊢
      rcases said_both (M := MM) l0 l1 i.1 with h | h
      · exact absurd h h4
      · exact .inl h
    have g3 : ∀ i, i ∈ items MM l0 l0 l1 → i.2 = 3 ∨ i.2 = 1 := fun i hi => by
      obtain ⟨_, _, h3, h4⟩ := ((items_its (M := MM) l0 l0 l1).mem i).1 hi
      rw [h3] at h4 ⊢
      rcases said_side (M := MM) l0 l1 i.1 with h | h | h
      · exact absurd h h4
      · exact .inr h
      · exact .inl h
    have g4 : ∀ i, i ∈ items MM l0 l1 l0 → i.2 = 2 ∨ i.2 = 1 := fun i hi => by
      obtain ⟨_, _, h3, h4⟩ := ((items_its (M := MM) l0 l1 l0).mem i).1 hi
      rw [h3] at h4 ⊢
      rcases said_hub (M := MM) l0 l1 i.1 with h | h | h
      · exact absurd h h4
      · exact .inr h
      · exact .inl h
    have y2 := its_len ta th th
    have y3 := its_len ta ta th
    have y4 := its_len ta th ta
    generalize items MM l0 l1 l1 = R2 at I2 g2 y2
    generalize items MM l0 l0 l1 = R3 at I3 g3 y3
    generalize items MM l0 l1 l0 = R4 at I4 g4 y4
    have G2 := Lib.hid g2
    have G3 := Lib.hid g3
    have G4 := Lib.hid g4
    clear q1 g2 g3 g4 ta th ts E0 E1 Z0 Z1 S0 S1
    go_wp2_with fail
    go_at_call 12
    refine (I1.out _ HB2.out).mono ?_
    rintro e w3 ⟨v3, rfl, o3, b3⟩
    have HB3 := Lib.hid (below_call HB2.out b3)
    obtain ⟨a3, k3, rfl, r3⟩ := o3.form
    clear o3 b3 I1 HB2
    go_wp2_with fail
    go_at_call 12
    refine (I2.out _ HB3.out).mono ?_
    rintro e w4 ⟨v4, rfl, o4, b4⟩
    have HB4 := Lib.hid (below_call HB3.out b4)
    obtain ⟨a4, k4, rfl, r4⟩ := o4.form
    have cq : Calls Tryz.prog 21 #[.slice a4 R2.length k4, .int .i64 1, .int .i64 1] w4 fun e w' => e = .returned (.bool true) ∧ Below w4.heap.size w4 w' := only_any a4 R2.length k4 R2 1 1 w4 (by decide) (by decide) r4 (by omega) G2.out
    clear o4 b4 I2 HB3
    clear r4
    go_wp2_with fail
    go_at_call 21
    refine cq.mono ?_
    rintro e w5 ⟨rfl, b5⟩
    have HB5 := Lib.hid (below_call HB4.out b5)
    clear cq b5 HB4
    go_wp2_with fail
    go_at_call 12
    refine (I3.out _ HB5.out).mono ?_
    rintro e w6 ⟨v6, rfl, o6, b6⟩
    have HB6 := Lib.hid (below_call HB5.out b6)
    obtain ⟨a6, k6, rfl, r6⟩ := o6.form
    have cq : Calls Tryz.prog 21 #[.slice a6 R3.length k6, .int .i64 3, .int .i64 1] w6 fun e w' => e = .returned (.bool true) ∧ Below w6.heap.size w6 w' := only_any a6 R3.length k6 R3 3 1 w6 (by decide) (by decide) r6 (by omega) G3.out
    clear o6 b6 I3 HB5
    clear r6
    go_wp2_with fail
    go_at_call 21
    refine cq.mono ?_
    rintro e w7 ⟨rfl, b7⟩
    have HB7 := Lib.hid (below_call HB6.out b7)
    clear cq b7 HB6
    go_wp2_with fail
    go_at_call 12
    refine (I4.out _ HB7.out).mono ?_
    rintro e w8 ⟨v8, rfl, o8, b8⟩
    have HB8 := Lib.hid (below_call HB7.out b8)
    obtain ⟨a8, k8, rfl, r8⟩ := o8.form
    have cq : Calls Tryz.prog 21 #[.slice a8 R4.length k8, .int .i64 2, .int .i64 1] w8 fun e w' => e = .returned (.bool true) ∧ Below w8.heap.size w8 w' := only_any a8 R4.length k8 R4 2 1 w8 (by decide) (by decide) r8 (by omega) G4.out
    clear o8 b8 I4 HB7
    clear r8
    go_wp2_with fail
    go_at_call 21
    refine cq.mono ?_
    rintro e w9 ⟨rfl, b9⟩
    have HB9 := Lib.hid (below_call HB8.out b9)
    clear cq b9 HB8
    go_wp2_with fail
    go_ret
    exact ⟨rfl, HB9.out⟩
theorem own : ownKnob Tryz.prog.godebug = none := by kernel_rfl
theorem laidOut : laidOutB Tryz.prog = true := by kernel_rfl
set_option maxRecDepth 100000 in
theorem contract (H : Type) (enc : TypeId × Value → H) (W : World) (base : Nat) (args : Array Value) (ds gs : List (DataW H)) (before : List MemPlace)
    (hval0 : ∀ (j : Nat) t v, Tryz.f5.params[j]? = some t → args[j]? = some v → Value.okWide Tryz.prog W .any base t v)
    (hW : DataW.Whole enc Tryz.prog Tryz.f5.params.toList Rows.reconQuietSpec.vars false W args.toList ds gs before)
    (hk : Rows.uptoSmall H (ds ++ gs) = true)
    (hsz0 : (DataW.weightsEach Tryz.prog (Tryz.f5.params.toList ++ Rows.reconQuietSpec.plain.varTypes Tryz.prog) (ds ++ gs)).all (· ≤ reachBytes) = true) :
    Calls Tryz.prog 5 args W fun e W' => ∃ v, e = .returned v ∧ Rows.reconQuietSpec.post enc Tryz.prog Tryz.f5 false true false false W args v W' := by
  have hval : ∀ (j : Nat) t v, Tryz.f5.params[j]? = some t → args[j]? = some v → Value.okWide Tryz.prog W .any base t v := hval0
  have hsz := hsz0
  clear hsz0
  have hW' := hW
  obtain ⟨p, q, hA0, hV, rfl, hfz, hnd⟩ := hW
  have hA : DataW.TrodAll enc Tryz.prog W 0 (fun _ => true) true Tryz.f5.params.toList args.toList ds p := hA0
  rw [Tryz.params5] at hA hval hsz
  obtain ⟨v0, vs0, d0, ds0, p0, q0, hargs, rfl, rfl, h0, r0⟩ := trodAll_cons hA
  obtain ⟨v1, vs1, d1, ds1, p1, q1, rfl, rfl, rfl, h1, r1⟩ := trodAll_cons r0
  obtain ⟨rfl, rfl, rfl⟩ := trodAll_nil r1
  obtain rfl : args = #[v0, v1] := by cases args; simp_all
  obtain ⟨rfl, rfl⟩ := trodVars_none hV
  obtain ⟨A0, n0, c0, rfl⟩ := okWide_slice Tryz.underlying22 (hval 0 22 v0 rfl rfl)
  have k0 := h0
  have lt0 : ∀ x ∈ p0, x.block < W.heap.size := by obtain ⟨m, hm⟩ := k0; exact DataW.trod_lt m _ _ _ hm
  obtain ⟨A1, n1, c1, rfl⟩ := okWide_slice Tryz.underlying22 (hval 1 22 v1 rfl rfl)
  have k1 := h1
  have lt1 : ∀ x ∈ p1, x.block < W.heap.size := by obtain ⟨m, hm⟩ := k1; exact DataW.trod_lt m _ _ _ hm
  clear hA0 hval0
  obtain ⟨l0, e0, z0, _, m0, sm0⟩ := arg_ents k0
  obtain ⟨l1, e1, z1, _, m1, sm1⟩ := arg_ents k1
  have hbulk : Rows.uptoBulk d0 ≤ 1048576 ∧ Rows.uptoBulk d1 ≤ 1048576 := by
    have h := of_decide_eq_true hk
    rw [List.append_nil] at h
    have x : Rows.uptoBulkAll [d0, d1] = Rows.uptoBulk d0 + (Rows.uptoBulk d1 + 0) := rfl
    rw [x] at h
    omega
  refine (walk A0 n0 c0 l0 A1 n1 c1 l1 W e0 z0 (by omega) (fun x hx => by have := sm0 x hx; omega) e1 z1 (by omega) (fun x hx => by have := sm1 x hx; omega)).mono fun e W' ⟨he, belF⟩ => ?_
  subst he
  exact ⟨_, rfl, _, _, _, [], _, [], hW', trodAll_mk1 (shut_bool Tryz.underlying4 _), (trodAll_cons_mk (Below.trod laidOut (by kernel_rfl) (of_decide_eq_true (by kernel_rfl)) k0 belF lt0) (trodAll_cons_mk (Below.trod laidOut (by kernel_rfl) (of_decide_eq_true (by kernel_rfl)) k1 belF lt1) trodAll_mk0)), rfl, belF.frame _, fun h => by cases h⟩
set_option maxRecDepth 100000 in
theorem lifted (os : Os) (started : os.Started) (H : Type) (enc : TypeId × Value → H) (F : Stop.Interp) :
    ReturnsInHanded {} Tryz.checked os 5 .any ((Rows.OpenSpec.upto Rows.reconQuietSpec).pre6 enc Tryz.prog Tryz.f5 Rows.reconQuietUptoRow.domain false) (((Rows.OpenSpec.upto Rows.reconQuietSpec).at F).post enc Tryz.prog Tryz.f5 false true false false) := by
  refine returnsInHanded_of_cond_sized (C := Tryz.checked) (s := Rows.OpenSpec.upto Rows.reconQuietSpec) (k := Rows.uptoSmall) rfl own started (by kernel_rfl) Tryz.func5
    (OpenSpec.witness (enc := enc) (C := Tryz.checked) (s := Rows.OpenSpec.upto Rows.reconQuietSpec) (k := Rows.uptoSmall) rfl false ⟨#[], #[.slice none 0 0, .slice none 0 0], []⟩ 8 (by kernel_rfl) (by kernel_rfl) (by kernel_rfl)
      (x := ([.nil, .nil], [], [])) (by kernel_rfl) rfl (by kernel_rfl)) ?_
  intro W base args ds gs before hval hW _ hk hsz0 _
  exact contract H enc W base args ds gs before hval hW hk hsz0
theorem over : Rows.reconQuietUptoRow.holds Tryz.pinned (Rows.OpenSpec.upto Rows.reconQuietSpec) :=
  OpenClaim.holds_of_cond 5 Tryz.f5 rfl rfl rfl rfl rfl rfl rfl ⟨rfl, rfl, rfl, rfl, rfl⟩ rfl rfl rfl rfl rfl (by kernel_rfl) Tryz.func5 (by kernel_rfl)
    (of_decide_eq_true (by kernel_rfl)) (by unfold Func.isWrapper; first | (rw [if_pos (by decide +kernel)]; kernel_rfl) | (rw [if_neg (by decide +kernel)]; exact ⟨rfl, rfl⟩))
    (fun os started H enc _ F => lifted os started H enc F)
end Go.Proofs.YtkenmldiojeooaaGreat.reconQuiet

namespace Go.Proofs.YtkenmldiojeooaaGreat
theorem reconQuietUpto_holds : Rows.ReconQuietUptoSaid := reconQuiet.over
#print axioms reconQuietUpto_holds
end Go.Proofs.YtkenmldiojeooaaGreat
