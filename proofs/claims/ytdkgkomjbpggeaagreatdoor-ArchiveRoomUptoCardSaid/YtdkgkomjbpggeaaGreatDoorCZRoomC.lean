/-
  ArchiveRoom, up to the bound: for all lists t, u (which hold together at most 1048576 values and letters): two archives of one tree hold each content once; an archive saved over and over holds no contents of the ones before.
-/
import Derived.Test.YtdkgkomjbpggeaaGreatDoorT6
import Derived.Test.YtdkgkomjbpggeaaGreatDoorCards
import Derived.Test.YtdkgkomjbpggeaaGreatDoorTie
import Derived.LaidMore
import Derived.Deep.DeepHandedRow
import Derived.Stop.Joined
import Derived.JoinedCond
import Derived.SizedLaws
import Derived.ChangeOld
import Derived.SevenTiedAt
import Derived.Deep.CondSized
namespace Go.Proofs.YtdkgkomjbpggeaaGreatDoor.archiveRoom
open Go.ChangeMaps (open_string shut_string)
open Go.ChangeShapes Go.WideShapes Go.ChangeAt Go.RowKit Tx Pm Pr Dk Ac
open En (Et tcheck Ents Small)
set_option linter.unusedVariables false
set_option linter.unusedSimpArgs false
set_option linter.unnecessarySimpa false
set_option maxRecDepth 100000 in
set_option maxHeartbeats 16000000 in
theorem walk {T : World → Prop} {O : Nat → Nat → Ob} {Cm : Nat → Ob} {Op : Nat → Nat → Ob} (hI : Impl T O Cm Op) (A0 : Option Addr) (n0 c0 : Nat) (t : List Et) (A1 : Option Addr) (n1 c1 : Nat) (u : List Et) (w : World) (ht : Ents w A0 n0 t) (hu : Ents w A1 n1 u) (h0 : n0 ≤ c0 ∧ c0 ≤ 9223372036854775807) (h1 : n1 ≤ c1 ∧ c1 ≤ 9223372036854775807) (v0 : bk t ≤ 1048576) (v1 : bk u ≤ 1048576) (hT : T w) :
    Calls Tryz.prog 5 #[.slice A0 n0 c0, .slice A1 n1 c1] w fun e w' => e = .returned (.bool true) ∧ Below w.heap.size w w' := by
  have s0 := bk_small (l := t) (by omega)
  have s1 := bk_small (l := u) (by omega)
  have m0 : n0 ≤ 1048576 := by have := bk_len t; have := ht.1; omega
  have m1 : n1 ≤ 1048576 := by have := bk_len u; have := hu.1; omega
  have a1 := mine_new hI hT (Below.refl _ _)
  have AW : Hid (∀ W, Below w.heap.size w W → Calls Tryz.prog 8 #[] W fun e w' => e = .returned (.bool true) ∧ Below W.heap.size W w') := Lib.hid (fun W hW => awake_any hI W (hI.tk hT hW))
  have CT : Hid (∀ W, Below w.heap.size w W → Calls Tryz.prog 21 #[.slice A0 n0 c0] W fun e w' => e = .returned (.int .i64 (tcheck t : Nat)) ∧ Below W.heap.size W w') := Lib.hid (fun W hW => En.refCheckT_any A0 n0 c0 t W (ht.below hW) (by omega) s0)
  have CV : Hid (∀ W, Below w.heap.size w W → Calls Tryz.prog 21 #[.slice A1 n1 c1] W fun e w' => e = .returned (.int .i64 (tcheck u : Nat)) ∧ Below W.heap.size W w') := Lib.hid (fun W hW => En.refCheckT_any A1 n1 c1 u W (hu.below hW) (by omega) s1)
  go_enter Tryz.func5, Tryz.ntmps5
  go_wp2_with fail
  go_at_call 6
  refine (a1).mono ?_
  rintro e w1 ⟨d, rfl, m1⟩
  have a2 := mine_open hI hT m1 (by omega)
  clear a1 m1
  go_wp2_with fail
  go_at_call 7
  refine (a2).mono ?_
  rintro e w2 ⟨tb, rfl, m2⟩
  have a3 := AW.out _ m2.bel
  clear a2
  go_wp2_with fail
  go_at_call 8
  refine (a3).mono ?_
  rintro e w3 ⟨rfl, b3⟩
  have m3 := Mine.below (hI.kP _ _) m2 b3
  have HB3 := Lib.hid m3.bel
  have a4 := CT.out _ m3.bel
  clear a3 m2 b3
  by_cases z0 : tcheck t = 0
  · rw [z0] at a4
    by_cases z1 : tcheck u = 0
    · clear CT
      go_wp2_with fail
      go_at_call 21
      refine (a4).mono ?_
      rintro e w4 ⟨rfl, b4⟩
      have m4 := Mine.below (hI.kP _ _) m3 b4
      have a5 := CV.out _ m4.bel
      rw [z1] at a5
      clear a4 m3 b4 HB3
      go_wp2_with fail
      go_at_call 21
      refine (a5).mono ?_
      rintro e w5 ⟨rfl, b5⟩
      have m5 := Mine.below (hI.kP _ _) m4 b5
      have a6 := mine_begin hI hT m5 (by omega)
      clear a5 m4 b5 CV AW
      go_wp2_with fail
      go_at_call 9
      refine (a6).mono ?_
      rintro e w9 ⟨x, rfl, m9⟩
      clear a6 m5
      have hk := kept1 t
      rw [ht.1] at hk
      have k1 : may 1 = true := by decide
      have k2 : may 2 = true := by decide
      have CS : Hid (∀ W dd uu A k, Mine (O dd uu) w (A, k) W → k + bk t ≤ 10000000 → ∀ (i : Int), may i = true → Calls Tryz.prog 11 #[.pointer (some ⟨uu, 0, none⟩), .int .i64 i, .slice A0 n0 c0] W fun e w' => e = .returned (.int .i64 0) ∧ Mine (O dd uu) w (saveA A i.toNat t, k + 10000 + bk t) w') := Lib.hid (fun W dd uu A k m hk i hi => by
        have c := mine_save hI hT m i A0 n0 c0 t hk (by have := may_of hi; omega) ht h0
        rw [saveE_ok hi z0, saveI_ok hi z0] at c
        exact c)
      have CU : Hid (∀ W dd uu A k, Mine (O dd uu) w (A, k) W → k + bk u ≤ 10000000 → ∀ (i : Int), may i = true → Calls Tryz.prog 11 #[.pointer (some ⟨uu, 0, none⟩), .int .i64 i, .slice A1 n1 c1] W fun e w' => e = .returned (.int .i64 0) ∧ Mine (O dd uu) w (saveA A i.toNat u, k + 10000 + bk u) w') := Lib.hid (fun W dd uu A k m hk i hi => by
        have c := mine_save hI hT m i A1 n1 c1 u hk (by have := may_of hi; omega) hu h1
        rw [saveE_ok hi z1, saveI_ok hi z1] at c
        exact c)
      have CK : Hid (∀ W dd uu A k, Mine (O dd uu) w (A, k) W → k ≤ 10000000 → well A → Calls Tryz.prog 20 #[.pointer (some ⟨uu, 0, none⟩), .string ⟨#[98, 47]⟩] W fun e w' => ∃ a c, e = .returned (.slice a (kept A) c) ∧ Mine (O dd uu) w (A, k) w') := Lib.hid (fun W dd uu A k m hk hw => mine_keys hI hT m (by omega) hw)
      have CL : Hid (∀ W dd uu A k, Mine (O dd uu) w (A, k) W → k ≤ 10000000 → Calls Tryz.prog 22 #[.pointer (some ⟨uu, 0, none⟩), .int .i64 2] W fun e w' => ∃ a c, e = .returned (.tuple #[.slice a (loadI A 2).1.length c, .int .i64 ((loadI A 2).2 : Nat)]) ∧ Ents w' a (loadI A 2).1.length (loadI A 2).1 ∧ (loadI A 2).1.length ≤ c ∧ Mine (O dd uu) w (A, k) w' ∧ Below W.heap.size W w') := Lib.hid (fun W dd uu A k m hk => mine_load hI hT m (by omega) 2 (by omega))
      have SM : Hid (∀ W a c, Below w.heap.size w W → Ents W a t.length t → Calls Tryz.prog 23 #[.slice a t.length c, .slice A0 n0 c0] W fun e w' => e = .returned (.bool true) ∧ Below W.heap.size W w') := Lib.hid (fun W a c hW he => by
        refine (En.refSame_any a A0 t.length n0 c c0 t t W he (ht.below hW) (by have := ht.1; omega) (by omega)).mono fun e w' ⟨B, hB, he, hb⟩ => ⟨?_, hb⟩
        rw [he, hB.2 rfl])
      have hI2 := Lib.hid hI
      have BD : Hid (∀ W dd uu A k, Mine (O dd uu) w (A, k) W → Below w.heap.size w W) := Lib.hid (fun W dd uu A k m => m.bel)
      have MB : Hid (∀ W W' dd uu A k, Mine (O dd uu) w (A, k) W → Below W.heap.size W W' → Mine (O dd uu) w (A, k) W') := Lib.hid (fun W W' dd uu A k m hb => Mine.below (hI2.out.kO _ _) m hb)
      have q1 := kept2 t
      have q6 := kept6 t u
      have l6 := load6 t u
      obtain ⟨N, hN⟩ : ∃ N, N = kept (r1 t) := ⟨_, rfl⟩
      rw [← hN] at hk q1 q6
      have HN := Lib.hid hN
      have Q1 := Lib.hid q1
      have Q6 := Lib.hid q6
      have L6 := Lib.hid l6
      have hkz : (N : Int) ≤ (n0 : Int) := by omega
      clear hI hN q1 q6 l6 hk ht hu h0 h1 m0 m1 s0 s1 hT z0 z1
      have c1 := CS.out _ _ _ _ _ m9 (by omega) 1 k1
      go_wp2_with fail
      go_at_call 11
      refine (c1).mono ?_
      rintro e w11 ⟨rfl, m11⟩
      have c2 := CK.out _ _ _ _ _ m11 (by omega) (well1 t)
      clear c1 m9
      go_wp2_with fail
      go_at_call 20
      refine (c2).mono ?_
      rintro e w12 ⟨a12, b12, rfl, m12⟩
      have e12 : kept (saveA a0 (1 : Int).toNat t) = N := HN.out.symm
      rw [e12]
      have c3 := CS.out _ _ _ _ _ m12 (by omega) 2 k2
      clear c2 m11 e12
      go_wp2_with fail
      go_at_call 11
      refine (c3).mono ?_
      rintro e w13 ⟨rfl, m13⟩
      have c4 := CK.out _ _ _ _ _ m13 (by omega) (well2 t)
      clear c3 m12
      go_wp2_with fail
      go_at_call 20
      refine (c4).mono ?_
      rintro e w14 ⟨a14, b14, rfl, m14⟩
      have e14 : kept (saveA (saveA a0 (1 : Int).toNat t) (2 : Int).toNat t) = N := Q1.out
      rw [e14]
      have c5 := CU.out _ _ _ _ _ m14 (by omega) 1 k1
      clear c4 m13 e14
      go_wp2_with fail
      go_at_call 11
      refine (c5).mono ?_
      rintro e w15 ⟨rfl, m15⟩
      have c6 := CU.out _ _ _ _ _ m15 (by omega) 2 k2
      clear c5 m14
      go_wp2_with fail
      go_at_call 11
      refine (c6).mono ?_
      rintro e w16 ⟨rfl, m16⟩
      have c7 := CS.out _ _ _ _ _ m16 (by omega) 1 k1
      clear c6 m15
      go_wp2_with fail
      go_at_call 11
      refine (c7).mono ?_
      rintro e w17 ⟨rfl, m17⟩
      have c8 := CS.out _ _ _ _ _ m17 (by omega) 2 k2
      clear c7 m16
      go_wp2_with fail
      go_at_call 11
      refine (c8).mono ?_
      rintro e w18 ⟨rfl, m18⟩
      have m18 : Mine (O d x) w (r6 t u, _) w18 := m18
      have c9 := CL.out _ _ _ _ _ m18 (by omega)
      rw [L6.out] at c9
      clear c8 m17
      go_wp2_with fail
      go_at_call 22
      refine (c9).mono ?_
      rintro e w19 ⟨a19, b19, rfl, e19, _, m19, _⟩
      have c10 := SM.out _ _ b19 (BD.out _ _ _ _ _ m19) e19
      clear c9 m18 e19
      go_wp2_with fail
      go_at_call 23
      refine (c10).mono ?_
      rintro e w20 ⟨rfl, b20⟩
      have m20 := MB.out _ _ _ _ _ _ m19 b20
      have c11 := CK.out _ _ _ _ _ m20 (by omega) (well6 t u)
      rw [Q6.out] at c11
      clear c10 m19 b20
      go_wp2_with fail
      go_at_call 20
      refine (c11).mono ?_
      rintro e w21 ⟨a21, b21, rfl, m21⟩
      have b21 := BD.out _ _ _ _ _ m21
      clear c11 m20 m21
      go_wp2_with fail
      go_ret
      exact ⟨rfl, b21⟩
    · have zz : ¬ ((tcheck u : Nat) : Int) = 0 := by omega
      clear hI
      go_wp2_with fail
      go_at_call 21
      refine (a4).mono ?_
      rintro e w4 ⟨rfl, b4⟩
      have hb4 := below_call HB3.out b4
      have HB4 := Lib.hid hb4
      have a5 := CV.out _ hb4
      clear a4 b4 hb4 HB3 m3
      go_wp2_with fail
      go_at_call 21
      refine (a5).mono ?_
      rintro e w5 ⟨rfl, b5⟩
      have hb5 := below_call HB4.out b5
      have HB5 := Lib.hid hb5
      have a6 := AW.out _ hb5
      clear a5 b5 hb5
      go_wp2_with fail
      go_at_call 8
      refine (a6).mono ?_
      rintro e w6 ⟨rfl, b6⟩
      have hb6 := below_call HB5.out b6
      clear a6 b6
      go_wp2_with fail
      go_ret
      exact ⟨rfl, hb6⟩
  · have zz : ¬ ((tcheck t : Nat) : Int) = 0 := by omega
    clear hI
    go_wp2_with fail
    go_at_call 21
    refine (a4).mono ?_
    rintro e w4 ⟨rfl, b4⟩
    have hb4 := below_call HB3.out b4
    have HB4 := Lib.hid hb4
    have a5 := AW.out _ hb4
    clear a4 b4 hb4 HB3 m3
    go_wp2_with fail
    go_at_call 8
    refine (a5).mono ?_
    rintro e w5 ⟨rfl, b5⟩
    have hb5 := below_call HB4.out b5
    clear a5 b5
    go_wp2_with fail
    go_ret
    exact ⟨rfl, hb5⟩
theorem own : ownKnob Tryz.prog.godebug = none := by kernel_rfl
theorem laidOut : laidOutB Tryz.prog = true := by kernel_rfl
set_option maxRecDepth 100000 in
theorem contract {T : World → Prop} {O : Nat → Nat → Ob} {Cm : Nat → Ob} {Op : Nat → Nat → Ob} (hI : Impl T O Cm Op) (hTL : ∀ W, laidMetH Tryz.prog Rows.archiveRoomUptoRow.laid W → T W) (H : Type) (enc : TypeId × Value → H) (W : World) (base : Nat) (args : Array Value) (ds gs : List (DataW H)) (before : List MemPlace)
    (hval0 : ∀ (j : Nat) t v, Tryz.f5.params[j]? = some t → args[j]? = some v → Value.okWide Tryz.prog W .any base t v)
    (hW : DataW.Whole enc Tryz.prog Tryz.f5.params.toList Rows.archiveRoomSpec.vars false W args.toList ds gs before)
    (hk : Rows.uptoSmall H (ds ++ gs) = true)
    (hsz0 : (DataW.weightsEach Tryz.prog (Tryz.f5.params.toList ++ Rows.archiveRoomSpec.plain.varTypes Tryz.prog) (ds ++ gs)).all (· ≤ reachBytes) = true)
    (hL : laidMetH Tryz.prog Rows.archiveRoomUptoRow.laid W) :
    Calls Tryz.prog 5 args W fun e W' => ∃ v, e = .returned v ∧ Rows.archiveRoomSpec.post enc Tryz.prog Tryz.f5 false true false false W args v W' := by
  have hval : ∀ (j : Nat) t v, Tryz.f5.params[j]? = some t → args[j]? = some v → Value.okWide Tryz.prog W .any base t v := hval0
  have hsz := hsz0
  clear hsz0
  have hW' := hW
  obtain ⟨p, q, hA0, hV, rfl, hfz, hnd⟩ := hW
  have hA : DataW.TrodAll enc Tryz.prog W 0 (fun _ => true) true Tryz.f5.params.toList args.toList ds p := hA0
  rw [Tryz.params5] at hA hval hsz
  obtain ⟨v0, vs0, d0, ds0, p0, q0, hargs, rfl, rfl, h0, r0⟩ := trodAll_cons hA
  obtain ⟨v1, vs1, d1, ds1, p1, q1, rfl, rfl, rfl, h1, r1⟩ := trodAll_cons r0
  obtain ⟨rfl, rfl, rfl⟩ := trodAll_nil r1
  obtain rfl : args = #[v0, v1] := by cases args; simp_all
  obtain ⟨rfl, rfl⟩ := trodVars_none hV
  obtain ⟨A0, n0, c0, rfl⟩ := okWide_slice Tryz.underlying33 (hval 0 33 v0 rfl rfl)
  have k0 := h0
  have lt0 : ∀ x ∈ p0, x.block < W.heap.size := by obtain ⟨m, hm⟩ := k0; exact DataW.trod_lt m _ _ _ hm
  obtain ⟨A1, n1, c1, rfl⟩ := okWide_slice Tryz.underlying33 (hval 1 33 v1 rfl rfl)
  have k1 := h1
  have lt1 : ∀ x ∈ p1, x.block < W.heap.size := by obtain ⟨m, hm⟩ := k1; exact DataW.trod_lt m _ _ _ hm
  clear hA0 hval0
  obtain ⟨l0, e0, z0, m0⟩ := arg_entsB k0
  obtain ⟨l1, e1, z1, m1⟩ := arg_entsB k1
  have hbulk : Rows.uptoBulk d0 ≤ 1048576 ∧ Rows.uptoBulk d1 ≤ 1048576 := by
    have h := of_decide_eq_true hk
    rw [List.append_nil] at h
    have x : Rows.uptoBulkAll [d0, d1] = Rows.uptoBulk d0 + (Rows.uptoBulk d1 + 0) := rfl
    rw [x] at h
    omega
  refine (walk hI A0 n0 c0 l0 A1 n1 c1 l1 W e0 e1 (En.arg_cap k0) (En.arg_cap k1) (by omega) (by omega) (hTL W hL)).mono fun e W' ⟨he, belF⟩ => ?_
  subst he
  exact ⟨_, rfl, _, _, _, [], _, [], hW', trodAll_mk1 (shut_bool Tryz.underlying4 _), (trodAll_cons_mk (Below.trod laidOut (by kernel_rfl) (of_decide_eq_true (by kernel_rfl)) k0 belF lt0) (trodAll_cons_mk (Below.trod laidOut (by kernel_rfl) (of_decide_eq_true (by kernel_rfl)) k1 belF lt1) trodAll_mk0)), rfl, belF.frame _, fun h => by cases h⟩
theorem door_met (os : Os) : laidMetH Tryz.prog Rows.archiveRoomUptoRow.laid ((World.doorLaid Tryz.prog 400 os).forCall (fun _ _ => 0) ⟨#[], #[.slice none 0 0, .slice none 0 0], []⟩).memory :=
  laidMetH_of_parts3 (fuel := 8) (laidMet_of_run' 8 (by kernel_rfl) (by kernel_rfl)) (by kernel_rfl) (by kernel_rfl)
theorem reads (os : Os) {H : Type} (enc : TypeId × Value → H) : ∃ places, DataW.whole enc Tryz.prog ((World.doorLaid Tryz.prog 400 os).forCall (fun _ _ => 0) ⟨#[], #[.slice none 0 0, .slice none 0 0], []⟩).memory Tryz.f5.params.toList Rows.archiveRoomSpec.vars false (#[.slice none 0 0, .slice none 0 0] : Array Value).toList 8 = some ([.nil, .nil], [], places) :=
  ⟨[], by kernel_rfl⟩
set_option maxRecDepth 100000 in
theorem lifted {T : World → Prop} {O : Nat → Nat → Ob} {Cm : Nat → Ob} {Op : Nat → Nat → Ob} (hI : Impl T O Cm Op) (hTL : ∀ W, laidMetH Tryz.prog Rows.archiveRoomUptoRow.laid W → T W) (os : Os) (started : os.Started) (H : Type) (enc : TypeId × Value → H) (F : Stop.Interp) :
    ReturnsInHanded {} Tryz.checked os 5 .any ((Rows.OpenSpec.upto Rows.archiveRoomSpec).preRow enc Tryz.prog Tryz.f5 Rows.archiveRoomUptoRow.domain false Rows.archiveRoomUptoRow.laid) (((Rows.OpenSpec.upto Rows.archiveRoomSpec).at F).post enc Tryz.prog Tryz.f5 false true false false) := by
  obtain ⟨places, hx⟩ := reads os enc
  refine returnsInHanded_of_row (C := Tryz.checked) (s := (Rows.OpenSpec.upto Rows.archiveRoomSpec)) own started (by kernel_rfl) Tryz.func5
    (witness_row_at (enc := enc) (C := Tryz.checked) false (World.doorLaid Tryz.prog 400 os) #[.slice none 0 0, .slice none 0 0] rfl (by kernel_rfl) (by kernel_rfl) (by kernel_rfl)
      (OpenSpec.preRow_of_cond 8 hx (by kernel_rfl) (fun k hk => by cases hk; kernel_rfl) (by kernel_rfl) (door_met os))) ?_
  intro W base args ds gs before hval hW _ hcond hsz0 hL _ _
  exact contract hI hTL H enc W base args ds gs before hval hW (hcond _ rfl) hsz0 hL
theorem over {T : World → Prop} {O : Nat → Nat → Ob} {Cm : Nat → Ob} {Op : Nat → Nat → Ob} (hI : Impl T O Cm Op) (hTL : ∀ W, laidMetH Tryz.prog Rows.archiveRoomUptoRow.laid W → T W) : Rows.archiveRoomUptoRow.holds Tryz.pinned (Rows.OpenSpec.upto Rows.archiveRoomSpec) :=
  OpenClaim.holds_of_cond 5 Tryz.f5 rfl rfl rfl rfl rfl rfl rfl ⟨rfl, rfl, rfl, rfl, rfl⟩ rfl rfl rfl rfl rfl (by kernel_rfl) Tryz.func5 (by kernel_rfl)
    (of_decide_eq_true (by kernel_rfl)) (by unfold Func.isWrapper; first | (rw [if_pos (by decide +kernel)]; kernel_rfl) | (rw [if_neg (by decide +kernel)]; exact ⟨rfl, rfl⟩))
    (fun os started H enc _ F => by rw [OpenClaim.pre_eq_preRow]; exact lifted hI hTL os started H enc F)
theorem plain (f : FuncId) (fn : Func) (hf : Tryz.pinned.checked.prog.funcNamed "tether/tetherlaw16.ArchiveRoom" = some f) (hfn : Tryz.pinned.checked.prog.funcs[f]? = some fn) :
    false = Tryz.pinned.checked.prog.looks [] ∧ ∀ (j : Nat) t, fn.params[j]? = some t → Tryz.pinned.checked.prog.wantsStandIn t = false := by
  obtain rfl : f = 5 := Option.some.inj ((show Tryz.prog.funcNamed "tether/tetherlaw16.ArchiveRoom" = some 5 by kernel_rfl).symm.trans hf) |>.symm
  obtain rfl : fn = Tryz.f5 := (Option.some.inj (Tryz.func5.symm.trans hfn)).symm
  refine ⟨by kernel_rfl, fun j t ht => ?_⟩
  rw [Tryz.params5] at ht
  have hm : t ∈ [33, 33] := by simpa using Array.mem_of_getElem? ht
  have hall : ([33, 33].all fun u => !Tryz.prog.wantsStandIn u) = true := by kernel_rfl
  exact (show Tryz.prog.wantsStandIn t = false by simpa using List.all_eq_true.1 hall t hm)
theorem card {T : World → Prop} {O : Nat → Nat → Ob} {Cm : Nat → Ob} {Op : Nat → Nat → Ob} (hI : Impl T O Cm Op) (hTL : ∀ W, laidMetH Tryz.prog Rows.archiveRoomUptoRow.laid W → T W) : Rows.ArchiveRoomUptoCardSaid :=
  Claim7.holds_tied_plain_at .later [] _ _ _ _ (over hI hTL) (fun _ h => by cases h) (by kernel_rfl) (fun _ h => by cases h) archiveRoomUpto_row_tie rfl ⟨rfl, rfl⟩ (by kernel_rfl) rfl plain (by kernel_rfl)
end Go.Proofs.YtdkgkomjbpggeaaGreatDoor.archiveRoom

namespace Go.Proofs.YtdkgkomjbpggeaaGreatDoor
theorem archiveRoomUpto_holds : Rows.ArchiveRoomUptoCardSaid := archiveRoom.card Az.impl (fun _ h => Bl.tab_laid h)
end Go.Proofs.YtdkgkomjbpggeaaGreatDoor
