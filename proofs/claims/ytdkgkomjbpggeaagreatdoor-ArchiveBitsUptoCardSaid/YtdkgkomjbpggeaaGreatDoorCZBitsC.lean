/-
  ArchiveBits, up to the bound: for all trees t, u (which hold together at most 1048576 values and letters) and every bit: the archive of which it was turned is told that it cannot be read, the other is as it was, turned back it is read again.
-/
import Derived.Test.YtdkgkomjbpggeaaGreatDoorT6
import Derived.Test.YtdkgkomjbpggeaaGreatDoorCards
import Derived.Test.YtdkgkomjbpggeaaGreatDoorTie
import Derived.LaidMore
import Derived.Deep.DeepHandedRow
import Derived.Stop.Joined
import Derived.JoinedCond
import Derived.SizedLaws
import Derived.ChangeOld
import Derived.SevenTiedAt
import Derived.Deep.CondSized
namespace Go.Proofs.YtdkgkomjbpggeaaGreatDoor.archiveBits
open Go.ChangeMaps (open_string shut_string)
open Go.ChangeShapes Go.WideShapes Go.ChangeAt Go.RowKit Tx Pm Pr Dk Ac
open En (Et tcheck Ents Small)
set_option linter.unusedVariables false
set_option linter.unusedSimpArgs false
set_option linter.unnecessarySimpa false
def b2 (t u : List Et) : Ar := saveA (r1 t) 2 u
def b3 (t u : List Et) (b : Int) : Ar := turnA (b2 t u) 1 b
def b4 (t u : List Et) (b : Int) : Ar := backA (b3 t u b) 1
theorem load31 (t u : List Et) (b : Int) : loadI (b3 t u b) 1 = ([], 6) := by
  unfold loadI
  rw [if_pos (by decide)]
  rfl
theorem load32 (t u : List Et) (b : Int) : loadI (b3 t u b) 2 = (u, 0) := by
  unfold loadI
  rw [if_pos (by decide)]
  rfl
theorem load41 (t u : List Et) (b : Int) : loadI (b4 t u b) 1 = (t, 0) := by
  unfold loadI
  rw [if_pos (by decide)]
  rfl
set_option maxRecDepth 100000 in
set_option maxHeartbeats 16000000 in
theorem walk {T : World → Prop} {O : Nat → Nat → Ob} {Cm : Nat → Ob} {Op : Nat → Nat → Ob} (hI : Impl T O Cm Op) (A0 : Option Addr) (n0 c0 : Nat) (t : List Et) (A1 : Option Addr) (n1 c1 : Nat) (u : List Et) (bit : Int) (w : World) (ht : Ents w A0 n0 t) (hu : Ents w A1 n1 u) (h0 : n0 ≤ c0 ∧ c0 ≤ 9223372036854775807) (h1 : n1 ≤ c1 ∧ c1 ≤ 9223372036854775807) (v0 : bk t ≤ 1048576) (v1 : bk u ≤ 1048576) (hbit : -9223372036854775808 ≤ bit ∧ bit ≤ 9223372036854775807) (hT : T w) :
    Calls Tryz.prog 4 #[.slice A0 n0 c0, .slice A1 n1 c1, .int .i64 bit] w fun e w' => e = .returned (.bool true) ∧ Below w.heap.size w w' := by
  have s0 := bk_small (l := t) (by omega)
  have s1 := bk_small (l := u) (by omega)
  have m0 : n0 ≤ 1048576 := by have := bk_len t; have := ht.1; omega
  have m1 : n1 ≤ 1048576 := by have := bk_len u; have := hu.1; omega
  have a1 := mine_new hI hT (Below.refl _ _)
  have AW : Hid (∀ W, Below w.heap.size w W → Calls Tryz.prog 8 #[] W fun e w' => e = .returned (.bool true) ∧ Below W.heap.size W w') := Lib.hid (fun W hW => awake_any hI W (hI.tk hT hW))
  have CT : Hid (∀ W, Below w.heap.size w W → Calls Tryz.prog 21 #[.slice A0 n0 c0] W fun e w' => e = .returned (.int .i64 (tcheck t : Nat)) ∧ Below W.heap.size W w') := Lib.hid (fun W hW => En.refCheckT_any A0 n0 c0 t W (ht.below hW) (by omega) s0)
  have CV : Hid (∀ W, Below w.heap.size w W → Calls Tryz.prog 21 #[.slice A1 n1 c1] W fun e w' => e = .returned (.int .i64 (tcheck u : Nat)) ∧ Below W.heap.size W w') := Lib.hid (fun W hW => En.refCheckT_any A1 n1 c1 u W (hu.below hW) (by omega) s1)
  go_enter Tryz.func4, Tryz.ntmps4
  go_wp2_with fail
  go_at_call 6
  refine (a1).mono ?_
  rintro e w1 ⟨d, rfl, m1⟩
  have a2 := mine_open hI hT m1 (by omega)
  clear a1 m1
  go_wp2_with fail
  go_at_call 7
  refine (a2).mono ?_
  rintro e w2 ⟨tb, rfl, m2⟩
  have a3 := AW.out _ m2.bel
  clear a2
  go_wp2_with fail
  go_at_call 8
  refine (a3).mono ?_
  rintro e w3 ⟨rfl, b3⟩
  have m3 := Mine.below (hI.kP _ _) m2 b3
  have HB3 := Lib.hid m3.bel
  have a4 := CT.out _ m3.bel
  clear a3 m2 b3
  by_cases z0 : tcheck t = 0
  · rw [z0] at a4
    by_cases z1 : tcheck u = 0
    · clear CT
      go_wp2_with fail
      go_at_call 21
      refine (a4).mono ?_
      rintro e w4 ⟨rfl, b4⟩
      have m4 := Mine.below (hI.kP _ _) m3 b4
      have a5 := CV.out _ m4.bel
      rw [z1] at a5
      clear a4 m3 b4 HB3
      go_wp2_with fail
      go_at_call 21
      refine (a5).mono ?_
      rintro e w5 ⟨rfl, b5⟩
      have m5 := Mine.below (hI.kP _ _) m4 b5
      have a6 := mine_begin hI hT m5 (by omega)
      clear a5 m4 b5 CV AW
      go_wp2_with fail
      go_at_call 9
      refine (a6).mono ?_
      rintro e w9 ⟨x, rfl, m9⟩
      clear a6 m5
      have ST : Hid (∀ W a c, Below w.heap.size w W → Ents W a t.length t → Calls Tryz.prog 23 #[.slice a t.length c, .slice A0 n0 c0] W fun e w' => e = .returned (.bool true) ∧ Below W.heap.size W w') := Lib.hid (fun W a c hW he => by
        refine (En.refSame_any a A0 t.length n0 c c0 t t W he (ht.below hW) (by have := ht.1; omega) (by omega)).mono fun e w' ⟨B, hB, he, hb⟩ => ⟨?_, hb⟩
        rw [he, hB.2 rfl])
      have SU : Hid (∀ W a c, Below w.heap.size w W → Ents W a u.length u → Calls Tryz.prog 23 #[.slice a u.length c, .slice A1 n1 c1] W fun e w' => e = .returned (.bool true) ∧ Below W.heap.size W w') := Lib.hid (fun W a c hW he => by
        refine (En.refSame_any a A1 u.length n1 c c1 u u W he (hu.below hW) (by have := hu.1; omega) (by omega)).mono fun e w' ⟨B, hB, he, hb⟩ => ⟨?_, hb⟩
        rw [he, hB.2 rfl])
      have hI2 := Lib.hid hI
      have MB : Hid (∀ W W' dd uu A k, Mine (O dd uu) w (A, k) W → Below W.heap.size W W' → Mine (O dd uu) w (A, k) W') := Lib.hid (fun W W' dd uu A k m hb => Mine.below (hI2.out.kO _ _) m hb)
      have HALL := Lib.hid (And.intro hI (And.intro hT hbit))
      have CU : Hid (∀ W dd uu A k, Mine (O dd uu) w (A, k) W → k + bk u ≤ 10000000 → Calls Tryz.prog 11 #[.pointer (some ⟨uu, 0, none⟩), .int .i64 2, .slice A1 n1 c1] W fun e w' => e = .returned (.int .i64 0) ∧ Mine (O dd uu) w (saveA A 2 u, k + 10000 + bk u) w') := Lib.hid (fun W dd uu A k m hk => by
        have c := mine_save hI hT m 2 A1 n1 c1 u hk (by omega) hu h1
        rw [saveE_ok (by decide) z1, saveI_ok (by decide) z1] at c
        exact c)
      have c1 := mine_save hI hT m9 1 A0 n0 c0 t (by omega) (by omega) ht h0
      rw [saveE_ok (by decide) z0, saveI_ok (by decide) z0] at c1
      clear hI ht hu h0 h1 m0 m1 s0 s1 hT z0 z1 hbit
      go_wp2_with fail
      go_at_call 11
      refine (c1).mono ?_
      rintro e w11 ⟨rfl, m11⟩
      have m11 : Mine (O d x) w (r1 t, _) w11 := m11
      have c2 := CU.out _ _ _ _ _ m11 (by omega)
      clear c1 m9
      go_wp2_with fail
      go_at_call 11
      refine (c2).mono ?_
      rintro e w12 ⟨rfl, m12⟩
      have m12 : Mine (O d x) w (b2 t u, _) w12 := m12
      have c3 := mine_turn HALL.out.1 HALL.out.2.1 m12 (by omega) 1 bit (l := t) (by omega) (by omega) rfl rfl HALL.out.2.2
      clear c2 m11
      go_wp2_with fail
      go_at_call 15
      refine (c3).mono ?_
      rintro e w13 ⟨rfl, m13⟩
      have m13 : Mine (O d x) w (b3 t u bit, _) w13 := m13
      have c4 := mine_load HALL.out.1 HALL.out.2.1 m13 (by omega) 1 (by omega)
      rw [load31] at c4
      clear c3 m12
      go_wp2_with fail
      go_at_call 22
      refine (c4).mono ?_
      rintro e w14 ⟨a14, b14, rfl, e14, _, m14, _⟩
      have c5 := mine_load HALL.out.1 HALL.out.2.1 m14 (by omega) 2 (by omega)
      rw [load32] at c5
      clear c4 m13 e14
      go_wp2_with fail
      go_at_call 22
      refine (c5).mono ?_
      rintro e w15 ⟨a15, b15, rfl, e15, _, m15, _⟩
      have c6 := SU.out _ _ b15 m15.bel e15
      clear c5 m14 e15
      go_wp2_with fail
      go_at_call 23
      refine (c6).mono ?_
      rintro e w16 ⟨rfl, b16⟩
      have m16 := MB.out _ _ _ _ _ _ m15 b16
      have c7 := mine_back HALL.out.1 HALL.out.2.1 m16 (by omega) 1 bit (l := t) (by omega) (by omega) rfl rfl rfl HALL.out.2.2
      clear c6 m15 b16
      go_wp2_with fail
      go_at_call 15
      refine (c7).mono ?_
      rintro e w17 ⟨rfl, m17⟩
      have m17 : Mine (O d x) w (b4 t u bit, _) w17 := m17
      have c8 := mine_load HALL.out.1 HALL.out.2.1 m17 (by omega) 1 (by omega)
      rw [load41] at c8
      clear c7 m16
      go_wp2_with fail
      go_at_call 22
      refine (c8).mono ?_
      rintro e w18 ⟨a18, b18, rfl, e18, _, m18, _⟩
      have c9 := ST.out _ _ b18 m18.bel e18
      have B18 := Lib.hid m18.bel
      clear c8 m17 m18 e18
      go_wp2_with fail
      go_at_call 23
      refine (c9).mono ?_
      rintro e w19 ⟨rfl, b19⟩
      have hb19 := below_call B18.out b19
      clear c9 b19
      go_wp2_with fail
      go_ret
      exact ⟨rfl, hb19⟩
    · have zz : ¬ ((tcheck u : Nat) : Int) = 0 := by omega
      clear hI
      go_wp2_with fail
      go_at_call 21
      refine (a4).mono ?_
      rintro e w4 ⟨rfl, b4⟩
      have hb4 := below_call HB3.out b4
      have HB4 := Lib.hid hb4
      have a5 := CV.out _ hb4
      clear a4 b4 hb4 HB3 m3
      go_wp2_with fail
      go_at_call 21
      refine (a5).mono ?_
      rintro e w5 ⟨rfl, b5⟩
      have hb5 := below_call HB4.out b5
      have HB5 := Lib.hid hb5
      have a6 := AW.out _ hb5
      clear a5 b5 hb5
      go_wp2_with fail
      go_at_call 8
      refine (a6).mono ?_
      rintro e w6 ⟨rfl, b6⟩
      have hb6 := below_call HB5.out b6
      clear a6 b6
      go_wp2_with fail
      go_ret
      exact ⟨rfl, hb6⟩
  · have zz : ¬ ((tcheck t : Nat) : Int) = 0 := by omega
    clear hI
    go_wp2_with fail
    go_at_call 21
    refine (a4).mono ?_
    rintro e w4 ⟨rfl, b4⟩
    have hb4 := below_call HB3.out b4
    have HB4 := Lib.hid hb4
    have a5 := AW.out _ hb4
    clear a4 b4 hb4 HB3 m3
    go_wp2_with fail
    go_at_call 8
    refine (a5).mono ?_
    rintro e w5 ⟨rfl, b5⟩
    have hb5 := below_call HB4.out b5
    clear a5 b5
    go_wp2_with fail
    go_ret
    exact ⟨rfl, hb5⟩
theorem own : ownKnob Tryz.prog.godebug = none := by kernel_rfl
theorem laidOut : laidOutB Tryz.prog = true := by kernel_rfl
set_option maxRecDepth 100000 in
theorem contract {T : World → Prop} {O : Nat → Nat → Ob} {Cm : Nat → Ob} {Op : Nat → Nat → Ob} (hI : Impl T O Cm Op) (hTL : ∀ W, laidMetH Tryz.prog Rows.archiveBitsUptoRow.laid W → T W) (H : Type) (enc : TypeId × Value → H) (W : World) (base : Nat) (args : Array Value) (ds gs : List (DataW H)) (before : List MemPlace)
    (hval0 : ∀ (j : Nat) t v, Tryz.f4.params[j]? = some t → args[j]? = some v → Value.okWide Tryz.prog W .any base t v)
    (hW : DataW.Whole enc Tryz.prog Tryz.f4.params.toList Rows.archiveBitsSpec.vars false W args.toList ds gs before)
    (hk : Rows.uptoSmall H (ds ++ gs) = true)
    (hsz0 : (DataW.weightsEach Tryz.prog (Tryz.f4.params.toList ++ Rows.archiveBitsSpec.plain.varTypes Tryz.prog) (ds ++ gs)).all (· ≤ reachBytes) = true)
    (hL : laidMetH Tryz.prog Rows.archiveBitsUptoRow.laid W) :
    Calls Tryz.prog 4 args W fun e W' => ∃ v, e = .returned v ∧ Rows.archiveBitsSpec.post enc Tryz.prog Tryz.f4 false true false false W args v W' := by
  have hval : ∀ (j : Nat) t v, Tryz.f4.params[j]? = some t → args[j]? = some v → Value.okWide Tryz.prog W .any base t v := hval0
  have hsz := hsz0
  clear hsz0
  have hW' := hW
  obtain ⟨p, q, hA0, hV, rfl, hfz, hnd⟩ := hW
  have hA : DataW.TrodAll enc Tryz.prog W 0 (fun _ => true) true Tryz.f4.params.toList args.toList ds p := hA0
  rw [Tryz.params4] at hA hval hsz
  obtain ⟨v0, vs0, d0, ds0, p0, q0, hargs, rfl, rfl, h0, r0⟩ := trodAll_cons hA
  obtain ⟨v1, vs1, d1, ds1, p1, q1, rfl, rfl, rfl, h1, r1⟩ := trodAll_cons r0
  obtain ⟨v2, vs2, d2, ds2, p2, q2, rfl, rfl, rfl, h2, r2⟩ := trodAll_cons r1
  obtain ⟨rfl, rfl, rfl⟩ := trodAll_nil r2
  obtain rfl : args = #[v0, v1, v2] := by cases args; simp_all
  obtain ⟨rfl, rfl⟩ := trodVars_none hV
  obtain ⟨A0, n0, c0, rfl⟩ := okWide_slice Tryz.underlying33 (hval 0 33 v0 rfl rfl)
  have k0 := h0
  have lt0 : ∀ x ∈ p0, x.block < W.heap.size := by obtain ⟨m, hm⟩ := k0; exact DataW.trod_lt m _ _ _ hm
  obtain ⟨A1, n1, c1, rfl⟩ := okWide_slice Tryz.underlying33 (hval 1 33 v1 rfl rfl)
  have k1 := h1
  have lt1 : ∀ x ∈ p1, x.block < W.heap.size := by obtain ⟨m, hm⟩ := k1; exact DataW.trod_lt m _ _ _ hm
  obtain ⟨a2, rfl, rfl, rfl, w2⟩ := open_int Tryz.underlying3 (hval 2 3 v2 rfl rfl) h2
  have bd2 : -9223372036854775808 ≤ a2 ∧ a2 ≤ 9223372036854775807 := by simpa [Lit.wf, IntKind.min, IntKind.max, IntKind.signed, IntKind.bits] using w2
  clear hA0 hval0
  obtain ⟨l0, e0, z0, m0⟩ := arg_entsB k0
  obtain ⟨l1, e1, z1, m1⟩ := arg_entsB k1
  have hbulk : Rows.uptoBulk d0 ≤ 1048576 ∧ Rows.uptoBulk d1 ≤ 1048576 := by
    have h := of_decide_eq_true hk
    rw [List.append_nil] at h
    have x : Rows.uptoBulkAll [d0, d1, DataW.lit (H := H) (.int .i64 a2)] = Rows.uptoBulk d0 + (Rows.uptoBulk d1 + (1 + 0)) := rfl
    rw [x] at h
    omega
  refine (walk hI A0 n0 c0 l0 A1 n1 c1 l1 a2 W e0 e1 (En.arg_cap k0) (En.arg_cap k1) (by omega) (by omega) bd2 (hTL W hL)).mono fun e W' ⟨he, belF⟩ => ?_
  subst he
  exact ⟨_, rfl, _, _, _, [], _, [], hW', trodAll_mk1 (shut_bool Tryz.underlying4 _), (trodAll_cons_mk (Below.trod laidOut (by kernel_rfl) (of_decide_eq_true (by kernel_rfl)) k0 belF lt0) (trodAll_cons_mk (Below.trod laidOut (by kernel_rfl) (of_decide_eq_true (by kernel_rfl)) k1 belF lt1) (trodAll_cons_mk (shut_int Tryz.underlying3 w2) trodAll_mk0))), rfl, belF.frame _, fun h => by cases h⟩
theorem door_met (os : Os) : laidMetH Tryz.prog Rows.archiveBitsUptoRow.laid ((World.doorLaid Tryz.prog 400 os).forCall (fun _ _ => 0) ⟨#[], #[.slice none 0 0, .slice none 0 0, .int .i64 0], []⟩).memory :=
  laidMetH_of_parts3 (fuel := 8) (laidMet_of_run' 8 (by kernel_rfl) (by kernel_rfl)) (by kernel_rfl) (by kernel_rfl)
theorem reads (os : Os) {H : Type} (enc : TypeId × Value → H) : ∃ places, DataW.whole enc Tryz.prog ((World.doorLaid Tryz.prog 400 os).forCall (fun _ _ => 0) ⟨#[], #[.slice none 0 0, .slice none 0 0, .int .i64 0], []⟩).memory Tryz.f4.params.toList Rows.archiveBitsSpec.vars false (#[.slice none 0 0, .slice none 0 0, .int .i64 0] : Array Value).toList 8 = some ([.nil, .nil, .lit (.int .i64 0)], [], places) :=
  ⟨[], by kernel_rfl⟩
set_option maxRecDepth 100000 in
theorem lifted {T : World → Prop} {O : Nat → Nat → Ob} {Cm : Nat → Ob} {Op : Nat → Nat → Ob} (hI : Impl T O Cm Op) (hTL : ∀ W, laidMetH Tryz.prog Rows.archiveBitsUptoRow.laid W → T W) (os : Os) (started : os.Started) (H : Type) (enc : TypeId × Value → H) (F : Stop.Interp) :
    ReturnsInHanded {} Tryz.checked os 4 .any ((Rows.OpenSpec.upto Rows.archiveBitsSpec).preRow enc Tryz.prog Tryz.f4 Rows.archiveBitsUptoRow.domain false Rows.archiveBitsUptoRow.laid) (((Rows.OpenSpec.upto Rows.archiveBitsSpec).at F).post enc Tryz.prog Tryz.f4 false true false false) := by
  obtain ⟨places, hx⟩ := reads os enc
  refine returnsInHanded_of_row (C := Tryz.checked) (s := (Rows.OpenSpec.upto Rows.archiveBitsSpec)) own started (by kernel_rfl) Tryz.func4
    (witness_row_at (enc := enc) (C := Tryz.checked) false (World.doorLaid Tryz.prog 400 os) #[.slice none 0 0, .slice none 0 0, .int .i64 0] rfl (by kernel_rfl) (by kernel_rfl) (by kernel_rfl)
      (OpenSpec.preRow_of_cond 8 hx (by kernel_rfl) (fun k hk => by cases hk; kernel_rfl) (by kernel_rfl) (door_met os))) ?_
  intro W base args ds gs before hval hW _ hcond hsz0 hL _ _
  exact contract hI hTL H enc W base args ds gs before hval hW (hcond _ rfl) hsz0 hL
theorem over {T : World → Prop} {O : Nat → Nat → Ob} {Cm : Nat → Ob} {Op : Nat → Nat → Ob} (hI : Impl T O Cm Op) (hTL : ∀ W, laidMetH Tryz.prog Rows.archiveBitsUptoRow.laid W → T W) : Rows.archiveBitsUptoRow.holds Tryz.pinned (Rows.OpenSpec.upto Rows.archiveBitsSpec) :=
  OpenClaim.holds_of_cond 4 Tryz.f4 rfl rfl rfl rfl rfl rfl rfl ⟨rfl, rfl, rfl, rfl, rfl⟩ rfl rfl rfl rfl rfl (by kernel_rfl) Tryz.func4 (by kernel_rfl)
    (of_decide_eq_true (by kernel_rfl)) (by unfold Func.isWrapper; first | (rw [if_pos (by decide +kernel)]; kernel_rfl) | (rw [if_neg (by decide +kernel)]; exact ⟨rfl, rfl⟩))
    (fun os started H enc _ F => by rw [OpenClaim.pre_eq_preRow]; exact lifted hI hTL os started H enc F)
theorem plain (f : FuncId) (fn : Func) (hf : Tryz.pinned.checked.prog.funcNamed "tether/tetherlaw16.ArchiveBits" = some f) (hfn : Tryz.pinned.checked.prog.funcs[f]? = some fn) :
    false = Tryz.pinned.checked.prog.looks [] ∧ ∀ (j : Nat) t, fn.params[j]? = some t → Tryz.pinned.checked.prog.wantsStandIn t = false := by
  obtain rfl : f = 4 := Option.some.inj ((show Tryz.prog.funcNamed "tether/tetherlaw16.ArchiveBits" = some 4 by kernel_rfl).symm.trans hf) |>.symm
  obtain rfl : fn = Tryz.f4 := (Option.some.inj (Tryz.func4.symm.trans hfn)).symm
  refine ⟨by kernel_rfl, fun j t ht => ?_⟩
  rw [Tryz.params4] at ht
  have hm : t ∈ [33, 33, 3] := by simpa using Array.mem_of_getElem? ht
  have hall : ([33, 33, 3].all fun u => !Tryz.prog.wantsStandIn u) = true := by kernel_rfl
  exact (show Tryz.prog.wantsStandIn t = false by simpa using List.all_eq_true.1 hall t hm)
theorem card {T : World → Prop} {O : Nat → Nat → Ob} {Cm : Nat → Ob} {Op : Nat → Nat → Ob} (hI : Impl T O Cm Op) (hTL : ∀ W, laidMetH Tryz.prog Rows.archiveBitsUptoRow.laid W → T W) : Rows.ArchiveBitsUptoCardSaid :=
  Claim7.holds_tied_plain_at .later [] _ _ _ _ (over hI hTL) (fun _ h => by cases h) (by kernel_rfl) (fun _ h => by cases h) archiveBitsUpto_row_tie rfl ⟨rfl, rfl⟩ (by kernel_rfl) rfl plain (by kernel_rfl)
end Go.Proofs.YtdkgkomjbpggeaaGreatDoor.archiveBits

namespace Go.Proofs.YtdkgkomjbpggeaaGreatDoor
theorem archiveBitsUpto_holds : Rows.ArchiveBitsUptoCardSaid := archiveBits.card Az.impl (fun _ h => Bl.tab_laid h)
end Go.Proofs.YtdkgkomjbpggeaaGreatDoor
