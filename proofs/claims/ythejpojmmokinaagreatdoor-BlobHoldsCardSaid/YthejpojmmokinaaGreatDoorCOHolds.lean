/-
  BlobHolds: every content that was put is got by its key, held as often as it was put; unlike contents have unlike keys; released as often as it was put it is gone: the law returns true, and writes nothing that was there. No condition beside the sizes that every first form has; the library's tables are those of the program's text (the card's tie).
-/
import Derived.Test.YthejpojmmokinaaGreatDoorT4
namespace Go.Proofs.YthejpojmmokinaaGreatDoor.blobHolds
open Go.ChangeMaps (open_string shut_string)
open Go.ChangeShapes Go.WideShapes Go.ChangeAt Go.RowKit Tx Pm Dk Tb Wl Bl
set_option linter.unusedVariables false
set_option linter.unusedSimpArgs false
set_option linter.unnecessarySimpa false
set_option maxRecDepth 100000 in
set_option maxHeartbeats 16000000 in
theorem walk (A : Option Addr) (n c : Nat) (l : List ByteArray) (w : World) (hS : Strs w A n l) (hW : ∀ x ∈ l, x.size ≤ 140737488351232) (hc : n ≤ c) (ht : Tab w) :
    Calls Tryz.prog 4 #[.slice A n c] w fun e w' => e = .returned (.bool true) ∧ Below w.heap.size w w' := by
  obtain ⟨i0, hi, hz0, hz1, hz2⟩ := info_parts Tx.info9
  have HST := Lib.hid (fun V (hV : Below w.heap.size w V) => hS.below hV)
  have HL := Lib.hid hS.1
  have HW := Lib.hid hW
  have HT := Lib.hid ht
  clear hS hW ht
  go_enter Tryz.func4, Tryz.ntmps4
  go_wp2_with fail
  go_at_call 8
  refine (made_any8 w w (Below.refl _ _)).mono ?_
  rintro e w1 ⟨b, j, t, m, u, F, rfl, hb1, hF, o1⟩
  have HF := Lib.hid hF
  clear hF
  by_cases hn : n ≤ 150
  · have hnz : ¬ (150 : Int) < (n : Int) := by omega
    go_wp2_with fail
    go_at_call 9
    refine (awake_any8 w1 w1 (Below.refl _ _) (HT.out.below hb1)).mono ?_
    rintro e w2 ⟨rfl, hb2⟩
    have o2 := Bw.first (o1.below hb2) HF.out hb1.size (Tx.below_call hb1 hb2)
    clear o1 hb2
    go_wp2_with fail
    go_loopw [4, 5] (fun v iv wr => ∃ k V : Nat, k ≤ n ∧ iv = .int .i64 k ∧ Bw b j t m u x0 [] w (puts (l.take k)) k k V v k (keysD (l.take k)) wr) (fun _ iv _ => n - (intOf iv).toNat)
    case atStart => exact ⟨0, 0, Nat.zero_le _, rfl, o2⟩
    case round =>
      clear o2
      obtain ⟨k, V, hk, rfl, o⟩ := hrel
      by_cases hlt : k < n
      · obtain ⟨x, hx⟩ : ∃ x, l[k]? = some x := ⟨_, List.getElem?_eq_getElem (by rw [HL.out]; exact hlt)⟩
        obtain ⟨_, hne⟩ := HST.out _ o.bel
        obtain ⟨bk, off, rfl, hbk, hcc⟩ := hne.resolve_left (by omega)
        have g0 := hcc k x hx
        have hkz : (k : Int) < (n : Int) := by omega
        have hxw := HW.out x (List.mem_of_getElem? hx)
        have htk := take_snoc hx
        have hks := keysD_snoc2 (l.take k) x (fun y hy => HW.out y (List.mem_of_mem_take hy))
        rw [← htk] at hks
        have cp := o.call HT.out (fun F hT hB => put_put (l := l.take k) (d := x) hB xk0 (by omega) (by omega) hxw hT)
        rw [← htk] at cp
        obtain ⟨KX, hKX⟩ : ∃ K, K = keyD (puts (l.take (k + 1))) x := ⟨_, rfl⟩
        rw [← hKX] at cp hks
        have HKS := Lib.hid hks
        clear hne hcc hx htk hks hKX o
        go_wp2_with fail
        go_at_call 13
        refine cp.mono ?_
        rintro e w3 ⟨rfl, o3⟩
        have hown3 := o3.row
        clear cp
        go_wp2_with (at_builtin; refine Ap.wpList_append_two _ rfl _ _ 38 rfl w.heap.size 9 i0 (.string ⟨#[]⟩) 1 16 Tryz.underlying38 hi hz0 hz1 hz2 rfl (by decide) (by decide) _ _ _ rfl (hown3.alloc _) ⟨w3.heap.size, 0, none⟩ 1 [sv KX] rfl rfl ?c1 ?c2 ?c3 ?c4 ?c5 ?_)
        case c1 => first | exact cell_one_new _ _ _ | exact fun _ _ h => h
        case c2 => first | exact sv_one [KX] | rfl
        case c3 => omega
        case c4 => omega
        case c5 => exact Nat.le_trans o3.bel.size (((Below.refl _ _).alloc (Nat.le_refl _) _).size)
        intro v' w6 hown6 hg6
        have o6 := o3.app (y := KX) (W1 := w3.alloc (.cells #[.string KX] 9)) ((Below.refl _ _).alloc (Nat.le_refl _) _) (by rw [List.map_append]; exact hown6) (by first | exact hg6 | (rw [World.size_alloc]; exact hg6))
        clear hown6 hg6 o3 hown3
        rw [← HKS.out] at o6
        go_wp2_with fail
        go_roundw
        case rel => exact ⟨k + 1, _, by omega, by go_num, o6⟩
        case measure => simp [intOf]; omega
      · obtain rfl : k = n := by omega
        have eA : l.take k = l := List.take_of_length_le (by rw [HL.out]; exact Nat.le_refl _)
        rw [eA] at o
        obtain ⟨aK, cK, rfl, _, hcK, _⟩ := o.strs (by rw [keysD_len]; exact HL.out)
        have HP := Lib.hid (fun d (hd : d ∈ l) => (puts_has l HW.out d).2 hd)
        have HR := Lib.hid (puts_ref l HW.out)
        clear hlt eA hnz
        go_wp2_with fail
        go_loopw [6] (fun iv wr => ∃ i : Nat, i ≤ k ∧ iv = .int .i64 i ∧ Bw b j t m u x0 [] w (puts l) k k V (.slice aK k cK) k (keysD l) wr) (fun iv _ => k - (intOf iv).toNat)
        case atStart => exact ⟨0, Nat.zero_le _, rfl, o⟩
        case round =>
          clear o
          obtain ⟨i, hik, rfl, o⟩ := hrel
          by_cases hlt : i < k
          · obtain ⟨d, hd⟩ : ∃ d, l[i]? = some d := ⟨_, List.getElem?_eq_getElem (by rw [HL.out]; exact hlt)⟩
            have hkd := keysD_at hd
            have hdl := List.mem_of_getElem? hd
            have hiz : (i : Int) < (k : Int) := by omega
            have hiK := Strs.at2 o.keys hkd hlt
            have hiT := Strs.at2 (HST.out _ o.bel) hd hlt
            obtain ⟨bK, oK, rfl, _, gK⟩ := hiK
            obtain ⟨bT, oT, rfl, _, gT⟩ := hiT
            have cg := o.call HT.out (fun F hT hB => get_put (d := d) hB (by omega) (HP.out d hdl))
            have HD := Lib.hid hd
            have HDL := Lib.hid hdl
            have HKD := Lib.hid hkd
            clear hd hdl hkd o
            obtain ⟨KD, hKD⟩ : ∃ K, K = keyD (puts l) d := ⟨_, rfl⟩
            rw [← hKD] at cg gK
            have HKDD := Lib.hid hKD
            clear hKD
            go_wp2_with fail
            go_at_call 19
            refine cg.mono ?_
            rintro e w3 ⟨rfl, o3⟩
            clear cg gK gT
            go_wp2_with fail
            go_loopw [9, 10] (fun nv qv wr => ∃ q N : Nat, q ≤ k ∧ qv = .int .i64 q ∧ Hid (N = cnt (l.take q) d) ∧ N ≤ q ∧ nv = .int .i64 N ∧ Bw b j t m u x0 [] w (puts l) k k V (.slice (some ⟨bK, oK, none⟩) k cK) k (keysD l) wr) (fun _ qv _ => k - (intOf qv).toNat)
            case atStart => exact ⟨0, 0, Nat.zero_le _, rfl, rfl, Nat.le_refl _, rfl, o3⟩
            case round =>
              clear o3
              obtain ⟨q, N, hq, rfl, hN, hNq, rfl, o⟩ := hrel
              by_cases hlq : q < k
              · obtain ⟨y, hy⟩ : ∃ y, l[q]? = some y := ⟨_, List.getElem?_eq_getElem (by rw [HL.out]; exact hlq)⟩
                have hqz : (q : Int) < (k : Int) := by omega
                have kq := Strs.at1 o.keys (keysD_at hy)
                have ki := Strs.at1 o.keys HKD.out
                have tq := Strs.at1 (HST.out _ o.bel) hy
                have ti := Strs.at1 (HST.out _ o.bel) HD.out
                rw [← HKDD.out] at ki
                have htk := take_snoc hy
                have hcn := cnt_snoc (l.take q) y d
                rw [← htk, ← hN.out] at hcn
                have hod := o.below (Below.refl _ wr).drew
                have hod2 := hod.below (Below.refl _ wr.drew).drew
                have hiff := keyD_inj o.good (HP.out y (List.mem_of_getElem? hy)) (HP.out d HDL.out)
                by_cases he : y = d
                · subst he
                  rw [if_pos rfl] at hcn
                  rw [← HKDD.out] at kq
                  have b1 : (KD.toList == KD.toList) = true := beq_self_eq_true _
                  have b2 : (y.toList == y.toList) = true := beq_self_eq_true _
                  have HCN := Lib.hid hcn.symm
                  have HOD := Lib.hid hod
                  have HOD2 := Lib.hid hod2
                  clear hy htk hcn hiff hod hod2 o
                  go_wp2_with fail
                  go_region
                  all_goals
                    go_wp2_with fail
                    go_region
                    all_goals
                      go_wp2_with fail
                      go_roundw
                      case rel => exact ⟨q + 1, N + 1, by omega, by go_num, HCN, by omega, by go_num, by first | exact HOD2.out | exact HOD.out⟩
                      case measure => simp [intOf]; omega
                · rw [if_neg he] at hcn
                  have hKY : keyD (puts l) y ≠ KD := fun e => he (hiff.1 (e.trans HKDD.out))
                  obtain ⟨KY, hKYe⟩ : ∃ K, K = keyD (puts l) y := ⟨_, rfl⟩
                  rw [← hKYe] at kq hKY
                  have b1 : (KY.toList == KD.toList) = false := bytes_ne hKY
                  have b2 : (y.toList == d.toList) = false := bytes_ne he
                  have HCN := Lib.hid (show N = cnt (l.take (q + 1)) d by rw [hcn]; rfl)
                  have HOD := Lib.hid hod
                  have HOD2 := Lib.hid hod2
                  clear hy htk hcn hiff hod hod2 o he hKY hKYe
                  go_wp2_with fail
                  go_region
                  all_goals
                    go_wp2_with fail
                    go_region
                    all_goals
                      go_wp2_with fail
                      go_roundw
                      case rel => exact ⟨q + 1, N, by omega, by go_num, HCN, by omega, rfl, by first | exact HOD2.out | exact HOD.out⟩
                      case measure => simp [intOf]; omega
              · obtain rfl : q = k := by omega
                have eA : l.take q = l := List.take_of_length_le (by rw [HL.out]; exact Nat.le_refl _)
                have hN2 : N = refD (puts l) d := by rw [hN.out, eA, HR.out]
                have cr := o.call HT.out (fun F hT hB => refs_put (d := d) hB (by omega) (HP.out d HDL.out))
                rw [← hN2, ← HKDD.out] at cr
                have ki := Strs.at1 o.keys HKD.out
                have ti := Strs.at1 (HST.out _ o.bel) HD.out
                rw [← HKDD.out] at ki
                have b2 : (d.toList == d.toList) = true := beq_self_eq_true _
                have b3 : ((N : Int) == (N : Int)) = true := by simp
                clear o eA hN hN2
                go_wp2_with fail
                go_at_call 20
                refine cr.mono ?_
                rintro e w4 ⟨rfl, o4⟩
                go_wp2_with fail
                go_roundw
                case rel => exact ⟨i + 1, by omega, by go_num, o4⟩
                case measure => simp [intOf]; omega
          · obtain rfl : i = k := by omega
            have HI := Lib.hid (relinv_0 l HW.out)
            clear hlt
            go_wp2_with fail
            go_loopw [11] (fun iv wr => ∃ (r N V2 : Nat) (C2 : List On), r ≤ i ∧ iv = .int .i64 r ∧ N ≤ i + r ∧ Hid (RelInv l r C2) ∧ Bw b j t m u x0 [] w C2 i N V2 (.slice aK i cK) i (keysD l) wr) (fun iv _ => i - (intOf iv).toNat)
            case atStart => exact ⟨0, i, V, puts l, Nat.zero_le _, rfl, by omega, HI.out, o⟩
            case round =>
              clear o
              obtain ⟨r, N, V2, C2, hri, rfl, hNr, hI, o⟩ := hrel
              by_cases hlr : r < i
              · obtain ⟨d, hd⟩ : ∃ d, l[r]? = some d := ⟨_, List.getElem?_eq_getElem (by rw [HL.out]; exact hlr)⟩
                have hrz : (r : Int) < (i : Int) := by omega
                obtain ⟨bK, oK, rfl, _, gK⟩ := Strs.at2 o.keys (keysD_at hd) hlr
                obtain ⟨s1, s2, s3⟩ := relinv_succ o.good hI.out hd
                have cr := o.call HT.out (fun F hT hB => rel_put (d := d) hB (by omega) (by omega) s1)
                rw [s2] at cr
                rw [s2] at s3
                obtain ⟨KD, hKD⟩ : ∃ K, K = keyD (puts l) d := ⟨_, rfl⟩
                rw [← hKD] at cr gK s3
                have HS3 := Lib.hid s3
                clear hd o s1 s2 s3 hKD hI
                go_wp2_with fail
                go_at_call 15
                refine cr.mono ?_
                rintro e w4 ⟨rfl, o4⟩
                clear cr gK
                go_wp2_with fail
                go_roundw
                case rel => exact ⟨r + 1, N + 1, _, _, by omega, by go_num, by omega, HS3.out, o4⟩
                case measure => simp [intOf]; omega
              · obtain rfl : r = i := by omega
                have hE : C2 = [] := relinv_end o.good (by rw [HL.out]; exact hI.out)
                subst hE
                have ck := o.call HT.out (fun F hT hB => bkeys_len hB xk0 (by omega))
                clear o hI
                go_wp2_with fail
                go_at_call 22
                refine ck.mono ?_
                rintro e w5 ⟨⟨a5, c5, rfl⟩, o5⟩
                go_wp2_with fail
                go_ret
                exact ⟨rfl, o5.bel⟩
  · have hnz : (150 : Int) < (n : Int) := by omega
    go_wp2_with fail
    go_at_call 9
    refine (awake_any8 w1 w1 (Below.refl _ _) (HT.out.below hb1)).mono ?_
    rintro e w2 ⟨rfl, hb2⟩
    have hB2 := Tx.below_call hb1 hb2
    go_wp2_with fail
    go_at_call 9
    refine (awake_any8 w2 w2 (Below.refl _ _) (HT.out.below hB2)).mono ?_
    rintro e w3 ⟨rfl, hb3⟩
    go_wp2_with fail
    go_ret
    exact ⟨rfl, Tx.below_call hB2 hb3⟩
theorem tab_of {W : World} (h : laidMetH Tryz.prog Rows.blobHoldsRow.laid W) : Tab W := tab_laid h
theorem own : ownKnob Tryz.prog.godebug = none := by kernel_rfl
theorem laidOut : laidOutB Tryz.prog = true := by kernel_rfl
set_option maxRecDepth 100000 in
theorem contract (H : Type) (enc : TypeId × Value → H) (W : World) (base : Nat) (args : Array Value) (ds gs : List (DataW H)) (before : List MemPlace)
    (hval0 : ∀ (j : Nat) t v, Tryz.f4.params[j]? = some t → args[j]? = some v → Value.okWide Tryz.prog W .any base t v)
    (hW : DataW.Whole enc Tryz.prog Tryz.f4.params.toList Rows.blobHoldsSpec.vars false W args.toList ds gs before)
    (hsz0 : (DataW.weightsEach Tryz.prog (Tryz.f4.params.toList ++ Rows.blobHoldsSpec.plain.varTypes Tryz.prog) (ds ++ gs)).all (· ≤ reachBytes) = true)
    (hL : laidMetH Tryz.prog Rows.blobHoldsRow.laid W) :
    Calls Tryz.prog 4 args W fun e W' => ∃ v, e = .returned v ∧ Rows.blobHoldsSpec.post enc Tryz.prog Tryz.f4 false true false false W args v W' := by
  have hval : ∀ (j : Nat) t v, Tryz.f4.params[j]? = some t → args[j]? = some v → Value.okWide Tryz.prog W .any base t v := hval0
  have hsz := hsz0
  clear hsz0
  have hW' := hW
  obtain ⟨p, q, hA0, hV, rfl, hfz, hnd⟩ := hW
  have hA : DataW.TrodAll enc Tryz.prog W 0 (fun _ => true) true Tryz.f4.params.toList args.toList ds p := hA0
  rw [Tryz.params4] at hA hval hsz
  obtain ⟨v0, vs0, d0, ds0, p0, q0, hargs, rfl, rfl, h0, r0⟩ := trodAll_cons hA
  obtain ⟨rfl, rfl, rfl⟩ := trodAll_nil r0
  obtain rfl : args = #[v0] := by cases args; simp_all
  obtain ⟨rfl, rfl⟩ := trodVars_none hV
  obtain ⟨A0, n0, c0, rfl⟩ := okWide_slice Tryz.underlying38 (hval 0 38 v0 rfl rfl)
  have k0 := h0
  have lt0 : ∀ x ∈ p0, x.block < W.heap.size := by obtain ⟨m, hm⟩ := k0; exact DataW.trod_lt m _ _ _ hm
  clear hA0 hval0
  obtain ⟨l0, hS0, _, _, hc0, hm0, hwd⟩ := arg_texts k0
  have hw0 : Wide1 l0 := hwd hsz (j := 0) rfl rfl
  refine (walk A0 n0 c0 l0 W hS0 hw0 hc0 (tab_of hL)).mono fun e W' ⟨he, bel⟩ => ?_
  subst he
  exact ⟨_, rfl, _, _, _, [], _, [], hW', trodAll_mk1 (shut_bool Tryz.underlying4 _), (trodAll_cons_mk (Below.trod laidOut (by kernel_rfl) (of_decide_eq_true (by kernel_rfl)) k0 bel lt0) trodAll_mk0), rfl, bel.frame _, fun h => by cases h⟩
theorem door_met (os : Os) : laidMetH Tryz.prog Rows.blobHoldsRow.laid ((World.doorLaid Tryz.prog 400 os).forCall (fun _ _ => 0) ⟨#[], #[.slice none 0 0], []⟩).memory :=
  laidMetH_of_parts3 (fuel := 8) (laidMet_of_run' 8 (by kernel_rfl) (by kernel_rfl)) (by kernel_rfl) (by kernel_rfl)
theorem reads (os : Os) {H : Type} (enc : TypeId × Value → H) : ∃ places, DataW.whole enc Tryz.prog ((World.doorLaid Tryz.prog 400 os).forCall (fun _ _ => 0) ⟨#[], #[.slice none 0 0], []⟩).memory Tryz.f4.params.toList Rows.blobHoldsSpec.vars false (#[.slice none 0 0] : Array Value).toList 8 = some ([.nil], [], places) :=
  ⟨[], by kernel_rfl⟩
set_option maxRecDepth 100000 in
theorem lifted (os : Os) (started : os.Started) (H : Type) (enc : TypeId × Value → H) (F : Stop.Interp) :
    ReturnsInHanded {} Tryz.checked os 4 .any ((OpenSpec.ofChange Rows.blobHoldsSpec).preRow enc Tryz.prog Tryz.f4 Rows.blobHoldsRow.domain false Rows.blobHoldsRow.laid) (((OpenSpec.ofChange Rows.blobHoldsSpec).at F).post enc Tryz.prog Tryz.f4 false true false false) := by
  obtain ⟨places, hx⟩ := reads os enc
  refine returnsInHanded_of_row (C := Tryz.checked) (s := (OpenSpec.ofChange Rows.blobHoldsSpec)) own started (by kernel_rfl) Tryz.func4
    (witness_row_at (enc := enc) (C := Tryz.checked) false (World.doorLaid Tryz.prog 400 os) #[.slice none 0 0] rfl (by kernel_rfl) (by kernel_rfl) (by kernel_rfl)
      (OpenSpec.preRow_of_cond 8 hx (by kernel_rfl) (fun k hk => by cases hk) (by kernel_rfl) (door_met os))) ?_
  intro W base args ds gs before hval hW _ hcond hsz0 hL _ _
  exact contract H enc W base args ds gs before hval hW hsz0 hL
theorem over : Rows.blobHoldsRow.holds Tryz.pinned (OpenSpec.ofChange Rows.blobHoldsSpec) :=
  OpenClaim.holds_of_cond 4 Tryz.f4 rfl rfl rfl rfl rfl rfl rfl ⟨rfl, rfl, rfl, rfl, rfl⟩ rfl rfl rfl rfl rfl (by kernel_rfl) Tryz.func4 (by kernel_rfl)
    (of_decide_eq_true (by kernel_rfl)) (by unfold Func.isWrapper; first | (rw [if_pos (by decide +kernel)]; kernel_rfl) | (rw [if_neg (by decide +kernel)]; exact ⟨rfl, rfl⟩))
    (fun os started H enc _ F => by rw [OpenClaim.pre_eq_preRow]; exact lifted os started H enc F)
theorem plain (f : FuncId) (fn : Func) (hf : Tryz.pinned.checked.prog.funcNamed "tether/tetherlaw08.BlobHolds" = some f) (hfn : Tryz.pinned.checked.prog.funcs[f]? = some fn) :
    false = Tryz.pinned.checked.prog.looks [] ∧ ∀ (j : Nat) t, fn.params[j]? = some t → Tryz.pinned.checked.prog.wantsStandIn t = false := by
  obtain rfl : f = 4 := Option.some.inj ((show Tryz.prog.funcNamed "tether/tetherlaw08.BlobHolds" = some 4 by kernel_rfl).symm.trans hf) |>.symm
  obtain rfl : fn = Tryz.f4 := (Option.some.inj (Tryz.func4.symm.trans hfn)).symm
  refine ⟨by kernel_rfl, fun j t ht => ?_⟩
  rw [Tryz.params4] at ht
  have hm : t ∈ [38] := by simpa using Array.mem_of_getElem? ht
  have hall : ([38].all fun u => !Tryz.prog.wantsStandIn u) = true := by kernel_rfl
  exact (show Tryz.prog.wantsStandIn t = false by simpa using List.all_eq_true.1 hall t hm)
theorem card : Rows.BlobHoldsCardSaid :=
  Claim7.holds_tied_plain_at .later [] _ _ _ _ over (fun _ h => by cases h) (by kernel_rfl) (fun _ h => by cases h) blobHolds_row_tie rfl ⟨rfl, rfl⟩ (by kernel_rfl) rfl plain (by kernel_rfl)
end Go.Proofs.YthejpojmmokinaaGreatDoor.blobHolds
namespace Go.Proofs.YthejpojmmokinaaGreatDoor
theorem blobHoldsCard_holds : Rows.BlobHoldsCardSaid := blobHolds.card
#print axioms blobHoldsCard_holds
end Go.Proofs.YthejpojmmokinaaGreatDoor
