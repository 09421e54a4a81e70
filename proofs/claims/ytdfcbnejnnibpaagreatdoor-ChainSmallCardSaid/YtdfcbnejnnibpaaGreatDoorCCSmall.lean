/-
  ChainSmall: a version near one that has the same content, of 16 bytes or more and no more than 4096, takes at most 8 bytes, as long as that one isn't told by four steps; then it is kept whole; whatever the second number, no version is told by more than four steps: the law returns true, and writes nothing that was there. No condition beside the sizes that every first form has; the library's tables are those of the program's text (the card's tie).
-/
import Derived.Test.YtdfcbnejnnibpaaGreatDoorT5
namespace Go.Proofs.YtdfcbnejnnibpaaGreatDoor.chainSmall
open Go.ChangeMaps (open_string shut_string)
open Go.ChangeShapes Go.WideShapes Go.ChangeAt Go.RowKit Tx Pm Dk Tb Wl Bl Cn
set_option linter.unusedVariables false
set_option linter.unusedSimpArgs false
set_option linter.unnecessarySimpa false
def slf (T : ByteArray) : ByteArray := tb (Dm.en T.data.toList T.data.toList)
theorem slf_size {T : ByteArray} (h1 : 16 ≤ T.size) (h2 : T.size ≤ 4096) : (slf T).size ≤ 8 := by
  unfold slf
  rw [show (tb (Dm.en T.data.toList T.data.toList)).size = (Dm.en T.data.toList T.data.toList).length from tb_size _]
  exact Dm.en_same _ (by rw [Wm.len_l]; omega) (by rw [Wm.len_l]; omega)
def cs (T : ByteArray) : Nat → List Vn
  | 0 => []
  | 1 => [⟨1, 0, T⟩]
  | k + 2 => cs T (k + 1) ++ [⟨k + 2, k + 1, slf T⟩]
theorem cs_ids (T : ByteArray) : ∀ k, ids (cs T k) = (List.range k).map (· + 1)
  | 0 => rfl
  | 1 => rfl
  | k + 2 => by
    unfold cs ids
    rw [List.map_append, List.range_succ, List.map_append]
    have := cs_ids T (k + 1)
    unfold ids at this
    rw [this]
    rfl
theorem cs_mem (T : ByteArray) : ∀ k v, v ∈ cs T k → 1 ≤ v.id ∧ v.id ≤ k ∧ v.near = v.id - 1
  | 0, v, h => by cases h
  | 1, v, h => by
    rw [List.mem_singleton.1 h]
    exact ⟨Nat.le_refl _, Nat.le_refl _, rfl⟩
  | k + 2, v, h => by
    unfold cs at h
    rcases List.mem_append.1 h with h | h
    · have := cs_mem T (k + 1) v h
      omega
    · rw [List.mem_singleton.1 h]
      exact ⟨by show 1 ≤ k + 2; omega, Nat.le_refl _, rfl⟩
theorem cs_has (T : ByteArray) {k i : Nat} (h1 : 1 ≤ i) (h2 : i ≤ k) : ∃ v ∈ cs T k, v.id = i := by
  have : i ∈ ids (cs T k) := by
    rw [cs_ids, List.mem_map]
    exact ⟨i - 1, by rw [List.mem_range]; omega, by omega⟩
  obtain ⟨v, hv, e⟩ := List.mem_map.1 this
  exact ⟨v, hv, e⟩
theorem cs_by {T : ByteArray} (h1 : 16 ≤ T.size) (h2 : T.size ≤ 4096) : ∀ k, byC (cs T (k + 1)) ≤ T.size + 8 * k ∧ (k = 0 → byC (cs T (k + 1)) = T.size)
  | 0 => ⟨Nat.le_refl _, fun _ => by show T.size + 0 = _; omega⟩
  | k + 1 => by
    have h := cs_by h1 h2 k
    have hs := slf_size h1 h2
    have e : byC (cs T (k + 1 + 1)) = byC (cs T (k + 1)) + (slf T).size := by
      show byC (cs T (k + 1) ++ [⟨k + 2, k + 1, slf T⟩]) = _
      rw [byC_snoc]
    exact ⟨by rw [e]; omega, fun h => by omega⟩
section
variable {T : ByteArray} {r : Nat → Nat} {M S : Nat}
theorem cs_dp {k : Nat} (h : Gv (cs T k) (fun _ => T) r M S) : ∀ i, 1 ≤ i → i ≤ k → dp (cs T k) i = i - 1
  | 0, h1, _ => by omega
  | i + 1, h1, h2 => by
    obtain ⟨v, hv, e⟩ := cs_has T h1 h2
    obtain ⟨_, _, e3⟩ := cs_mem T k v hv
    by_cases h0 : i = 0
    · subst h0
      have := dp_whole h hv (by omega)
      rw [e] at this
      exact this
    · have h5 := dp_told h hv (by omega)
      have h6 := cs_dp h i (by omega) (by omega)
      rw [e, e3, e, show i + 1 - 1 = i from rfl, h6] at h5
      omega
theorem cs_len {k i : Nat} (h : Gv (cs T k) (fun _ => T) r M S) (h1 : 1 ≤ i) (h2 : i ≤ k) : (lnC (cs T k) (i : Int)).length = i := by
  obtain ⟨v, hv, e⟩ := cs_has T h1 h2
  have h3 := lnC_len h hv
  rw [e, cs_dp h i h1 h2] at h3
  omega
theorem cs_tell {k : Nat} (h : Gv (cs T k) (fun _ => T) r M S) (h1 : 16 ≤ T.size) (h2 : T.size ≤ 4096) (hk : 1 ≤ k) (hk4 : k ≤ 4) : tell (cs T k) T (k : Int) = (k, slf T) := by
  have hl := cs_len h hk (Nat.le_refl k)
  obtain ⟨v, hv, e⟩ := cs_has T hk (Nat.le_refl k)
  obtain ⟨L, g1, g2, _⟩ := lnC_some h hv
  rw [e] at g1
  have hs := slf_size h1 h2
  have hsz : (slf T).size = (Dm.en T.data.toList T.data.toList).length := tb_size _
  unfold tell
  rw [if_neg (by rw [hl]; omega), g1, g2, if_neg (by omega)]
  rfl
theorem cs_far {k : Nat} (h : Gv (cs T k) (fun _ => T) r M S) (hk : k = 5) : tell (cs T k) T (k : Int) = (0, T) := by
  have hl := cs_len h (by omega) (Nat.le_refl k)
  unfold tell
  rw [if_pos (by rw [hl]; omega)]
theorem cs_first : tell [] T 0 = (0, T) := by
  unfold tell
  rw [if_pos (.inl rfl)]
end
theorem addD_same (T : ByteArray) (M : Nat) : addD (fun _ => T) M T = fun _ => T := by
  funext i
  unfold addD
  split <;> rfl
set_option maxRecDepth 100000 in
set_option maxHeartbeats 16000000 in
theorem walk (T : ByteArray) (n : Int) (w : World) (hn : i64 n) (hW : T.size ≤ 140737488351232) (ht : Tab w) :
    Calls Tryz.prog 5 #[.string T, .int .i64 n] w fun e w' => e = .returned (.bool true) ∧ Below w.heap.size w w' := by
  have HT := Lib.hid ht
  clear ht
  go_enter Tryz.func5, Tryz.ntmps5
  go_wp2_with fail
  go_at_call 16
  refine (made_any10 (fun _ => T) 4096 w w (Below.refl _ _)).mono ?_
  rintro e w1 ⟨b, j, t, m, u, F, rfl, hb1, hF, o1⟩
  have HF := Lib.hid hF
  have HB1 := Lib.hid hb1
  have HZ : Hid (TabZ (w1, F)) := Lib.hid (tabz HT.out hb1 hF)
  clear hF hb1
  go_wp2_with fail
  go_at_call 8
  refine (awake_any10 w1 w1 (Below.refl _ _) (HT.out.below HB1.out)).mono ?_
  rintro e w2 ⟨rfl, hb2⟩
  by_cases h16 : 16 ≤ T.size ∧ T.size ≤ 4096
  · obtain ⟨h16, h40⟩ := h16
    have z16 : ¬ (T.size : Int) < 16 := by omega
    have z40 : ¬ (4096 : Int) < (T.size : Int) := by omega
    have o2 := o1.below hb2
    have c1 := add_any (d := T) (n := 0) o2 (by omega) (by omega) (by omega) h40 (by unfold i64; omega) HZ.out
    have e1 : addC [] 0 T 0 = cs T 1 := by unfold addC; rw [cs_first]; rfl
    rw [e1, addD_same] at c1
    clear o1 o2 hb2 e1
    go_wp2_with fail
    go_at_call 10
    refine (c1).mono ?_
    rintro e w3 ⟨rfl, o3⟩
    clear c1
    have cb := bc_bytes o3 xk0 (by omega) (by omega) (by omega) HZ.out
    have eb := (cs_by h16 h40 0).2 rfl
    rw [show 0 + 1 = 1 from rfl] at eb
    rw [eb] at cb
    go_wp2_with fail
    go_at_call 19
    refine (cb).mono ?_
    rintro e w4 ⟨rfl, hb4⟩
    have o4 := o3.below hb4
    obtain ⟨r4, g4⟩ := o4.good
    have cd := bc_depth (n := ((1 : Nat) : Int)) o4 (by unfold i64; omega) (by omega) (by omega) HZ.out
    have el := cs_len g4 (Nat.le_refl 1) (Nat.le_refl 1)
    rw [el] at cd
    clear cb o3 hb4 g4 eb el
    go_wp2_with fail
    go_at_call 18
    refine (cd).mono ?_
    rintro e w5 ⟨rfl, hb5⟩
    have o5 := o4.below hb5
    clear cd o4 hb5
    go_wp2_with fail
    go_loopw [6, 7] (fun nv iv wr => ∃ k : Nat, 1 ≤ k ∧ k ≤ 5 ∧ nv = .int .i64 k ∧ iv = .int .i64 k ∧ Bc b j t m u x0 (w1, F) (cs T k) (fun _ => T) k 4096 (k * 2) (k * 10000) wr) (fun _ iv _ => 5 - (intOf iv).toNat)
    case atStart => exact ⟨1, Nat.le_refl _, by omega, rfl, rfl, o5.mono (Nat.le_refl _) (by omega) (by omega)⟩
    case round =>
      clear o5
      obtain ⟨k, hk1, hk5, rfl, rfl, o⟩ := hrel
      obtain ⟨r, g⟩ := o.good
      have ca := add_any (d := T) (n := (k : Int)) o (by omega) (by omega) (by omega) h40 (by unfold i64; omega) HZ.out
      rw [addD_same] at ca
      by_cases hk4 : k ≤ 4
      · have hkz : (k : Int) ≤ 4 := by omega
        have e1 : addC (cs T k) k T (k : Int) = cs T (k + 1) := by
          unfold addC
          rw [cs_tell g h16 h40 hk1 hk4]
          obtain ⟨q, rfl⟩ : ∃ q, k = q + 1 := ⟨k - 1, by omega⟩
          rfl
        rw [e1] at ca
        obtain ⟨k1, hk1e⟩ : ∃ k1, k1 = k + 1 := ⟨_, rfl⟩
        have hby := (cs_by h16 h40 k).1
        rw [← hk1e] at ca hby
        have hks : (k1 : Int) = (k : Int) + 1 := by omega
        have HKS := Lib.hid hks
        have hk1b : k1 ≤ 5 := by omega
        have HK1 := Lib.hid hk1e
        have hb8 : (byC (cs T k1) : Int) ≤ (T.size : Int) + 8 * (k : Int) := by omega
        have HB8 := Lib.hid hb8
        clear o g e1 hby hks hk1e hb8
        go_wp2_with fail
        go_at_call 10
        refine (ca).mono ?_
        rintro e w6 ⟨rfl, o6⟩
        obtain ⟨r6, g6⟩ := o6.good
        have cd := bc_depth (n := (k1 : Int)) o6 (by unfold i64; omega) (by omega) (by omega) HZ.out
        rw [cs_len g6 (by have := HK1.out; omega) (Nat.le_refl k1)] at cd
        have e7 : ((k1 : Nat) : Int) - 1 = (k : Int) := by have := HKS.out; omega
        rw [e7] at cd
        clear ca g6 e7
        go_wp2_with fail
        go_at_call 18
        refine (cd).mono ?_
        rintro e w7 ⟨rfl, hb7⟩
        have o7 := o6.below hb7
        have cb := bc_bytes o7 xk0 (by omega) (by omega) (by omega) HZ.out
        have HO7 := Lib.hid o7
        obtain ⟨BY, hBY⟩ : ∃ BY, BY = byC (cs T k1) := ⟨_, rfl⟩
        rw [← hBY] at cb
        have hb8 : (BY : Int) ≤ (T.size : Int) + 8 * (k : Int) := by rw [hBY]; exact HB8.out
        clear cd o6 hb7 o7 hBY
        go_wp2_with fail
        go_at_call 19
        refine (cb).mono ?_
        rintro e w8 ⟨rfl, hb8'⟩
        have o8 := HO7.out.below hb8'
        have o9 := o8.mono (S' := 4096) (N' := k1 * 2) (V' := k1 * 10000) (Nat.le_refl _) (by have := HK1.out; omega) (by have := HK1.out; omega)
        clear cb o8 hb8'
        go_wp2_with fail
        go_roundw
        case rel => exact ⟨k1, by have := HK1.out; omega, hk1b, rfl, by rw [HKS.out], o9⟩
        case measure => simp [intOf]; omega
      · have hkz : ¬ (k : Int) ≤ 4 := by omega
        obtain rfl : k = 5 := by omega
        have e1 : addC (cs T 5) 5 T ((5 : Nat) : Int) = cs T 5 ++ [⟨6, 0, T⟩] := by
          unfold addC
          rw [cs_far g rfl]
        rw [e1] at ca
        clear o g e1
        go_wp2_with fail
        go_at_call 10
        refine (ca).mono ?_
        rintro e w6 ⟨rfl, o6⟩
        obtain ⟨r6, g6⟩ := o6.good
        have cd := bc_depth (n := ((6 : Nat) : Int)) o6 (by unfold i64; omega) (by omega) (by omega) HZ.out
        have hm6 : (⟨6, 0, T⟩ : Vn) ∈ cs T 5 ++ [⟨6, 0, T⟩] := List.mem_append.2 (.inr (List.mem_singleton.2 rfl))
        have el := lnC_len g6 hm6
        rw [dp_whole g6 hm6 rfl] at el
        change (lnC _ ((6 : Nat) : Int)).length = 0 + 1 at el
        rw [el] at cd
        clear ca g6 hm6 el
        go_wp2_with fail
        go_at_call 18
        refine (cd).mono ?_
        rintro e w7 ⟨rfl, hb7⟩
        have o7 := o6.below hb7
        have ce := bc_depth (n := n) o7 hn (by omega) (by omega) HZ.out
        have hl5 := ln_len (cs T 5 ++ [⟨6, 0, T⟩]) 5 n
        change (lnC _ n).length ≤ 5 at hl5
        generalize (lnC (cs T 5 ++ [⟨6, 0, T⟩]) n).length = LN at ce hl5
        have hbel := HB1.out.trans (o7.chg.below HB1.out.size HF.out)
        have HBE := Lib.hid hbel
        have hl4 : (LN : Int) - 1 ≤ 4 := by omega
        clear cd o6 hb7 o7 hl5 hbel
        go_wp2_with fail
        go_at_call 18
        refine (ce).mono ?_
        rintro e w8 ⟨rfl, hb8⟩
        have hB8 := Tx.below_call HBE.out hb8
        clear ce hb8
        go_wp2_with fail
        go_ret
        exact ⟨rfl, hB8⟩
  · have hB2 := Tx.below_call HB1.out hb2
    have HB2 := Lib.hid hB2
    have c3 := awake_any10 w2 w2 (Below.refl _ _) (HT.out.below hB2)
    clear o1 hb2 hB2
    by_cases hlo : T.size < 16
    · have z16 : (T.size : Int) < 16 := by omega
      go_wp2_with fail
      go_at_call 8
      refine (c3).mono ?_
      rintro e w3 ⟨rfl, hb3⟩
      have hB3 := Tx.below_call HB2.out hb3
      clear c3 hb3
      go_wp2_with fail
      go_ret
      exact ⟨rfl, hB3⟩
    · have z16 : ¬ (T.size : Int) < 16 := by omega
      have z40 : (4096 : Int) < (T.size : Int) := by omega
      go_wp2_with fail
      go_at_call 8
      refine (c3).mono ?_
      rintro e w3 ⟨rfl, hb3⟩
      have hB3 := Tx.below_call HB2.out hb3
      clear c3 hb3
      go_wp2_with fail
      go_ret
      exact ⟨rfl, hB3⟩
theorem tab_of {W : World} (h : laidMetH Tryz.prog Rows.chainSmallRow.laid W) : Tab W := tab_laid h
theorem own : ownKnob Tryz.prog.godebug = none := by kernel_rfl
theorem laidOut : laidOutB Tryz.prog = true := by kernel_rfl
set_option maxRecDepth 100000 in
theorem contract (H : Type) (enc : TypeId × Value → H) (W : World) (base : Nat) (args : Array Value) (ds gs : List (DataW H)) (before : List MemPlace)
    (hval0 : ∀ (j : Nat) t v, Tryz.f5.params[j]? = some t → args[j]? = some v → Value.okWide Tryz.prog W .any base t v)
    (hW : DataW.Whole enc Tryz.prog Tryz.f5.params.toList Rows.chainSmallSpec.vars false W args.toList ds gs before)
    (hsz0 : (DataW.weightsEach Tryz.prog (Tryz.f5.params.toList ++ Rows.chainSmallSpec.plain.varTypes Tryz.prog) (ds ++ gs)).all (· ≤ reachBytes) = true)
    (hL : laidMetH Tryz.prog Rows.chainSmallRow.laid W) :
    Calls Tryz.prog 5 args W fun e W' => ∃ v, e = .returned v ∧ Rows.chainSmallSpec.post enc Tryz.prog Tryz.f5 false true false false W args v W' := by
  have hval : ∀ (j : Nat) t v, Tryz.f5.params[j]? = some t → args[j]? = some v → Value.okWide Tryz.prog W .any base t v := hval0
  have hsz := hsz0
  clear hsz0
  have hW' := hW
  obtain ⟨p, q, hA0, hV, rfl, hfz, hnd⟩ := hW
  have hA : DataW.TrodAll enc Tryz.prog W 0 (fun _ => true) true Tryz.f5.params.toList args.toList ds p := hA0
  rw [Tryz.params5] at hA hval hsz
  obtain ⟨v0, vs0, d0, ds0, p0, q0, hargs, rfl, rfl, h0, r0⟩ := trodAll_cons hA
  obtain ⟨v1, vs1, d1, ds1, p1, q1, rfl, rfl, rfl, h1, r1⟩ := trodAll_cons r0
  obtain ⟨rfl, rfl, rfl⟩ := trodAll_nil r1
  obtain rfl : args = #[v0, v1] := by cases args; simp_all
  obtain ⟨rfl, rfl⟩ := trodVars_none hV
  obtain ⟨s0, rfl, rfl, rfl, w0⟩ := open_string Tryz.underlying9 (hval 0 9 v0 rfl rfl) h0
  have hreach0 : s0.size ≤ 140737488351232 := by
    have := sized_string hsz (j := 0) (t := 9) rfl rfl
    simpa [reachBytes] using this
  obtain ⟨a1, rfl, rfl, rfl, w1⟩ := open_int Tryz.underlying3 (hval 1 3 v1 rfl rfl) h1
  have bd1 : -9223372036854775808 ≤ a1 ∧ a1 ≤ 9223372036854775807 := by simpa [Lit.wf, IntKind.min, IntKind.max, IntKind.signed, IntKind.bits] using w1
  clear hA0 hval0
  refine (walk s0 a1 W bd1 hreach0 (tab_of hL)).mono fun e W' ⟨he, bel⟩ => ?_
  subst he
  exact ⟨_, rfl, _, _, _, [], _, [], hW', trodAll_mk1 (shut_bool Tryz.underlying4 _), (trodAll_cons_mk (shut_string Tryz.underlying9 w0) (trodAll_cons_mk (shut_int Tryz.underlying3 w1) trodAll_mk0)), rfl, bel.frame _, fun h => by cases h⟩
theorem door_met (os : Os) : laidMetH Tryz.prog Rows.chainSmallRow.laid ((World.doorLaid Tryz.prog 400 os).forCall (fun _ _ => 0) ⟨#[], #[.string ByteArray.empty, .int .i64 0], []⟩).memory :=
  laidMetH_of_parts3 (fuel := 8) (laidMet_of_run' 8 (by kernel_rfl) (by kernel_rfl)) (by kernel_rfl) (by kernel_rfl)
theorem reads (os : Os) {H : Type} (enc : TypeId × Value → H) : ∃ places, DataW.whole enc Tryz.prog ((World.doorLaid Tryz.prog 400 os).forCall (fun _ _ => 0) ⟨#[], #[.string ByteArray.empty, .int .i64 0], []⟩).memory Tryz.f5.params.toList Rows.chainSmallSpec.vars false (#[.string ByteArray.empty, .int .i64 0] : Array Value).toList 8 = some ([.lit (.string []), .lit (.int .i64 0)], [], places) :=
  ⟨[], by kernel_rfl⟩
set_option maxRecDepth 100000 in
theorem lifted (os : Os) (started : os.Started) (H : Type) (enc : TypeId × Value → H) (F : Stop.Interp) :
    ReturnsInHanded {} Tryz.checked os 5 .any ((OpenSpec.ofChange Rows.chainSmallSpec).preRow enc Tryz.prog Tryz.f5 Rows.chainSmallRow.domain false Rows.chainSmallRow.laid) (((OpenSpec.ofChange Rows.chainSmallSpec).at F).post enc Tryz.prog Tryz.f5 false true false false) := by
  obtain ⟨places, hx⟩ := reads os enc
  refine returnsInHanded_of_row (C := Tryz.checked) (s := (OpenSpec.ofChange Rows.chainSmallSpec)) own started (by kernel_rfl) Tryz.func5
    (witness_row_at (enc := enc) (C := Tryz.checked) false (World.doorLaid Tryz.prog 400 os) #[.string ByteArray.empty, .int .i64 0] rfl (by kernel_rfl) (by kernel_rfl) (by kernel_rfl)
      (OpenSpec.preRow_of_cond 8 hx (by kernel_rfl) (fun k hk => by cases hk) (by kernel_rfl) (door_met os))) ?_
  intro W base args ds gs before hval hW _ hcond hsz0 hL _ _
  exact contract H enc W base args ds gs before hval hW hsz0 hL
theorem over : Rows.chainSmallRow.holds Tryz.pinned (OpenSpec.ofChange Rows.chainSmallSpec) :=
  OpenClaim.holds_of_cond 5 Tryz.f5 rfl rfl rfl rfl rfl rfl rfl ⟨rfl, rfl, rfl, rfl, rfl⟩ rfl rfl rfl rfl rfl (by kernel_rfl) Tryz.func5 (by kernel_rfl)
    (of_decide_eq_true (by kernel_rfl)) (by unfold Func.isWrapper; first | (rw [if_pos (by decide +kernel)]; kernel_rfl) | (rw [if_neg (by decide +kernel)]; exact ⟨rfl, rfl⟩))
    (fun os started H enc _ F => by rw [OpenClaim.pre_eq_preRow]; exact lifted os started H enc F)
theorem plain (f : FuncId) (fn : Func) (hf : Tryz.pinned.checked.prog.funcNamed "tether/tetherlaw10.ChainSmall" = some f) (hfn : Tryz.pinned.checked.prog.funcs[f]? = some fn) :
    true = Tryz.pinned.checked.prog.looks [] ∧ ∀ (j : Nat) t, fn.params[j]? = some t → Tryz.pinned.checked.prog.wantsStandIn t = false := by
  obtain rfl : f = 5 := Option.some.inj ((show Tryz.prog.funcNamed "tether/tetherlaw10.ChainSmall" = some 5 by kernel_rfl).symm.trans hf) |>.symm
  obtain rfl : fn = Tryz.f5 := (Option.some.inj (Tryz.func5.symm.trans hfn)).symm
  refine ⟨by kernel_rfl, fun j t ht => ?_⟩
  rw [Tryz.params5] at ht
  have hm : t ∈ [9, 3] := by simpa using Array.mem_of_getElem? ht
  have hall : ([9, 3].all fun u => !Tryz.prog.wantsStandIn u) = true := by kernel_rfl
  exact (show Tryz.prog.wantsStandIn t = false by simpa using List.all_eq_true.1 hall t hm)
theorem card : Rows.ChainSmallCardSaid :=
  Claim7.holds_tied_plain_at .later [] _ _ _ _ over (fun _ h => by cases h) (by kernel_rfl) (fun _ h => by cases h) chainSmall_row_tie rfl ⟨rfl, rfl⟩ (by kernel_rfl) rfl plain (by kernel_rfl)
end Go.Proofs.YtdfcbnejnnibpaaGreatDoor.chainSmall
namespace Go.Proofs.YtdfcbnejnnibpaaGreatDoor
theorem chainSmallCard_holds : Rows.ChainSmallCardSaid := chainSmall.card
#print axioms chainSmallCard_holds
end Go.Proofs.YtdfcbnejnnibpaaGreatDoor
