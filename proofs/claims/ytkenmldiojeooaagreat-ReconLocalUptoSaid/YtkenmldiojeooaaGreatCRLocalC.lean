/-
  ReconLocal, of the landed code: what is said of the paths below one name of the top hangs on what the three trees have there alone. Condition: the bound of the second form (what comes in holds at most 1048576 values and letters).
-/
import Derived.Test.YtkenmldiojeooaaGreatT6
import Derived.JoinedCond
import Derived.SizedLaws
import Derived.ChangeOld
import Derived.Deep.CondSized
namespace Go.Proofs.YtkenmldiojeooaaGreat.reconLocal
open Go.ChangeMaps (open_string shut_string)
open Go.ChangeShapes Go.WideShapes Go.ChangeAt Go.RowKit Tx Pm Pr En Rc
set_option linter.unusedVariables false
set_option linter.unusedSimpArgs false
theorem sub_tree {T : List Et} (h : tcheck T = 0) {t : ByteArray} (ht : chk t.data.toList 1 = 0) : tcheck (tsub T t) = 0 := by
  refine tcheck_good (fun i hi => ?_) (sub_len h t)
  obtain ⟨x, hx⟩ : ∃ x, (tsub T t)[i]? = some x := ⟨_, List.getElem?_eq_getElem hi⟩
  obtain ⟨hxT, hu⟩ := List.mem_filter.1 (List.mem_of_getElem? hx)
  obtain ⟨j, hj⟩ := List.getElem?_of_mem hxT
  obtain ⟨k1, k2, k3, _⟩ := tree_at h hj
  have hr := sub_rise (tree_rises h) t
  obtain ⟨t0, tn⟩ := one_no ht
  have k4 : (decide (i = 0) || (match (tsub T t)[i - 1]? with | some y => Op.bytesLess y.path.toList x.path.toList | none => true)) = true := by
    by_cases h0 : i = 0
    · rw [decide_eq_true h0]; rfl
    · obtain ⟨y, hy⟩ : ∃ y, (tsub T t)[i - 1]? = some y := ⟨_, List.getElem?_eq_getElem (by omega)⟩
      rw [hy, decide_eq_false h0]
      exact rise_lt hr hy hx (by omega)
  have k5 : (decide (par x.path.data.toList = []) || decide ((tget (tsub T t) (tb (par x.path.data.toList))).kind = 1)) = true := by
    by_cases h0 : par x.path.data.toList = []
    · rw [decide_eq_true h0]; rfl
    · have hp := tree_par h hj h0
      have hup : und (tb (par x.path.data.toList)).data.toList t.data.toList = true := by
        rw [tb_list]
        rcases (und_forms t0).1 hu with h1 | ⟨r, h1⟩
        · exact absurd ((par_bas x.path.data.toList).resolve_left fun hh => h0 hh.2.1) (by rw [h1]; exact tn _ _)
        · rcases par_below h1 with h2 | ⟨a, h2⟩
          · rw [h2]; exact und_self _
          · rw [h2]; exact und_below _ _
      rw [get_sub hup, decide_eq_true hp, Bool.or_true]
  rw [okAt_eq hx, k5, decide_eq_true k1, k2, decide_eq_false k3]
  simp only [Bool.and_true, Bool.true_and, Bool.not_false]
  exact k4
theorem it_filter {R : List It} {k : Nat} {x : It} (f : It → Bool) (h : R[k]? = some x) : (R.take (k + 1)).filter f = (R.take k).filter f ++ (if f x = true then [x] else []) := by
  rw [take_next h, List.filter_append, List.filter_cons]
  rfl
set_option maxRecDepth 100000 in
set_option maxHeartbeats 8000000 in
theorem walk (A0 : Option Addr) (n0 c0 : Nat) (l0 : List Et) (A1 : Option Addr) (n1 c1 : Nat) (l1 : List Et) (A2 : Option Addr) (n2 c2 : Nat) (l2 : List Et) (p : ByteArray) (w : World) (e0 : Ents w A0 n0 l0) (z0 : A0 = none → c0 = 0) (m0 : n0 ≤ 1048576) (s0 : Small l0) (e1 : Ents w A1 n1 l1) (z1 : A1 = none → c1 = 0) (m1 : n1 ≤ 1048576) (s1 : Small l1) (e2 : Ents w A2 n2 l2) (z2 : A2 = none → c2 = 0) (m2 : n2 ≤ 1048576) (s2 : Small l2) (hp : p.size ≤ 1048576) :
    Calls Tryz.prog 8 #[.slice A0 n0 c0, .slice A1 n1 c1, .slice A2 n2 c2, .string p] w fun e w' => e = .returned (.bool true) ∧ Below w.heap.size w w' := by
  have CT := Lib.hid (fun W (h : Below w.heap.size w W) => trees_any A0 A1 A2 n0 n1 n2 c0 c1 c2 l0 l1 l2 W (e0.below h) (e1.below h) (e2.below h) m0 m1 m2 s0 s1 s2)
  have E0 := Lib.hid (fun W (h : Below w.heap.size w W) => e0.below h)
  have E1 := Lib.hid (fun W (h : Below w.heap.size w W) => e1.below h)
  have E2 := Lib.hid (fun W (h : Below w.heap.size w W) => e2.below h)
  have Z0 := Lib.hid z0
  have S0 := Lib.hid s0
  have Z1 := Lib.hid z1
  have S1 := Lib.hid s1
  have Z2 := Lib.hid z2
  have S2 := Lib.hid s2
  clear e0 z0 s0 e1 z1 s1 e2 z2 s2
  go_enter Tryz.func8, Tryz.ntmps8
  go_wp2_with fail
  go_at_call 9
  refine (awake_any17 _).mono ?_
  rintro e w1 ⟨rfl, b1⟩
  have HB1 := Lib.hid b1
  clear b1
  go_wp2_with fail
  go_at_call 10
  refine (CT.out _ HB1.out).mono ?_
  rintro e w2 ⟨B, hB, rfl, b2⟩
  have HB2 := Lib.hid (below_call HB1.out b2)
  have HBB := Lib.hid hB
  clear b2 hB CT HB1
  cases B with
  | false =>
    clear E0 Z0 S0 E1 Z1 S1 E2 Z2 S2 
    go_wp2_with fail
    go_at_call 9
    refine (awake_any17 _).mono ?_
    rintro e w3 ⟨rfl, b3⟩
    have HB3 := Lib.hid (below_call HB2.out b3)
    clear b3
    go_wp2_with fail
    go_ret
    exact ⟨rfl, HB3.out⟩
  | true =>
    obtain ⟨ta, th, ts⟩ := HBB.out.1 rfl
    clear HBB
    obtain ⟨C, hC⟩ : ∃ C, C = chk p.data.toList 1 := ⟨_, rfl⟩
    have CK := Lib.hid (fun W => refCheck_any p 1 W (by omega) (by omega) (by omega))
    rw [← hC] at CK
    go_wp2_with fail
    go_at_call 22
    refine (CK.out _).mono ?_
    rintro e w3 ⟨rfl, b3⟩
    have HB3 := Lib.hid (below_call HB2.out b3)
    clear b3 CK HB2
    by_cases hc : C = 0
    case neg =>
      have f1 : ((C : Int) == 0) = false := beq_eq_false_iff_ne.2 (by omega)
      have f2 : ((C : Int) != 0) = true := by unfold bne; rw [f1]; rfl
      clear hC E0 E1 E2 Z0 Z1 Z2 S0 S1 S2 hc
      go_wp2_with fail
      go_at_call 9
      refine (awake_any17 _).mono ?_
      rintro e w4 ⟨rfl, b4⟩
      have HB4 := Lib.hid (below_call HB3.out b4)
      clear b4
      go_wp2_with fail
      go_ret
      exact ⟨rfl, HB4.out⟩
    subst hc
    have hch := hC.symm
    have I1 := Lib.hid (fun W (h : Below w.heap.size w W) => its_any ta th ts A0 A1 A2 n0 n1 n2 c0 c1 c2 W (E0.out W h) (E1.out W h) (E2.out W h) Z0.out Z1.out Z2.out)
    have u0 : small l0 := fun x hx => by have := tree_size ta hx; omega
    have u1 : small l1 := fun x hx => by have := tree_size th hx; omega
    have u2 : small l2 := fun x hx => by have := tree_size ts hx; omega
    have y0 := Rc.tree_len ta
    have yh := Rc.tree_len th
    have ys := Rc.tree_len ts
    have SA := Lib.hid (fun W (h : Below w.heap.size w W) => refSub_any A0 n0 c0 l0 p W (E0.out W h) (by omega) u0 (by omega))
    have SH := Lib.hid (fun W (h : Below w.heap.size w W) => refSub_any A1 n1 c1 l1 p W (E1.out W h) (by omega) u1 (by omega))
    have SS := Lib.hid (fun W (h : Below w.heap.size w W) => refSub_any A2 n2 c2 l2 p W (E2.out W h) (by omega) u2 (by omega))
    have I2 := Lib.hid (fun a4 k4 n4 a5 k5 n5 a6 k6 n6 W (r4 : Ents W a4 n4 (tsub l0 p)) (r5 : Ents W a5 n5 (tsub l1 p)) (r6 : Ents W a6 n6 (tsub l2 p)) h4 h5 h6 => its_any (sub_tree ta hch) (sub_tree th hch) (sub_tree ts hch) a4 a5 a6 n4 n5 n6 k4 k5 k6 W r4 r5 r6 h4 h5 h6)
    have hlo : items MM (tsub l0 p) (tsub l1 p) (tsub l2 p) = (items MM l0 l1 l2).filter fun x => und x.1.data.toList p.data.toList := (items_its (M := MM) _ _ _).one ((items_its (M := MM) l0 l1 l2).under hch)
    rw [hlo] at I2
    have y1 := its_len ta th ts
    have hsz : ∀ x, x ∈ items MM l0 l1 l2 → x.1.size ≤ 1000 := fun x hx => path_len5 (((items_its (M := MM) l0 l1 l2).path ta th ts hx).1)
    unfold SubTo at SA SH SS
    generalize items MM l0 l1 l2 = R at I1 I2 y1 hsz
    obtain ⟨f, hf⟩ : ∃ f : It → Bool, f = fun x => und x.1.data.toList p.data.toList := ⟨_, rfl⟩
    rw [← hf] at I2
    have CU := Lib.hid (fun (x : It) (hx : x ∈ R) W => (show Calls Tryz.prog 25 #[.string x.1, .string p] W fun e w' => e = .returned (.bool (f x)) ∧ W = w' from by rw [hf]; exact refUnder_any x.1 p W (by have := hsz x hx; omega) (by omega)))
    clear hC hch hlo ta th ts u0 u1 u2 y0 yh ys hsz hf E0 E1 E2 Z0 Z1 Z2 S0 S1 S2
    generalize tsub l0 p = LA at SA I2
    generalize tsub l1 p = LH at SH I2
    generalize tsub l2 p = LS at SS I2
    go_wp2_with fail
    go_at_call 12
    refine (I1.out _ HB3.out).mono ?_
    rintro e w4 ⟨v4, rfl, o4, b4⟩
    have HB4 := Lib.hid (below_call HB3.out b4)
    obtain ⟨a4, k4, rfl, r4⟩ := o4.form
    clear o4 b4 I1 HB3
    obtain ⟨N, hN⟩ : ∃ N, N = R.length := ⟨_, rfl⟩
    rw [← hN] at r4 y1 ⊢
    have HN := Lib.hid hN
    clear hN
    go_wp2_with fail
    go_at_call 23
    refine (SA.out _ HB4.out).mono ?_
    rintro e w5 ⟨v5, rfl, o5, b5⟩
    obtain ⟨a5, n5, c5, rfl, r5, q5⟩ := own_src o5
    have HB5 := Lib.hid (below_call HB4.out b5)
    have r4 := r4.below b5
    clear o5 b5 HB4 SA
    go_wp2_with fail
    go_at_call 23
    refine (SH.out _ HB5.out).mono ?_
    rintro e w6 ⟨v6, rfl, o6, b6⟩
    obtain ⟨a6, n6, c6, rfl, r6, q6⟩ := own_src o6
    have HB6 := Lib.hid (below_call HB5.out b6)
    have r4 := r4.below b6
    have r5 := r5.below b6
    clear o6 b6 HB5 SH
    go_wp2_with fail
    go_at_call 23
    refine (SS.out _ HB6.out).mono ?_
    rintro e w7 ⟨v7, rfl, o7, b7⟩
    obtain ⟨a7, n7, c7, rfl, r7, q7⟩ := own_src o7
    have HB7 := Lib.hid (below_call HB6.out b7)
    have i2 := I2.out a5 c5 n5 a6 c6 n6 a7 c7 n7 w7 (r5.below b7) (r6.below b7) r7 q5 q6 q7
    have r4 := r4.below b7
    clear o7 b7 HB6 SS I2 r5 r6 r7 q5 q6 q7
    go_wp2_with fail
    go_at_call 12
    refine i2.mono ?_
    rintro e w8 ⟨v8, rfl, o8, b8⟩
    have HB8 := Lib.hid (below_call HB7.out b8)
    have HR4 := Lib.hid (r4.below b8)
    obtain ⟨a8, k8, rfl, r8⟩ := o8.form
    have HR8 := Lib.hid r8
    clear o8 b8 i2 HB7 r4 r8
    go_wp2_with fail
    go_loopw [11, 12] (fun v i wr => ∃ (k : Nat) (out : List It), k ≤ N ∧ i = .int .i64 k ∧ Hid (out = (R.take k).filter f) ∧ out.length ≤ k ∧ Io wr w8.heap.size v out ∧ Below w8.heap.size w8 wr) (fun _ i _ => N - (intOf i).toNat)
    case atStart => exact ⟨0, [], Nat.zero_le _, rfl, rfl, Nat.le_refl _, io_nil _ _, Below.refl _ _⟩
    case round =>
      obtain ⟨k, out, hk, rfl, hT, hlen, hio, hW⟩ := hrel
      by_cases hlt : k < N
      · obtain ⟨x, hx⟩ : ∃ x, R[k]? = some x := ⟨_, List.getElem?_eq_getElem (by rw [← HN.out]; exact hlt)⟩
        obtain ⟨g4, o4, rfl, hg4, hc4⟩ := HR4.out.2.resolve_left (by omega)
        have d1 := (hW.cell (p := ⟨g4, _, none⟩) hg4).trans (hc4 k _ hx).1
        have d2 := (hW.cell (p := ⟨g4, _, none⟩) hg4).trans (hc4 k _ hx).2
        have hltz : (k : Int) < (N : Int) := by omega
        have cu := CU.out x (List.mem_of_getElem? hx) wr
        have hnx := it_filter f hx
        rw [← hT.out] at hnx
        obtain ⟨P, V⟩ := x
        simp only at d1 d2 cu
        generalize f (P, V) = U at cu hnx
        clear hx hc4 hT
        cases U with
        | true =>
          rw [if_pos rfl] at hnx
          have HNX := Lib.hid hnx
          have hW1 := hW.alloc hW.size (.cells #[.string P, .int .i64 (V : Nat)] 31)
          have hio1 := hio.below ((Below.refl wr.heap.size wr).alloc (Nat.le_refl _) (.cells #[.string P, .int .i64 (V : Nat)] 31))
          have hone := io_one wr P V
          have hll : out.length + [(P, V)].length ≤ 1000000 := by rw [List.length_singleton]; omega
          clear hnx hio hW
          go_wp2_with fail
          go_at_call 25
          refine cu.mono ?_
          rintro e w9 ⟨rfl, rfl⟩
          clear cu
          go_wp2_with (at_builtin; refine wp_app_items rfl _ _ rfl w8 _ _ out [(P, V)] _ rfl rfl hio1 hone hW1 hll ?_)
          intro v9 w9 hio9 hW9
          clear hone hW1 hio1 hll d1 d2
          go_wp2_with fail
          go_roundw
          case rel => exact ⟨k + 1, _, by omega, by go_num, HNX.out.symm, by rw [List.length_append, List.length_singleton]; omega, hio9, hW9⟩
          case measure => simp only [intOf]; omega
        | false =>
          rw [if_neg (by decide), List.append_nil] at hnx
          have HNX := Lib.hid hnx
          clear hnx
          go_wp2_with fail
          go_at_call 25
          refine cu.mono ?_
          rintro e w9 ⟨rfl, rfl⟩
          clear cu d1 d2
          go_wp2_with fail
          go_roundw
          case rel => exact ⟨k + 1, out, by omega, by go_num, HNX.out.symm, by omega, hio, hW⟩
          case measure => simp only [intOf]; omega
      · obtain rfl : k = N := by omega
        have h := hT.out
        rw [List.take_of_length_le (by rw [← HN.out]; exact Nat.le_refl _)] at h
        have hkz : ¬ (k : Int) < (k : Int) := by omega
        obtain ⟨a9, k9, rfl, r9⟩ := hio.form
        have hfl : (R.filter f).length ≤ 600 := Nat.le_trans (List.length_filter_le _ _) (by rw [← HN.out]; exact y1)
        rw [h] at r9 ⊢
        have cs := refSame17_any a8 a9 _ _ k8 k9 (R.filter f) (R.filter f) wr (HR8.out.below hW) r9 (by omega) (by omega)
        have HBW := Lib.hid (below_call HB8.out hW)
        clear h hT hio r9 hW hfl hlen
        generalize (R.filter f).length = m at cs ⊢
        go_wp2_with fail
        go_at_call 14
        refine cs.mono ?_
        rintro e w9 ⟨B, hB, rfl, b9⟩
        obtain rfl : B = true := hB.2 rfl
        have HB9 := Lib.hid (below_call HBW.out b9)
        clear cs hB b9
        go_wp2_with fail
        go_ret
        exact ⟨rfl, HB9.out⟩
theorem own : ownKnob Tryz.prog.godebug = none := by kernel_rfl
theorem laidOut : laidOutB Tryz.prog = true := by kernel_rfl
set_option maxRecDepth 100000 in
theorem contract (H : Type) (enc : TypeId × Value → H) (W : World) (base : Nat) (args : Array Value) (ds gs : List (DataW H)) (before : List MemPlace)
    (hval0 : ∀ (j : Nat) t v, Tryz.f8.params[j]? = some t → args[j]? = some v → Value.okWide Tryz.prog W .any base t v)
    (hW : DataW.Whole enc Tryz.prog Tryz.f8.params.toList Rows.reconLocalSpec.vars false W args.toList ds gs before)
    (hk : Rows.uptoSmall H (ds ++ gs) = true)
    (hsz0 : (DataW.weightsEach Tryz.prog (Tryz.f8.params.toList ++ Rows.reconLocalSpec.plain.varTypes Tryz.prog) (ds ++ gs)).all (· ≤ reachBytes) = true) :
    Calls Tryz.prog 8 args W fun e W' => ∃ v, e = .returned v ∧ Rows.reconLocalSpec.post enc Tryz.prog Tryz.f8 false true false false W args v W' := by
  have hval : ∀ (j : Nat) t v, Tryz.f8.params[j]? = some t → args[j]? = some v → Value.okWide Tryz.prog W .any base t v := hval0
  have hsz := hsz0
  clear hsz0
  have hW' := hW
  obtain ⟨p, q, hA0, hV, rfl, hfz, hnd⟩ := hW
  have hA : DataW.TrodAll enc Tryz.prog W 0 (fun _ => true) true Tryz.f8.params.toList args.toList ds p := hA0
  rw [Tryz.params8] at hA hval hsz
  obtain ⟨v0, vs0, d0, ds0, p0, q0, hargs, rfl, rfl, h0, r0⟩ := trodAll_cons hA
  obtain ⟨v1, vs1, d1, ds1, p1, q1, rfl, rfl, rfl, h1, r1⟩ := trodAll_cons r0
  obtain ⟨v2, vs2, d2, ds2, p2, q2, rfl, rfl, rfl, h2, r2⟩ := trodAll_cons r1
  obtain ⟨v3, vs3, d3, ds3, p3, q3, rfl, rfl, rfl, h3, r3⟩ := trodAll_cons r2
  obtain ⟨rfl, rfl, rfl⟩ := trodAll_nil r3
  obtain rfl : args = #[v0, v1, v2, v3] := by cases args; simp_all
  obtain ⟨rfl, rfl⟩ := trodVars_none hV
  obtain ⟨A0, n0, c0, rfl⟩ := okWide_slice Tryz.underlying22 (hval 0 22 v0 rfl rfl)
  have k0 := h0
  have lt0 : ∀ x ∈ p0, x.block < W.heap.size := by obtain ⟨m, hm⟩ := k0; exact DataW.trod_lt m _ _ _ hm
  obtain ⟨A1, n1, c1, rfl⟩ := okWide_slice Tryz.underlying22 (hval 1 22 v1 rfl rfl)
  have k1 := h1
  have lt1 : ∀ x ∈ p1, x.block < W.heap.size := by obtain ⟨m, hm⟩ := k1; exact DataW.trod_lt m _ _ _ hm
  obtain ⟨A2, n2, c2, rfl⟩ := okWide_slice Tryz.underlying22 (hval 2 22 v2 rfl rfl)
  have k2 := h2
  have lt2 : ∀ x ∈ p2, x.block < W.heap.size := by obtain ⟨m, hm⟩ := k2; exact DataW.trod_lt m _ _ _ hm
  obtain ⟨s3, rfl, rfl, rfl, w3⟩ := open_string Tryz.underlying9 (hval 3 9 v3 rfl rfl) h3
  have hreach3 : s3.size ≤ 140737488351232 := by
    have := sized_string hsz (j := 3) (t := 9) rfl rfl
    simpa [reachBytes] using this
  clear hA0 hval0
  obtain ⟨l0, e0, z0, _, m0, sm0⟩ := arg_ents k0
  obtain ⟨l1, e1, z1, _, m1, sm1⟩ := arg_ents k1
  obtain ⟨l2, e2, z2, _, m2, sm2⟩ := arg_ents k2
  have hbulk : Rows.uptoBulk d0 ≤ 1048576 ∧ Rows.uptoBulk d1 ≤ 1048576 ∧ Rows.uptoBulk d2 ≤ 1048576 ∧ s3.size ≤ 1048576 := by
    have h := of_decide_eq_true hk
    rw [List.append_nil] at h
    have x : Rows.uptoBulkAll [d0, d1, d2, DataW.lit (H := H) (.string s3.data.toList)] = Rows.uptoBulk d0 + (Rows.uptoBulk d1 + (Rows.uptoBulk d2 + ((s3.data.toList.length + 1) + 0))) := rfl
    rw [x, len_l] at h
    omega
  refine (walk A0 n0 c0 l0 A1 n1 c1 l1 A2 n2 c2 l2 s3 W e0 z0 (by omega) (fun x hx => by have := sm0 x hx; omega) e1 z1 (by omega) (fun x hx => by have := sm1 x hx; omega) e2 z2 (by omega) (fun x hx => by have := sm2 x hx; omega) (by omega)).mono fun e W' ⟨he, belF⟩ => ?_
  subst he
  exact ⟨_, rfl, _, _, _, [], _, [], hW', trodAll_mk1 (shut_bool Tryz.underlying4 _), (trodAll_cons_mk (Below.trod laidOut (by kernel_rfl) (of_decide_eq_true (by kernel_rfl)) k0 belF lt0) (trodAll_cons_mk (Below.trod laidOut (by kernel_rfl) (of_decide_eq_true (by kernel_rfl)) k1 belF lt1) (trodAll_cons_mk (Below.trod laidOut (by kernel_rfl) (of_decide_eq_true (by kernel_rfl)) k2 belF lt2) (trodAll_cons_mk (shut_string Tryz.underlying9 w3) trodAll_mk0)))), rfl, belF.frame _, fun h => by cases h⟩
set_option maxRecDepth 100000 in
theorem lifted (os : Os) (started : os.Started) (H : Type) (enc : TypeId × Value → H) (F : Stop.Interp) :
    ReturnsInHanded {} Tryz.checked os 8 .any ((Rows.OpenSpec.upto Rows.reconLocalSpec).pre6 enc Tryz.prog Tryz.f8 Rows.reconLocalUptoRow.domain false) (((Rows.OpenSpec.upto Rows.reconLocalSpec).at F).post enc Tryz.prog Tryz.f8 false true false false) := by
  refine returnsInHanded_of_cond_sized (C := Tryz.checked) (s := Rows.OpenSpec.upto Rows.reconLocalSpec) (k := Rows.uptoSmall) rfl own started (by kernel_rfl) Tryz.func8
    (OpenSpec.witness (enc := enc) (C := Tryz.checked) (s := Rows.OpenSpec.upto Rows.reconLocalSpec) (k := Rows.uptoSmall) rfl false ⟨#[], #[.slice none 0 0, .slice none 0 0, .slice none 0 0, .string ByteArray.empty], []⟩ 8 (by kernel_rfl) (by kernel_rfl) (by kernel_rfl)
      (x := ([.nil, .nil, .nil, .lit (.string [])], [], [])) (by kernel_rfl) rfl (by kernel_rfl)) ?_
  intro W base args ds gs before hval hW _ hk hsz0 _
  exact contract H enc W base args ds gs before hval hW hk hsz0
theorem over : Rows.reconLocalUptoRow.holds Tryz.pinned (Rows.OpenSpec.upto Rows.reconLocalSpec) :=
  OpenClaim.holds_of_cond 8 Tryz.f8 rfl rfl rfl rfl rfl rfl rfl ⟨rfl, rfl, rfl, rfl, rfl⟩ rfl rfl rfl rfl rfl (by kernel_rfl) Tryz.func8 (by kernel_rfl)
    (of_decide_eq_true (by kernel_rfl)) (by unfold Func.isWrapper; first | (rw [if_pos (by decide +kernel)]; kernel_rfl) | (rw [if_neg (by decide +kernel)]; exact ⟨rfl, rfl⟩))
    (fun os started H enc _ F => lifted os started H enc F)
end Go.Proofs.YtkenmldiojeooaaGreat.reconLocal

namespace Go.Proofs.YtkenmldiojeooaaGreat
theorem reconLocalUpto_holds : Rows.ReconLocalUptoSaid := reconLocal.over
#print axioms reconLocalUpto_holds
end Go.Proofs.YtkenmldiojeooaaGreat
