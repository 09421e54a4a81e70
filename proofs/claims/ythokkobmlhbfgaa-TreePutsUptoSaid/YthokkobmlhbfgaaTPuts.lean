/-
  TreePuts, up to the bound: for every tree, every path and every node (which hold together at most 1048576 values and letters): tree.Put answers what the document's own answers, twice alike, the tree that is handed in stays as it was, the room behind it too, and what is answered lies apart: the law returns true, and writes nothing that was there. Condition: the bound of the second form.
-/
import Derived.Test.YthokkobmlhbfgaaTKit
import Derived.JoinedCond
import Derived.SizedLaws
import Derived.ChangeOld
import Derived.Deep.CondSized
namespace Go.Proofs.Ythokkobmlhbfgaa.treePuts
open Go.ChangeMaps (open_string shut_string)
open Go.ChangeShapes Go.WideShapes Go.ChangeAt Go.RowKit Tx Pm Pr En Ea
set_option linter.unusedVariables false

set_option maxRecDepth 100000 in
set_option maxHeartbeats 4000000 in
theorem walk (a : Option Addr) (n c : Nat) (l : List Et) (p : ByteArray) (nd : Nd) (w : World) (hl : Ents w a n l) (hnil : a = none → c = 0) (hn : n ≤ 1048576) (hs : Small l) (hp : p.size ≤ 1048576) (hd : nd.data.size ≤ 1048576) :
    Calls Try.prog 5 #[.slice a n c, .string p, nv nd] w fun e w' => e = .returned (.bool true) ∧ Below w.heap.size w w' := by
  have hln := hl.1
  have cch := fun W (h : Below w.heap.size w W) => refCheckT_any a n c l W (hl.below h) (by omega) hs
  obtain ⟨K, D⟩ := nd
  have hd' : D.size ≤ 1048576 := hd
  have hb0 : Below w.heap.size w (w.alloc (.cells #[.int .i64 K, .string D] 24)) := (Below.refl _ w).alloc (Nat.le_refl _) _
  by_cases hT : tcheck l = 0
  · rw [hT] at cch
    have cr := fun W (h : Below w.heap.size w W) => refRoomy_all a n c l W (hl.below h) hnil (by omega)
    have cp := fun W (h : Below w.heap.size w W) => refPut_any a n c l p ⟨K, D⟩ W (hl.below h) (by omega) hs (by omega) (by show D.size ≤ _; omega)
    have hbx : ∀ W, Below (w.alloc (.cells #[.int .i64 K, .string D] 24)).heap.size (w.alloc (.cells #[.int .i64 K, .string D] 24)) W → W.cell? ⟨w.heap.size, 0, none⟩ = some (.int .i64 K) ∧ W.cell? ⟨w.heap.size, 1, none⟩ = some (.string D) := by
      intro W h
      constructor
      · rw [h.cell (p := ⟨w.heap.size, 0, none⟩) (by simp)]; go_simp
      · rw [h.cell (p := ⟨w.heap.size, 1, none⟩) (by simp)]; go_simp
    have HX := Lib.hid hbx
    have HL := Lib.hid hl
    obtain ⟨R, hR⟩ : ∃ R, R = tput l p ⟨K, D⟩ := ⟨_, rfl⟩
    have hl200 := tcheck_len hT
    have hRl : R.1.length ≤ 201 := by rw [hR]; have := tput_len l p ⟨K, D⟩; omega
    obtain ⟨O, E⟩ := R
    rw [← hR] at cp
    have HT := Lib.hid hT
    have HR := Lib.hid hR
    rw [show nv ⟨K, D⟩ = .agg #[.int .i64 K, .string D] from rfl] at cp ⊢
    clear hbx hl hT hR
    go_enter Try.func5, Try.ntmps5
    go_wp2_with fail
    go_at_call 9
    refine (awake_any4 _).mono ?_
    rintro e w1 ⟨rfl, hb1⟩
    go_wp2_with fail
    go_at_call 11
    refine (cch _ (below_call hb0 hb1)).mono ?_
    rintro e w2 ⟨rfl, hb2'⟩
    have hb2 := below_call hb1 hb2'
    clear hb1 hb2' cch
    go_wp2_with fail
    go_at_call 8
    refine (cr _ (below_call hb0 hb2)).mono ?_
    intro e w3 hr
    obtain ⟨g, cap, rfl, hro, he1, he0, hcap, hcm, hg1, hg2, hb3'⟩ := roomy_form hr
    have hb3 := below_call hb2 hb3'
    have hrow := Lib.hid (roomy_row hro hcap)
    rw [hln] at he1 he0 hcap hrow ⊢
    have c4 := fun W (h : Below w3.heap.size w3 W) => refHeld_any g cap c n a l W (he1.below h) ((HL.out.below (below_call hb0 hb3)).below h) hcap hcm (by omega)
    have ct := fun W (h : Below w3.heap.size w3 W) => tPut_any (some ⟨g, 0, none⟩) n cap l p ⟨K, D⟩ W (he0.below h) HT.out (by omega) hcm (fun h => by cases h) (spot_at _ _) (by omega) (by show D.size ≤ _; omega)
    rw [← HR.out] at ct
    rw [show nv ⟨K, D⟩ = .agg #[.int .i64 K, .string D] from rfl] at ct
    obtain ⟨k1, k2⟩ := HX.out _ hb3
    have hsg := below_call hb0 hb2
    clear hr he1 he0 cr hb2 hb3' hro
    go_wp2_with fail
    go_at_call 27
    refine (ct _ (Below.refl _ _)).mono ?_
    intro e w4 hp4
    obtain ⟨a4, k4, rfl, ho4, he4, hb4⟩ := pair_form hp4
    obtain ⟨m1, m2⟩ := HX.out _ (below_call hb3 hb4)
    clear hp4 k1 k2
    go_wp2_with fail
    go_at_call 28
    refine (cp _ (below_call hb0 (below_call hb3 hb4))).mono ?_
    intro e w5 hp5
    obtain ⟨a5, k5, rfl, ho5, he5, hb5'⟩ := pair_form hp5
    have hb5 := below_call hb4 hb5'
    obtain ⟨m3, m4⟩ := HX.out _ (below_call hb3 hb5)
    clear hp5 m1 m2 cp
    go_wp2_with fail
    go_at_call 27
    refine (ct _ hb5).mono ?_
    intro e w6 hp6
    obtain ⟨a6, k6, rfl, ho6, he6, hb6'⟩ := pair_form hp6
    have hb6 := below_call hb5 hb6'
    obtain ⟨N, hN⟩ : ∃ N, N = O.length := ⟨_, rfl⟩
    have hRl2 : N ≤ 201 := by rw [hN]; exact hRl
    have hbF := below_call hb5' hb6'
    have cs1 := fun W (h : Below w6.heap.size w6 W) => refSame_any a4 a5 N N k4 k5 O O W (by rw [hN]; exact (he4.below hbF).below h) (by rw [hN]; exact (he5.below hb6').below h) (by omega) (by omega)
    have cs2 := fun W (h : Below w6.heap.size w6 W) => refSame_any a6 a5 N N k6 k5 O O W (by rw [hN]; exact he6.below h) (by rw [hN]; exact (he5.below hb6').below h) (by omega) (by omega)
    have HO4 := Lib.hid ho4
    have HO6 := Lib.hid ho6
    have HN := Lib.hid hN
    have HB46 := Lib.hid hbF
    have hs45 := hb5'.size
    rw [← hN]
    clear hp6 m3 m4 ct he4 he5 he6 hb5' hbF ho4 ho5 ho6 hN hRl
    go_wp2_with fail
    go_at_call 18
    refine (cs1 _ (Below.refl _ _)).mono ?_
    rintro e w7 ⟨B7, hB7, rfl, hb7⟩
    obtain rfl := hB7.2 rfl
    clear hB7
    go_wp2_with fail
    go_at_call 18
    refine (cs2 _ hb7).mono ?_
    rintro e w8 ⟨B8, hB8, rfl, hb8'⟩
    obtain rfl := hB8.2 rfl
    have hb8 := below_call hb7 hb8'
    clear hB8 hb8' hb7 cs1 cs2
    go_wp2_with fail
    go_at_call 14
    refine (c4 _ (below_call hb6 hb8)).mono ?_
    rintro e w9 ⟨rfl, hb9'⟩
    have hb9 := below_call hb8 hb9'
    have hbz := below_call hb6 hb9
    have hs9 := hbz.size
    have hs5 := hb5.size
    have hs4 := hb4.size
    have hsW := (below_call hb0 hb3).size
    have s12 : ∀ x, a4 = some x → a6 ≠ some x := fun x h4 h6 => by have := (own_block HO4.out h4).2; have := (own_block HO6.out h6).1; omega
    have s13 : ∀ x, a4 = some x → some (⟨g, 0, none⟩ : Addr) ≠ some x := fun x h4 h => by injection h with h; subst h; have := (own_block HO4.out h4).1; have : w3.heap.size ≤ g := this; omega
    have s23 : ∀ x, a6 = some x → some (⟨g, 0, none⟩ : Addr) ≠ some x := fun x h4 h => by injection h with h; subst h; have := (own_block HO6.out h4).1; have : w5.heap.size ≤ g := this; omega
    have hap := lists_apart [⟨a4, N, k4, O⟩, ⟨a6, N, k6, O⟩, ⟨some ⟨g, 0, none⟩, n, cap, l⟩] w9 w.heap.size (by show 3 ≤ _; omega)
      (by
        intro x hx
        simp only [List.mem_cons, List.not_mem_nil, or_false] at hx
        rcases hx with rfl | rfl | rfl
        · show N ≤ _; omega
        · show N ≤ _; omega
        · show n ≤ _; omega) (by omega)
      (by
        intro x hx
        simp only [List.mem_cons, List.not_mem_nil, or_false] at hx
        rcases hx with rfl | rfl | rfl
        · exact row_below (row_base (B := w.heap.size) (C := w3.heap.size) (own_n2 HO4.out HN.out) (by omega)) (below_call HB46.out hb9)
        · exact row_below (row_base (B := w.heap.size) (C := w5.heap.size) (own_n2 HO6.out HN.out) (by omega)) hb9
        · exact row_below (row_base (B := w.heap.size) (C := w2.heap.size) hrow.out hsg.size) hbz)
      (sep3 s12 s13 s23)
    clear s12 s13 s23 hs5 hs4 hsW c4 HO4 HO6 hrow
    go_wp2_with fail
    go_at_call 26
    refine hap.mono ?_
    rintro e w10 ⟨rfl, hb10⟩
    go_wp2_with fail
    go_ret
    exact ⟨rfl, ((below_call hb0 (below_call hb3 hbz)).alloc (below_call hb0 (below_call hb3 hbz)).size _).trans hb10⟩
  · have e1 : (((tcheck l : Nat) : Int) == 0) = false := beq_eq_false_iff_ne.2 (by omega)
    have e2 : (((tcheck l : Nat) : Int) != 0) = true := by unfold bne; rw [e1]; rfl
    rw [show nv ⟨K, D⟩ = .agg #[.int .i64 K, .string D] from rfl]
    clear hT
    go_enter Try.func5, Try.ntmps5
    go_wp2_with fail
    go_at_call 9
    refine (awake_any4 _).mono ?_
    rintro e w1 ⟨rfl, hb1⟩
    go_wp2_with fail
    go_at_call 11
    refine (cch _ (below_call hb0 hb1)).mono ?_
    rintro e w2 ⟨rfl, hb2⟩
    go_wp2_with fail
    go_at_call 9
    refine (awake_any4 _).mono ?_
    rintro e w3 ⟨rfl, hb3⟩
    go_wp2_with fail
    go_ret
    exact ⟨rfl, below_call hb0 (below_call (below_call hb1 hb2) hb3)⟩

theorem own : ownKnob Try.prog.godebug = none := by kernel_rfl
theorem laidOut : laidOutB Try.prog = true := by kernel_rfl

set_option maxRecDepth 100000 in
theorem contract (H : Type) (enc : TypeId × Value → H) (W : World) (base : Nat) (args : Array Value) (ds gs : List (DataW H)) (before : List MemPlace)
    (hval0 : ∀ (j : Nat) t v, Try.f5.params[j]? = some t → args[j]? = some v → Value.okWide Try.prog W .any base t v)
    (hW : DataW.Whole enc Try.prog Try.f5.params.toList Rows.treePutsSpec.vars false W args.toList ds gs before)
    (hk : Rows.uptoSmall H (ds ++ gs) = true)
    (hsz0 : (DataW.weightsEach Try.prog (Try.f5.params.toList ++ Rows.treePutsSpec.plain.varTypes Try.prog) (ds ++ gs)).all (· ≤ reachBytes) = true) :
    Calls Try.prog 5 args W fun e W' => ∃ v, e = .returned v ∧ Rows.treePutsSpec.post enc Try.prog Try.f5 false true false false W args v W' := by
  have hval : ∀ (j : Nat) t v, Try.f5.params[j]? = some t → args[j]? = some v → Value.okWide Try.prog W .any base t v := hval0
  have hsz := hsz0
  clear hsz0
  have hW' := hW
  obtain ⟨p, q, hA0, hV, rfl, hfz, hnd⟩ := hW
  have hA : DataW.TrodAll enc Try.prog W 0 (fun _ => true) true Try.f5.params.toList args.toList ds p := hA0
  rw [Try.params5] at hA hval hsz
  obtain ⟨v0, vs0, d0, ds0, p0, q0, hargs, rfl, rfl, h0, r0⟩ := trodAll_cons hA
  obtain ⟨v1, vs1, d1, ds1, p1, q1, rfl, rfl, rfl, h1, r1⟩ := trodAll_cons r0
  obtain ⟨v2, vs2, d2, ds2, p2, q2, rfl, rfl, rfl, h2, r2⟩ := trodAll_cons r1
  obtain ⟨rfl, rfl, rfl⟩ := trodAll_nil r2
  obtain rfl : args = #[v0, v1, v2] := by cases args; simp_all
  obtain ⟨rfl, rfl⟩ := trodVars_none hV
  obtain ⟨A0, n0, c0, rfl⟩ := okWide_slice Try.underlying22 (hval 0 22 v0 rfl rfl)
  have k0 := h0
  have lt0 : ∀ x ∈ p0, x.block < W.heap.size := by obtain ⟨m, hm⟩ := k0; exact DataW.trod_lt m _ _ _ hm
  obtain ⟨s1, rfl, rfl, rfl, w1⟩ := open_string Try.underlying9 (hval 1 9 v1 rfl rfl) h1
  have hreach1 : s1.size ≤ 140737488351232 := by
    have := sized_string hsz (j := 1) (t := 9) rfl rfl
    simpa [reachBytes] using this
  obtain ⟨N2, rfl, rfl, wi2, ws2⟩ := arg_node (hval 2 24 v2 rfl rfl) h2
  have k2 := h2
  have lt2 : ∀ x ∈ p2, x.block < W.heap.size := by obtain ⟨m, hm⟩ := k2; exact DataW.trod_lt m _ _ _ hm
  clear hA0 hval0
  obtain ⟨l0, e0, z0, _, m0, sm0⟩ := arg_ents k0
  have hbulk : Rows.uptoBulk d0 ≤ 1048576 ∧ s1.size ≤ 1048576 ∧ N2.data.size ≤ 1048576 := by
    have h := of_decide_eq_true hk
    rw [List.append_nil] at h
    have x : Rows.uptoBulkAll [d0, DataW.lit (H := H) (.string s1.data.toList), dN (H := H) N2] = Rows.uptoBulk d0 + ((s1.data.toList.length + 1) + (Rows.uptoBulk (dN (H := H) N2) + 0)) := rfl
    rw [x, bulk_node, len_l] at h
    omega
  refine (walk A0 n0 c0 l0 s1 N2 W e0 z0 (by omega) (fun x hx => by have := sm0 x hx; omega) (by omega) (by omega)).mono fun e W' ⟨he, bel⟩ => ?_
  subst he
  exact ⟨_, rfl, _, _, _, [], _, [], hW', trodAll_mk1 (shut_bool Try.underlying4 _), (trodAll_cons_mk (Below.trod laidOut (by kernel_rfl) (of_decide_eq_true (by kernel_rfl)) k0 bel lt0) (trodAll_cons_mk (shut_string Try.underlying9 w1) (trodAll_cons_mk (Below.trod laidOut (by kernel_rfl) (of_decide_eq_true (by kernel_rfl)) k2 bel lt2) trodAll_mk0))), rfl, bel.frame _, fun h => by cases h⟩

set_option maxRecDepth 100000 in
theorem lifted (os : Os) (started : os.Started) (H : Type) (enc : TypeId × Value → H) (F : Stop.Interp) :
    ReturnsInHanded {} Try.checked os 5 .any ((Rows.OpenSpec.upto Rows.treePutsSpec).pre6 enc Try.prog Try.f5 Rows.treePutsUptoRow.domain false) (((Rows.OpenSpec.upto Rows.treePutsSpec).at F).post enc Try.prog Try.f5 false true false false) := by
  refine returnsInHanded_of_cond_sized (C := Try.checked) (s := Rows.OpenSpec.upto Rows.treePutsSpec) (k := Rows.uptoSmall) rfl own started (by kernel_rfl) Try.func5
    (OpenSpec.witness (enc := enc) (C := Try.checked) (s := Rows.OpenSpec.upto Rows.treePutsSpec) (k := Rows.uptoSmall) rfl false ⟨#[], #[.slice none 0 0, .string ByteArray.empty, .agg #[.int .i64 0, .string ByteArray.empty]], []⟩ 8 (by kernel_rfl) (by kernel_rfl) (by kernel_rfl)
      (x := ([.nil, .lit (.string []), .agg [.lit (.int .i64 0), .lit (.string [])]], [], [])) (by kernel_rfl) rfl (by kernel_rfl)) ?_
  intro W base args ds gs before hval hW _ hk hsz0 _
  exact contract H enc W base args ds gs before hval hW hk hsz0

theorem over : Rows.treePutsUptoRow.holds Try.pinned (Rows.OpenSpec.upto Rows.treePutsSpec) :=
  OpenClaim.holds_of_cond 5 Try.f5 rfl rfl rfl rfl rfl rfl rfl ⟨rfl, rfl, rfl, rfl, rfl⟩ rfl rfl rfl rfl rfl (by kernel_rfl) Try.func5 (by kernel_rfl)
    (of_decide_eq_true (by kernel_rfl)) (by unfold Func.isWrapper; first | (rw [if_pos (by decide +kernel)]; kernel_rfl) | (rw [if_neg (by decide +kernel)]; exact ⟨rfl, rfl⟩))
    (fun os started H enc _ F => lifted os started H enc F)

end Go.Proofs.Ythokkobmlhbfgaa.treePuts
namespace Go.Proofs.Ythokkobmlhbfgaa
theorem treePutsUpto_holds : Rows.TreePutsUptoSaid := treePuts.over
#print axioms treePutsUpto_holds
end Go.Proofs.Ythokkobmlhbfgaa
