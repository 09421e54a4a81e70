/-
  TreeReplaces, up to the bound: for every tree, every path and every list (which hold together at most 1048576 values and letters): tree.Replace answers what the document's own answers, twice alike, what is handed in stays as it was, the room behind it too, and what is answered lies apart: the law returns true, and writes nothing that was there. Condition: the bound of the second form.
-/
import Derived.Test.YthokkobmlhbfgaaTKit
import Derived.JoinedCond
import Derived.SizedLaws
import Derived.ChangeOld
import Derived.Deep.CondSized
namespace Go.Proofs.Ythokkobmlhbfgaa.treeReplaces
open Go.ChangeMaps (open_string shut_string)
open Go.ChangeShapes Go.WideShapes Go.ChangeAt Go.RowKit Tx Pm Pr En Ea
set_option linter.unusedVariables false

set_option maxRecDepth 100000 in
set_option maxHeartbeats 4000000 in
theorem walk (a : Option Addr) (n c : Nat) (l : List Et) (p : ByteArray) (a2 : Option Addr) (m c2 : Nat) (sub : List Et) (w : World) (hl : Ents w a n l) (hl2 : Ents w a2 m sub) (hnil : a = none → c = 0) (hnil2 : a2 = none → c2 = 0) (hn : n ≤ 1048576) (hm : m ≤ 1048575) (hs : Small l) (hs2 : Small sub) (hp : p.size ≤ 1048576) :
    Calls Try.prog 6 #[.slice a n c, .string p, .slice a2 m c2] w fun e w' => e = .returned (.bool true) ∧ Below w.heap.size w w' := by
  have hln := hl.1
  have hln2 := hl2.1
  have cch := fun W (h : Below w.heap.size w W) => refCheckT_any a n c l W (hl.below h) (by omega) hs
  by_cases hT : tcheck l = 0
  · rw [hT] at cch
    have cr := fun W (h : Below w.heap.size w W) => refRoomy_all a n c l W (hl.below h) hnil (by omega)
    have cr2 := fun W (h : Below w.heap.size w W) => refRoomy_all a2 m c2 sub W (hl2.below h) hnil2 (by omega)
    have cp := fun W (h : Below w.heap.size w W) => refReplace_any a n c l p a2 m c2 sub W (hl.below h) (hl2.below h) (by omega) (by omega) hs hs2 (by omega)
    have HL := Lib.hid hl
    have HL2 := Lib.hid hl2
    obtain ⟨R, hR⟩ : ∃ R, R = trepl l p sub := ⟨_, rfl⟩
    have hl200 := tcheck_len hT
    have hRl : R.1.length ≤ 200 := by rw [hR]; exact trepl_len l p sub
    obtain ⟨O, E⟩ := R
    rw [← hR] at cp
    have HT := Lib.hid hT
    have HR := Lib.hid hR
    clear hl hl2 hT hR
    go_enter Try.func6, Try.ntmps6
    go_wp2_with fail
    go_at_call 9
    refine (awake_any4 _).mono ?_
    rintro e w1 ⟨rfl, hb1⟩
    go_wp2_with fail
    go_at_call 11
    refine (cch _ hb1).mono ?_
    rintro e w2 ⟨rfl, hb2'⟩
    have hb2 := below_call hb1 hb2'
    clear hb1 hb2' cch
    go_wp2_with fail
    go_at_call 8
    refine (cr _ hb2).mono ?_
    intro e w3 hr
    obtain ⟨g, cap, rfl, hro, he1, he0, hcap, hcm, hg1, hg2, hb3'⟩ := roomy_form hr
    have hb3 := below_call hb2 hb3'
    have hrow := Lib.hid (roomy_row hro hcap)
    rw [hln] at he1 he0 hcap hrow ⊢
    clear hr hb3' hro cr
    go_wp2_with fail
    go_at_call 8
    refine (cr2 _ hb3).mono ?_
    intro e w4 hr
    obtain ⟨g2, cap2, rfl, hro2, hf1, hf0, hcap2, hcm2, hh1, hh2, hb4'⟩ := roomy_form hr
    have hb4 := below_call hb3 hb4'
    have hrow2 := Lib.hid (roomy_row hro2 hcap2)
    rw [hln2] at hf1 hf0 hcap2 hrow2 ⊢
    have c4 := fun W (h : Below w4.heap.size w4 W) => refHeld_any g cap c n a l W ((he1.below hb4').below h) ((HL.out.below hb4).below h) hcap hcm (by omega)
    have c5 := fun W (h : Below w4.heap.size w4 W) => refHeld_any g2 cap2 c2 m a2 sub W (hf1.below h) ((HL2.out.below hb4).below h) hcap2 hcm2 (by omega)
    have ct := fun W (h : Below w4.heap.size w4 W) => tReplace_any (some ⟨g, 0, none⟩) n cap l p (some ⟨g2, 0, none⟩) m cap2 sub W ((he0.below hb4').below h) (hf0.below h) (fun h => by cases h) HT.out (by omega) hs2 (by omega)
    rw [← HR.out] at ct
    have HB34 := Lib.hid hb4'
    clear hr he1 he0 hf1 hf0 cr2 hb4' hro2
    go_wp2_with fail
    go_at_call 29
    refine (ct _ (Below.refl _ _)).mono ?_
    intro e w5 hp5
    obtain ⟨a5, k5, rfl, ho5, he5, hb5⟩ := pair_form hp5
    clear hp5
    go_wp2_with fail
    go_at_call 30
    refine (cp _ (below_call hb4 hb5)).mono ?_
    intro e w6 hp6
    obtain ⟨a6, k6, rfl, ho6, he6, hb6'⟩ := pair_form hp6
    have hb6 := below_call hb5 hb6'
    clear hp6 cp
    go_wp2_with fail
    go_at_call 29
    refine (ct _ hb6).mono ?_
    intro e w7 hp7
    obtain ⟨a7, k7, rfl, ho7, he7, hb7'⟩ := pair_form hp7
    have hb7 := below_call hb6 hb7'
    obtain ⟨N, hN⟩ : ∃ N, N = O.length := ⟨_, rfl⟩
    have hRl2 : N ≤ 200 := by rw [hN]; exact hRl
    have hbF := below_call hb6' hb7'
    have cs1 := fun W (h : Below w7.heap.size w7 W) => refSame_any a5 a6 N N k5 k6 O O W (by rw [hN]; exact (he5.below hbF).below h) (by rw [hN]; exact (he6.below hb7').below h) (by omega) (by omega)
    have cs2 := fun W (h : Below w7.heap.size w7 W) => refSame_any a7 a6 N N k7 k6 O O W (by rw [hN]; exact he7.below h) (by rw [hN]; exact (he6.below hb7').below h) (by omega) (by omega)
    have HO5 := Lib.hid ho5
    have HO7 := Lib.hid ho7
    have HN := Lib.hid hN
    have HB57 := Lib.hid hbF
    have hs56 := hb6'.size
    rw [← hN]
    clear hp7 ct he5 he6 he7 hb6' hbF ho5 ho6 ho7 hN hRl
    go_wp2_with fail
    go_at_call 18
    refine (cs1 _ (Below.refl _ _)).mono ?_
    rintro e w8 ⟨B8, hB8, rfl, hb8⟩
    obtain rfl := hB8.2 rfl
    clear hB8
    go_wp2_with fail
    go_at_call 18
    refine (cs2 _ hb8).mono ?_
    rintro e w9 ⟨B9, hB9, rfl, hb9'⟩
    obtain rfl := hB9.2 rfl
    have hb9 := below_call hb8 hb9'
    clear hB9 hb9' hb8 cs1 cs2
    go_wp2_with fail
    go_at_call 14
    refine (c4 _ (below_call hb7 hb9)).mono ?_
    rintro e w10 ⟨rfl, hb10'⟩
    have hb10 := below_call hb9 hb10'
    clear hb9 hb10' c4
    go_wp2_with fail
    go_at_call 14
    refine (c5 _ (below_call hb7 hb10)).mono ?_
    rintro e w11 ⟨rfl, hb11'⟩
    have hb11 := below_call hb10 hb11'
    have hbz := below_call hb7 hb11
    have hs6 := hb6.size
    have hs5 := hb5.size
    have hsW := hb4.size
    have hs34 := HB34.out.size
    have s12 : ∀ x, a5 = some x → a7 ≠ some x := fun x h4 h6 => by have := (own_block HO5.out h4).2; have := (own_block HO7.out h6).1; omega
    have s13 : ∀ x, a5 = some x → some (⟨g, 0, none⟩ : Addr) ≠ some x := fun x h4 h => by injection h with h; subst h; have := (own_block HO5.out h4).1; have : w4.heap.size ≤ g := this; omega
    have s14 : ∀ x, a5 = some x → some (⟨g2, 0, none⟩ : Addr) ≠ some x := fun x h4 h => by injection h with h; subst h; have := (own_block HO5.out h4).1; have : w4.heap.size ≤ g2 := this; omega
    have s23 : ∀ x, a7 = some x → some (⟨g, 0, none⟩ : Addr) ≠ some x := fun x h4 h => by injection h with h; subst h; have := (own_block HO7.out h4).1; have : w6.heap.size ≤ g := this; omega
    have s24 : ∀ x, a7 = some x → some (⟨g2, 0, none⟩ : Addr) ≠ some x := fun x h4 h => by injection h with h; subst h; have := (own_block HO7.out h4).1; have : w6.heap.size ≤ g2 := this; omega
    have s34 : ∀ x, some (⟨g, 0, none⟩ : Addr) = some x → some (⟨g2, 0, none⟩ : Addr) ≠ some x := fun x h4 h => by rw [← h4] at h; injection h with h; injection h with h; omega
    have hap := lists_apart [⟨a5, N, k5, O⟩, ⟨a7, N, k7, O⟩, ⟨some ⟨g, 0, none⟩, n, cap, l⟩, ⟨some ⟨g2, 0, none⟩, m, cap2, sub⟩] w11 w.heap.size (by show 4 ≤ _; omega)
      (by
        intro x hx
        simp only [List.mem_cons, List.not_mem_nil, or_false] at hx
        rcases hx with rfl | rfl | rfl | rfl
        · show N ≤ _; omega
        · show N ≤ _; omega
        · show n ≤ _; omega
        · show m ≤ _; omega) (below_call hb4 hbz).size
      (by
        intro x hx
        simp only [List.mem_cons, List.not_mem_nil, or_false] at hx
        rcases hx with rfl | rfl | rfl | rfl
        · exact row_below (row_base (B := w.heap.size) (C := w4.heap.size) (own_n2 HO5.out HN.out) (by omega)) (below_call HB57.out hb11)
        · exact row_below (row_base (B := w.heap.size) (C := w6.heap.size) (own_n2 HO7.out HN.out) (by omega)) hb11
        · exact row_below (row_base (B := w.heap.size) (C := w2.heap.size) hrow.out hb2.size) (below_call HB34.out hbz)
        · exact row_below (row_base (B := w.heap.size) (C := w3.heap.size) hrow2.out hb3.size) hbz)
      (sep4 s12 s13 s14 s23 s24 s34)
    clear s12 s13 s14 s23 s24 s34 hs6 hs5 hsW c5 HO5 HO7 hrow hrow2
    go_wp2_with fail
    go_at_call 26
    refine (hap).mono ?_
    rintro e w12 ⟨rfl, hb12⟩
    go_wp2_with fail
    go_ret
    exact ⟨rfl, ((below_call hb4 hbz).alloc (below_call hb4 hbz).size _).trans hb12⟩
  · have e1 : (((tcheck l : Nat) : Int) == 0) = false := beq_eq_false_iff_ne.2 (by omega)
    have e2 : (((tcheck l : Nat) : Int) != 0) = true := by unfold bne; rw [e1]; rfl
    clear hT
    go_enter Try.func6, Try.ntmps6
    go_wp2_with fail
    go_at_call 9
    refine (awake_any4 _).mono ?_
    rintro e w1 ⟨rfl, hb1⟩
    go_wp2_with fail
    go_at_call 11
    refine (cch _ hb1).mono ?_
    rintro e w2 ⟨rfl, hb2⟩
    go_wp2_with fail
    go_at_call 9
    refine (awake_any4 _).mono ?_
    rintro e w3 ⟨rfl, hb3⟩
    go_wp2_with fail
    go_ret
    exact ⟨rfl, below_call (below_call hb1 hb2) hb3⟩

theorem own : ownKnob Try.prog.godebug = none := by kernel_rfl
theorem laidOut : laidOutB Try.prog = true := by kernel_rfl

set_option maxRecDepth 100000 in
theorem contract (H : Type) (enc : TypeId × Value → H) (W : World) (base : Nat) (args : Array Value) (ds gs : List (DataW H)) (before : List MemPlace)
    (hval0 : ∀ (j : Nat) t v, Try.f6.params[j]? = some t → args[j]? = some v → Value.okWide Try.prog W .any base t v)
    (hW : DataW.Whole enc Try.prog Try.f6.params.toList Rows.treeReplacesSpec.vars false W args.toList ds gs before)
    (hk : Rows.uptoSmall H (ds ++ gs) = true)
    (hsz0 : (DataW.weightsEach Try.prog (Try.f6.params.toList ++ Rows.treeReplacesSpec.plain.varTypes Try.prog) (ds ++ gs)).all (· ≤ reachBytes) = true) :
    Calls Try.prog 6 args W fun e W' => ∃ v, e = .returned v ∧ Rows.treeReplacesSpec.post enc Try.prog Try.f6 false true false false W args v W' := by
  have hval : ∀ (j : Nat) t v, Try.f6.params[j]? = some t → args[j]? = some v → Value.okWide Try.prog W .any base t v := hval0
  have hsz := hsz0
  clear hsz0
  have hW' := hW
  obtain ⟨p, q, hA0, hV, rfl, hfz, hnd⟩ := hW
  have hA : DataW.TrodAll enc Try.prog W 0 (fun _ => true) true Try.f6.params.toList args.toList ds p := hA0
  rw [Try.params6] at hA hval hsz
  obtain ⟨v0, vs0, d0, ds0, p0, q0, hargs, rfl, rfl, h0, r0⟩ := trodAll_cons hA
  obtain ⟨v1, vs1, d1, ds1, p1, q1, rfl, rfl, rfl, h1, r1⟩ := trodAll_cons r0
  obtain ⟨v2, vs2, d2, ds2, p2, q2, rfl, rfl, rfl, h2, r2⟩ := trodAll_cons r1
  obtain ⟨rfl, rfl, rfl⟩ := trodAll_nil r2
  obtain rfl : args = #[v0, v1, v2] := by cases args; simp_all
  obtain ⟨rfl, rfl⟩ := trodVars_none hV
  obtain ⟨A0, n0, c0, rfl⟩ := okWide_slice Try.underlying22 (hval 0 22 v0 rfl rfl)
  have k0 := h0
  have lt0 : ∀ x ∈ p0, x.block < W.heap.size := by obtain ⟨m, hm⟩ := k0; exact DataW.trod_lt m _ _ _ hm
  obtain ⟨s1, rfl, rfl, rfl, w1⟩ := open_string Try.underlying9 (hval 1 9 v1 rfl rfl) h1
  have hreach1 : s1.size ≤ 140737488351232 := by
    have := sized_string hsz (j := 1) (t := 9) rfl rfl
    simpa [reachBytes] using this
  obtain ⟨A2, n2, c2, rfl⟩ := okWide_slice Try.underlying22 (hval 2 22 v2 rfl rfl)
  have k2 := h2
  have lt2 : ∀ x ∈ p2, x.block < W.heap.size := by obtain ⟨m, hm⟩ := k2; exact DataW.trod_lt m _ _ _ hm
  clear hA0 hval0
  obtain ⟨l0, e0, z0, _, m0, sm0⟩ := arg_ents k0
  obtain ⟨l2, e2, z2, _, m2, sm2⟩ := arg_ents k2
  have hbulk : Rows.uptoBulk d0 ≤ 1048576 ∧ s1.size ≤ 1048576 ∧ Rows.uptoBulk d2 ≤ 1048575 := by
    have h := of_decide_eq_true hk
    rw [List.append_nil] at h
    have x : Rows.uptoBulkAll [d0, DataW.lit (H := H) (.string s1.data.toList), d2] = Rows.uptoBulk d0 + ((s1.data.toList.length + 1) + (Rows.uptoBulk d2 + 0)) := rfl
    rw [x, len_l] at h
    omega
  refine (walk A0 n0 c0 l0 s1 A2 n2 c2 l2 W e0 e2 z0 z2 (by omega) (by omega) (fun x hx => by have := sm0 x hx; omega) (fun x hx => by have := sm2 x hx; omega) (by omega)).mono fun e W' ⟨he, bel⟩ => ?_
  subst he
  exact ⟨_, rfl, _, _, _, [], _, [], hW', trodAll_mk1 (shut_bool Try.underlying4 _), (trodAll_cons_mk (Below.trod laidOut (by kernel_rfl) (of_decide_eq_true (by kernel_rfl)) k0 bel lt0) (trodAll_cons_mk (shut_string Try.underlying9 w1) (trodAll_cons_mk (Below.trod laidOut (by kernel_rfl) (of_decide_eq_true (by kernel_rfl)) k2 bel lt2) trodAll_mk0))), rfl, bel.frame _, fun h => by cases h⟩

set_option maxRecDepth 100000 in
theorem lifted (os : Os) (started : os.Started) (H : Type) (enc : TypeId × Value → H) (F : Stop.Interp) :
    ReturnsInHanded {} Try.checked os 6 .any ((Rows.OpenSpec.upto Rows.treeReplacesSpec).pre6 enc Try.prog Try.f6 Rows.treeReplacesUptoRow.domain false) (((Rows.OpenSpec.upto Rows.treeReplacesSpec).at F).post enc Try.prog Try.f6 false true false false) := by
  refine returnsInHanded_of_cond_sized (C := Try.checked) (s := Rows.OpenSpec.upto Rows.treeReplacesSpec) (k := Rows.uptoSmall) rfl own started (by kernel_rfl) Try.func6
    (OpenSpec.witness (enc := enc) (C := Try.checked) (s := Rows.OpenSpec.upto Rows.treeReplacesSpec) (k := Rows.uptoSmall) rfl false ⟨#[], #[.slice none 0 0, .string ByteArray.empty, .slice none 0 0], []⟩ 8 (by kernel_rfl) (by kernel_rfl) (by kernel_rfl)
      (x := ([.nil, .lit (.string []), .nil], [], [])) (by kernel_rfl) rfl (by kernel_rfl)) ?_
  intro W base args ds gs before hval hW _ hk hsz0 _
  exact contract H enc W base args ds gs before hval hW hk hsz0

theorem over : Rows.treeReplacesUptoRow.holds Try.pinned (Rows.OpenSpec.upto Rows.treeReplacesSpec) :=
  OpenClaim.holds_of_cond 6 Try.f6 rfl rfl rfl rfl rfl rfl rfl ⟨rfl, rfl, rfl, rfl, rfl⟩ rfl rfl rfl rfl rfl (by kernel_rfl) Try.func6 (by kernel_rfl)
    (of_decide_eq_true (by kernel_rfl)) (by unfold Func.isWrapper; first | (rw [if_pos (by decide +kernel)]; kernel_rfl) | (rw [if_neg (by decide +kernel)]; exact ⟨rfl, rfl⟩))
    (fun os started H enc _ F => lifted os started H enc F)

end Go.Proofs.Ythokkobmlhbfgaa.treeReplaces
namespace Go.Proofs.Ythokkobmlhbfgaa
theorem treeReplacesUpto_holds : Rows.TreeReplacesUptoSaid := treeReplaces.over
#print axioms treeReplacesUpto_holds
end Go.Proofs.Ythokkobmlhbfgaa
