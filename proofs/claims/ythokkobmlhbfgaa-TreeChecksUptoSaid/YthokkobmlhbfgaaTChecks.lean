/-
  TreeChecks, up to the bound: for every list of entries and every node (which hold together at most 1048576 values and letters): tree.Check and tree.Whole answer what the document's own answer, and the list stays as it was, the room behind it too: the law returns true, and writes nothing that was there. Condition: the bound of the second form.
-/
import Derived.Test.YthokkobmlhbfgaaTRoom
import Derived.Test.YthokkobmlhbfgaaTArgs
import Derived.JoinedCond
import Derived.SizedLaws
import Derived.ChangeOld
import Derived.Deep.CondSized
namespace Go.Proofs.Ythokkobmlhbfgaa.treeChecks
open Go.ChangeMaps (open_string shut_string)
open Go.ChangeShapes Go.WideShapes Go.ChangeAt Go.RowKit Tx Pm Pr En
set_option linter.unusedVariables false

set_option maxRecDepth 100000 in
set_option maxHeartbeats 1000000 in
theorem walk (a : Option Addr) (n c : Nat) (l : List Et) (nd : Nd) (w : World) (hl : Ents w a n l) (hnil : a = none → c = 0) (hn : n ≤ 1048576) (hs : Small l) (hd : nd.data.size ≤ 9223372036854775807) :
    Calls Try.prog 3 #[.slice a n c, nv nd] w fun e w' => e = .returned (.bool true) ∧ Below w.heap.size w w' := by
  have c1 := fun W (h : Below w.heap.size w W) => refRoomy_all a n c l W (hl.below h) hnil (by omega)
  have c2 := fun W (h : Below w.heap.size w W) => refCheckT_any a n c l W (hl.below h) (by omega) hs
  have cw := fun W => refWhole_any nd W hd
  have cv := fun W => tWhole_any nd W hd
  have hln := hl.1
  have HL := Lib.hid hl
  obtain ⟨T, hT⟩ : ∃ T, T = tcheck l := ⟨_, rfl⟩
  rw [← hT] at c2
  have HT := Lib.hid hT
  clear hl hT
  obtain ⟨K, D⟩ := nd
  unfold nv at cw cv ⊢
  simp only at cw cv ⊢
  have hbx : ∀ W, Below (w.alloc (.cells #[.int .i64 K, .string D] 24)).heap.size (w.alloc (.cells #[.int .i64 K, .string D] 24)) W → W.cell? ⟨w.heap.size, 0, none⟩ = some (.int .i64 K) ∧ W.cell? ⟨w.heap.size, 1, none⟩ = some (.string D) := by
    intro W h
    constructor
    · rw [h.cell (p := ⟨w.heap.size, 0, none⟩) (by simp)]; go_simp
    · rw [h.cell (p := ⟨w.heap.size, 1, none⟩) (by simp)]; go_simp
  have hb0 : Below w.heap.size w (w.alloc (.cells #[.int .i64 K, .string D] 24)) := (Below.refl _ w).alloc (Nat.le_refl _) _
  have HX := Lib.hid hbx
  clear hbx
  go_enter Try.func3, Try.ntmps3
  go_wp2_with fail
  go_at_call 8
  refine (c1 _ hb0).mono ?_
  intro e w1 hr
  obtain ⟨g, cap, rfl, _, he1, he0, hcap, hcm, _, _, hb1⟩ := roomy_form hr
  rw [hln] at he1 he0 hcap ⊢
  have c3 := fun W (h : Below w1.heap.size w1 W) => tCheck_any (some ⟨g, 0, none⟩) n cap l W (he0.below h) (by omega) hcm (by omega) hs
  rw [← HT.out] at c3
  have hB1 := below_call hb0 hb1
  have c4 := fun W (h : Below w1.heap.size w1 W) => refHeld_any g cap c n a l W (he1.below h) ((HL.out.below hB1).below h) hcap hcm (by omega)
  clear hr he1 he0 c1
  go_wp2_with fail
  go_region_with ((first
    | (go_at_call 9; refine (awake_any4 _).mono ?_; rintro e w2 ⟨rfl, hb2'⟩; have hb2 := ((Below.refl w1.heap.size w1).drew).trans hb2')
    | (go_at_call 10; refine (c3 _ hb2).mono ?_; rintro e w3 ⟨rfl, hb3'⟩; have hb3 := below_call hb2 hb3')
    | (go_at_call 11; refine (c2 _ (below_call hB1 hb3)).mono ?_; rintro e w4 ⟨rfl, hb4'⟩; have hb4 := below_call hb3 hb4'; have k1 := (HX.out _ (below_call hb1 hb4)).1; have k2 := (HX.out _ (below_call hb1 hb4)).2)
    | (go_at_call 12; refine (cv _).mono ?_; rintro e w5 ⟨rfl, hb5'⟩; have hb5 := below_call hb4 hb5'; have k3 := (HX.out _ (below_call hb1 hb5)).1; have k4 := (HX.out _ (below_call hb1 hb5)).2)
    | (go_at_call 13; refine (cw _).mono ?_; rintro e w6 ⟨rfl, hb6'⟩; have hb6 := below_call hb5 hb6')
    | (go_at_call 14; refine (c4 _ hb6).mono ?_; rintro e w7 ⟨rfl, hb7⟩)))
  all_goals
    go_wp2_with fail
    go_ret
    exact ⟨rfl, below_call hB1 (below_call hb6 hb7)⟩
theorem own : ownKnob Try.prog.godebug = none := by kernel_rfl
theorem laidOut : laidOutB Try.prog = true := by kernel_rfl

set_option maxRecDepth 100000 in
theorem contract (H : Type) (enc : TypeId × Value → H) (W : World) (base : Nat) (args : Array Value) (ds gs : List (DataW H)) (before : List MemPlace)
    (hval0 : ∀ (j : Nat) t v, Try.f3.params[j]? = some t → args[j]? = some v → Value.okWide Try.prog W .any base t v)
    (hW : DataW.Whole enc Try.prog Try.f3.params.toList Rows.treeChecksSpec.vars false W args.toList ds gs before)
    (hk : Rows.uptoSmall H (ds ++ gs) = true)
    (hsz0 : (DataW.weightsEach Try.prog (Try.f3.params.toList ++ Rows.treeChecksSpec.plain.varTypes Try.prog) (ds ++ gs)).all (· ≤ reachBytes) = true) :
    Calls Try.prog 3 args W fun e W' => ∃ v, e = .returned v ∧ Rows.treeChecksSpec.post enc Try.prog Try.f3 false true false false W args v W' := by
  have hval : ∀ (j : Nat) t v, Try.f3.params[j]? = some t → args[j]? = some v → Value.okWide Try.prog W .any base t v := hval0
  have hsz := hsz0
  clear hsz0
  have hW' := hW
  obtain ⟨p, q, hA0, hV, rfl, hfz, hnd⟩ := hW
  have hA : DataW.TrodAll enc Try.prog W 0 (fun _ => true) true Try.f3.params.toList args.toList ds p := hA0
  rw [Try.params3] at hA hval hsz
  obtain ⟨v0, vs0, d0, ds0, p0, q0, hargs, rfl, rfl, h0, r0⟩ := trodAll_cons hA
  obtain ⟨v1, vs1, d1, ds1, p1, q1, rfl, rfl, rfl, h1, r1⟩ := trodAll_cons r0
  obtain ⟨rfl, rfl, rfl⟩ := trodAll_nil r1
  obtain rfl : args = #[v0, v1] := by cases args; simp_all
  obtain ⟨rfl, rfl⟩ := trodVars_none hV
  obtain ⟨A0, n0, c0, rfl⟩ := okWide_slice Try.underlying22 (hval 0 22 v0 rfl rfl)
  have k0 := h0
  have lt0 : ∀ x ∈ p0, x.block < W.heap.size := by obtain ⟨m, hm⟩ := k0; exact DataW.trod_lt m _ _ _ hm
  obtain ⟨N1, rfl, rfl, wi1, ws1⟩ := arg_node (hval 1 24 v1 rfl rfl) h1
  have k1 := h1
  have lt1 : ∀ x ∈ p1, x.block < W.heap.size := by obtain ⟨m, hm⟩ := k1; exact DataW.trod_lt m _ _ _ hm
  clear hA0 hval0
  obtain ⟨l0, e0, z0, _, m0, sm0⟩ := arg_ents k0
  have hbulk : Rows.uptoBulk d0 ≤ 1048576 := by
    have h := of_decide_eq_true hk
    rw [List.append_nil] at h
    have x : Rows.uptoBulkAll [d0, dN (H := H) N1] = Rows.uptoBulk d0 + (Rows.uptoBulk (dN (H := H) N1) + 0) := rfl
    rw [x] at h
    omega
  refine (walk A0 n0 c0 l0 N1 W e0 z0 (by omega) (fun x hx => by have := sm0 x hx; omega) (by unfold maxLen at ws1; omega)).mono fun e W' ⟨he, bel⟩ => ?_
  subst he
  exact ⟨_, rfl, _, _, _, [], _, [], hW', trodAll_mk1 (shut_bool Try.underlying4 _), (trodAll_cons_mk (Below.trod laidOut (by kernel_rfl) (of_decide_eq_true (by kernel_rfl)) k0 bel lt0) (trodAll_cons_mk (Below.trod laidOut (by kernel_rfl) (of_decide_eq_true (by kernel_rfl)) k1 bel lt1) trodAll_mk0)), rfl, bel.frame _, fun h => by cases h⟩

set_option maxRecDepth 100000 in
theorem lifted (os : Os) (started : os.Started) (H : Type) (enc : TypeId × Value → H) (F : Stop.Interp) :
    ReturnsInHanded {} Try.checked os 3 .any ((Rows.OpenSpec.upto Rows.treeChecksSpec).pre6 enc Try.prog Try.f3 Rows.treeChecksUptoRow.domain false) (((Rows.OpenSpec.upto Rows.treeChecksSpec).at F).post enc Try.prog Try.f3 false true false false) := by
  refine returnsInHanded_of_cond_sized (C := Try.checked) (s := Rows.OpenSpec.upto Rows.treeChecksSpec) (k := Rows.uptoSmall) rfl own started (by kernel_rfl) Try.func3
    (OpenSpec.witness (enc := enc) (C := Try.checked) (s := Rows.OpenSpec.upto Rows.treeChecksSpec) (k := Rows.uptoSmall) rfl false ⟨#[], #[.slice none 0 0, .agg #[.int .i64 0, .string ByteArray.empty]], []⟩ 8 (by kernel_rfl) (by kernel_rfl) (by kernel_rfl)
      (x := ([.nil, .agg [.lit (.int .i64 0), .lit (.string [])]], [], [])) (by kernel_rfl) rfl (by kernel_rfl)) ?_
  intro W base args ds gs before hval hW _ hk hsz0 _
  exact contract H enc W base args ds gs before hval hW hk hsz0

theorem over : Rows.treeChecksUptoRow.holds Try.pinned (Rows.OpenSpec.upto Rows.treeChecksSpec) :=
  OpenClaim.holds_of_cond 3 Try.f3 rfl rfl rfl rfl rfl rfl rfl ⟨rfl, rfl, rfl, rfl, rfl⟩ rfl rfl rfl rfl rfl (by kernel_rfl) Try.func3 (by kernel_rfl)
    (of_decide_eq_true (by kernel_rfl)) (by unfold Func.isWrapper; first | (rw [if_pos (by decide +kernel)]; kernel_rfl) | (rw [if_neg (by decide +kernel)]; exact ⟨rfl, rfl⟩))
    (fun os started H enc _ F => lifted os started H enc F)

end Go.Proofs.Ythokkobmlhbfgaa.treeChecks
namespace Go.Proofs.Ythokkobmlhbfgaa
theorem treeChecksUpto_holds : Rows.TreeChecksUptoSaid := treeChecks.over
#print axioms treeChecksUpto_holds
end Go.Proofs.Ythokkobmlhbfgaa
