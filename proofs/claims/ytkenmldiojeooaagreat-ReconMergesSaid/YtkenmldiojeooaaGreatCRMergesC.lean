/-
  ReconMerges, of the landed code: what recon.Merge and recon.Marked answer of every three whole nodes is what the document's own functions answer. No condition.
-/
import Derived.Test.YtkenmldiojeooaaGreatT6
import Derived.SizedLaws
import Derived.ChangeOld
namespace Go.Proofs.YtkenmldiojeooaaGreat.reconMerges
open Go.ChangeMaps (open_string shut_string)
open Go.ChangeShapes Go.WideShapes Go.ChangeAt Go.RowKit Tx Pm Pr En Rc
set_option linter.unusedVariables false
set_option linter.unusedSimpArgs false
theorem whole_small {n : Nd} (h : whole n = true) : n.data.size ≤ 1000000 := by
  unfold whole at h
  split at h
  · have := of_decide_eq_true h; omega
  · rw [Bool.and_eq_true, decide_eq_true_eq] at h; omega
def Box6 (b : Nat) (k1 k2 k3 : Int) (d1 d2 d3 : ByteArray) (W : World) : Prop := (W.cell? ⟨b, 0, none⟩ = some (.int .i64 k1) ∧ W.cell? ⟨b, 1, none⟩ = some (.string d1)) ∧ (W.cell? ⟨b + 1, 0, none⟩ = some (.int .i64 k2) ∧ W.cell? ⟨b + 1, 1, none⟩ = some (.string d2)) ∧ W.cell? ⟨b + 1 + 1, 0, none⟩ = some (.int .i64 k3) ∧ W.cell? ⟨b + 1 + 1, 1, none⟩ = some (.string d3)
theorem box6 {w W : World} {k1 k2 k3 : Int} {d1 d2 d3 : ByteArray} {t : TypeId} (h : Below (((w.alloc (.cells #[.int .i64 k1, .string d1] t)).alloc (.cells #[.int .i64 k2, .string d2] t)).alloc (.cells #[.int .i64 k3, .string d3] t)).heap.size (((w.alloc (.cells #[.int .i64 k1, .string d1] t)).alloc (.cells #[.int .i64 k2, .string d2] t)).alloc (.cells #[.int .i64 k3, .string d3] t)) W) : Box6 w.heap.size k1 k2 k3 d1 d2 d3 W := by
  obtain ⟨h1, h2, h3⟩ := three_at w (.cells #[.int .i64 k1, .string d1] t) (.cells #[.int .i64 k2, .string d2] t) (.cells #[.int .i64 k3, .string d3] t)
  have s1 := cells_two ((h.block w.heap.size (by simp <;> omega)).trans h1)
  have s2 := cells_two ((h.block (w.heap.size + 1) (by simp <;> omega)).trans h2)
  have s3 := cells_two ((h.block (w.heap.size + 1 + 1) (by simp)).trans h3)
  exact ⟨⟨s1.1, s1.2.1⟩, ⟨s2.1, s2.2.1⟩, s3.1, s3.2.1⟩
theorem nv_eta (n : Nd) : nv n = .agg #[.int .i64 n.kind, .string n.data] := rfl
set_option maxRecDepth 100000 in
set_option maxHeartbeats 4000000 in
theorem walk (a h s : Nd) (w : World) (ha : a.data.size ≤ maxLen) (hh : h.data.size ≤ maxLen) (hs : s.data.size ≤ maxLen) :
    Calls Tryz.prog 4 #[nv a, nv h, nv s] w fun e w' => e = .returned (.bool true) ∧ Below w.heap.size w w' := by
  unfold maxLen at ha hh hs
  have CA := fun W => refWhole_any a W (by omega)
  have CH := fun W => refWhole_any h W (by omega)
  have CS := fun W => refWhole_any s W (by omega)
  have CM : whole a = true → whole h = true → whole s = true → ∀ W, (Calls Tryz.prog 17 #[nv a, nv h, nv s] W (Rc.MgTo Mg.err3 Mg.mtx Mg.mcf a h s W)) ∧ (Calls Tryz.prog 18 #[nv a, nv h, nv s] W (Rc.MgTo Mg.err3 Mg.mtx Mg.mcf a h s W)) ∧
      (Calls Tryz.prog 19 #[nv a, nv h, nv s] W (MkTo Mg.err3 Mg.mtx Mg.mcf a h s W)) ∧ (Calls Tryz.prog 20 #[nv a, nv h, nv s] W (MkTo Mg.err3 Mg.mtx Mg.mcf a h s W)) := fun w1 w2 w3 W =>
    ⟨rMerge_any fair asks_own a h s W (whole_small w1) (whole_small w2) (whole_small w3), refMerge17_any fair asks_doc a h s W (whole_small w1) (whole_small w2) (whole_small w3),
      rMarked_any fair asks_own a h s W (whole_small w1) (whole_small w2) (whole_small w3), refMarked_any fair asks_doc a h s W (whole_small w1) (whole_small w2) (whole_small w3)⟩
  unfold Rc.MgTo MkTo at CM
  have hf := mk_few fair a h s
  generalize mgN Mg.err3 Mg.mtx Mg.mcf a h s = VN at CM
  generalize mg Mg.err3 Mg.mtx Mg.mcf a h s = VB at CM
  generalize mkE Mg.err3 Mg.mtx a h s = ME at CM hf
  generalize mkT Mg.err3 Mg.mtx a h s = MT at CM
  generalize mkN Mg.err3 Mg.mtx Mg.mcf a h s = MN at CM hf
  generalize whole a = B1 at CA CM
  generalize whole h = B2 at CH CM
  generalize whole s = B3 at CS CM
  obtain ⟨ka, da⟩ := a
  obtain ⟨kh, dh⟩ := h
  obtain ⟨ks, ds⟩ := s
  obtain ⟨kv, dv⟩ := VN
  simp only [nv_eta] at CA CH CS CM
  simp only at ha hh hs
  obtain ⟨W3, hW3⟩ : ∃ W3, W3 = ((w.alloc (.cells #[.int .i64 ka, .string da] 33)).alloc (.cells #[.int .i64 kh, .string dh] 33)).alloc (.cells #[.int .i64 ks, .string ds] 33) := ⟨_, rfl⟩
  have hb0 : Below w.heap.size w W3 := by rw [hW3]; exact below_three w _ _ _
  have hX : ∀ W, Below W3.heap.size W3 W → Box6 w.heap.size ka kh ks da dh ds W := fun W h => by rw [hW3] at h; exact box6 h
  have HB0 := Lib.hid hb0
  have HX := Lib.hid hX
  have HA := Lib.hid CA
  have HH := Lib.hid CH
  have HS := Lib.hid CS
  have HM := Lib.hid CM
  clear CA CH CS CM hb0 hX
  unfold nv
  go_enter Tryz.func4, Tryz.ntmps4
  go_wp2_with fail
  rw [← hW3]
  clear hW3
  go_at_call 9
  refine (awake_any17 _).mono ?_
  rintro e w1 ⟨rfl, b1⟩
  have HB1 := Lib.hid b1
  obtain ⟨⟨x1, x2⟩, ⟨x3, x4⟩, x5, x6⟩ := HX.out _ b1
  clear b1
  go_wp2_with fail
  go_at_call 16
  refine (HA.out _).mono ?_
  rintro e w2 ⟨rfl, b2⟩
  have HB2 := Lib.hid (below_call HB1.out b2)
  clear b2 x1 x2 x3 x4 x5 x6 HB1
  cases B1 with
  | false =>
    go_wp2_with fail
    go_at_call 9
    refine (awake_any17 _).mono ?_
    rintro e w3 ⟨rfl, b3⟩
    have HB3 := Lib.hid (below_call HB2.out b3)
    clear b3
    go_wp2_with fail
    go_ret
    exact ⟨rfl, HB0.out.trans (HB3.out.mono HB0.out.size)⟩
  | true =>
    obtain ⟨⟨x1, x2⟩, ⟨x3, x4⟩, x5, x6⟩ := HX.out _ HB2.out
    go_wp2_with fail
    go_at_call 16
    refine (HH.out _).mono ?_
    rintro e w3 ⟨rfl, b3⟩
    have HB2 := Lib.hid (below_call HB2.out b3)
    clear b3 x1 x2 x3 x4 x5 x6
    cases B2 with
    | false =>
      go_wp2_with fail
      go_at_call 9
      refine (awake_any17 _).mono ?_
      rintro e w4 ⟨rfl, b4⟩
      have HB3 := Lib.hid (below_call HB2.out b4)
      clear b4
      go_wp2_with fail
      go_ret
      exact ⟨rfl, HB0.out.trans (HB3.out.mono HB0.out.size)⟩
    | true =>
      obtain ⟨⟨x1, x2⟩, ⟨x3, x4⟩, x5, x6⟩ := HX.out _ HB2.out
      go_wp2_with fail
      go_at_call 16
      refine (HS.out _).mono ?_
      rintro e w4 ⟨rfl, b4⟩
      have HB2 := Lib.hid (below_call HB2.out b4)
      clear b4 x1 x2 x3 x4 x5 x6
      cases B3 with
      | false =>
        go_wp2_with fail
        go_at_call 9
        refine (awake_any17 _).mono ?_
        rintro e w5 ⟨rfl, b5⟩
        have HB3 := Lib.hid (below_call HB2.out b5)
        clear b5
        go_wp2_with fail
        go_ret
        exact ⟨rfl, HB0.out.trans (HB3.out.mono HB0.out.size)⟩
      | true =>
        have HM2 := Lib.hid (HM.out (by trivial) (by trivial) (by trivial))
        clear HM HA HH HS
        obtain ⟨⟨x1, x2⟩, ⟨x3, x4⟩, x5, x6⟩ := HX.out _ HB2.out
        go_wp2_with fail
        go_at_call 17
        refine (HM2.out _).1.mono ?_
        rintro e w5 ⟨rfl, b5⟩
        have HB2 := Lib.hid (below_call HB2.out b5)
        clear b5 x1 x2 x3 x4 x5 x6
        obtain ⟨⟨x1, x2⟩, ⟨x3, x4⟩, x5, x6⟩ := HX.out _ HB2.out
        have HB3 := Lib.hid (HB2.out.alloc HB2.out.size (.cells #[.int .i64 kv, .string dv] 33))
        obtain ⟨⟨y1, y2⟩, ⟨y3, y4⟩, y5, y6⟩ := HX.out _ HB3.out
        go_wp2_with fail
        go_at_call 18
        refine (HM2.out _).2.1.mono ?_
        rintro e w6 ⟨rfl, b6⟩
        have HK5 := Lib.hid ((b6.block w5.heap.size (by simp)).trans (heap_alloc_new _ _))
        have HB4 := Lib.hid (below_call HB3.out b6)
        clear b6 x1 x2 x3 x4 x5 x6 y1 y2 y3 y4 y5 y6 HB2 HB3
        obtain ⟨⟨x1, x2⟩, ⟨x3, x4⟩, x5, x6⟩ := HX.out _ HB4.out
        have HB5 := Lib.hid (HB4.out.alloc HB4.out.size (.cells #[.int .i64 kv, .string dv] 33))
        obtain ⟨⟨y1, y2⟩, ⟨y3, y4⟩, y5, y6⟩ := HX.out _ HB5.out
        go_wp2_with fail
        go_at_call 19
        refine (HM2.out _).2.2.1.mono ?_
        rintro e w7 ⟨rfl, b7⟩
        have HK6 := Lib.hid ((b7.block w6.heap.size (by simp)).trans (heap_alloc_new _ _))
        have HK5 := Lib.hid ((b7.block w5.heap.size (by have := (Array.getElem?_eq_some_iff.1 HK5.out).1; simp; omega)).trans ((((Below.refl w6.heap.size w6).alloc (Nat.le_refl _) (.cells #[.int .i64 kv, .string dv] 33)).block w5.heap.size (Array.getElem?_eq_some_iff.1 HK5.out).1).trans HK5.out))
        have HB6 := Lib.hid (below_call HB5.out b7)
        clear b7 x1 x2 x3 x4 x5 x6 y1 y2 y3 y4 y5 y6 HB4 HB5
        obtain ⟨⟨x1, x2⟩, ⟨x3, x4⟩, x5, x6⟩ := HX.out _ HB6.out
        go_wp2_with fail
        go_at_call 20
        refine (HM2.out _).2.2.2.mono ?_
        rintro e w8 ⟨rfl, b8⟩
        obtain ⟨z1, z2, _⟩ := cells_two ((b8.block w5.heap.size (Array.getElem?_eq_some_iff.1 HK5.out).1).trans HK5.out)
        obtain ⟨z3, z4, _⟩ := cells_two ((b8.block w6.heap.size (Array.getElem?_eq_some_iff.1 HK6.out).1).trans HK6.out)
        have HB7 := Lib.hid (below_call HB6.out b8)
        have hgN := guardN
        clear b8 x1 x2 x3 x4 x5 x6 HB6 HK5 HK6 HM2 HX
        go_wp2_with fail
        go_ret
        exact ⟨rfl, HB0.out.trans (HB7.out.mono HB0.out.size)⟩
theorem own : ownKnob Tryz.prog.godebug = none := by kernel_rfl
theorem laidOut : laidOutB Tryz.prog = true := by kernel_rfl
set_option maxRecDepth 100000 in
theorem contract (H : Type) (enc : TypeId × Value → H) (W : World) (base : Nat) (args : Array Value) (ds gs : List (DataW H)) (before : List MemPlace)
    (hval0 : ∀ (j : Nat) t v, Tryz.f4.params[j]? = some t → args[j]? = some v → Value.okWide Tryz.prog W .any base t v)
    (hW : DataW.Whole enc Tryz.prog Tryz.f4.params.toList Rows.reconMergesSpec.vars false W args.toList ds gs before)
    (hsz0 : (DataW.weightsEach Tryz.prog (Tryz.f4.params.toList ++ Rows.reconMergesSpec.plain.varTypes Tryz.prog) (ds ++ gs)).all (· ≤ reachBytes) = true) :
    Calls Tryz.prog 4 args W fun e W' => ∃ v, e = .returned v ∧ Rows.reconMergesSpec.post enc Tryz.prog Tryz.f4 false true false false W args v W' := by
  have hval : ∀ (j : Nat) t v, Tryz.f4.params[j]? = some t → args[j]? = some v → Value.okWide Tryz.prog W .any base t v := hval0
  have hsz := hsz0
  clear hsz0
  have hW' := hW
  obtain ⟨p, q, hA0, hV, rfl, hfz, hnd⟩ := hW
  have hA : DataW.TrodAll enc Tryz.prog W 0 (fun _ => true) true Tryz.f4.params.toList args.toList ds p := hA0
  rw [Tryz.params4] at hA hval hsz
  obtain ⟨v0, vs0, d0, ds0, p0, q0, hargs, rfl, rfl, h0, r0⟩ := trodAll_cons hA
  obtain ⟨v1, vs1, d1, ds1, p1, q1, rfl, rfl, rfl, h1, r1⟩ := trodAll_cons r0
  obtain ⟨v2, vs2, d2, ds2, p2, q2, rfl, rfl, rfl, h2, r2⟩ := trodAll_cons r1
  obtain ⟨rfl, rfl, rfl⟩ := trodAll_nil r2
  obtain rfl : args = #[v0, v1, v2] := by cases args; simp_all
  obtain ⟨rfl, rfl⟩ := trodVars_none hV
  obtain ⟨N0, rfl, rfl, wi0, ws0⟩ := arg_node (hval 0 33 v0 rfl rfl) h0
  have k0 := h0
  have lt0 : ∀ x ∈ p0, x.block < W.heap.size := by obtain ⟨m, hm⟩ := k0; exact DataW.trod_lt m _ _ _ hm
  obtain ⟨N1, rfl, rfl, wi1, ws1⟩ := arg_node (hval 1 33 v1 rfl rfl) h1
  have k1 := h1
  have lt1 : ∀ x ∈ p1, x.block < W.heap.size := by obtain ⟨m, hm⟩ := k1; exact DataW.trod_lt m _ _ _ hm
  obtain ⟨N2, rfl, rfl, wi2, ws2⟩ := arg_node (hval 2 33 v2 rfl rfl) h2
  have k2 := h2
  have lt2 : ∀ x ∈ p2, x.block < W.heap.size := by obtain ⟨m, hm⟩ := k2; exact DataW.trod_lt m _ _ _ hm
  clear hA0 hval0
  refine (walk N0 N1 N2 W ws0 ws1 ws2).mono fun e W' ⟨he, belF⟩ => ?_
  subst he
  exact ⟨_, rfl, _, _, _, [], _, [], hW', trodAll_mk1 (shut_bool Tryz.underlying4 _), (trodAll_cons_mk (Below.trod laidOut (by kernel_rfl) (of_decide_eq_true (by kernel_rfl)) k0 belF lt0) (trodAll_cons_mk (Below.trod laidOut (by kernel_rfl) (of_decide_eq_true (by kernel_rfl)) k1 belF lt1) (trodAll_cons_mk (Below.trod laidOut (by kernel_rfl) (of_decide_eq_true (by kernel_rfl)) k2 belF lt2) trodAll_mk0))), rfl, belF.frame _, fun h => by cases h⟩
set_option maxRecDepth 100000 in
theorem lifted (os : Os) (started : os.Started) (H : Type) (enc : TypeId × Value → H) :
    ReturnsInHanded {} Tryz.checked os 4 .any (Rows.reconMergesSpec.pre6 enc Tryz.prog Tryz.f4 Rows.reconMergesRow.domain false) (Rows.reconMergesSpec.post enc Tryz.prog Tryz.f4 false true false false) := by
  refine returnsInHanded_of_change_sized (C := Tryz.checked) own started (by kernel_rfl) Tryz.func4
    (ChangeSpec.witness6 (enc := enc) (C := Tryz.checked) false ⟨#[], #[.agg #[.int .i64 0, .string ByteArray.empty], .agg #[.int .i64 0, .string ByteArray.empty], .agg #[.int .i64 0, .string ByteArray.empty]], []⟩ 8 (by kernel_rfl) (by kernel_rfl) (by kernel_rfl) (by kernel_rfl)) ?_
  intro W base args ds gs before hval0 hW _ hsz0 _
  exact contract H enc W base args ds gs before hval0 hW hsz0
theorem over : Rows.reconMergesRow.holds Tryz.pinned (OpenSpec.ofChange Rows.reconMergesSpec) :=
  OpenClaim.holds_of_wide 4 Tryz.f4 rfl rfl rfl rfl rfl rfl rfl ⟨rfl, rfl, rfl, rfl, rfl⟩ rfl rfl rfl rfl rfl (by kernel_rfl) Tryz.func4 (by kernel_rfl)
    (of_decide_eq_true (by kernel_rfl)) (by unfold Func.isWrapper; first | (rw [if_pos (by decide +kernel)]; kernel_rfl) | (rw [if_neg (by decide +kernel)]; exact ⟨rfl, rfl⟩))
    (fun os started H enc _ => lifted os started H enc)
end Go.Proofs.YtkenmldiojeooaaGreat.reconMerges

namespace Go.Proofs.YtkenmldiojeooaaGreat
theorem reconMerges_holds : Rows.ReconMergesSaid := reconMerges.over
#print axioms reconMerges_holds
end Go.Proofs.YtkenmldiojeooaaGreat
