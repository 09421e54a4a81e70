/-
  ChainPlays, up to the bound: over any script of adds, drops and commits the contents, the numbers and the errors are those of the document's own list, at every step, and what is kept stays small: the law returns true, and writes nothing that was there. Condition: the arguments hold at most 1048576 values and letters; the library's tables are those of the program's text (the card's tie).
-/
import Derived.Test.YtdfcbnejnnibpaaGreatDoorCCPlaysa
namespace Go.Proofs.YtdfcbnejnnibpaaGreatDoor.Cn
open Go.RowKit Tx Pm Dk Wm Wr Wl Pl Tb Bl
set_option linter.unusedVariables false
set_option linter.unusedSimpArgs false
set_option linter.unnecessarySimpa false
theorem new2r (W : World) (h : Nat) (d : ByteArray) {z : Nat} (hz : z = W.heap.size) : ∀ (j : Nat) (u : Value), (cellsR (h, d))[j]? = some u → (W.alloc (.cells #[.int .i64 (h : Nat), .string d] 74)).cell? (Addr.add ⟨z, 0, none⟩ j) = some u := by
  subst hz
  intro j u hu
  rw [WideShapes.add_plain, Nat.zero_add, World.cell?_alloc_at _ _ _ _ rfl]
  match j, hu with
  | 0, hu => simpa [cellsR] using hu
  | 1, hu => simpa [cellsR] using hu
  | j + 2, hu => simp [cellsR] at hu
theorem ref_app {cb M : Nat} {v : Value} {w W1 : World} {F : Nat → Prop} {E : List Ent} (d : ByteArray) (h : RAt cb v w F (E, M)) (hc1 : Chg F w W1) (hb : W1.heap[cb]? = some (.cells #[v, .int .i64 ((M + 1 : Nat) : Nat)] 35 (0, 0))) (hr : OwR W1 0 v E) (hE : E.length ≤ 1000000) :
    ∀ ty, ∃ a8 n8 c8 w8, (Builtin.append_ #[33, 33] ty #[v, .slice (some ⟨W1.heap.size, 0, none⟩) 1 1]).run Tryz.prog (W1.drew.alloc (.cells #[.int .i64 ((M + 1 : Nat) : Nat), .string d] 74)) = .ok (.slice a8 n8 c8) w8 ∧ w8.cell? ⟨cb, 0, none⟩ = some v ∧ w8.frozen? ⟨cb, 0, none⟩ = false ∧
      w8.cell? ⟨cb, 1, none⟩ = some (.int .i64 ((M + 1 : Nat) : Nat)) ∧ (w8.setCell ⟨cb, 0, none⟩ (.slice a8 n8 c8)).cell? ⟨cb, 1, none⟩ = some (.int .i64 ((M + 1 : Nat) : Nat)) ∧ LeftA (RefC cb) w F (E ++ [(M + 1, d)], M + 1) (w8.setCell ⟨cb, 0, none⟩ (.slice a8 n8 c8)) := by
  intro ty
  obtain ⟨i0, hi, hz0, hz1, hz2⟩ := info_parts infoR
  have hcb1 := (Array.getElem?_eq_some_iff.1 hb).1
  have hBel : Below W1.heap.size W1 (W1.drew.alloc (.cells #[.int .i64 ((M + 1 : Nat) : Nat), .string d] 74)) := ((Below.refl W1.heap.size W1).drew).alloc (Nat.le_refl _) _
  have hO5 : (W1.drew.alloc (.cells #[.int .i64 ((M + 1 : Nat) : Nat), .string d] 74)).ownsRow 0 74 2 v E.length (E.flatMap cellsR) := row_kept hr (fun g hg => hBel.block g (hr.lt g hg).2)
  obtain ⟨v', w', hrun, h1, h2⟩ := Ap.append_two (P := Tryz.prog) _ 0 33 ty 74 i0 (oneV (0, ⟨#[]⟩)) 2 24 Tryz.underlying33 hi hz0 hz1 hz2 rfl (by decide) (by decide) v E.length (E.flatMap cellsR) hO5 ⟨W1.heap.size, 0, none⟩ 1 (cellsR (M + 1, d)) rfl
    (new2r W1.drew (M + 1) d rfl) (onecellR (M + 1, d)) (by omega) (by omega) (Nat.zero_le _)
  have e : E.flatMap cellsR ++ cellsR (M + 1, d) = (E ++ [(M + 1, d)]).flatMap cellsR := by rw [List.flatMap_append]; simp
  have el : E.length + 1 = (E ++ [(M + 1, d)]).length := by rw [List.length_append]; rfl
  rw [e, el] at h1
  obtain ⟨a8, n8, c8, rfl⟩ : ∃ a8 n8 c8, v' = .slice a8 n8 c8 := by
    rcases h1.2 with ⟨hv, h0⟩ | ⟨g, cap, cur, hv, _⟩
    · exact ⟨_, _, _, hv⟩
    · exact ⟨_, _, _, hv⟩
  have hFv : ∀ g, v.ownBlock = some g → F g := fun g hg => (h.foot g).2 (.inr hg)
  have hc8 : Chg F W1 w' := (Chg.of_below hBel).trans (by
    rcases h2 with ⟨_, hg⟩ | ⟨_, hg⟩
    · exact chg_grownB hg hFv
    · exact chg_grownB hg (fun g hg => by cases hg)) (fun g hg => .inl hg)
  have hb8 : w'.heap[cb]? = some (.cells #[v, .int .i64 ((M + 1 : Nat) : Nat)] 35 (0, 0)) := by
    have hbb := (hBel.block cb hcb1).trans hb
    have hlt := Nat.lt_of_lt_of_le hcb1 hBel.size
    rcases h2 with ⟨_, hg⟩ | ⟨_, hg⟩
    · exact (hg.block cb hlt (fun e => h.ne e.symm)).trans hbb
    · exact (hg.block cb hlt (by simp)).trans hbb
  obtain ⟨⟨k1, k2, k3⟩, k4, k5⟩ := ref_turn h hc1 hc8 hb8 h1 (h2.imp (fun h => h.1) (fun h g hg => by
    rw [h.1] at hg
    injection hg with hg
    rw [← hg]
    exact hBel.size))
  exact ⟨a8, n8, c8, w', hrun, k1, k2, k3, k5, k4⟩
set_option maxRecDepth 100000 in
set_option maxHeartbeats 4000000 in
theorem rAdd_any (cb M : Nat) {F : Nat → Prop} {E : List Ent} (d : ByteArray) (w : World) (h : RefC cb w F (E, M)) (hM : M ≤ 1000000000) (hE : E.length ≤ 1000000) :
    Calls Tryz.prog 11 #[.pointer (some ⟨cb, 0, none⟩), .string d] w fun e w' => e = .returned (.int .i64 ((M + 1 : Nat) : Nat)) ∧ LeftA (RefC cb) w F (E ++ [(M + 1, d)], M + 1) w' := by
  obtain ⟨v, h⟩ := h
  have hb := h.blk
  simp only at hb
  have c1 : w.cell? ⟨cb, 1, none⟩ = some (.int .i64 (M : Nat)) := by unfold World.cell?; rw [hb]; rfl
  have f1 : w.frozen? ⟨cb, 1, none⟩ = false := by unfold World.frozen?; rw [hb]; simp
  have e1 : ((M + 1 : Nat) : Int) = (M : Int) + 1 := by omega
  have hb1 : (w.setCell ⟨cb, 1, none⟩ (.int .i64 ((M : Int) + 1))).heap[cb]? = some (.cells #[v, .int .i64 ((M : Int) + 1)] 35 (0, 0)) := by rw [set_block hb]; rfl
  have hset : Chg (· = cb) w (w.setCell ⟨cb, 1, none⟩ (.int .i64 ((M : Int) + 1))) := chg_set (b := cb) (k := 1) _
  have hc1 : Chg F w (w.setCell ⟨cb, 1, none⟩ (.int .i64 ((M : Int) + 1))) := hset.mono (fun i hi => by rw [hi]; exact (h.foot cb).2 (.inl rfl))
  have hr1 : OwR (w.setCell ⟨cb, 1, none⟩ (.int .i64 ((M : Int) + 1))) 0 v E := row_kept h.row (fun g hg => hset.block g (h.row.lt g hg).2 (fun e => h.ne (by rw [← e]; exact hg)))
  rw [← e1] at hb1 hc1 hr1
  have HAPP := Lib.hid (ref_app d h hc1 hb1 hr1 hE)
  obtain ⟨W1, hW1⟩ : ∃ W1, W1 = w.setCell ⟨cb, 1, none⟩ (.int .i64 ((M + 1 : Nat) : Int)) := ⟨_, rfl⟩
  rw [← hW1] at HAPP hb1
  rw [e1] at hW1
  have g0 : W1.cell? ⟨cb, 0, none⟩ = some v := by unfold World.cell?; rw [hb1]; rfl
  have g1 : W1.cell? ⟨cb, 1, none⟩ = some (.int .i64 ((M + 1 : Nat) : Int)) := by unfold World.cell?; rw [hb1]; rfl
  have hcl : cb < W1.heap.size := (Array.getElem?_eq_some_iff.1 hb1).1
  have HW1 := Lib.hid hW1
  have G0 := Lib.hid g0
  have G1 := Lib.hid g1
  have E1 := Lib.hid e1
  have hM64 : (M : Int) + 1 ≤ 9223372036854775807 := by omega
  clear h hb hb1 hset hc1 hr1 hW1 g0 g1 e1
  go_enter Tryz.func11, Tryz.ntmps11
  go_wp2_with fail
  rw [← HW1.out]
  have HL0 : W1.drew.cell? ⟨cb, 0, none⟩ = some v := G0.out
  have HL2 := (((Below.refl W1.heap.size W1).alloc (Nat.le_refl _) (.cells #[.int .i64 ((M + 1 : Nat) : Int), .string d] 74)).cell (p := ⟨cb, 0, none⟩) hcl).trans G0.out
  have HS2 := ((((Below.refl W1.heap.size W1).drew).alloc (Nat.le_refl _) (.cells #[.int .i64 ((M + 1 : Nat) : Int), .string d] 74)).cell (p := ⟨cb, 1, none⟩) hcl).trans G1.out
  refine Rg.wp_only ?_ (regRAdd _ (by kernel_rfl) _ cb ((M + 1 : Nat) : Int) d v W1 (fun v8 W => W.cell? ⟨cb, 1, none⟩ = some (.int .i64 ((M + 1 : Nat) : Int)) ∧ (W.setCell ⟨cb, 0, none⟩ v8).cell? ⟨cb, 1, none⟩ = some (.int .i64 ((M + 1 : Nat) : Int)) ∧ LeftA (RefC cb) w F (E ++ [(M + 1, d)], M + 1) (W.setCell ⟨cb, 0, none⟩ v8)) G1.out HL0 HL2 HS2 (fun ty => by
    obtain ⟨a8, n8, c8, w8, k1, k2, k3, k4, k5, k6⟩ := HAPP.out ty
    exact ⟨a8, n8, c8, w8, k1, k2, k3, k4, k5, k4, k5, k6⟩))
  rintro _ w9 ⟨z8, a8, n8, c8, w8, rfl, rfl, _, k5, k6⟩
  clear HL0 HL2 HS2
  have HK6 := Lib.hid k6
  clear k6
  generalize w8.setCell ⟨cb, 0, none⟩ (.slice a8 n8 c8) = W9 at k5 HK6 ⊢
  go_wp2_with fail
  go_ret
  exact ⟨rfl, HK6.out⟩
theorem ref_cut {cb M k gL c : Nat} {w : World} {F : Nat → Prop} {E : List Ent} {aS : Addr} (haS : aS = ⟨gL, (k + 1) * 2, none⟩ ∨ E.length = k + 1) (h : RAt cb (.slice (some ⟨gL, 0, none⟩) E.length c) w F (E, M)) (hk : k < E.length) (hE : E.length ≤ 1000000) :
    ∀ ty, ∃ a8 n8 c8 w8, (Builtin.append_ #[33, 33] ty #[.slice (some ⟨w.heap.size, 0, none⟩) 0 0, .slice (some ⟨gL, 0, none⟩) k c]).run Tryz.prog (w.drew.alloc (.cells #[] 74)) = .ok (.slice a8 n8 c8) w8 ∧ w8.cell? ⟨cb, 0, none⟩ = some (.slice (some ⟨gL, 0, none⟩) E.length c) ∧
      ∀ ty, ∃ a9 n9 c9 w9, (Builtin.append_ #[33, 33] ty #[.slice a8 n8 c8, .slice (some aS) (E.length - (k + 1)) (c - (k + 1))]).run Tryz.prog w8 = .ok (.slice a9 n9 c9) w9 ∧ w9.cell? ⟨cb, 0, none⟩ = some (.slice (some ⟨gL, 0, none⟩) E.length c) ∧ w9.frozen? ⟨cb, 0, none⟩ = false ∧ LeftA (RefC cb) w F (E.take k ++ E.drop (k + 1), M) (w9.setCell ⟨cb, 0, none⟩ (.slice a9 n9 c9)) := by
  intro ty
  obtain ⟨i0, hi, hz0, hz1, hz2⟩ := info_parts infoR
  have hb := h.blk
  simp only at hb
  have hcb1 := (Array.getElem?_eq_some_iff.1 hb).1
  have hgl := (h.row.lt gL rfl).2
  have hBel : Below w.heap.size w (w.drew.alloc (.cells #[] 74)) := ((Below.refl w.heap.size w).drew).alloc (Nat.le_refl _) _
  have hEm : (w.drew.alloc (.cells #[] 74)).ownsRow w.heap.size 74 2 (.slice (some ⟨w.heap.size, 0, none⟩) 0 0) 0 [] := ⟨rfl, .inr ⟨w.heap.size, 0, #[], rfl, Nat.le_refl _, heap_alloc_new w.drew _, Nat.le_refl _, Nat.zero_le _, rfl, rfl⟩⟩
  have hcell : ∀ V, Below w.heap.size w V → ∀ j u, (E.flatMap cellsR)[j]? = some u → V.cell? ⟨gL, j, none⟩ = some u := fun V hV j u hu => by
    have := h.row.cells (g := gL) rfl j u hu
    rw [WideShapes.add_plain, Nat.zero_add] at this
    exact (hV.cell (p := ⟨gL, j, none⟩) hgl).trans this
  have htk : (E.take k).length = k := by rw [List.length_take]; omega
  have hdr : (E.drop (k + 1)).length = E.length - (k + 1) := List.length_drop
  obtain ⟨v8, w8, r8, o8, g8, _⟩ := run_append_own (P := Tryz.prog) (w := w.drew.alloc (.cells #[] 74)) w.heap.size 33 ty 74 i0 (oneV (0, ⟨#[]⟩)) 2 24 Tryz.underlying33 hi hz0 hz1 hz2 rfl (by decide) _ 0 [] hEm ⟨gL, 0, none⟩ k c ((E.take k).flatMap cellsR) (by rw [flat_lenR, htk])
    (fun j u hu => by
      rw [WideShapes.add_plain, Nat.zero_add]
      refine hcell _ hBel j u ?_
      have hj := (List.getElem?_eq_some_iff.1 hu).1
      rw [← List.take_append_drop k E, List.flatMap_append, List.getElem?_append_left hj]
      exact hu) (onecellsR _) (by unfold maxLen; omega) (by omega) hBel.size
  have hB8 : Below w.heap.size w w8 := hBel.grown g8 hBel.size (fun q hq => by cases hq; exact Nat.le_refl _)
  rw [List.nil_append, Nat.zero_add] at o8
  obtain ⟨a8, n8, c8, rfl⟩ : ∃ a8 n8 c8, v8 = .slice a8 n8 c8 := by
    rcases o8.2 with ⟨hv, h0⟩ | ⟨g, cap, cur, hv, _⟩
    · exact ⟨_, _, _, hv⟩
    · exact ⟨_, _, _, hv⟩
  have hb8 := (hB8.block cb hcb1).trans hb
  refine ⟨a8, n8, c8, w8, r8, by unfold World.cell?; rw [hb8]; rfl, fun ty2 => ?_⟩
  obtain ⟨v9, w9, r9, o9, g9, _⟩ := run_append_own (P := Tryz.prog) (w := w8) w.heap.size 33 ty2 74 i0 (oneV (0, ⟨#[]⟩)) 2 24 Tryz.underlying33 hi hz0 hz1 hz2 rfl (by decide) _ k _ o8 aS (E.length - (k + 1)) (c - (k + 1)) ((E.drop (k + 1)).flatMap cellsR) (by rw [flat_lenR, hdr])
    (fun j u hu => by
      have hj0 := (List.getElem?_eq_some_iff.1 hu).1
      rw [flat_lenR, hdr] at hj0
      obtain rfl := haS.resolve_right (fun e => by omega)
      rw [WideShapes.add_plain]
      refine hcell _ hB8 ((k + 1) * 2 + j) u ?_
      have hl : ((E.take (k + 1)).flatMap cellsR).length = (k + 1) * 2 := by rw [flat_lenR, List.length_take, Nat.min_eq_left (by omega)]
      rw [← List.take_append_drop (k + 1) E, List.flatMap_append, List.getElem?_append_right (by rw [hl]; omega), hl, Nat.add_sub_cancel_left]
      exact hu) (onecellsR _) (by unfold maxLen; omega) (by omega) hB8.size
  have hB9 : Below w.heap.size w w9 := hB8.grown g9 hB8.size (fun q hq => (o8.lt q hq).1)
  obtain ⟨a9, n9, c9, rfl⟩ : ∃ a9 n9 c9, v9 = .slice a9 n9 c9 := by
    rcases o9.2 with ⟨hv, h0⟩ | ⟨g, cap, cur, hv, _⟩
    · exact ⟨_, _, _, hv⟩
    · exact ⟨_, _, _, hv⟩
  have hb9 := (hB9.block cb hcb1).trans hb
  have hlen : k + (E.length - (k + 1)) = (E.take k ++ E.drop (k + 1)).length := by rw [List.length_append, htk, hdr]
  rw [← List.flatMap_append, hlen] at o9
  have ho9 : OwR w9 0 (.slice a9 n9 c9) (E.take k ++ E.drop (k + 1)) := Dk.own_base o9 (Nat.zero_le _)
  obtain ⟨⟨k1, k2, k3⟩, k4, k5⟩ := ref_turn h (Chg.refl F w) (Chg.of_below hB9) hb9 ho9 (.inr (fun g hg => (o9.lt g hg).1))
  exact ⟨a9, n9, c9, w9, r9, k1, k2, k4⟩
theorem place_at {E : List Ent} {z : Int} {k : Nat} (h : placeE E z = (k : Nat)) : k < E.length ∧ ∃ x, E[k]? = some x ∧ (x.1 : Int) = z := by
  unfold placeE at h
  cases hf : E.findIdx? (fun p => decide ((p.1 : Int) = z)) with
  | none => rw [hf] at h; simp at h
  | some i =>
    rw [hf] at h
    simp only at h
    obtain rfl : i = k := by omega
    obtain ⟨h1, h2, _⟩ := List.findIdx?_eq_some_iff_getElem.1 hf
    exact ⟨h1, E[i], List.getElem?_eq_getElem h1, by simpa using h2⟩
theorem place_neg (E : List Ent) (z : Int) : placeE E z = -1 ∨ ∃ k : Nat, placeE E z = (k : Nat) := by
  unfold placeE
  cases E.findIdx? (fun p => decide ((p.1 : Int) = z)) with
  | none => exact .inl rfl
  | some i => exact .inr ⟨i, rfl⟩
set_option maxRecDepth 100000 in
set_option maxHeartbeats 4000000 in
theorem rDrop_any (cb M : Nat) {F : Nat → Prop} {E : List Ent} (z : Int) (w : World) (h : RefC cb w F (E, M)) (hE : E.length ≤ 1000000) (hEs : ∀ p ∈ E, p.1 ≤ 1000000000) {k : Nat} (hk : placeE E z = (k : Nat)) :
    Calls Tryz.prog 13 #[.pointer (some ⟨cb, 0, none⟩), .int .i64 z] w fun e w' => e = .returned (.bool true) ∧ LeftA (RefC cb) w F (E.take k ++ E.drop (k + 1), M) w' := by
  obtain ⟨v, h⟩ := h
  obtain ⟨hkl, _⟩ := place_at hk
  have hb := h.blk
  obtain ⟨a, c, hv, hs, hnc, hcm⟩ := OwR.form h.row
  simp only at hb hv hs hnc
  have c0 : w.cell? ⟨cb, 0, none⟩ = some (.slice a E.length c) := by unfold World.cell?; rw [hb, ← hv]; rfl
  have cp := place_any cb a E.length c E z w c0 hs hnc hE hEs
  rw [hk] at cp
  have HKEEP := Lib.hid (fun V (hV : Below w.heap.size w V) => (⟨(hV.block cb (Array.getElem?_eq_some_iff.1 hb).1).trans hb, row_kept h.row (fun g hg => hV.block g (h.row.lt g hg).2), h.ne, h.foot⟩ : RAt cb v V F (E, M)))
  obtain ⟨gL, rfl⟩ : ∃ gL, a = some ⟨gL, 0, none⟩ := by
    rcases h.row.2 with ⟨e, h0⟩ | ⟨g, cap, cur, e, _⟩
    · rw [show E.length = 0 from h0] at hkl; omega
    · rw [hv] at e
      injection e with e _ _
      exact ⟨g, e⟩
  subst hv
  have HLEFT := Lib.hid (fun V (hV : Below w.heap.size w V) {y : List Ent × Nat} {W9 : World} (hl : LeftA (RefC cb) V F y W9) => (by
    obtain ⟨F', l1, l2, l3⟩ := hl
    exact ⟨F', l1, (Chg.of_below hV).trans l2 (fun g hg => .inl hg), fun g hg => (l3 g hg).imp id (fun hh => Nat.le_trans hV.size hh)⟩ : LeftA (RefC cb) w F y W9))
  obtain ⟨n, hn⟩ : ∃ n, n = E.length := ⟨_, rfl⟩
  have HN := Lib.hid hn
  have hcm' := hcm
  unfold maxLen at hcm'
  have hkz : ¬ (k : Int) < 0 := by omega
  have hkn : (k : Int) ≤ (n : Int) := by omega
  have hkc : (k : Int) ≤ (c : Int) := by omega
  have hkn1 : k < n := by omega
  have hnc' : n ≤ c := by omega
  clear h hb hs c0 hk hn hnc hcm
  rw [← HN.out] at hkl
  go_enter Tryz.func13, Tryz.ntmps13
  go_wp2_with fail
  go_at_call 34
  refine cp.mono ?_
  rintro e w1 ⟨rfl, hb1⟩
  have hat := HKEEP.out w1 hb1
  have HB1 := Lib.hid hb1
  have hb := hat.blk
  simp only at hb
  have g0 : w1.cell? ⟨cb, 0, none⟩ = some (.slice (some ⟨gL, 0, none⟩) n c) := by unfold World.cell?; rw [hb, ← HN.out]; rfl
  have hcl : cb < w1.heap.size := (Array.getElem?_eq_some_iff.1 hb).1
  have HCUT := Lib.hid (ref_cut (aS := if c = k + 1 then ⟨gL, 0, none⟩ else ⟨gL, (k + 1) * 2, none⟩) (by rw [← HN.out]; by_cases hc : c = k + 1; exact .inr (by omega); exact .inl (if_neg hc)) hat (k := k) (by rw [← HN.out]; exact hkl) hE)
  rw [← HN.out] at HCUT
  have G0 := Lib.hid g0
  clear cp hb1 hat hb g0
  go_wp2_with fail
  have HL2 := (((Below.refl w1.heap.size w1).alloc (Nat.le_refl _) (.cells #[] 74)).cell (p := ⟨cb, 0, none⟩) hcl).trans G0.out
  refine Rg.wp_only ?_ (regRDrop _ (by kernel_rfl) _ cb gL n c k (if c = k + 1 then ⟨gL, 0, none⟩ else ⟨gL, (k + 1) * 2, none⟩) w1 (fun v9 W => LeftA (RefC cb) w1 F (E.take k ++ E.drop (k + 1), M) (W.setCell ⟨cb, 0, none⟩ v9)) hkn hkc (by omega) (fun V => ?hsl) G0.out HL2 HCUT.out)
  case hsl =>
    have h1 : (k : Int) + 1 ≤ (n : Int) := by omega
    have h2 : (n : Int) ≤ (c : Int) := by omega
    have h3 : ((k : Int) + 1).toNat = k + 1 := by omega
    go_simp
    rw [if_pos (by omega)]
    by_cases hc : c = k + 1
    · rw [if_pos hc, if_pos hc]
    · rw [if_neg hc, if_neg hc]
  rintro _ w9 ⟨z8, a8, n8, c8, a9, n9, c9, w8, rfl, rfl, hl⟩
  have HL := Lib.hid (HLEFT.out w1 HB1.out hl)
  generalize (if c = k + 1 then (⟨gL, 0, none⟩ : Addr) else ⟨gL, (k + 1) * 2, none⟩) = aS
  clear hl HL2 HCUT
  go_wp2_with fail
  go_ret
  exact ⟨rfl, HL.out⟩
set_option maxRecDepth 100000 in
set_option maxHeartbeats 4000000 in
theorem rDrop_none (cb M : Nat) {F : Nat → Prop} {E : List Ent} (z : Int) (w : World) (h : RefC cb w F (E, M)) (hE : E.length ≤ 1000000) (hEs : ∀ p ∈ E, p.1 ≤ 1000000000) (hk : placeE E z = -1) :
    Calls Tryz.prog 13 #[.pointer (some ⟨cb, 0, none⟩), .int .i64 z] w fun e w' => e = .returned (.bool false) ∧ Below w.heap.size w w' := by
  obtain ⟨v, h⟩ := h
  have hb := h.blk
  obtain ⟨a, c, hv, hs, hnc, hcm⟩ := OwR.form h.row
  simp only at hb hv hs hnc
  have c0 : w.cell? ⟨cb, 0, none⟩ = some (.slice a E.length c) := by unfold World.cell?; rw [hb, ← hv]; rfl
  have cp := place_any cb a E.length c E z w c0 hs hnc hE hEs
  rw [hk] at cp
  clear h hb hs c0 hk hv hnc hcm
  go_enter Tryz.func13, Tryz.ntmps13
  go_wp2_with fail
  go_at_call 34
  refine cp.mono ?_
  rintro e w1 ⟨rfl, hb1⟩
  go_wp2_with fail
  go_ret
  exact ⟨rfl, hb1⟩
end Go.Proofs.YtdfcbnejnnibpaaGreatDoor.Cn

namespace Go.Proofs.YtdfcbnejnnibpaaGreatDoor.Cn
open Go.RowKit Tx Pm Dk Wm Wr Wl Pl Tb Bl
set_option linter.unusedVariables false
set_option linter.unusedSimpArgs false
set_option linter.unnecessarySimpa false
section
variable {w0 : World × (Nat → Prop)} {W : World} {b j t m u M S N V : Nat} {x : Tst} {C : List Vn} {D : Nat → ByteArray}
theorem bc_versions (h : Bc b j t m u x w0 C D M S N V W) (hx : Xk x) (hM : M ≤ 10000000) (hN : N ≤ 10000000) :
    Calls Tryz.prog 31 #[.pointer (some ⟨u, 0, none⟩)] W fun e w' => ∃ v, e = .returned v ∧ OwI w' W.heap.size v (ids C) ∧ Below W.heap.size W w' := by
  obtain ⟨l, r, h1, h2, h3, h4, h5, _⟩ := h
  exact versions_any h1 hx (by omega) h5 h2 h3 (by omega)
theorem len_add (C : List Vn) (M : Nat) (d : ByteArray) (n : Int) : (addC C M d n).length = C.length + 1 := by
  unfold addC
  rw [List.length_append]
  rfl
end
end Go.Proofs.YtdfcbnejnnibpaaGreatDoor.Cn

namespace Go.Proofs.YtdfcbnejnnibpaaGreatDoor.Rg
open Go.RowKit
set_option linter.unusedVariables false
section
variable {P : Program} {ops : Array Oper} {R : Act → World → Prop} {S : World → Prop}
theorem load1 (i : Nat) (d : Option Tmp) {T : TypeId} {x : Operand} {vx v : Value} {fuel : Nat} {listed : Array Bool} {a : Act} {w : World}
    (hi : decide (i < ops.size) = true) (hd : (opOf ops i).dst = d) (hr : Region.ready .any ops listed = [i])
    (hw : Region.wanted (opOf ops i) (yielded ops a.tmps) = true) (ho : (opOf ops i).op = .load T x) (hx : a.eval x = vx)
    (hv : (Instr.loadAt T vx).run P w = .ok v w) (hS : S w) (h : wpAnyH P .any ops (Only R) S fuel (listed.setIfInBounds i true) (a.put d v) w) :
    wpAnyH P .any ops (Only R) S (fuel + 1) listed a w := one hr (op_load i d hi hd hw ho hx hv hS h)
end
end Go.Proofs.YtdfcbnejnnibpaaGreatDoor.Rg
namespace Go.Proofs.YtdfcbnejnnibpaaGreatDoor.Cn
open Go.RowKit
set_option linter.unusedVariables false
set_option linter.unusedSimpArgs false
set_option linter.unnecessarySimpa false
def Al4 (gI oI cb gE oE n cE k id : Nat) (s : ByteArray) (V : World) : Prop := V.cell? ⟨gI, oI + k, none⟩ = some (.int .i64 (id : Nat)) ∧ V.cell? ⟨cb, 0, none⟩ = some (.slice (some ⟨gE, oE, none⟩) n cE) ∧ V.cell? ⟨gE, oE + k * 2, none⟩ = some (.int .i64 (id : Nat)) ∧ V.cell? ⟨gE, oE + k * 2 + 1, none⟩ = some (.string s)
set_option maxRecDepth 100000 in
set_option maxHeartbeats 4000000 in
theorem regEach (ops : Array Oper) (hops : ops = (Rg.opsOf Tryz.f15 10)) (idr : Nat) (gI oI cb gE oE n cI cE k id : Nat) (s : ByteArray) (dep : Int) {u0 u2 u3 u4 u5 u6 u8 u13 u14 u15 u16 u17 u18 u19 u20 u21 u22 u23 u24 u25 u26 u27 u28 u29 u30 u31 u32 u33 u34 u35 u36 u37 u38 u39 u40 u41 u42 u43 u44 u45 u46 u47 u48 u49 u50 u51 u52 u53 u54 u55 u56 u57 u58 u59 u60 u61 u62 u63 u64 u65 u66 u67 u68 u69 u70 u71 u72 u73 u74 u75 u76 u77 u78 u79 u80 u81 u82 u83 u84 u85 u86 u87 u88 u89 u90 u91 u92 u93 u94 u95 u96 u97 u98 u99 u100 u101 u102 u103 u104 u105 u106 u107 u108 u109 u110 u111 u112 u113 u114 u115 u116 u117 u118 u119 u120 u121 u122 u123 u124 u125 u126 u127 u128 u129 u130 u131 u132 u133 u134 u135 u136 u137 u138 u139 u140 u141 u142 u143 u144 u145 u146 u147 u148 u149 u150 u151 : Value} (w : World) (hkn : (k : Int) < (n : Int)) (hd0 : 0 ≤ dep) (hd4 : dep ≤ 4)
    (hS : Al4 gI oI cb gE oE n cE k id s w) :
    (Code.region idr ops true).wp Tryz.prog (Rg.Only fun a' w' => a' = ⟨#[u0, (.pointer (some ⟨cb, 0, none⟩)), u2, u3, u4, u5, u6, (.slice (some ⟨gI, oI, none⟩) n cI), u8, (.int .i64 (k : Nat)), (.string s), (.int .i64 0), (.int .i64 dep), u13, u14, u15, u16, u17, u18, u19, u20, u21, u22, u23, u24, u25, u26, u27, u28, u29, u30, u31, u32, u33, u34, u35, u36, u37, u38, u39, u40, u41, u42, u43, u44, u45, u46, (.slice (some ⟨gI, oI, none⟩) n cI), (.int .i64 (k : Nat)), (.pointer (some ⟨gI, oI + k, none⟩)), (.int .i64 (id : Nat)), (.pointer (some ⟨cb, 0, none⟩)), (.pointer (some ⟨cb, 0, none⟩)), (.pointer (some ⟨cb, 0, none⟩)), (.slice (some ⟨gE, oE, none⟩) n cE), (.int .i64 (k : Nat)), (.pointer (some ⟨gE, oE + k * 2, none⟩)), (.pointer (some ⟨gE, oE + k * 2, none⟩)), (.int .i64 (id : Nat)), (.bool false), (.bool false), (.string s), (.pointer (some ⟨cb, 0, none⟩)), (.pointer (some ⟨cb, 0, none⟩)), (.pointer (some ⟨cb, 0, none⟩)), (.slice (some ⟨gE, oE, none⟩) n cE), (.int .i64 (k : Nat)), (.pointer (some ⟨gE, oE + k * 2, none⟩)), (.pointer (some ⟨gE, oE + k * 2 + 1, none⟩)), (.string s), (.bool false), (.bool false), (.bool false), (.int .i64 0), (.bool false), (.bool false), (.bool false), (.int .i64 dep), (.bool false), (.bool false), (.bool false), (.int .i64 dep), (.bool false), (.bool false), u84, u85, u86, u87, u88, u89, u90, u91, u92, u93, u94, u95, u96, u97, u98, u99, u100, u101, u102, u103, u104, u105, u106, u107, u108, u109, u110, u111, u112, u113, u114, u115, u116, u117, u118, u119, u120, u121, u122, u123, u124, u125, u126, u127, u128, u129, u130, u131, u132, u133, u134, u135, u136, u137, u138, u139, u140, u141, u142, u143, u144, u145, u146, u147, u148, u149, u150, u151], []⟩ ∧ w' = w.drew) ⟨#[u0, (.pointer (some ⟨cb, 0, none⟩)), u2, u3, u4, u5, u6, (.slice (some ⟨gI, oI, none⟩) n cI), u8, (.int .i64 (k : Nat)), (.string s), (.int .i64 0), (.int .i64 dep), u13, u14, u15, u16, u17, u18, u19, u20, u21, u22, u23, u24, u25, u26, u27, u28, u29, u30, u31, u32, u33, u34, u35, u36, u37, u38, u39, u40, u41, u42, u43, u44, u45, u46, u47, u48, u49, u50, u51, u52, u53, u54, u55, u56, u57, u58, u59, u60, u61, u62, u63, u64, u65, u66, u67, u68, u69, u70, u71, u72, u73, u74, u75, u76, u77, u78, u79, u80, u81, u82, u83, u84, u85, u86, u87, u88, u89, u90, u91, u92, u93, u94, u95, u96, u97, u98, u99, u100, u101, u102, u103, u104, u105, u106, u107, u108, u109, u110, u111, u112, u113, u114, u115, u116, u117, u118, u119, u120, u121, u122, u123, u124, u125, u126, u127, u128, u129, u130, u131, u132, u133, u134, u135, u136, u137, u138, u139, u140, u141, u142, u143, u144, u145, u146, u147, u148, u149, u150, u151], []⟩ w := by
  subst hops
  have hNS : Region.noSelect (Rg.opsOf Tryz.f15 10) = true := by kernel_rfl
  refine wp_region_held_drew (S := Al4 gI oI cb gE oE n cE k id s) (by kernel_rfl) hS (fun hHeld => ?_)
  rw [show (Rg.opsOf Tryz.f15 10).size = 37 by kernel_rfl]
  refine Rg.take (ops := (Rg.opsOf Tryz.f15 10)) 0 (some 47) ((.slice (some ⟨gI, oI, none⟩) n cI)) hNS (by kernel_rfl) (by kernel_rfl) (by kernel_rfl) (by kernel_rfl) (by kernel_rfl) hHeld (Rg.y_move (x := (Operand.tmp 7)) (Or.inl (by kernel_rfl)) (by kernel_rfl)) ?_
  refine Rg.take (ops := (Rg.opsOf Tryz.f15 10)) 1 (some 48) ((.int .i64 (k : Nat))) hNS (by kernel_rfl) (by kernel_rfl) (by kernel_rfl) (by kernel_rfl) (by kernel_rfl) hHeld (Rg.y_move (x := (Operand.tmp 9)) (Or.inl (by kernel_rfl)) (by kernel_rfl)) ?_
  refine Rg.take (ops := (Rg.opsOf Tryz.f15 10)) 2 (some 49) ((.pointer (some ⟨gI, oI + k, none⟩))) hNS (by kernel_rfl) (by kernel_rfl) (by kernel_rfl) (by kernel_rfl) (by kernel_rfl) hHeld (Rg.y_at (T := 46) (x := (Operand.tmp 47)) (y := (Operand.tmp 48)) (vx := (.slice (some ⟨gI, oI, none⟩) n cI)) (vy := (.int .i64 (k : Nat))) (by kernel_rfl) (by kernel_rfl) (by kernel_rfl) ?_) ?_
  · (intro w hSw; clear hSw; have h1 := hkn; go_simp)
  refine Rg.take (ops := (Rg.opsOf Tryz.f15 10)) 3 (some 50) ((.int .i64 (id : Nat))) hNS (by kernel_rfl) (by kernel_rfl) (by kernel_rfl) (by kernel_rfl) (by kernel_rfl) hHeld (Rg.y_load (T := 3) (x := (Operand.tmp 49)) (vx := (.pointer (some ⟨gI, oI + k, none⟩))) (by kernel_rfl) (by kernel_rfl) ?_) ?_
  · (intro w hSw; obtain ⟨s0, s1, s2, s3⟩ := hSw; go_simp)
  refine Rg.take (ops := (Rg.opsOf Tryz.f15 10)) 4 (some 51) ((.pointer (some ⟨cb, 0, none⟩))) hNS (by kernel_rfl) (by kernel_rfl) (by kernel_rfl) (by kernel_rfl) (by kernel_rfl) hHeld (Rg.y_move (x := (Operand.tmp 1)) (Or.inl (by kernel_rfl)) (by kernel_rfl)) ?_
  refine Rg.take (ops := (Rg.opsOf Tryz.f15 10)) 5 (some 52) ((.pointer (some ⟨cb, 0, none⟩))) hNS (by kernel_rfl) (by kernel_rfl) (by kernel_rfl) (by kernel_rfl) (by kernel_rfl) hHeld (Rg.y_nil (x := (Operand.tmp 51)) (by kernel_rfl) (by kernel_rfl)) ?_
  refine Rg.take (ops := (Rg.opsOf Tryz.f15 10)) 6 (some 53) ((.pointer (some ⟨cb, 0, none⟩))) hNS (by kernel_rfl) (by kernel_rfl) (by kernel_rfl) (by kernel_rfl) (by kernel_rfl) hHeld (Rg.y_field (T := 35) (k := 0) (x := (Operand.tmp 52)) (vx := (.pointer (some ⟨cb, 0, none⟩))) (by kernel_rfl) (by kernel_rfl) ?_) ?_
  · (intro w hSw; clear hSw; go_simp)
  refine Rg.take (ops := (Rg.opsOf Tryz.f15 10)) 7 (some 54) ((.slice (some ⟨gE, oE, none⟩) n cE)) hNS (by kernel_rfl) (by kernel_rfl) (by kernel_rfl) (by kernel_rfl) (by kernel_rfl) hHeld (Rg.y_load (T := 33) (x := (Operand.tmp 53)) (vx := (.pointer (some ⟨cb, 0, none⟩))) (by kernel_rfl) (by kernel_rfl) ?_) ?_
  · (intro w hSw; obtain ⟨s0, s1, s2, s3⟩ := hSw; go_simp)
  refine Rg.take (ops := (Rg.opsOf Tryz.f15 10)) 8 (some 55) ((.int .i64 (k : Nat))) hNS (by kernel_rfl) (by kernel_rfl) (by kernel_rfl) (by kernel_rfl) (by kernel_rfl) hHeld (Rg.y_move (x := (Operand.tmp 9)) (Or.inl (by kernel_rfl)) (by kernel_rfl)) ?_
  refine Rg.take (ops := (Rg.opsOf Tryz.f15 10)) 9 (some 56) ((.pointer (some ⟨gE, oE + k * 2, none⟩))) hNS (by kernel_rfl) (by kernel_rfl) (by kernel_rfl) (by kernel_rfl) (by kernel_rfl) hHeld (Rg.y_at (T := 33) (x := (Operand.tmp 54)) (y := (Operand.tmp 55)) (vx := (.slice (some ⟨gE, oE, none⟩) n cE)) (vy := (.int .i64 (k : Nat))) (by kernel_rfl) (by kernel_rfl) (by kernel_rfl) ?_) ?_
  · (intro w hSw; clear hSw; have h1 := hkn; go_simp)
  refine Rg.take (ops := (Rg.opsOf Tryz.f15 10)) 10 (some 57) ((.pointer (some ⟨gE, oE + k * 2, none⟩))) hNS (by kernel_rfl) (by kernel_rfl) (by kernel_rfl) (by kernel_rfl) (by kernel_rfl) hHeld (Rg.y_field (T := 74) (k := 0) (x := (Operand.tmp 56)) (vx := (.pointer (some ⟨gE, oE + k * 2, none⟩))) (by kernel_rfl) (by kernel_rfl) ?_) ?_
  · (intro w hSw; clear hSw; go_simp)
  refine Rg.take (ops := (Rg.opsOf Tryz.f15 10)) 11 (some 58) ((.int .i64 (id : Nat))) hNS (by kernel_rfl) (by kernel_rfl) (by kernel_rfl) (by kernel_rfl) (by kernel_rfl) hHeld (Rg.y_load (T := 3) (x := (Operand.tmp 57)) (vx := (.pointer (some ⟨gE, oE + k * 2, none⟩))) (by kernel_rfl) (by kernel_rfl) ?_) ?_
  · (intro w hSw; obtain ⟨s0, s1, s2, s3⟩ := hSw; go_simp)
  refine Rg.take (ops := (Rg.opsOf Tryz.f15 10)) 12 (some 59) ((.bool false)) hNS (by kernel_rfl) (by kernel_rfl) (by kernel_rfl) (by kernel_rfl) (by kernel_rfl) hHeld (Rg.y_bin (b := BinOp.neq) (T := 3) (R' := 3) (x := (Operand.tmp 50)) (y := (Operand.tmp 58)) (vx := (.int .i64 (id : Nat))) (vy := (.int .i64 (id : Nat))) (by kernel_rfl) (by kernel_rfl) (by kernel_rfl) ?_) ?_
  · (intro w hSw; clear hSw; go_simp)
  refine Rg.take (ops := (Rg.opsOf Tryz.f15 10)) 13 (some 60) ((.bool false)) hNS (by kernel_rfl) (by kernel_rfl) (by kernel_rfl) (by kernel_rfl) (by kernel_rfl) hHeld (Rg.y_move (x := (Operand.tmp 59)) (Or.inl (by kernel_rfl)) (by kernel_rfl)) ?_
  refine Rg.take (ops := (Rg.opsOf Tryz.f15 10)) 14 (some 61) ((.string s)) hNS (by kernel_rfl) (by kernel_rfl) (by kernel_rfl) (by kernel_rfl) (by kernel_rfl) hHeld (Rg.y_move (x := (Operand.tmp 10)) (Or.inl (by kernel_rfl)) (by kernel_rfl)) ?_
  refine Rg.take (ops := (Rg.opsOf Tryz.f15 10)) 15 (some 62) ((.pointer (some ⟨cb, 0, none⟩))) hNS (by kernel_rfl) (by kernel_rfl) (by kernel_rfl) (by kernel_rfl) (by kernel_rfl) hHeld (Rg.y_move (x := (Operand.tmp 1)) (Or.inl (by kernel_rfl)) (by kernel_rfl)) ?_
  refine Rg.take (ops := (Rg.opsOf Tryz.f15 10)) 16 (some 63) ((.pointer (some ⟨cb, 0, none⟩))) hNS (by kernel_rfl) (by kernel_rfl) (by kernel_rfl) (by kernel_rfl) (by kernel_rfl) hHeld (Rg.y_nil (x := (Operand.tmp 62)) (by kernel_rfl) (by kernel_rfl)) ?_
  refine Rg.take (ops := (Rg.opsOf Tryz.f15 10)) 17 (some 64) ((.pointer (some ⟨cb, 0, none⟩))) hNS (by kernel_rfl) (by kernel_rfl) (by kernel_rfl) (by kernel_rfl) (by kernel_rfl) hHeld (Rg.y_field (T := 35) (k := 0) (x := (Operand.tmp 63)) (vx := (.pointer (some ⟨cb, 0, none⟩))) (by kernel_rfl) (by kernel_rfl) ?_) ?_
  · (intro w hSw; clear hSw; go_simp)
  refine Rg.take (ops := (Rg.opsOf Tryz.f15 10)) 18 (some 65) ((.slice (some ⟨gE, oE, none⟩) n cE)) hNS (by kernel_rfl) (by kernel_rfl) (by kernel_rfl) (by kernel_rfl) (by kernel_rfl) hHeld (Rg.y_load (T := 33) (x := (Operand.tmp 64)) (vx := (.pointer (some ⟨cb, 0, none⟩))) (by kernel_rfl) (by kernel_rfl) ?_) ?_
  · (intro w hSw; obtain ⟨s0, s1, s2, s3⟩ := hSw; go_simp)
  refine Rg.take (ops := (Rg.opsOf Tryz.f15 10)) 19 (some 66) ((.int .i64 (k : Nat))) hNS (by kernel_rfl) (by kernel_rfl) (by kernel_rfl) (by kernel_rfl) (by kernel_rfl) hHeld (Rg.y_move (x := (Operand.tmp 9)) (Or.inl (by kernel_rfl)) (by kernel_rfl)) ?_
  refine Rg.take (ops := (Rg.opsOf Tryz.f15 10)) 20 (some 67) ((.pointer (some ⟨gE, oE + k * 2, none⟩))) hNS (by kernel_rfl) (by kernel_rfl) (by kernel_rfl) (by kernel_rfl) (by kernel_rfl) hHeld (Rg.y_at (T := 33) (x := (Operand.tmp 65)) (y := (Operand.tmp 66)) (vx := (.slice (some ⟨gE, oE, none⟩) n cE)) (vy := (.int .i64 (k : Nat))) (by kernel_rfl) (by kernel_rfl) (by kernel_rfl) ?_) ?_
  · (intro w hSw; clear hSw; have h1 := hkn; go_simp)
  refine Rg.take (ops := (Rg.opsOf Tryz.f15 10)) 21 (some 68) ((.pointer (some ⟨gE, oE + k * 2 + 1, none⟩))) hNS (by kernel_rfl) (by kernel_rfl) (by kernel_rfl) (by kernel_rfl) (by kernel_rfl) hHeld (Rg.y_field (T := 74) (k := 1) (x := (Operand.tmp 67)) (vx := (.pointer (some ⟨gE, oE + k * 2, none⟩))) (by kernel_rfl) (by kernel_rfl) ?_) ?_
  · (intro w hSw; clear hSw; go_simp)
  refine Rg.take (ops := (Rg.opsOf Tryz.f15 10)) 22 (some 69) ((.string s)) hNS (by kernel_rfl) (by kernel_rfl) (by kernel_rfl) (by kernel_rfl) (by kernel_rfl) hHeld (Rg.y_load (T := 9) (x := (Operand.tmp 68)) (vx := (.pointer (some ⟨gE, oE + k * 2 + 1, none⟩))) (by kernel_rfl) (by kernel_rfl) ?_) ?_
  · (intro w hSw; obtain ⟨s0, s1, s2, s3⟩ := hSw; go_simp)
  refine Rg.take (ops := (Rg.opsOf Tryz.f15 10)) 23 (some 70) ((.bool false)) hNS (by kernel_rfl) (by kernel_rfl) (by kernel_rfl) (by kernel_rfl) (by kernel_rfl) hHeld (Rg.y_bin (b := BinOp.neq) (T := 9) (R' := 9) (x := (Operand.tmp 61)) (y := (Operand.tmp 69)) (vx := (.string s)) (vy := (.string s)) (by kernel_rfl) (by kernel_rfl) (by kernel_rfl) ?_) ?_
  · (intro w hSw; clear hSw; go_simp)
  refine Rg.take (ops := (Rg.opsOf Tryz.f15 10)) 24 (some 71) ((.bool false)) hNS (by kernel_rfl) (by kernel_rfl) (by kernel_rfl) (by kernel_rfl) (by kernel_rfl) hHeld (Rg.y_pick (c := (Operand.tmp 60)) (x := (Operand.const (Value.bool true))) (y := (Operand.tmp 70)) (b := false) (by kernel_rfl) (by kernel_rfl) (by kernel_rfl)) ?_
  refine Rg.take (ops := (Rg.opsOf Tryz.f15 10)) 25 (some 72) ((.bool false)) hNS (by kernel_rfl) (by kernel_rfl) (by kernel_rfl) (by kernel_rfl) (by kernel_rfl) hHeld (Rg.y_move (x := (Operand.tmp 71)) (Or.inl (by kernel_rfl)) (by kernel_rfl)) ?_
  refine Rg.take (ops := (Rg.opsOf Tryz.f15 10)) 26 (some 73) ((.int .i64 0)) hNS (by kernel_rfl) (by kernel_rfl) (by kernel_rfl) (by kernel_rfl) (by kernel_rfl) hHeld (Rg.y_move (x := (Operand.tmp 11)) (Or.inl (by kernel_rfl)) (by kernel_rfl)) ?_
  refine Rg.take (ops := (Rg.opsOf Tryz.f15 10)) 27 (some 74) ((.bool false)) hNS (by kernel_rfl) (by kernel_rfl) (by kernel_rfl) (by kernel_rfl) (by kernel_rfl) hHeld (Rg.y_bin (b := BinOp.neq) (T := 24) (R' := 24) (x := (Operand.tmp 73)) (y := (Operand.const (Value.int IntKind.i64 0))) (vx := (.int .i64 0)) (vy := (Value.int IntKind.i64 0)) (by kernel_rfl) (by kernel_rfl) (by kernel_rfl) ?_) ?_
  · (intro w hSw; clear hSw; go_simp)
  refine Rg.take (ops := (Rg.opsOf Tryz.f15 10)) 28 (some 75) ((.bool false)) hNS (by kernel_rfl) (by kernel_rfl) (by kernel_rfl) (by kernel_rfl) (by kernel_rfl) hHeld (Rg.y_pick (c := (Operand.tmp 72)) (x := (Operand.const (Value.bool true))) (y := (Operand.tmp 74)) (b := false) (by kernel_rfl) (by kernel_rfl) (by kernel_rfl)) ?_
  refine Rg.take (ops := (Rg.opsOf Tryz.f15 10)) 29 (some 76) ((.bool false)) hNS (by kernel_rfl) (by kernel_rfl) (by kernel_rfl) (by kernel_rfl) (by kernel_rfl) hHeld (Rg.y_move (x := (Operand.tmp 75)) (Or.inl (by kernel_rfl)) (by kernel_rfl)) ?_
  refine Rg.take (ops := (Rg.opsOf Tryz.f15 10)) 30 (some 77) ((.int .i64 dep)) hNS (by kernel_rfl) (by kernel_rfl) (by kernel_rfl) (by kernel_rfl) (by kernel_rfl) hHeld (Rg.y_move (x := (Operand.tmp 12)) (Or.inl (by kernel_rfl)) (by kernel_rfl)) ?_
  refine Rg.take (ops := (Rg.opsOf Tryz.f15 10)) 31 (some 78) ((.bool false)) hNS (by kernel_rfl) (by kernel_rfl) (by kernel_rfl) (by kernel_rfl) (by kernel_rfl) hHeld (Rg.y_bin (b := BinOp.lss) (T := 3) (R' := 3) (x := (Operand.tmp 77)) (y := (Operand.const (Value.int IntKind.i64 0))) (vx := (.int .i64 dep)) (vy := (Value.int IntKind.i64 0)) (by kernel_rfl) (by kernel_rfl) (by kernel_rfl) ?_) ?_
  · (intro w hSw; clear hSw; have h1 := hd0; go_simp)
  refine Rg.take (ops := (Rg.opsOf Tryz.f15 10)) 32 (some 79) ((.bool false)) hNS (by kernel_rfl) (by kernel_rfl) (by kernel_rfl) (by kernel_rfl) (by kernel_rfl) hHeld (Rg.y_pick (c := (Operand.tmp 76)) (x := (Operand.const (Value.bool true))) (y := (Operand.tmp 78)) (b := false) (by kernel_rfl) (by kernel_rfl) (by kernel_rfl)) ?_
  refine Rg.take (ops := (Rg.opsOf Tryz.f15 10)) 33 (some 80) ((.bool false)) hNS (by kernel_rfl) (by kernel_rfl) (by kernel_rfl) (by kernel_rfl) (by kernel_rfl) hHeld (Rg.y_move (x := (Operand.tmp 79)) (Or.inl (by kernel_rfl)) (by kernel_rfl)) ?_
  refine Rg.take (ops := (Rg.opsOf Tryz.f15 10)) 34 (some 81) ((.int .i64 dep)) hNS (by kernel_rfl) (by kernel_rfl) (by kernel_rfl) (by kernel_rfl) (by kernel_rfl) hHeld (Rg.y_move (x := (Operand.tmp 12)) (Or.inl (by kernel_rfl)) (by kernel_rfl)) ?_
  refine Rg.take (ops := (Rg.opsOf Tryz.f15 10)) 35 (some 82) ((.bool false)) hNS (by kernel_rfl) (by kernel_rfl) (by kernel_rfl) (by kernel_rfl) (by kernel_rfl) hHeld (Rg.y_bin (b := BinOp.gtr) (T := 3) (R' := 3) (x := (Operand.tmp 81)) (y := (Operand.const (Value.int IntKind.i64 4))) (vx := (.int .i64 dep)) (vy := (Value.int IntKind.i64 4)) (by kernel_rfl) (by kernel_rfl) (by kernel_rfl) ?_) ?_
  · (intro w hSw; clear hSw; have h1 := hd4; go_simp)
  refine Rg.take (ops := (Rg.opsOf Tryz.f15 10)) 36 (some 83) ((.bool false)) hNS (by kernel_rfl) (by kernel_rfl) (by kernel_rfl) (by kernel_rfl) (by kernel_rfl) hHeld (Rg.y_pick (c := (Operand.tmp 80)) (x := (Operand.const (Value.bool true))) (y := (Operand.tmp 82)) (b := false) (by kernel_rfl) (by kernel_rfl) (by kernel_rfl)) ?_
  refine Rg.done (ops := (Rg.opsOf Tryz.f15 10)) (by kernel_rfl) ?_
  exact ⟨by kernel_rfl, rfl⟩
set_option maxRecDepth 100000 in
set_option maxHeartbeats 4000000 in
theorem regNone (ops : Array Oper) (hops : ops = (Rg.opsOf Tryz.f15 20)) (idr : Nat) (ub cb n c7 id : Nat) (a7 : Option Addr) (sum by_ : Int) {u2 u3 u4 u5 u6 u9 u10 u11 u12 u13 u14 u15 u16 u17 u18 u19 u20 u21 u22 u23 u24 u25 u26 u27 u28 u29 u30 u31 u32 u33 u34 u35 u36 u37 u38 u39 u40 u41 u42 u43 u44 u45 u46 u47 u48 u49 u50 u51 u52 u53 u54 u55 u56 u57 u58 u59 u60 u61 u62 u63 u64 u65 u66 u67 u68 u69 u70 u71 u72 u73 u74 u75 u76 u77 u78 u79 u80 u81 u82 u83 u84 u85 u86 u87 u88 u89 u90 u91 u92 u93 u94 u95 u96 u97 u98 u99 u100 u101 u102 u103 u104 u105 u106 u107 u108 u109 u110 u111 u112 u113 u114 u115 u116 u117 u118 u119 u120 u121 u122 u123 u124 u125 u126 u127 u128 u129 u130 u131 u132 u133 u134 u135 u136 u137 u138 u139 u140 u141 u142 u143 u144 u145 u146 u147 u148 u149 u150 u151 : Value} (w : World) (K : World → Prop) (hle : by_ ≤ sum) (hn0 : ((n : Int) == 0) = true)
    (hK : K w.drew) (h0 : ∀ V, K V → True)
    (hA : ∀ V, K V → Calls Tryz.prog 19 #[.pointer (some ⟨ub, 0, none⟩)] V fun e w' => e = .returned (.int .i64 by_) ∧ K w')
    (hV : ∀ V, K V → Calls Tryz.prog 31 #[.pointer (some ⟨ub, 0, none⟩)] V fun e w' => ∃ a8 c8, e = .returned (.slice a8 n c8) ∧ K w' ∧ (0 < n → ∃ g9 o9, a8 = some ⟨g9, o9, none⟩ ∧ w'.cell? ⟨g9, o9, none⟩ = some (.int .i64 (id : Nat)))) :
    (Code.region idr ops true).wp Tryz.prog (Rg.Only fun a' w' => ∃ (a8 : Option Addr) (c8 : Nat), a' = ⟨#[(.pointer (some ⟨ub, 0, none⟩)), (.pointer (some ⟨cb, 0, none⟩)), u2, u3, u4, u5, (Value.bool true), (.slice a7 n c7), (.int .i64 sum), u9, u10, u11, u12, u13, u14, u15, u16, u17, u18, u19, u20, u21, u22, u23, u24, u25, u26, u27, u28, u29, u30, u31, u32, u33, u34, u35, u36, u37, u38, u39, u40, u41, u42, u43, u44, u45, u46, u47, u48, u49, u50, u51, u52, u53, u54, u55, u56, u57, u58, u59, u60, u61, u62, u63, u64, u65, u66, u67, u68, u69, u70, u71, u72, u73, u74, u75, u76, u77, u78, u79, u80, u81, u82, u83, u84, u85, u86, u87, u88, u89, u90, u91, u92, u93, u94, u95, u96, u97, u98, u99, u100, u101, u102, u103, u104, u105, u106, u107, u108, u109, u110, u111, u112, u113, u114, u115, u116, u117, u118, u119, u120, (.pointer (some ⟨ub, 0, none⟩)), (.int .i64 by_), (.int .i64 sum), (.bool true), (.bool true), (.pointer (some ⟨ub, 0, none⟩)), (.slice a8 n c8), (.int .i64 (n : Int)), (.slice a7 n c7), (.int .i64 (n : Int)), (.bool true), (.bool true), (.bool true), (.slice a7 n c7), (.int .i64 (n : Int)), (.bool true), (.bool true), undef, undef, undef, undef, undef, undef, undef, undef, undef, undef, undef, undef, (Value.bool true), (Value.bool true)], []⟩ ∧ K w') ⟨#[(.pointer (some ⟨ub, 0, none⟩)), (.pointer (some ⟨cb, 0, none⟩)), u2, u3, u4, u5, u6, (.slice a7 n c7), (.int .i64 sum), u9, u10, u11, u12, u13, u14, u15, u16, u17, u18, u19, u20, u21, u22, u23, u24, u25, u26, u27, u28, u29, u30, u31, u32, u33, u34, u35, u36, u37, u38, u39, u40, u41, u42, u43, u44, u45, u46, u47, u48, u49, u50, u51, u52, u53, u54, u55, u56, u57, u58, u59, u60, u61, u62, u63, u64, u65, u66, u67, u68, u69, u70, u71, u72, u73, u74, u75, u76, u77, u78, u79, u80, u81, u82, u83, u84, u85, u86, u87, u88, u89, u90, u91, u92, u93, u94, u95, u96, u97, u98, u99, u100, u101, u102, u103, u104, u105, u106, u107, u108, u109, u110, u111, u112, u113, u114, u115, u116, u117, u118, u119, u120, u121, u122, u123, u124, u125, u126, u127, u128, u129, u130, u131, u132, u133, u134, u135, u136, u137, u138, u139, u140, u141, u142, u143, u144, u145, u146, u147, u148, u149, u150, u151], []⟩ w := by
  subst hops
  have hNS : Region.noSelect (Rg.opsOf Tryz.f15 20) = true := by kernel_rfl
  refine wp_region_held_drew (S := fun V => True ∧ K V) (by kernel_rfl) ⟨h0 _ hK, hK⟩ (fun hHeld => ?_)
  rw [show (Rg.opsOf Tryz.f15 20).size = 32 by kernel_rfl]
  refine Rg.take (ops := (Rg.opsOf Tryz.f15 20)) 0 (some 121) ((.pointer (some ⟨ub, 0, none⟩))) hNS (by kernel_rfl) (by kernel_rfl) (by kernel_rfl) (by kernel_rfl) (by kernel_rfl) hHeld (Rg.y_move (x := (Operand.tmp 0)) (Or.inl (by kernel_rfl)) (by kernel_rfl)) ?_
  refine Rg.take (ops := (Rg.opsOf Tryz.f15 20)) 2 (some 123) ((.int .i64 sum)) hNS (by kernel_rfl) (by kernel_rfl) (by kernel_rfl) (by kernel_rfl) (by kernel_rfl) hHeld (Rg.y_move (x := (Operand.tmp 8)) (Or.inl (by kernel_rfl)) (by kernel_rfl)) ?_
  refine Rg.call (ops := (Rg.opsOf Tryz.f15 20)) (fn := Tryz.f19) (xs := #[Operand.tmp 121]) (ats := #[30]) 1 (some 122) 19 #[(.pointer (some ⟨ub, 0, none⟩))] (by kernel_rfl) (by kernel_rfl) (by kernel_rfl) (by kernel_rfl) (by kernel_rfl) Tryz.func19 (by kernel_rfl) (by kernel_rfl) (by kernel_rfl) ?_
  refine (hA _ hHeld.2).mono ?_
  rintro e w5 ⟨rfl, h5⟩
  refine ⟨_, rfl, ⟨h0 _ h5, h5⟩, fun hHeld => ?_⟩
  refine Rg.take (ops := (Rg.opsOf Tryz.f15 20)) 3 (some 124) ((.bool true)) hNS (by kernel_rfl) (by kernel_rfl) (by kernel_rfl) (by kernel_rfl) (by kernel_rfl) hHeld (Rg.y_bin (b := BinOp.leq) (T := 3) (R' := 3) (x := (Operand.tmp 122)) (y := (Operand.tmp 123)) (vx := (.int .i64 by_)) (vy := (.int .i64 sum)) (by kernel_rfl) (by kernel_rfl) (by kernel_rfl) ?_) ?_
  · (intro w hSw; clear hSw; have h1 := hle; go_simp)
  refine Rg.take (ops := (Rg.opsOf Tryz.f15 20)) 4 (some 125) ((.bool true)) hNS (by kernel_rfl) (by kernel_rfl) (by kernel_rfl) (by kernel_rfl) (by kernel_rfl) hHeld (Rg.y_move (x := (Operand.tmp 124)) (Or.inl (by kernel_rfl)) (by kernel_rfl)) ?_
  refine Rg.take (ops := (Rg.opsOf Tryz.f15 20)) 5 (some 126) ((.pointer (some ⟨ub, 0, none⟩))) hNS (by kernel_rfl) (by kernel_rfl) (by kernel_rfl) (by kernel_rfl) (by kernel_rfl) hHeld (Rg.y_move (x := (Operand.tmp 0)) (Or.inl (by kernel_rfl)) (by kernel_rfl)) ?_
  refine Rg.take (ops := (Rg.opsOf Tryz.f15 20)) 8 (some 129) ((.slice a7 n c7)) hNS (by kernel_rfl) (by kernel_rfl) (by kernel_rfl) (by kernel_rfl) (by kernel_rfl) hHeld (Rg.y_move (x := (Operand.tmp 7)) (Or.inl (by kernel_rfl)) (by kernel_rfl)) ?_
  refine Rg.take (ops := (Rg.opsOf Tryz.f15 20)) 9 (some 130) ((.int .i64 (n : Int))) hNS (by kernel_rfl) (by kernel_rfl) (by kernel_rfl) (by kernel_rfl) (by kernel_rfl) hHeld (Rg.y_len (x := (Operand.tmp 129)) (ats := #[46]) (vx := (.slice a7 n c7)) (n := n) (by kernel_rfl) (by kernel_rfl) ?_) ?_
  · (intro ty w hSw; go_simp)
  refine Rg.call (ops := (Rg.opsOf Tryz.f15 20)) (fn := Tryz.f31) (xs := #[Operand.tmp 126]) (ats := #[30]) 6 (some 127) 31 #[(.pointer (some ⟨ub, 0, none⟩))] (by kernel_rfl) (by kernel_rfl) (by kernel_rfl) (by kernel_rfl) (by kernel_rfl) Tryz.func31 (by kernel_rfl) (by kernel_rfl) (by kernel_rfl) ?_
  refine (hV _ hHeld.2).mono ?_
  rintro e w6 ⟨a8, c8, rfl, h6, _⟩
  refine ⟨_, rfl, ⟨h0 _ h6, h6⟩, fun hHeld => ?_⟩
  refine Rg.take (ops := (Rg.opsOf Tryz.f15 20)) 7 (some 128) ((.int .i64 (n : Int))) hNS (by kernel_rfl) (by kernel_rfl) (by kernel_rfl) (by kernel_rfl) (by kernel_rfl) hHeld (Rg.y_len (x := (Operand.tmp 127)) (ats := #[46]) (vx := (.slice a8 n c8)) (n := n) (by kernel_rfl) (by kernel_rfl) ?_) ?_
  · (intro ty w hSw; go_simp)
  refine Rg.take (ops := (Rg.opsOf Tryz.f15 20)) 10 (some 131) ((.bool true)) hNS (by kernel_rfl) (by kernel_rfl) (by kernel_rfl) (by kernel_rfl) (by kernel_rfl) hHeld (Rg.y_bin (b := BinOp.eql) (T := 3) (R' := 3) (x := (Operand.tmp 128)) (y := (Operand.tmp 130)) (vx := (.int .i64 (n : Int))) (vy := (.int .i64 (n : Int))) (by kernel_rfl) (by kernel_rfl) (by kernel_rfl) ?_) ?_
  · (intro w hSw; clear hSw; go_simp)
  refine Rg.take (ops := (Rg.opsOf Tryz.f15 20)) 11 (some 132) ((.bool true)) hNS (by kernel_rfl) (by kernel_rfl) (by kernel_rfl) (by kernel_rfl) (by kernel_rfl) hHeld (Rg.y_pick (c := (Operand.tmp 125)) (x := (Operand.tmp 131)) (y := (Operand.const (Value.bool false))) (b := true) (by kernel_rfl) (by kernel_rfl) (by kernel_rfl)) ?_
  refine Rg.take (ops := (Rg.opsOf Tryz.f15 20)) 12 (some 133) ((.bool true)) hNS (by kernel_rfl) (by kernel_rfl) (by kernel_rfl) (by kernel_rfl) (by kernel_rfl) hHeld (Rg.y_move (x := (Operand.tmp 132)) (Or.inl (by kernel_rfl)) (by kernel_rfl)) ?_
  refine Rg.take (ops := (Rg.opsOf Tryz.f15 20)) 13 (some 134) ((.slice a7 n c7)) hNS (by kernel_rfl) (by kernel_rfl) (by kernel_rfl) (by kernel_rfl) (by kernel_rfl) hHeld (Rg.y_move (x := (Operand.tmp 7)) (Or.inl (by kernel_rfl)) (by kernel_rfl)) ?_
  refine Rg.take (ops := (Rg.opsOf Tryz.f15 20)) 14 (some 135) ((.int .i64 (n : Int))) hNS (by kernel_rfl) (by kernel_rfl) (by kernel_rfl) (by kernel_rfl) (by kernel_rfl) hHeld (Rg.y_len (x := (Operand.tmp 134)) (ats := #[46]) (vx := (.slice a7 n c7)) (n := n) (by kernel_rfl) (by kernel_rfl) ?_) ?_
  · (intro ty w hSw; go_simp)
  refine Rg.take (ops := (Rg.opsOf Tryz.f15 20)) 15 (some 136) ((.bool true)) hNS (by kernel_rfl) (by kernel_rfl) (by kernel_rfl) (by kernel_rfl) (by kernel_rfl) hHeld (Rg.y_bin (b := BinOp.eql) (T := 3) (R' := 3) (x := (Operand.tmp 135)) (y := (Operand.const (Value.int IntKind.i64 0))) (vx := (.int .i64 (n : Int))) (vy := (Value.int IntKind.i64 0)) (by kernel_rfl) (by kernel_rfl) (by kernel_rfl) ?_) ?_
  · (intro w hSw; clear hSw; have h1 := hn0; go_simp)
  refine Rg.take (ops := (Rg.opsOf Tryz.f15 20)) 16 (some 137) ((.bool true)) hNS (by kernel_rfl) (by kernel_rfl) (by kernel_rfl) (by kernel_rfl) (by kernel_rfl) hHeld (Rg.y_move (x := (Operand.tmp 136)) (Or.inl (by kernel_rfl)) (by kernel_rfl)) ?_
  refine Rg.skip (ops := (Rg.opsOf Tryz.f15 20)) 17 (some 138) hNS (by kernel_rfl) (by kernel_rfl) (by kernel_rfl) (by kernel_rfl) (by kernel_rfl) hHeld ?_
  refine Rg.skip (ops := (Rg.opsOf Tryz.f15 20)) 18 (some 139) hNS (by kernel_rfl) (by kernel_rfl) (by kernel_rfl) (by kernel_rfl) (by kernel_rfl) hHeld ?_
  refine Rg.skip (ops := (Rg.opsOf Tryz.f15 20)) 19 (some 140) hNS (by kernel_rfl) (by kernel_rfl) (by kernel_rfl) (by kernel_rfl) (by kernel_rfl) hHeld ?_
  refine Rg.skip (ops := (Rg.opsOf Tryz.f15 20)) 20 (some 141) hNS (by kernel_rfl) (by kernel_rfl) (by kernel_rfl) (by kernel_rfl) (by kernel_rfl) hHeld ?_
  refine Rg.skip (ops := (Rg.opsOf Tryz.f15 20)) 21 (some 142) hNS (by kernel_rfl) (by kernel_rfl) (by kernel_rfl) (by kernel_rfl) (by kernel_rfl) hHeld ?_
  refine Rg.skip (ops := (Rg.opsOf Tryz.f15 20)) 22 (some 143) hNS (by kernel_rfl) (by kernel_rfl) (by kernel_rfl) (by kernel_rfl) (by kernel_rfl) hHeld ?_
  refine Rg.skip (ops := (Rg.opsOf Tryz.f15 20)) 23 (some 144) hNS (by kernel_rfl) (by kernel_rfl) (by kernel_rfl) (by kernel_rfl) (by kernel_rfl) hHeld ?_
  refine Rg.skip (ops := (Rg.opsOf Tryz.f15 20)) 24 (some 145) hNS (by kernel_rfl) (by kernel_rfl) (by kernel_rfl) (by kernel_rfl) (by kernel_rfl) hHeld ?_
  refine Rg.skip (ops := (Rg.opsOf Tryz.f15 20)) 25 (some 146) hNS (by kernel_rfl) (by kernel_rfl) (by kernel_rfl) (by kernel_rfl) (by kernel_rfl) hHeld ?_
  refine Rg.skip (ops := (Rg.opsOf Tryz.f15 20)) 26 (some 147) hNS (by kernel_rfl) (by kernel_rfl) (by kernel_rfl) (by kernel_rfl) (by kernel_rfl) hHeld ?_
  refine Rg.skip (ops := (Rg.opsOf Tryz.f15 20)) 27 (some 148) hNS (by kernel_rfl) (by kernel_rfl) (by kernel_rfl) (by kernel_rfl) (by kernel_rfl) hHeld ?_
  refine Rg.skip (ops := (Rg.opsOf Tryz.f15 20)) 28 (some 149) hNS (by kernel_rfl) (by kernel_rfl) (by kernel_rfl) (by kernel_rfl) (by kernel_rfl) hHeld ?_
  refine Rg.take (ops := (Rg.opsOf Tryz.f15 20)) 29 (some 150) ((Value.bool true)) hNS (by kernel_rfl) (by kernel_rfl) (by kernel_rfl) (by kernel_rfl) (by kernel_rfl) hHeld (Rg.y_pick (c := (Operand.tmp 137)) (x := (Operand.const (Value.bool true))) (y := (Operand.tmp 149)) (b := true) (by kernel_rfl) (by kernel_rfl) (by kernel_rfl)) ?_
  refine Rg.take (ops := (Rg.opsOf Tryz.f15 20)) 30 (some 151) ((Value.bool true)) hNS (by kernel_rfl) (by kernel_rfl) (by kernel_rfl) (by kernel_rfl) (by kernel_rfl) hHeld (Rg.y_pick (c := (Operand.tmp 133)) (x := (Operand.tmp 150)) (y := (Operand.const (Value.bool false))) (b := true) (by kernel_rfl) (by kernel_rfl) (by kernel_rfl)) ?_
  refine Rg.take (ops := (Rg.opsOf Tryz.f15 20)) 31 (some 6) ((Value.bool true)) hNS (by kernel_rfl) (by kernel_rfl) (by kernel_rfl) (by kernel_rfl) (by kernel_rfl) hHeld (Rg.y_move (x := (Operand.tmp 151)) (Or.inr (by kernel_rfl)) (by kernel_rfl)) ?_
  refine Rg.done (ops := (Rg.opsOf Tryz.f15 20)) (by kernel_rfl) ?_
  exact ⟨a8, c8, by kernel_rfl, hHeld.2⟩
set_option maxRecDepth 100000 in
set_option maxHeartbeats 4000000 in
theorem regSome (ops : Array Oper) (hops : ops = (Rg.opsOf Tryz.f15 20)) (idr : Nat) (ub cb gE oE n c7 cE id : Nat) (a7 : Option Addr) (sum by_ : Int) {u2 u3 u4 u5 u6 u9 u10 u11 u12 u13 u14 u15 u16 u17 u18 u19 u20 u21 u22 u23 u24 u25 u26 u27 u28 u29 u30 u31 u32 u33 u34 u35 u36 u37 u38 u39 u40 u41 u42 u43 u44 u45 u46 u47 u48 u49 u50 u51 u52 u53 u54 u55 u56 u57 u58 u59 u60 u61 u62 u63 u64 u65 u66 u67 u68 u69 u70 u71 u72 u73 u74 u75 u76 u77 u78 u79 u80 u81 u82 u83 u84 u85 u86 u87 u88 u89 u90 u91 u92 u93 u94 u95 u96 u97 u98 u99 u100 u101 u102 u103 u104 u105 u106 u107 u108 u109 u110 u111 u112 u113 u114 u115 u116 u117 u118 u119 u120 u121 u122 u123 u124 u125 u126 u127 u128 u129 u130 u131 u132 u133 u134 u135 u136 u137 u138 u139 u140 u141 u142 u143 u144 u145 u146 u147 u148 u149 u150 u151 : Value} (w : World) (K : World → Prop) (hle : by_ ≤ sum) (hn0 : ((n : Int) == 0) = false) (hnz : (0 : Int) < (n : Int)) (hnp : 0 < n)
    (hK : K w.drew) (h0 : ∀ V, K V → (V.cell? ⟨cb, 0, none⟩ = some (.slice (some ⟨gE, oE, none⟩) n cE) ∧ V.cell? ⟨gE, oE, none⟩ = some (.int .i64 (id : Nat))))
    (hA : ∀ V, K V → Calls Tryz.prog 19 #[.pointer (some ⟨ub, 0, none⟩)] V fun e w' => e = .returned (.int .i64 by_) ∧ K w')
    (hV : ∀ V, K V → Calls Tryz.prog 31 #[.pointer (some ⟨ub, 0, none⟩)] V fun e w' => ∃ a8 c8, e = .returned (.slice a8 n c8) ∧ K w' ∧ (0 < n → ∃ g9 o9, a8 = some ⟨g9, o9, none⟩ ∧ w'.cell? ⟨g9, o9, none⟩ = some (.int .i64 (id : Nat)))) :
    (Code.region idr ops true).wp Tryz.prog (Rg.Only fun a' w' => ∃ (a8 : Option Addr) (c8 g9 o9 c9 : Nat), a' = ⟨#[(.pointer (some ⟨ub, 0, none⟩)), (.pointer (some ⟨cb, 0, none⟩)), u2, u3, u4, u5, (.bool true), (.slice a7 n c7), (.int .i64 sum), u9, u10, u11, u12, u13, u14, u15, u16, u17, u18, u19, u20, u21, u22, u23, u24, u25, u26, u27, u28, u29, u30, u31, u32, u33, u34, u35, u36, u37, u38, u39, u40, u41, u42, u43, u44, u45, u46, u47, u48, u49, u50, u51, u52, u53, u54, u55, u56, u57, u58, u59, u60, u61, u62, u63, u64, u65, u66, u67, u68, u69, u70, u71, u72, u73, u74, u75, u76, u77, u78, u79, u80, u81, u82, u83, u84, u85, u86, u87, u88, u89, u90, u91, u92, u93, u94, u95, u96, u97, u98, u99, u100, u101, u102, u103, u104, u105, u106, u107, u108, u109, u110, u111, u112, u113, u114, u115, u116, u117, u118, u119, u120, (.pointer (some ⟨ub, 0, none⟩)), (.int .i64 by_), (.int .i64 sum), (.bool true), (.bool true), (.pointer (some ⟨ub, 0, none⟩)), (.slice a8 n c8), (.int .i64 (n : Int)), (.slice a7 n c7), (.int .i64 (n : Int)), (.bool true), (.bool true), (.bool true), (.slice a7 n c7), (.int .i64 (n : Int)), (.bool false), (.bool false), (.pointer (some ⟨ub, 0, none⟩)), (.slice (some ⟨g9, o9, none⟩) n c9), (.pointer (some ⟨g9, o9, none⟩)), (.int .i64 (id : Nat)), (.pointer (some ⟨cb, 0, none⟩)), (.pointer (some ⟨cb, 0, none⟩)), (.pointer (some ⟨cb, 0, none⟩)), (.slice (some ⟨gE, oE, none⟩) n cE), (.pointer (some ⟨gE, oE, none⟩)), (.pointer (some ⟨gE, oE, none⟩)), (.int .i64 (id : Nat)), (.bool true), (.bool true), (.bool true)], []⟩ ∧ K w') ⟨#[(.pointer (some ⟨ub, 0, none⟩)), (.pointer (some ⟨cb, 0, none⟩)), u2, u3, u4, u5, u6, (.slice a7 n c7), (.int .i64 sum), u9, u10, u11, u12, u13, u14, u15, u16, u17, u18, u19, u20, u21, u22, u23, u24, u25, u26, u27, u28, u29, u30, u31, u32, u33, u34, u35, u36, u37, u38, u39, u40, u41, u42, u43, u44, u45, u46, u47, u48, u49, u50, u51, u52, u53, u54, u55, u56, u57, u58, u59, u60, u61, u62, u63, u64, u65, u66, u67, u68, u69, u70, u71, u72, u73, u74, u75, u76, u77, u78, u79, u80, u81, u82, u83, u84, u85, u86, u87, u88, u89, u90, u91, u92, u93, u94, u95, u96, u97, u98, u99, u100, u101, u102, u103, u104, u105, u106, u107, u108, u109, u110, u111, u112, u113, u114, u115, u116, u117, u118, u119, u120, u121, u122, u123, u124, u125, u126, u127, u128, u129, u130, u131, u132, u133, u134, u135, u136, u137, u138, u139, u140, u141, u142, u143, u144, u145, u146, u147, u148, u149, u150, u151], []⟩ w := by
  subst hops
  have hNS : Region.noSelect (Rg.opsOf Tryz.f15 20) = true := by kernel_rfl
  refine wp_region_held_drew (S := fun V => (V.cell? ⟨cb, 0, none⟩ = some (.slice (some ⟨gE, oE, none⟩) n cE) ∧ V.cell? ⟨gE, oE, none⟩ = some (.int .i64 (id : Nat))) ∧ K V) (by kernel_rfl) ⟨h0 _ hK, hK⟩ (fun hHeld => ?_)
  rw [show (Rg.opsOf Tryz.f15 20).size = 32 by kernel_rfl]
  refine Rg.take (ops := (Rg.opsOf Tryz.f15 20)) 0 (some 121) ((.pointer (some ⟨ub, 0, none⟩))) hNS (by kernel_rfl) (by kernel_rfl) (by kernel_rfl) (by kernel_rfl) (by kernel_rfl) hHeld (Rg.y_move (x := (Operand.tmp 0)) (Or.inl (by kernel_rfl)) (by kernel_rfl)) ?_
  refine Rg.take (ops := (Rg.opsOf Tryz.f15 20)) 2 (some 123) ((.int .i64 sum)) hNS (by kernel_rfl) (by kernel_rfl) (by kernel_rfl) (by kernel_rfl) (by kernel_rfl) hHeld (Rg.y_move (x := (Operand.tmp 8)) (Or.inl (by kernel_rfl)) (by kernel_rfl)) ?_
  refine Rg.call (ops := (Rg.opsOf Tryz.f15 20)) (fn := Tryz.f19) (xs := #[Operand.tmp 121]) (ats := #[30]) 1 (some 122) 19 #[(.pointer (some ⟨ub, 0, none⟩))] (by kernel_rfl) (by kernel_rfl) (by kernel_rfl) (by kernel_rfl) (by kernel_rfl) Tryz.func19 (by kernel_rfl) (by kernel_rfl) (by kernel_rfl) ?_
  refine (hA _ hHeld.2).mono ?_
  rintro e w5 ⟨rfl, h5⟩
  refine ⟨_, rfl, ⟨h0 _ h5, h5⟩, fun hHeld => ?_⟩
  refine Rg.take (ops := (Rg.opsOf Tryz.f15 20)) 3 (some 124) ((.bool true)) hNS (by kernel_rfl) (by kernel_rfl) (by kernel_rfl) (by kernel_rfl) (by kernel_rfl) hHeld (Rg.y_bin (b := BinOp.leq) (T := 3) (R' := 3) (x := (Operand.tmp 122)) (y := (Operand.tmp 123)) (vx := (.int .i64 by_)) (vy := (.int .i64 sum)) (by kernel_rfl) (by kernel_rfl) (by kernel_rfl) ?_) ?_
  · (intro w hSw; clear hSw; have h1 := hle; go_simp)
  refine Rg.take (ops := (Rg.opsOf Tryz.f15 20)) 4 (some 125) ((.bool true)) hNS (by kernel_rfl) (by kernel_rfl) (by kernel_rfl) (by kernel_rfl) (by kernel_rfl) hHeld (Rg.y_move (x := (Operand.tmp 124)) (Or.inl (by kernel_rfl)) (by kernel_rfl)) ?_
  refine Rg.take (ops := (Rg.opsOf Tryz.f15 20)) 5 (some 126) ((.pointer (some ⟨ub, 0, none⟩))) hNS (by kernel_rfl) (by kernel_rfl) (by kernel_rfl) (by kernel_rfl) (by kernel_rfl) hHeld (Rg.y_move (x := (Operand.tmp 0)) (Or.inl (by kernel_rfl)) (by kernel_rfl)) ?_
  refine Rg.take (ops := (Rg.opsOf Tryz.f15 20)) 8 (some 129) ((.slice a7 n c7)) hNS (by kernel_rfl) (by kernel_rfl) (by kernel_rfl) (by kernel_rfl) (by kernel_rfl) hHeld (Rg.y_move (x := (Operand.tmp 7)) (Or.inl (by kernel_rfl)) (by kernel_rfl)) ?_
  refine Rg.take (ops := (Rg.opsOf Tryz.f15 20)) 9 (some 130) ((.int .i64 (n : Int))) hNS (by kernel_rfl) (by kernel_rfl) (by kernel_rfl) (by kernel_rfl) (by kernel_rfl) hHeld (Rg.y_len (x := (Operand.tmp 129)) (ats := #[46]) (vx := (.slice a7 n c7)) (n := n) (by kernel_rfl) (by kernel_rfl) ?_) ?_
  · (intro ty w hSw; go_simp)
  refine Rg.call (ops := (Rg.opsOf Tryz.f15 20)) (fn := Tryz.f31) (xs := #[Operand.tmp 126]) (ats := #[30]) 6 (some 127) 31 #[(.pointer (some ⟨ub, 0, none⟩))] (by kernel_rfl) (by kernel_rfl) (by kernel_rfl) (by kernel_rfl) (by kernel_rfl) Tryz.func31 (by kernel_rfl) (by kernel_rfl) (by kernel_rfl) ?_
  refine (hV _ hHeld.2).mono ?_
  rintro e w6 ⟨a8, c8, rfl, h6, _⟩
  refine ⟨_, rfl, ⟨h0 _ h6, h6⟩, fun hHeld => ?_⟩
  refine Rg.take (ops := (Rg.opsOf Tryz.f15 20)) 7 (some 128) ((.int .i64 (n : Int))) hNS (by kernel_rfl) (by kernel_rfl) (by kernel_rfl) (by kernel_rfl) (by kernel_rfl) hHeld (Rg.y_len (x := (Operand.tmp 127)) (ats := #[46]) (vx := (.slice a8 n c8)) (n := n) (by kernel_rfl) (by kernel_rfl) ?_) ?_
  · (intro ty w hSw; go_simp)
  refine Rg.take (ops := (Rg.opsOf Tryz.f15 20)) 10 (some 131) ((.bool true)) hNS (by kernel_rfl) (by kernel_rfl) (by kernel_rfl) (by kernel_rfl) (by kernel_rfl) hHeld (Rg.y_bin (b := BinOp.eql) (T := 3) (R' := 3) (x := (Operand.tmp 128)) (y := (Operand.tmp 130)) (vx := (.int .i64 (n : Int))) (vy := (.int .i64 (n : Int))) (by kernel_rfl) (by kernel_rfl) (by kernel_rfl) ?_) ?_
  · (intro w hSw; clear hSw; go_simp)
  refine Rg.take (ops := (Rg.opsOf Tryz.f15 20)) 11 (some 132) ((.bool true)) hNS (by kernel_rfl) (by kernel_rfl) (by kernel_rfl) (by kernel_rfl) (by kernel_rfl) hHeld (Rg.y_pick (c := (Operand.tmp 125)) (x := (Operand.tmp 131)) (y := (Operand.const (Value.bool false))) (b := true) (by kernel_rfl) (by kernel_rfl) (by kernel_rfl)) ?_
  refine Rg.take (ops := (Rg.opsOf Tryz.f15 20)) 12 (some 133) ((.bool true)) hNS (by kernel_rfl) (by kernel_rfl) (by kernel_rfl) (by kernel_rfl) (by kernel_rfl) hHeld (Rg.y_move (x := (Operand.tmp 132)) (Or.inl (by kernel_rfl)) (by kernel_rfl)) ?_
  refine Rg.take (ops := (Rg.opsOf Tryz.f15 20)) 13 (some 134) ((.slice a7 n c7)) hNS (by kernel_rfl) (by kernel_rfl) (by kernel_rfl) (by kernel_rfl) (by kernel_rfl) hHeld (Rg.y_move (x := (Operand.tmp 7)) (Or.inl (by kernel_rfl)) (by kernel_rfl)) ?_
  refine Rg.take (ops := (Rg.opsOf Tryz.f15 20)) 14 (some 135) ((.int .i64 (n : Int))) hNS (by kernel_rfl) (by kernel_rfl) (by kernel_rfl) (by kernel_rfl) (by kernel_rfl) hHeld (Rg.y_len (x := (Operand.tmp 134)) (ats := #[46]) (vx := (.slice a7 n c7)) (n := n) (by kernel_rfl) (by kernel_rfl) ?_) ?_
  · (intro ty w hSw; go_simp)
  refine Rg.take (ops := (Rg.opsOf Tryz.f15 20)) 15 (some 136) ((.bool false)) hNS (by kernel_rfl) (by kernel_rfl) (by kernel_rfl) (by kernel_rfl) (by kernel_rfl) hHeld (Rg.y_bin (b := BinOp.eql) (T := 3) (R' := 3) (x := (Operand.tmp 135)) (y := (Operand.const (Value.int IntKind.i64 0))) (vx := (.int .i64 (n : Int))) (vy := (Value.int IntKind.i64 0)) (by kernel_rfl) (by kernel_rfl) (by kernel_rfl) ?_) ?_
  · (intro w hSw; clear hSw; have h1 := hn0; go_simp)
  refine Rg.take (ops := (Rg.opsOf Tryz.f15 20)) 16 (some 137) ((.bool false)) hNS (by kernel_rfl) (by kernel_rfl) (by kernel_rfl) (by kernel_rfl) (by kernel_rfl) hHeld (Rg.y_move (x := (Operand.tmp 136)) (Or.inl (by kernel_rfl)) (by kernel_rfl)) ?_
  refine Rg.take (ops := (Rg.opsOf Tryz.f15 20)) 17 (some 138) ((.pointer (some ⟨ub, 0, none⟩))) hNS (by kernel_rfl) (by kernel_rfl) (by kernel_rfl) (by kernel_rfl) (by kernel_rfl) hHeld (Rg.y_move (x := (Operand.tmp 0)) (Or.inl (by kernel_rfl)) (by kernel_rfl)) ?_
  refine Rg.take (ops := (Rg.opsOf Tryz.f15 20)) 21 (some 142) ((.pointer (some ⟨cb, 0, none⟩))) hNS (by kernel_rfl) (by kernel_rfl) (by kernel_rfl) (by kernel_rfl) (by kernel_rfl) hHeld (Rg.y_move (x := (Operand.tmp 1)) (Or.inl (by kernel_rfl)) (by kernel_rfl)) ?_
  refine Rg.take (ops := (Rg.opsOf Tryz.f15 20)) 22 (some 143) ((.pointer (some ⟨cb, 0, none⟩))) hNS (by kernel_rfl) (by kernel_rfl) (by kernel_rfl) (by kernel_rfl) (by kernel_rfl) hHeld (Rg.y_nil (x := (Operand.tmp 142)) (by kernel_rfl) (by kernel_rfl)) ?_
  refine Rg.take (ops := (Rg.opsOf Tryz.f15 20)) 23 (some 144) ((.pointer (some ⟨cb, 0, none⟩))) hNS (by kernel_rfl) (by kernel_rfl) (by kernel_rfl) (by kernel_rfl) (by kernel_rfl) hHeld (Rg.y_field (T := 35) (k := 0) (x := (Operand.tmp 143)) (vx := (.pointer (some ⟨cb, 0, none⟩))) (by kernel_rfl) (by kernel_rfl) ?_) ?_
  · (intro w hSw; clear hSw; go_simp)
  refine Rg.take (ops := (Rg.opsOf Tryz.f15 20)) 24 (some 145) ((.slice (some ⟨gE, oE, none⟩) n cE)) hNS (by kernel_rfl) (by kernel_rfl) (by kernel_rfl) (by kernel_rfl) (by kernel_rfl) hHeld (Rg.y_load (T := 33) (x := (Operand.tmp 144)) (vx := (.pointer (some ⟨cb, 0, none⟩))) (by kernel_rfl) (by kernel_rfl) ?_) ?_
  · (intro w hSw; obtain ⟨⟨s0, s1⟩, _⟩ := hSw; go_simp)
  refine Rg.take (ops := (Rg.opsOf Tryz.f15 20)) 25 (some 146) ((.pointer (some ⟨gE, oE, none⟩))) hNS (by kernel_rfl) (by kernel_rfl) (by kernel_rfl) (by kernel_rfl) (by kernel_rfl) hHeld (Rg.y_at (T := 33) (x := (Operand.tmp 145)) (y := (Operand.const (Value.int IntKind.i64 0))) (vx := (.slice (some ⟨gE, oE, none⟩) n cE)) (vy := (Value.int IntKind.i64 0)) (by kernel_rfl) (by kernel_rfl) (by kernel_rfl) ?_) ?_
  · (intro w hSw; clear hSw; have h1 := hnz; go_simp)
  refine Rg.take (ops := (Rg.opsOf Tryz.f15 20)) 26 (some 147) ((.pointer (some ⟨gE, oE, none⟩))) hNS (by kernel_rfl) (by kernel_rfl) (by kernel_rfl) (by kernel_rfl) (by kernel_rfl) hHeld (Rg.y_field (T := 74) (k := 0) (x := (Operand.tmp 146)) (vx := (.pointer (some ⟨gE, oE, none⟩))) (by kernel_rfl) (by kernel_rfl) ?_) ?_
  · (intro w hSw; clear hSw; go_simp)
  refine Rg.take (ops := (Rg.opsOf Tryz.f15 20)) 27 (some 148) ((.int .i64 (id : Nat))) hNS (by kernel_rfl) (by kernel_rfl) (by kernel_rfl) (by kernel_rfl) (by kernel_rfl) hHeld (Rg.y_load (T := 3) (x := (Operand.tmp 147)) (vx := (.pointer (some ⟨gE, oE, none⟩))) (by kernel_rfl) (by kernel_rfl) ?_) ?_
  · (intro w hSw; obtain ⟨⟨s0, s1⟩, _⟩ := hSw; go_simp)
  refine Rg.call (ops := (Rg.opsOf Tryz.f15 20)) (fn := Tryz.f31) (xs := #[Operand.tmp 138]) (ats := #[30]) 18 (some 139) 31 #[(.pointer (some ⟨ub, 0, none⟩))] (by kernel_rfl) (by kernel_rfl) (by kernel_rfl) (by kernel_rfl) (by kernel_rfl) Tryz.func31 (by kernel_rfl) (by kernel_rfl) (by kernel_rfl) ?_
  refine (hV _ hHeld.2).mono ?_
  rintro e w7 ⟨a9, c9, rfl, h7, hx7⟩
  obtain ⟨g9, o9, rfl, hx9⟩ := hx7 hnp
  refine ⟨_, rfl, ⟨h0 _ h7, h7⟩, fun hHeld => ?_⟩
  refine Rg.take (ops := (Rg.opsOf Tryz.f15 20)) 19 (some 140) ((.pointer (some ⟨g9, o9, none⟩))) hNS (by kernel_rfl) (by kernel_rfl) (by kernel_rfl) (by kernel_rfl) (by kernel_rfl) hHeld (Rg.y_at (T := 46) (x := (Operand.tmp 139)) (y := (Operand.const (Value.int IntKind.i64 0))) (vx := (.slice (some ⟨g9, o9, none⟩) n c9)) (vy := (Value.int IntKind.i64 0)) (by kernel_rfl) (by kernel_rfl) (by kernel_rfl) ?_) ?_
  · (intro w hSw; clear hSw; have h1 := hnz; go_simp)
  refine Rg.load1 (ops := (Rg.opsOf Tryz.f15 20)) 20 (some 141) (T := 3) (x := (Operand.tmp 140)) (vx := (.pointer (some ⟨g9, o9, none⟩))) (v := (.int .i64 (id : Nat))) (by kernel_rfl) (by kernel_rfl) (by kernel_rfl) (by kernel_rfl) (by kernel_rfl) (by kernel_rfl) ?_ hHeld ?_
  · (clear hHeld; go_simp)
  refine Rg.take (ops := (Rg.opsOf Tryz.f15 20)) 28 (some 149) ((.bool true)) hNS (by kernel_rfl) (by kernel_rfl) (by kernel_rfl) (by kernel_rfl) (by kernel_rfl) hHeld (Rg.y_bin (b := BinOp.eql) (T := 3) (R' := 3) (x := (Operand.tmp 141)) (y := (Operand.tmp 148)) (vx := (.int .i64 (id : Nat))) (vy := (.int .i64 (id : Nat))) (by kernel_rfl) (by kernel_rfl) (by kernel_rfl) ?_) ?_
  · (intro w hSw; clear hSw; go_simp)
  refine Rg.take (ops := (Rg.opsOf Tryz.f15 20)) 29 (some 150) ((.bool true)) hNS (by kernel_rfl) (by kernel_rfl) (by kernel_rfl) (by kernel_rfl) (by kernel_rfl) hHeld (Rg.y_pick (c := (Operand.tmp 137)) (x := (Operand.const (Value.bool true))) (y := (Operand.tmp 149)) (b := false) (by kernel_rfl) (by kernel_rfl) (by kernel_rfl)) ?_
  refine Rg.take (ops := (Rg.opsOf Tryz.f15 20)) 30 (some 151) ((.bool true)) hNS (by kernel_rfl) (by kernel_rfl) (by kernel_rfl) (by kernel_rfl) (by kernel_rfl) hHeld (Rg.y_pick (c := (Operand.tmp 133)) (x := (Operand.tmp 150)) (y := (Operand.const (Value.bool false))) (b := true) (by kernel_rfl) (by kernel_rfl) (by kernel_rfl)) ?_
  refine Rg.take (ops := (Rg.opsOf Tryz.f15 20)) 31 (some 6) ((.bool true)) hNS (by kernel_rfl) (by kernel_rfl) (by kernel_rfl) (by kernel_rfl) (by kernel_rfl) hHeld (Rg.y_move (x := (Operand.tmp 151)) (Or.inr (by kernel_rfl)) (by kernel_rfl)) ?_
  refine Rg.done (ops := (Rg.opsOf Tryz.f15 20)) (by kernel_rfl) ?_
  exact ⟨a8, c8, g9, o9, c9, by kernel_rfl, hHeld.2⟩
end Go.Proofs.YtdfcbnejnnibpaaGreatDoor.Cn

namespace Go.Proofs.YtdfcbnejnnibpaaGreatDoor.Cn
open Go.RowKit Tx Pm Dk Wm Wr Wl Pl Tb Bl
set_option linter.unusedVariables false
set_option linter.unusedSimpArgs false
set_option linter.unnecessarySimpa false
def sD (D : Nat → ByteArray) (I : List Nat) : Nat := (I.map fun k => (D k).size).sum
theorem sD_snoc (D : Nat → ByteArray) (I : List Nat) (k : Nat) : sD D (I ++ [k]) = sD D I + (D k).size := by unfold sD; rw [List.map_append, List.sum_append]; rfl
theorem sD_take (D : Nat → ByteArray) (I : List Nat) (k : Nat) : sD D (I.take k) ≤ sD D I := by
  have h := congrArg (sD D) (List.take_append_drop k I)
  have e : sD D (I.take k ++ I.drop k) = sD D (I.take k) + sD D (I.drop k) := by unfold sD; rw [List.map_append, List.sum_append]
  omega
theorem sD_le (D : Nat → ByteArray) (S : Nat) : ∀ I : List Nat, (∀ k ∈ I, (D k).size ≤ S) → sD D I ≤ I.length * S
  | [], h => by simp [sD]
  | a :: I, h => by
    have h1 := sD_le D S I (fun k hk => h k (List.mem_cons_of_mem _ hk))
    have h2 := h a (List.mem_cons_self ..)
    unfold sD at h1 ⊢
    rw [List.map_cons, List.sum_cons, List.length_cons, Nat.succ_mul]
    omega
theorem by_sD {D : Nat → ByteArray} : ∀ (C : List Vn), (∀ x ∈ C, x.kept.size ≤ (D x.id).size) → byC C ≤ sD D (ids C)
  | [], h => Nat.le_refl _
  | v :: C, h => by
    have h1 := by_sD C (fun x hx => h x (List.mem_cons_of_mem _ hx))
    have h2 := h v (List.mem_cons_self ..)
    unfold byC sD ids at h1 ⊢
    rw [List.map_cons, List.sum_cons, List.map_cons, List.map_cons, List.sum_cons]
    omega
def eOf (I : List Nat) (D : Nat → ByteArray) : List Ent := I.map (fun k => (k, D k))
theorem place_eOf (I : List Nat) (D : Nat → ByteArray) (z : Int) : (0 ≤ placeE (eOf I D) z ↔ ∃ k ∈ I, (k : Int) = z) := by
  unfold placeE
  cases hf : (eOf I D).findIdx? (fun p => decide ((p.1 : Int) = z)) with
  | none =>
    have h := List.findIdx?_eq_none_iff.1 hf
    constructor
    · intro hh; simp at hh
    · rintro ⟨k, hk, e⟩
      have := h (k, D k) (List.mem_map.2 ⟨k, hk, rfl⟩)
      simp [e] at this
  | some i =>
    obtain ⟨h1, h2, _⟩ := List.findIdx?_eq_some_iff_getElem.1 hf
    constructor
    · intro _
      have hm : (eOf I D)[i] ∈ eOf I D := List.getElem_mem h1
      obtain ⟨k, hk, e⟩ := List.mem_map.1 hm
      have h2 := of_decide_eq_true h2
      exact ⟨k, hk, by rw [← e] at h2; exact h2⟩
    · intro _; exact Int.natCast_nonneg i
def Asks (b j t m u : Nat) (x : Tst) (C : List Vn) (D : Nat → ByteArray) (M S N V : Nat) (W : World) : Prop := ∀ W1, Below W.heap.size W W1 → ∃ w0, TabZ w0 ∧ Bc b j t m u x w0 C D M S N V W1
section
variable {W : World} {b j t m u M S N V cb : Nat} {x : Tst} {C : List Vn} {D : Nat → ByteArray}
set_option maxRecDepth 100000 in
set_option maxHeartbeats 16000000 in
theorem alike_any10 {z : Int} {aE : Option Addr} {cE : Nat} (hA : Asks b j t m u x C D M S N V W) (hx : Xk x) (hM : M ≤ 1000000) (hN : N ≤ 10000000) (hS : S ≤ 100000000) (hz : i64 z) (hcl : C.length ≤ 1000000)
    (c0 : W.cell? ⟨cb, 0, none⟩ = some (.slice aE C.length cE)) (hE : Esl W aE C.length (eOf (ids C) D)) (hcE : C.length ≤ cE) :
    Calls Tryz.prog 15 #[.pointer (some ⟨u, 0, none⟩), .pointer (some ⟨cb, 0, none⟩), .int .i64 z] W fun e w' => e = .returned (.bool true) ∧ Below W.heap.size W w' := by
  obtain ⟨r, hG⟩ : ∃ r, Gv C D r M S := by
    obtain ⟨w0, _, h⟩ := hA W (Below.refl _ _)
    exact h.good
  have HBY : Hid (byC C ≤ sD D (ids C)) := Lib.hid (by_sD C (fun v hv => (hG.each v hv).2.2.2.2))
  have HIM : Hid (∀ k ∈ ids C, 1 ≤ k ∧ k ≤ M ∧ (D k).size ≤ S) := Lib.hid (fun k hk => by
    obtain ⟨v, hv, rfl⟩ := List.mem_map.1 hk
    have := hG.each v hv
    exact ⟨this.1, this.2.1, this.2.2.2.1⟩)
  have hsum : sD D (ids C) ≤ 100000000000000 := by
    have h1 := sD_le D S (ids C) (fun k hk => (HIM.out k hk).2.2)
    have h2 := len_ids C
    have h3 := Nat.mul_le_mul (show (ids C).length ≤ 1000000 by omega) hS
    omega
  have HSUM := Lib.hid hsum
  have HA := Lib.hid hA
  have HLI := Lib.hid (len_ids C)
  have HE := Lib.hid (fun V1 (hV : Below W.heap.size W V1) => And.intro ((hV.cell (p := ⟨cb, 0, none⟩) (World.block_lt_of_cell? W _ c0)).trans c0) (hE.below hV))
  have HRI := Lib.hid (ids_rise hG)
  obtain ⟨n, hn⟩ : ∃ n, n = C.length := ⟨_, rfl⟩
  have HN := Lib.hid hn
  rw [← hn] at HE hcE HLI hcl
  have cv : Calls Tryz.prog 31 #[.pointer (some ⟨u, 0, none⟩)] W fun e w' => ∃ v, e = .returned v ∧ OwI w' W.heap.size v (ids C) ∧ Below W.heap.size W w' := by
    obtain ⟨w0, _, h⟩ := hA W (Below.refl _ _)
    exact bc_versions h hx (by omega) hN
  have HV := Lib.hid (fun V1 (hV : Below W.heap.size W V1) => (by
    obtain ⟨w0, _, h⟩ := hA V1 hV
    exact bc_versions h hx (by omega) hN : Calls Tryz.prog 31 #[.pointer (some ⟨u, 0, none⟩)] V1 fun e w' => ∃ v, e = .returned v ∧ OwI w' V1.heap.size v (ids C) ∧ Below V1.heap.size V1 w'))
  have HB := Lib.hid (fun V1 (hV : Below W.heap.size W V1) => (by
    obtain ⟨w0, hz0, h⟩ := hA V1 hV
    exact bc_bytes h hx (by omega) hN hS hz0 : Calls Tryz.prog 19 #[.pointer (some ⟨u, 0, none⟩)] V1 fun e w' => e = .returned (.int .i64 (byC C : Nat)) ∧ Below V1.heap.size V1 w'))
  have HG := Lib.hid (fun (k : Nat) (hk : k ∈ ids C) V1 (hV : Below W.heap.size W V1) => (by
    obtain ⟨w0, hz0, h⟩ := hA V1 hV
    exact bc_get h hk (by omega) hS hz0 : Calls Tryz.prog 17 #[.pointer (some ⟨u, 0, none⟩), .int .i64 (k : Nat)] V1 fun e w' => e = .returned (.tuple #[.string (D k), .int .i64 0]) ∧ Below V1.heap.size V1 w'))
  have HGN := Lib.hid (fun (hno : ∀ k : Nat, k ∈ ids C → (k : Int) ≠ z) V1 (hV : Below W.heap.size W V1) => (by
    obtain ⟨w0, hz0, h⟩ := hA V1 hV
    exact bc_get_none h hz hno (by omega) hS hz0 : Calls Tryz.prog 17 #[.pointer (some ⟨u, 0, none⟩), .int .i64 z] V1 fun e w' => e = .returned (.tuple #[.string ⟨#[]⟩, .int .i64 11]) ∧ Below V1.heap.size V1 w'))
  have HD := Lib.hid (fun (k : Int) (hk : i64 k) V1 (hV : Below W.heap.size W V1) => (by
    obtain ⟨w0, hz0, h⟩ := hA V1 hV
    exact bc_depth h hk (by omega) hS hz0 : Calls Tryz.prog 18 #[.pointer (some ⟨u, 0, none⟩), .int .i64 k] V1 fun e w' => e = .returned (.int .i64 (((lnC C k).length : Nat) - 1)) ∧ Below V1.heap.size V1 w'))
  have HDL : Hid (∀ k ∈ ids C, 1 ≤ (lnC C (k : Int)).length ∧ (lnC C (k : Int)).length ≤ 5) := Lib.hid (fun k hk => by
    obtain ⟨v, hv, rfl⟩ := List.mem_map.1 hk
    have := lnC_len hG hv
    exact ⟨by omega, ln_len C 5 _⟩)
  clear hA hG hE c0 hsum hn
  go_enter Tryz.func15, Tryz.ntmps15
  go_wp2_with fail
  go_at_call 31
  refine cv.mono ?_
  rintro e w1 ⟨v, rfl, hO1, hb1⟩
  obtain ⟨aI, cI, rfl, hsI, hcI, hcm⟩ := hO1.form
  rw [HLI.out] at hsI hcI ⊢
  obtain ⟨g0, _⟩ := HE.out w1 hb1
  have HO1 := Lib.hid hO1
  have HB1 := Lib.hid hb1
  have HSI := Lib.hid (fun V1 (hV : Below w1.heap.size w1 V1) => hsI.below hV)
  clear cv hO1 hb1 hsI
  go_wp2_with fail
  go_loopw [8, 9] (fun sv2 iv wr => ∃ k : Nat, k ≤ n ∧ iv = .int .i64 k ∧ sv2 = .int .i64 (sD D ((ids C).take k) : Nat) ∧ Below w1.heap.size w1 wr) (fun _ iv _ => n - (intOf iv).toNat)
  case atStart => exact ⟨0, Nat.zero_le _, rfl, rfl, Below.refl _ _⟩
  case round =>
    clear g0
    obtain ⟨k, hk, rfl, rfl, hB⟩ := hrel
    by_cases hlt : k < n
    · obtain ⟨y, hy⟩ : ∃ y, (ids C)[k]? = some y := ⟨_, List.getElem?_eq_getElem (by rw [HLI.out]; exact hlt)⟩
      have hym := List.mem_of_getElem? hy
      obtain ⟨y1, y2, y3⟩ := HIM.out y hym
      obtain ⟨_, hne⟩ := HSI.out _ hB
      obtain ⟨gI, oI, rfl, hgI, hcc⟩ := hne.resolve_left (by omega)
      have gi := hcc k y hy
      have hkz : (k : Int) < (n : Int) := by omega
      have hBW := Tx.below_call HB1.out hB
      have cg := HG.out y hym wr hBW
      have HDD := Lib.hid (HD.out (y : Int) (by unfold i64; omega))
      obtain ⟨l1, l2⟩ := HDL.out y hym
      have HAL : Hid (∀ V1, Below wr.heap.size wr V1 → V1.cell? ⟨gI, oI + k, none⟩ = some (.int .i64 (y : Nat)) ∧ ∃ gE oE, aE = some ⟨gE, oE, none⟩ ∧ Al4 gI oI cb gE oE n cE k y (D y) V1) := Lib.hid (fun V1 hV => by
        obtain ⟨gc, hs⟩ := HE.out V1 (Tx.below_call hBW hV)
        have hx1 : (eOf (ids C) D)[k]? = some (y, D y) := by unfold eOf; rw [List.getElem?_map, hy]; rfl
        obtain ⟨gE, oE, rfl, _, e0, e1⟩ := hs.nth hx1
        have hi := (hV.cell (p := ⟨gI, oI + k, none⟩) hgI).trans gi
        exact ⟨hi, gE, oE, rfl, hi, gc, e0, e1⟩)
      have HTS := Lib.hid (show sD D ((ids C).take (k + 1)) = sD D ((ids C).take k) + (D y).size by rw [take_snoc10 hy, sD_snoc])
      have hle := sD_take D (ids C) (k + 1)
      have hss := HSUM.out
      have hts := HTS.out
      have hs64 : (sD D ((ids C).take k) : Int) + ((D y).size : Int) ≤ 9223372036854775807 := by omega
      generalize sD D ((ids C).take k) = SK at HTS hts hs64 hle ⊢
      obtain ⟨LN, hLN⟩ : ∃ LN, LN = (lnC C (y : Int)).length := ⟨_, rfl⟩
      rw [← hLN] at HDD l1 l2
      have hd0 : 0 ≤ (LN : Int) - 1 := by omega
      have hd4 : (LN : Int) - 1 ≤ 4 := by omega
      generalize D y = DY at cg HAL HTS hts hs64 y3
      clear hne hcc hy hym hLN hts hle hss
      go_wp2_with fail
      go_at_call 17
      refine cg.mono ?_
      rintro e w2 ⟨rfl, hb2⟩
      have gi2 := (HAL.out w2 hb2).1
      have cd := HDD.out w2 (Tx.below_call hBW hb2)
      have HB2 := Lib.hid hb2
      clear cg gi hb2
      go_wp2_with fail
      go_at_call 18
      refine cd.mono ?_
      rintro e w3 ⟨rfl, hb3⟩
      have hB3 := Tx.below_call HB2.out hb3
      obtain ⟨_, gE, oE, rfl, hal⟩ := HAL.out w3 hB3
      have HB3 := Lib.hid (Tx.below_call hB hB3)
      clear cd gi2 hb3 hB3 hBW hB
      go_wp2_with fail
      refine Rg.wp_only ?_ (regEach _ (by kernel_rfl) _ gI oI cb gE oE n cI cE k y DY ((LN : Int) - 1) w3 hkz hd0 hd4 hal)
      rintro _ w9 ⟨rfl, rfl⟩
      clear hal
      go_wp2_with fail
      go_roundw
      case rel => exact ⟨k + 1, by omega, by go_num, by rw [HTS.out]; go_num, HB3.out.drew⟩
      case measure => simp [intOf]; omega
    · obtain rfl : k = n := by omega
      have eA : (ids C).take k = ids C := List.take_of_length_le (by rw [HLI.out]; exact Nat.le_refl _)
      rw [eA]
      have hBW := Tx.below_call HB1.out hB
      clear hlt eA
      by_cases hin : ∃ q ∈ ids C, (q : Int) = z
      · obtain ⟨q, hq, rfl⟩ := hin
        have cg := HG.out q hq wr hBW
        have hpl := (place_eOf (ids C) D (q : Int)).2 ⟨q, hq, rfl⟩
        have HPL := Lib.hid (fun V1 (hV : Below W.heap.size W V1) => place_any cb aE k cE (eOf (ids C) D) (q : Int) V1 (HE.out V1 hV).1 (HE.out V1 hV).2 hcE hcl (fun p hp => by
          obtain ⟨i, hi, rfl⟩ := List.mem_map.1 hp
          have := (HIM.out i hi).2.1
          show i ≤ _
          omega))
        generalize placeE (eOf (ids C) D) (q : Int) = pl at hpl HPL
        clear hq
        go_wp2_with fail
        go_at_call 17
        refine cg.mono ?_
        rintro e w2 ⟨rfl, hb2⟩
        have cp := HPL.out w2 (Tx.below_call hBW hb2)
        have HB2 := Lib.hid hb2
        clear cg hb2
        go_wp2_with fail
        go_at_call 34
        refine cp.mono ?_
        rintro e wr2 ⟨rfl, hb3⟩
        have hBq := Tx.below_call HB2.out hb3
        clear cp hb3 hBW
        obtain ⟨n, hnk⟩ : ∃ n, n = k := ⟨_, rfl⟩
        subst hnk
        have hO : wr2.ownsRow W.heap.size 3 1 (.slice aI n cI) n ((ids C).map nv) := by
          have h1 := own_belowT HO1.out (Tx.below_call hB hBq)
          unfold OwI at h1
          rw [HLI.out] at h1
          exact h1
        have hBz := Tx.below_call HB1.out (Tx.below_call hB hBq)
        have HBZ := Lib.hid hBz
        have HO := Lib.hid hO
        clear hB hBq hBz hO
        generalize wr2 = WC at HBZ HO ⊢
        go_wp2_with fail
        go_loopw [15] (fun iv wr => ∃ (k : Nat) (xs : List Value), k ≤ n ∧ iv = .int .i64 k ∧ wr.ownsRow W.heap.size 3 1 (.slice aI n cI) n xs ∧ Below W.heap.size W wr) (fun iv _ => n - (intOf iv).toNat)
        case atStart => exact ⟨0, _, Nat.zero_le _, rfl, HO.out, HBZ.out⟩
        case round =>
          obtain ⟨k, xs, hk, rfl, hown, hBk⟩ := hrel
          by_cases hlt2 : k < n
          · have hkz : (k : Int) < (n : Int) := by omega
            obtain ⟨g, rfl, hgw⟩ : ∃ g, aI = some ⟨g, 0, none⟩ ∧ W.heap.size ≤ g := by
              rcases hown.2 with ⟨e, h0⟩ | ⟨g, cap, cur, e, hg, _⟩
              · injection e with _ e _; omega
              · injection e with e _ _; exact ⟨g, e, hg⟩
            have hst := World.ownsRow.stored hown k (.int .i64 (-5))
            have hfr := World.ownsRow.frozenAt hown k
            have hBs : Below W.heap.size W (wr.setCell ⟨g, k, none⟩ (.int .i64 (-5))) := hBk.grown hst.2 hBk.size (fun q hq => by cases hq; exact hgw)
            have HST := Lib.hid hst.1
            have HBS := Lib.hid hBs
            have hcell : ∃ v0, wr.cell? ⟨g, k, none⟩ = some v0 := by
              obtain ⟨u0, hu0⟩ : ∃ u0, xs[k]? = some u0 := ⟨_, List.getElem?_eq_getElem (by rw [hown.1]; omega)⟩
              have := hown.cells (g := g) rfl k u0 hu0
              rw [WideShapes.add_plain, Nat.zero_add] at this
              exact ⟨u0, this⟩
            obtain ⟨v0, hv0⟩ := hcell
            clear hst hBs hown hBk
            go_wp2_with fail
            go_roundw
            case rel => exact ⟨k + 1, _, by omega, by go_num, HST.out, HBS.out⟩
            case measure => simp [intOf]; omega
          · have hkz2 : ¬ (k : Int) < (n : Int) := by omega
            have hBk2 := Lib.hid hBk.drew
            have hle : (byC C : Int) ≤ (sD D (ids C) : Int) := by have := HBY.out; omega
            have HAA := Lib.hid (fun V1 (hV : Below W.heap.size W V1) => (HB.out V1 hV).mono fun e w' hh => And.intro hh.1 (Tx.below_call hV hh.2))
            have HVV := Lib.hid (fun V1 (hV : Below W.heap.size W V1) => (HV.out V1 hV).mono fun e w' hh => (by
              obtain ⟨v, rfl, hO, hb⟩ := hh
              obtain ⟨a8, c8, rfl, hs8, _⟩ := hO.form
              rw [HLI.out] at hs8 ⊢
              exact ⟨a8, c8, rfl, Tx.below_call hV hb, hs8⟩ : ∃ a8 c8, e = .returned (.slice a8 n c8) ∧ Below W.heap.size W w' ∧ Isl w' a8 n (ids C)))
            clear hown hBk hlt2
            by_cases hn0 : n = 0
            · have hz0 : ((n : Int) == 0) = true := by rw [hn0]; rfl
              have HN0 := Lib.hid hn0
              clear hn0
              go_wp2_with fail
              refine Rg.wp_only ?_ (regNone _ (by kernel_rfl) _ u cb n cI 0 aI _ (byC C) wr (Below W.heap.size W) hle hz0 hBk2.out (fun _ _ => trivial) HAA.out (fun V1 hV => (HVV.out V1 hV).mono fun e w' ⟨a8, c8, he, hb, _⟩ => ⟨a8, c8, he, hb, fun hh => by have := HN0.out; omega⟩))
              rintro _ w9 ⟨a8, c8, rfl, hK⟩
              go_wp2_with fail
              go_ret
              exact ⟨rfl, hK⟩
            · have hz0 : ((n : Int) == 0) = false := by simp; omega
              obtain ⟨i0, hi0⟩ : ∃ i0, (ids C)[0]? = some i0 := ⟨_, List.getElem?_eq_getElem (by rw [HLI.out]; omega)⟩
              have hx0 : (eOf (ids C) D)[0]? = some (i0, D i0) := by unfold eOf; rw [List.getElem?_map, hi0]; rfl
              obtain ⟨gE, oE, rfl, _⟩ := (HE.out W (Below.refl _ _)).2.nth hx0
              have h00 : ∀ V, Below W.heap.size W V → (V.cell? ⟨cb, 0, none⟩ = some (.slice (some ⟨gE, oE, none⟩) n cE) ∧ V.cell? ⟨gE, oE, none⟩ = some (.int .i64 (i0 : Nat))) := fun V hV => by
                obtain ⟨q1, q2⟩ := HE.out V hV
                obtain ⟨g', o', e', _, e0, _⟩ := q2.nth hx0
                injection e' with e'
                injection e' with e1 e2
                subst e1 e2
                rw [Nat.zero_mul, Nat.add_zero] at e0
                exact ⟨q1, e0⟩
              have H00 := Lib.hid h00
              have HI0 := Lib.hid hi0
              clear h00 hx0 hi0
              go_wp2_with fail
              refine Rg.wp_only ?_ (regSome _ (by kernel_rfl) _ u cb gE oE n cI cE i0 aI _ (byC C) wr (Below W.heap.size W) hle hz0 (by omega) (by omega) hBk2.out H00.out HAA.out (fun V1 hV => (HVV.out V1 hV).mono fun e w' ⟨a8, c8, he, hb, hs⟩ => ⟨a8, c8, he, hb, fun hh => by
                rcases hs.2 with h0 | ⟨g9, o9, ha, _, hc⟩
                · omega
                · exact ⟨g9, o9, ha, by have := hc 0 i0 HI0.out; rwa [Nat.add_zero] at this⟩⟩))
              rintro _ w9 ⟨a8, c8, g9, o9, c9, rfl, hK⟩
              go_wp2_with fail
              go_ret
              exact ⟨rfl, hK⟩
      · have hno : ∀ i : Nat, i ∈ ids C → (i : Int) ≠ z := fun i hi he => hin ⟨i, hi, he⟩
        have cg := HGN.out hno wr hBW
        have hpl : placeE (eOf (ids C) D) z = -1 := by
          rcases place_neg (eOf (ids C) D) z with h | ⟨i, h⟩
          · exact h
          · exact absurd ((place_eOf (ids C) D z).1 (by rw [h]; exact Int.natCast_nonneg i)) hin
        have HPL := Lib.hid (fun V1 (hV : Below W.heap.size W V1) => place_any cb aE k cE (eOf (ids C) D) z V1 (HE.out V1 hV).1 (HE.out V1 hV).2 hcE hcl (fun p hp => by
          obtain ⟨i, hi, rfl⟩ := List.mem_map.1 hp
          have := (HIM.out i hi).2.1
          show i ≤ _
          omega))
        rw [hpl] at HPL
        have HDZ := Lib.hid (HD.out z hz)
        rw [show lnC C z = [] from lnC_none (not_at hno)] at HDZ
        have hm1 : (([] : List Vn).length : Int) - 1 = -1 := rfl
        rw [hm1] at HDZ
        clear hpl hm1 hin hno
        go_wp2_with fail
        go_at_call 17
        refine cg.mono ?_
        rintro e w2 ⟨rfl, hb2⟩
        have cp := HPL.out w2 (Tx.below_call hBW hb2)
        have HB2 := Lib.hid hb2
        have HBW := Lib.hid hBW
        clear cg hb2 hBW
        go_wp2_with fail
        go_at_call 34
        refine cp.mono ?_
        rintro e w3 ⟨rfl, hb3⟩
        have cd := HDZ.out w3 (Tx.below_call HBW.out (Tx.below_call HB2.out hb3))
        have HB3 := Lib.hid (Tx.below_call HB2.out hb3)
        clear cp hb3
        go_wp2_with fail
        go_at_call 18
        refine cd.mono ?_
        rintro e wr2 ⟨rfl, hb4⟩
        have hBq := Tx.below_call HB3.out hb4
        clear cd hb4
        obtain ⟨n, hnk⟩ : ∃ n, n = k := ⟨_, rfl⟩
        subst hnk
        have hO : wr2.ownsRow W.heap.size 3 1 (.slice aI n cI) n ((ids C).map nv) := by
          have h1 := own_belowT HO1.out (Tx.below_call hB hBq)
          unfold OwI at h1
          rw [HLI.out] at h1
          exact h1
        have hBz := Tx.below_call HB1.out (Tx.below_call hB hBq)
        have HBZ := Lib.hid hBz
        have HO := Lib.hid hO
        clear hB hBq hBz hO
        generalize wr2 = WC at HBZ HO ⊢
        go_wp2_with fail
        go_loopw [15] (fun iv wr => ∃ (k : Nat) (xs : List Value), k ≤ n ∧ iv = .int .i64 k ∧ wr.ownsRow W.heap.size 3 1 (.slice aI n cI) n xs ∧ Below W.heap.size W wr) (fun iv _ => n - (intOf iv).toNat)
        case atStart => exact ⟨0, _, Nat.zero_le _, rfl, HO.out, HBZ.out⟩
        case round =>
          obtain ⟨k, xs, hk, rfl, hown, hBk⟩ := hrel
          by_cases hlt2 : k < n
          · have hkz : (k : Int) < (n : Int) := by omega
            obtain ⟨g, rfl, hgw⟩ : ∃ g, aI = some ⟨g, 0, none⟩ ∧ W.heap.size ≤ g := by
              rcases hown.2 with ⟨e, h0⟩ | ⟨g, cap, cur, e, hg, _⟩
              · injection e with _ e _; omega
              · injection e with e _ _; exact ⟨g, e, hg⟩
            have hst := World.ownsRow.stored hown k (.int .i64 (-5))
            have hfr := World.ownsRow.frozenAt hown k
            have hBs : Below W.heap.size W (wr.setCell ⟨g, k, none⟩ (.int .i64 (-5))) := hBk.grown hst.2 hBk.size (fun q hq => by cases hq; exact hgw)
            have HST := Lib.hid hst.1
            have HBS := Lib.hid hBs
            have hcell : ∃ v0, wr.cell? ⟨g, k, none⟩ = some v0 := by
              obtain ⟨u0, hu0⟩ : ∃ u0, xs[k]? = some u0 := ⟨_, List.getElem?_eq_getElem (by rw [hown.1]; omega)⟩
              have := hown.cells (g := g) rfl k u0 hu0
              rw [WideShapes.add_plain, Nat.zero_add] at this
              exact ⟨u0, this⟩
            obtain ⟨v0, hv0⟩ := hcell
            clear hst hBs hown hBk
            go_wp2_with fail
            go_roundw
            case rel => exact ⟨k + 1, _, by omega, by go_num, HST.out, HBS.out⟩
            case measure => simp [intOf]; omega
          · have hkz2 : ¬ (k : Int) < (n : Int) := by omega
            have hBk2 := Lib.hid hBk.drew
            have hle : (byC C : Int) ≤ (sD D (ids C) : Int) := by have := HBY.out; omega
            have HAA := Lib.hid (fun V1 (hV : Below W.heap.size W V1) => (HB.out V1 hV).mono fun e w' hh => And.intro hh.1 (Tx.below_call hV hh.2))
            have HVV := Lib.hid (fun V1 (hV : Below W.heap.size W V1) => (HV.out V1 hV).mono fun e w' hh => (by
              obtain ⟨v, rfl, hO, hb⟩ := hh
              obtain ⟨a8, c8, rfl, hs8, _⟩ := hO.form
              rw [HLI.out] at hs8 ⊢
              exact ⟨a8, c8, rfl, Tx.below_call hV hb, hs8⟩ : ∃ a8 c8, e = .returned (.slice a8 n c8) ∧ Below W.heap.size W w' ∧ Isl w' a8 n (ids C)))
            clear hown hBk hlt2
            by_cases hn0 : n = 0
            · have hz0 : ((n : Int) == 0) = true := by rw [hn0]; rfl
              have HN0 := Lib.hid hn0
              clear hn0
              go_wp2_with fail
              refine Rg.wp_only ?_ (regNone _ (by kernel_rfl) _ u cb n cI 0 aI _ (byC C) wr (Below W.heap.size W) hle hz0 hBk2.out (fun _ _ => trivial) HAA.out (fun V1 hV => (HVV.out V1 hV).mono fun e w' ⟨a8, c8, he, hb, _⟩ => ⟨a8, c8, he, hb, fun hh => by have := HN0.out; omega⟩))
              rintro _ w9 ⟨a8, c8, rfl, hK⟩
              go_wp2_with fail
              go_ret
              exact ⟨rfl, hK⟩
            · have hz0 : ((n : Int) == 0) = false := by simp; omega
              obtain ⟨i0, hi0⟩ : ∃ i0, (ids C)[0]? = some i0 := ⟨_, List.getElem?_eq_getElem (by rw [HLI.out]; omega)⟩
              have hx0 : (eOf (ids C) D)[0]? = some (i0, D i0) := by unfold eOf; rw [List.getElem?_map, hi0]; rfl
              obtain ⟨gE, oE, rfl, _⟩ := (HE.out W (Below.refl _ _)).2.nth hx0
              have h00 : ∀ V, Below W.heap.size W V → (V.cell? ⟨cb, 0, none⟩ = some (.slice (some ⟨gE, oE, none⟩) n cE) ∧ V.cell? ⟨gE, oE, none⟩ = some (.int .i64 (i0 : Nat))) := fun V hV => by
                obtain ⟨q1, q2⟩ := HE.out V hV
                obtain ⟨g', o', e', _, e0, _⟩ := q2.nth hx0
                injection e' with e'
                injection e' with e1 e2
                subst e1 e2
                rw [Nat.zero_mul, Nat.add_zero] at e0
                exact ⟨q1, e0⟩
              have H00 := Lib.hid h00
              have HI0 := Lib.hid hi0
              clear h00 hx0 hi0
              go_wp2_with fail
              refine Rg.wp_only ?_ (regSome _ (by kernel_rfl) _ u cb gE oE n cI cE i0 aI _ (byC C) wr (Below W.heap.size W) hle hz0 (by omega) (by omega) hBk2.out H00.out HAA.out (fun V1 hV => (HVV.out V1 hV).mono fun e w' ⟨a8, c8, he, hb, hs⟩ => ⟨a8, c8, he, hb, fun hh => by
                rcases hs.2 with h0 | ⟨g9, o9, ha, _, hc⟩
                · omega
                · exact ⟨g9, o9, ha, by have := hc 0 i0 HI0.out; rwa [Nat.add_zero] at this⟩⟩))
              rintro _ w9 ⟨a8, c8, g9, o9, c9, rfl, hK⟩
              go_wp2_with fail
              go_ret
              exact ⟨rfl, hK⟩
end
end Go.Proofs.YtdfcbnejnnibpaaGreatDoor.Cn

namespace Go.Proofs.YtdfcbnejnnibpaaGreatDoor.Cn
open Go.RowKit Tx Pm Dk Wm Wr Wl Pl Tb
set_option linter.unusedVariables false
set_option linter.unusedSimpArgs false
set_option linter.unnecessarySimpa false
def Gt (y : Tst) (K : Nat) : Prop := ∃ B c n st sm R L, y = ⟨⟨T7 B none (some (sy c n)) none st sm (-1) false, R, false⟩, L⟩ ∧ Ook B ∧ c.size ≤ R.length * 30000200 ∧ R.length ≤ 15 ∧ st ≤ 4 + 8 * K ∧ sm ≤ 2 + 8 * K
theorem gt_new : Gt ⟨⟨s0T, [], false⟩, []⟩ 0 := ⟨none, ⟨#[]⟩, 2, 4, 2, [], [], rfl, ook_none, Nat.le_refl _, Nat.zero_le _, Nat.le_refl _, Nat.le_refl _⟩
theorem gt_commit {y : Tst} {K : Nat} {l : List Ch} (h : Gt y K) (hK : K ≤ 1000) (hw : wt l ≤ 30000000) (hs : ws (all7 y.L l) ≤ 60000000) (hyl : y.L.length ≤ 100000000) : CommitOk y l pB pG ∧ ∃ y', commitS y l pB pG = (0, y') ∧ Gt y' (K + 1) ∧ y'.L = all7 y.L l := by
  obtain ⟨B, c, n, st, sm, R, L, rfl, hB, hc, hR, hst, hsm⟩ := h
  simp only at hs hyl ⊢
  have hcs : c.size ≤ 450003000 := by
    have := Nat.mul_le_mul_right 30000200 hR
    omega
  have hz : Sz B none (some (sy c n)) none st sm := ⟨hB, ook_none, ook_sy (by omega), ook_none, by omega, by omega⟩
  have hr := rec7_le (l := l) (by omega)
  have hp := pk_bound (r := rec7 l) (by omega)
  have hwl := wt_len l
  obtain ⟨k, x', hadd, hcases⟩ := add7 (B := B) (BT := none) (GT := none) (c := c) (r := rec7 l) (n := n) (st := st) (sm := sm) (R := R) (dm := false) rng_m1
  have hao := addok7 (B := B) (BT := none) (GT := none) (c := c) (r := rec7 l) (n := n) (st := st) (sm := sm) (R := R) (dm := false) hz rng_m1 (by omega) (by omega) (by omega) (by omega) (by omega)
  rcases hcases with ⟨rfl, a', rfl, ra, rm⟩ | ⟨_, hne, _⟩
  · obtain rfl := rm rfl
    have hlenS : (R ++ [rec7 l]).length = R.length + 1 := by rw [List.length_append]; rfl
    have hsz2 : (c ++ Fm.pk (rec7 l)).size ≤ (R.length + 1) * 30000200 := by
      rw [ByteArray.size_append, Nat.succ_mul]
      omega
    have hz2 : Sz B none (some (sy (c ++ Fm.pk (rec7 l)) (sm + 1))) none (st + 2) (sm + 1) := ⟨hB, ook_none, ook_sy (by rw [ByteArray.size_append]; omega), ook_none, by omega, by omega⟩
    obtain ⟨hpo, hpa⟩ := pack_U (B := B) (BT := none) (GT := none) (c := c ++ Fm.pk (rec7 l)) (n := sm + 1) (st := st + 2) (sm := sm + 1) (R := R ++ [rec7 l]) (dm := false) (L := all7 L l) hz2 (by omega) (by omega) (by omega)
    refine ⟨⟨by omega, hao, by show L.length + l.length ≤ _; omega, by decide, ?_, fun _ => ?_⟩, ?_⟩
    · show (addS _ pG (rec7 l)).2.R.length ≤ _
      rw [hadd]
      show (R ++ [rec7 l]).length ≤ _
      omega
    · show PackOk ⟨(addS _ pG (rec7 l)).2, all7 L l⟩ pB pG
      rw [hadd]
      exact hpo
    · by_cases hl : l = []
      · subst hl
        exact ⟨_, commit_0, ⟨B, c, n, st, sm, R, L, rfl, hB, hc, hR, by omega, by omega⟩, rfl⟩
      · by_cases h16 : 16 ≤ (R ++ [rec7 l]).length
        · have hc3 := commit_3 (x := ⟨⟨T7 B none (some (sy c n)) none st sm (-1) false, R, false⟩, L⟩) (p := pB) hl hadd h16
          rw [hpa] at hc3
          have hwh := wt_whole (all7 L l)
          have hrw := rec7_le (l := whole7 (all7 L l)) (by omega)
          have hpw := pk_bound (r := rec7 (whole7 (all7 L l))) (by omega)
          exact ⟨_, hc3, ⟨_, ⟨#[]⟩, _, _, _, [], _, rfl, ook_sy (by omega), Nat.le_refl _, Nat.zero_le _, by omega, by omega⟩, rfl⟩
        · have hc2 := commit_2 (x := ⟨⟨T7 B none (some (sy c n)) none st sm (-1) false, R, false⟩, L⟩) (p := pB) hl hadd h16
          exact ⟨_, hc2, ⟨B, _, _, _, _, R ++ [rec7 l], _, rfl, hB, by rw [hlenS]; exact hsz2, by omega, by omega, by omega⟩, rfl⟩
  · exact absurd rfl hne
end Go.Proofs.YtdfcbnejnnibpaaGreatDoor.Cn

namespace Go.Proofs.YtdfcbnejnnibpaaGreatDoor.Cn
open Go.RowKit Tx Pm Dk Wm Wr Wl Pl Tb Bl
set_option linter.unusedVariables false
set_option linter.unusedSimpArgs false
set_option linter.unnecessarySimpa false
theorem kd_tu (b j t m u : Nat) : Kd (Tu b j t m u) := ⟨fun h => tu_lt h, fun {w w1 F s} h hk => by
  obtain ⟨x, l⟩ := s
  obtain ⟨Fa, G, ⟨Fj, a1⟩, ⟨pm, vO, a2⟩, hd, hH⟩ := h
  exact ⟨Fa, G, ⟨Fj, a1.kept (fun i hi => hk i ((hH i).2 (.inl hi)))⟩, ⟨pm, vO, a2.kept (fun i hi => hk i ((hH i).2 (.inr hi)))⟩, hd, hH⟩⟩
theorem kd_tt (b j t m : Nat) : Kd (Tt b j t m) := ⟨fun {w F s} h => by
    obtain ⟨Fj, h1⟩ := h
    exact h1.lt, fun {w w1 F s} h hk => by
    obtain ⟨Fj, h1⟩ := h
    exact ⟨Fj, h1.kept hk⟩⟩
theorem ws_len (L : List It) : L.length * 40 ≤ ws L := by
  induction L with
  | nil => exact Nat.le_refl _
  | cons x L ih => rw [ws_cons, List.length_cons, Nat.succ_mul]; omega
def Cp (b j t m u cb : Nat) (w : World) (q : Option (Nat × Obj)) (x : Tst) (C : List Vn) (D : Nat → ByteArray) (M S N V : Nat) (E : List Ent) (K : Nat) (W : World) : Prop :=
  ∃ l r, Tw (Tu b j t m u) (RefC cb) w q (x, l) (E, K) W ∧ Rp (all7 x.L l) C M ∧ Gv C D r M S ∧ l.length ≤ N ∧ (∀ c ∈ l, c.key.size ≤ 1000) ∧ wt l ≤ V
section
variable {w W : World} {q : Option (Nat × Obj)} {b j t m u cb M S N V K : Nat} {x : Tst} {C : List Vn} {D : Nat → ByteArray} {E : List Ent}
theorem Cp.bel (h : Cp b j t m u cb w q x C D M S N V E K W) : Below w.heap.size w W := by
  obtain ⟨l, r, h1, _⟩ := h
  exact h1.bel
theorem Cp.good (h : Cp b j t m u cb w q x C D M S N V E K W) : ∃ r, Gv C D r M S := by
  obtain ⟨l, r, _, _, h3, _⟩ := h
  exact ⟨r, h3⟩
theorem Cp.below {W1 : World} (h : Cp b j t m u cb w q x C D M S N V E K W) (hb : Below W.heap.size W W1) : Cp b j t m u cb w q x C D M S N V E K W1 := by
  obtain ⟨l, r, h1, h2⟩ := h
  exact ⟨l, r, h1.below (kd_tu b j t m u) (kd_refC cb) hb, h2⟩
theorem Cp.box (h : Cp b j t m u cb w none x C D M S N V E K W) (o : Obj) : Cp b j t m u cb w (some (W.heap.size, o)) x C D M S N V E K (W.alloc o) := by
  obtain ⟨l, r, h1, h2⟩ := h
  exact ⟨l, r, h1.box (kd_tu b j t m u) (kd_refC cb) o, h2⟩
theorem Cp.at {bs : Nat} {o : Obj} (h : Cp b j t m u cb w (some (bs, o)) x C D M S N V E K W) : W.heap[bs]? = some o := by
  obtain ⟨l, r, h1, h2⟩ := h
  exact h1.at
theorem Cp.drop (h : Cp b j t m u cb w q x C D M S N V E K W) : Cp b j t m u cb w none x C D M S N V E K W := by
  obtain ⟨l, r, h1, h2⟩ := h
  exact ⟨l, r, h1.drop, h2⟩
theorem Cp.mono {N' V' : Nat} (h : Cp b j t m u cb w q x C D M S N V E K W) (hN : N ≤ N') (hV : V ≤ V') : Cp b j t m u cb w q x C D M S N' V' E K W := by
  obtain ⟨l, r, h1, h2, h3, h4, h5, h6⟩ := h
  exact ⟨l, r, h1, h2, h3, Nat.le_trans h4 hN, h5, Nat.le_trans h6 hV⟩
theorem Cp.call {f : FuncId} {args : Array Value} {P : Ending → Prop} {Q : List Vn → Prop} {D' : Nat → ByteArray} {M' N' V' : Nat} (h : Cp b j t m u cb w q x C D M S N V E K W) (ht : Tab w) (hc : ∀ F, TabZ (W, F) → Bc b j t m u x (W, F) C D M S N V W → Calls Tryz.prog f args W fun e w' => P e ∧ ∃ C', Q C' ∧ Bc b j t m u x (W, F) C' D' M' S N' V' w') :
    Calls Tryz.prog f args W fun e w' => P e ∧ ∃ C', Q C' ∧ Cp b j t m u cb w q x C' D' M' S N' V' E K w' := by
  obtain ⟨l, r, ⟨F, G, h1, h2, h3, h4, h5, h6⟩, hh⟩ := h
  refine (hc F (tabz ht h5 (fun i hi => h4 i (.inl hi))) ⟨l, r, ⟨F, h1, Chg.refl F W, fun g hg => .inl hg⟩, hh⟩).mono ?_
  rintro e w' ⟨hp, C', hq, l', r', ho, hr⟩
  exact ⟨hp, C', hq, l', r', tw_left (kd_tu b j t m u) (kd_refC cb) h1 h2 h3 h4 h5 h6 ho, hr⟩
theorem Cp.ref {f : FuncId} {args : Array Value} {P : Ending → Prop} {E' : List Ent} {K' : Nat} (h : Cp b j t m u cb w q x C D M S N V E K W) (hc : ∀ G, RefC cb W G (E, K) → Calls Tryz.prog f args W fun e w' => P e ∧ LeftA (RefC cb) W G (E', K') w') :
    Calls Tryz.prog f args W fun e w' => P e ∧ Cp b j t m u cb w q x C D M S N V E' K' w' := by
  obtain ⟨l, r, h1, hh⟩ := h
  exact (h1.callB (kd_tu b j t m u) (kd_refC cb) hc).mono fun e w' ⟨hp, ho⟩ => ⟨hp, l, r, ho, hh⟩
theorem Cp.refB {f : FuncId} {args : Array Value} {P : Ending → Prop} (h : Cp b j t m u cb w q x C D M S N V E K W) (hc : ∀ G, RefC cb W G (E, K) → Calls Tryz.prog f args W fun e w' => P e ∧ Below W.heap.size W w') :
    Calls Tryz.prog f args W fun e w' => P e ∧ Cp b j t m u cb w q x C D M S N V E K w' := by
  have hh := h
  obtain ⟨l, r, ⟨F, G, h1, h2, _⟩, _⟩ := h
  exact (hc G h2).mono fun e w' ⟨hp, hb⟩ => ⟨hp, hh.below hb⟩
theorem Cp.asks (h : Cp b j t m u cb w q x C D M S N V E K W) (ht : Tab w) : Asks b j t m u x C D M S N V W := fun W1 hb => by
  obtain ⟨l, r, ⟨F, G, h1, h2, h3, h4, h5, h6⟩, hh⟩ := h
  exact ⟨(W1, F), tabz ht (Tx.below_call h5 hb) (fun i hi => h4 i (.inl hi)), l, r, ⟨F, tb_below h1 hb, Chg.refl F W1, fun g hg => .inl hg⟩, hh⟩
theorem cp_alike {z : Int} (h : Cp b j t m u cb w q x C D M S N V (eOf (ids C) D) K W) (ht : Tab w) (hx : Xk x) (hM : M ≤ 1000000) (hN : N ≤ 10000000) (hS : S ≤ 100000000) (hz : i64 z) (hcl : C.length ≤ 1000000) :
    Calls Tryz.prog 15 #[.pointer (some ⟨u, 0, none⟩), .pointer (some ⟨cb, 0, none⟩), .int .i64 z] W fun e w' => e = .returned (.bool true) ∧ Cp b j t m u cb w q x C D M S N V (eOf (ids C) D) K w' := by
  have hA := h.asks ht
  have hh := h
  obtain ⟨l, r, ⟨F, G, h1, ⟨v, h2⟩, _⟩, _⟩ := h
  obtain ⟨a, c, hv, hs, hnc, _⟩ := OwR.form h2.row
  have hb := h2.blk
  simp only at hv hs hnc hb
  have hlen : (eOf (ids C) D).length = C.length := by unfold eOf; rw [List.length_map, len_ids]
  rw [hlen] at hv hs hnc
  subst hv
  have c0 : W.cell? ⟨cb, 0, none⟩ = some (.slice a C.length c) := by unfold World.cell?; rw [hb]; rfl
  exact (alike_any10 hA hx hM hN hS hz hcl c0 hs hnc).mono fun e w' hh2 => ⟨hh2.1, hh.below hh2.2⟩
def Xp (x : Tst) : Prop := ∀ z ∈ x.L, z.path.size ≤ 1000
theorem xk_of (h : Xp x) (hw : ws x.L ≤ 100000000) : Xk x := ⟨by have := ws_len x.L; omega, h⟩
theorem cp_commit {Kt U : Nat} (h : Cp b j t m u cb w q x C D M S N V E K W) (hg : Gt x Kt) (hK : Kt ≤ 1000) (hV : V ≤ 30000000) (hx : Xp x) (hw : ws x.L ≤ U) (hU : U + V ≤ 60000000) :
    Calls Tryz.prog 14 #[.pointer (some ⟨u, 0, none⟩)] W fun e w' => e = .returned (.int .i64 0) ∧ ∃ y, Gt y (Kt + 1) ∧ Rp y.L C M ∧ Xp y ∧ ws y.L ≤ U + V ∧ Tw (Tt b j t m) (RefC cb) w q y (E, K) w' := by
  obtain ⟨l, r, ⟨F, G, h1, h2, h3, h4, h5, h6⟩, hR, hG, hN, hks, hwl⟩ := h
  have hwa := ws_all (L := x.L) (l := l)
  have hyl := ws_len x.L
  obtain ⟨k1, y, k2, k3, k4⟩ := gt_commit (l := l) hg hK (by omega) (by omega) (by omega)
  have c := commit_any b j t m u pB pG W h1 k1
  rw [k2] at c
  refine c.mono fun e w' hh => ⟨hh.1, y, k3, by rw [k4]; exact hR, fun z hz => ?_, by rw [k4]; omega, tw_left (kd_tu b j t m u) (kd_refC cb) h1 h2 h3 h4 h5 h6 hh.2.1⟩
  rw [k4] at hz
  rcases mem_all hz with ⟨c, hc, rfl⟩ | hz
  · exact hks c hc
  · exact hx z hz
theorem cp_begin {r : Nat → Nat} (h : Tw (Tt b j t m) (RefC cb) w q x (E, K) W) (hR : Rp x.L C M) (hG : Gv C D r M S) :
    Calls Tryz.prog 9 #[.pointer (some ⟨t, 0, none⟩)] W fun e w' => ∃ u, e = .returned (.pointer (some ⟨u, 0, none⟩)) ∧ Cp b j t m u cb w q x C D M S 0 0 E K w' := by
  obtain ⟨F, G, ⟨Fj, h1⟩, h2, h3, h4, h5, h6⟩ := h
  refine (begin_any (some ⟨t, 0, none⟩) W).mono fun e w' hh => ?_
  obtain ⟨u, he, Gb, hB, hG2, hb⟩ := hh
  have hltG := (kd_refC cb).lt h2
  refine ⟨u, he, [], r, ⟨fun i => F i ∨ Gb i, G, ⟨F, Gb, ⟨Fj, h1.below hb⟩, hB, fun i hi hg => by have := h1.lt i hi; have := hG2 i hg; omega, fun i => Iff.rfl⟩, (kd_refC cb).kept h2 (fun i hi => hb.block i (hltG i hi)), fun i hi hg => ?_, fun i hi => ?_, Tx.below_call h5 hb, fun p hp => ?_⟩, hR, hG, Nat.le_refl _, (fun _ h => by cases h), Nat.le_refl _⟩
  · rcases hi with hi | hi
    · exact h3 i hi hg
    · have := hltG i hg; have := hG2 i hi; omega
  · rcases hi with (hi | hi) | hi
    · exact h4 i (.inl hi)
    · have := hG2 i hi; have := h5.size; omega
    · exact h4 i (.inr hi)
  · obtain ⟨q1, q2, q3⟩ := h6 p hp
    have hpl := (Array.getElem?_eq_some_iff.1 q1).1
    exact ⟨(hb.block p.1 hpl).trans q1, fun hf => by rcases hf with hf | hf; exact q2 hf; have := hG2 _ hf; omega, q3⟩
end
end Go.Proofs.YtdfcbnejnnibpaaGreatDoor.Cn

namespace Go.Proofs.YtdfcbnejnnibpaaGreatDoor.Cn
open Go.ChangeMaps (open_string shut_string)
open Go.ChangeShapes Go.WideShapes Go.ChangeAt Go.RowKit Tx Pm Dk Wm Wr Wl Pl Tb Bl
set_option linter.unusedVariables false
set_option linter.unusedSimpArgs false
set_option linter.unnecessarySimpa false
def Zs (w : World) (a : Option Addr) (n : Nat) (l : List Int) : Prop := l.length = n ∧ (n = 0 ∨ ∃ g off, a = some ⟨g, off, none⟩ ∧ g < w.heap.size ∧ ∀ k x, l[k]? = some x → w.cell? ⟨g, off + k, none⟩ = some (.int .i64 x))
theorem Zs.at {w w1 : World} {a : Option Addr} {n : Nat} {l : List Int} (h : Zs w a n l) (hb : Below w.heap.size w w1) {k : Nat} {x : Int} (hx : l[k]? = some x) : ∃ g off, a = some ⟨g, off, none⟩ ∧ w1.cell? ⟨g, off + k, none⟩ = some (.int .i64 x) := by
  have hk := (List.getElem?_eq_some_iff.1 hx).1
  rcases h.2 with h0 | ⟨g, off, ha, hlt, hc⟩
  · have := h.1; omega
  · exact ⟨g, off, ha, (hb.cell (p := ⟨g, _, none⟩) hlt).trans (hc k x hx)⟩
theorem mem_le_sum : ∀ {l : List Nat} {x : Nat}, x ∈ l → x ≤ l.sum
  | y :: l, x, h => by
    rw [List.sum_cons]
    rcases List.mem_cons.1 h with rfl | h
    · omega
    · have := mem_le_sum h; omega
def bv1 (x : Bool) : Value := .bool x
def Bg (b j t m u : Nat) (x : Tst) (w : World) (C : List Vn) (D : Nat → ByteArray) (M S N V : Nat) (g : Nat) (G : List Bool) (W : World) : Prop :=
  ∃ F : Nat → Prop, Bc b j t m u x (W, F) C D M S N V W ∧ (∀ i, F i → w.heap.size ≤ i) ∧ (∀ i, F i → i < W.heap.size) ∧ Below w.heap.size w W ∧ W.ownsRow w.heap.size 4 1 (.slice (some ⟨g, 0, none⟩) G.length G.length) G.length (G.map bv1) ∧ ¬ F g
section
variable {w W W' : World} {b j t m u M S N V g : Nat} {x : Tst} {C : List Vn} {D : Nat → ByteArray} {G : List Bool} {w0 : World × (Nat → Prop)}
theorem Bc.rebase (h : Bc b j t m u x w0 C D M S N V W) : ∃ F : Nat → Prop, (∀ i, F i → w0.2 i ∨ w0.1.heap.size ≤ i) ∧ (∀ i, F i → i < W.heap.size) ∧ Chg w0.2 w0.1 W ∧ Bc b j t m u x (W, F) C D M S N V W := by
  obtain ⟨l, r, ⟨F, h1, h2, h3⟩, hh⟩ := h
  exact ⟨F, h3, tu_lt h1, h2, l, r, ⟨F, h1, Chg.refl F W, fun g hg => .inl hg⟩, hh⟩
theorem Bg.bel (h : Bg b j t m u x w C D M S N V g G W) : Below w.heap.size w W := by
  obtain ⟨F, _, _, _, h4, _⟩ := h
  exact h4
theorem Bg.row (h : Bg b j t m u x w C D M S N V g G W) : W.ownsRow w.heap.size 4 1 (.slice (some ⟨g, 0, none⟩) G.length G.length) G.length (G.map bv1) := by
  obtain ⟨F, _, _, _, _, h5, _⟩ := h
  exact h5
theorem Bg.at (h : Bg b j t m u x w C D M S N V g G W) {k : Nat} {y : Bool} (hy : G[k]? = some y) : W.cell? ⟨g, k, none⟩ = some (.bool y) := by
  have := h.row.cells (g := g) rfl k (bv1 y) (by rw [List.getElem?_map, hy]; rfl)
  rw [WideShapes.add_plain, Nat.zero_add] at this
  exact this
theorem Bg.call {f : FuncId} {args : Array Value} {P : Ending → List Vn → Nat → Nat → Prop} (h : Bg b j t m u x w C D M S N V g G W) (ht : Tab w) (hc : ∀ F, TabZ (W, F) → Bc b j t m u x (W, F) C D M S N V W → Calls Tryz.prog f args W fun e w' => ∃ C' N' V', P e C' N' V' ∧ Bc b j t m u x (W, F) C' D M S N' V' w') :
    Calls Tryz.prog f args W fun e w' => ∃ C' N' V', P e C' N' V' ∧ Bg b j t m u x w C' D M S N' V' g G w' := by
  obtain ⟨F, h1, h2, h3, h4, h5, h6⟩ := h
  refine (hc F (tabz ht h4 h2) h1).mono fun e w' ⟨C', N', V', hp, hB⟩ => ⟨C', N', V', hp, ?_⟩
  obtain ⟨F', q1, q2, q3, q4⟩ := hB.rebase
  have hs := h4.size
  refine ⟨F', q4, fun i hi => (q1 i hi).elim (h2 i) (fun hh => Nat.le_trans hs hh), q2, h4.trans (q3.below hs h2), own_chg h5 q3 (fun k hk => by cases hk; exact h6), fun hF => ?_⟩
  rcases q1 g hF with hh | hh
  · exact h6 hh
  · have := (h5.lt g rfl).2
    have hh : W.heap.size ≤ g := hh
    omega
theorem Bg.below (h : Bg b j t m u x w C D M S N V g G W) (hb : Below W.heap.size W W') : Bg b j t m u x w C D M S N V g G W' := by
  obtain ⟨F, h1, h2, h3, h4, h5, h6⟩ := h
  obtain ⟨F', q1, q2, q3, q4⟩ := (h1.below hb).rebase
  have hs := h4.size
  refine ⟨F', q4, fun i hi => (q1 i hi).elim (h2 i) (fun hh => Nat.le_trans hs hh), q2, Tx.below_call h4 hb, own_belowT h5 hb, fun hF => ?_⟩
  rcases q1 g hF with hh | hh
  · exact h6 hh
  · have := (h5.lt g rfl).2
    have hh : W.heap.size ≤ g := hh
    omega
theorem Bg.set (h : Bg b j t m u x w C D M S N V g G W) (k : Nat) (y : Bool) : Bg b j t m u x w C D M S N V g (G.set k y) (W.setCell ⟨g, k, none⟩ (.bool y)) ∧ W.frozen? ⟨g, k, none⟩ = false := by
  obtain ⟨F, h1, h2, h3, h4, h5, h6⟩ := h
  have hst := World.ownsRow.stored h5 k (.bool y)
  have hfr := World.ownsRow.frozenAt h5 k
  refine ⟨?_, hfr⟩
  obtain ⟨l, r, ⟨F1, g1, g2, g3⟩, hh⟩ := h1
  have hF1 : ∀ i, F1 i → i < W.heap.size := tu_lt g1
  have hsub : ∀ i, F1 i → F i := fun i hi => (g3 i hi).elim id (fun hh => by have := hF1 i hi; have hh : W.heap.size ≤ i := hh; omega)
  have hkeep : ∀ i, F1 i → (W.setCell ⟨g, k, none⟩ (.bool y)).heap[i]? = W.heap[i]? := fun i hi => hst.2.block i (hF1 i hi) (fun e => h6 (by injection e with e; rw [← e]; exact hsub i hi))
  have hT : Tu b j t m u (W.setCell ⟨g, k, none⟩ (.bool y)) F1 (x, l) := by
    obtain ⟨Fa, Gg, ⟨Fj, a1⟩, ⟨pm, vO, a2⟩, hd, hH⟩ := g1
    exact ⟨Fa, Gg, ⟨Fj, a1.kept (fun i hi => hkeep i ((hH i).2 (.inl hi)))⟩, ⟨pm, vO, a2.kept (fun i hi => hkeep i ((hH i).2 (.inr hi)))⟩, hd, hH⟩
  refine ⟨F1, ⟨l, r, ⟨F1, hT, Chg.refl F1 _, fun g hg => .inl hg⟩, hh⟩, fun i hi => h2 i (hsub i hi), fun i hi => Nat.lt_of_lt_of_le (hF1 i hi) hst.2.size, h4.grown hst.2 h4.size (fun q hq => by cases hq; exact (h5.lt g rfl).1), ?_, fun hh => h6 (hsub g hh)⟩
  have := hst.1
  rw [List.length_set, List.map_set]
  exact this
theorem Bg.same {f : FuncId} {args : Array Value} {P : Ending → Prop} (h : Bg b j t m u x w C D M S N V g G W) (ht : Tab w) (hc : ∀ F, TabZ (W, F) → Bc b j t m u x (W, F) C D M S N V W → Calls Tryz.prog f args W fun e w' => P e ∧ Bc b j t m u x (W, F) C D M S N V w') :
    Calls Tryz.prog f args W fun e w' => P e ∧ Bg b j t m u x w C D M S N V g G w' :=
  (h.call (P := fun e C' N' V' => P e ∧ C' = C ∧ N' = N ∧ V' = V) ht (fun F hz hB => (hc F hz hB).mono fun e w' hh => ⟨C, N, V, ⟨hh.1, rfl, rfl, rfl⟩, hh.2⟩)).mono (by
    rintro e w' ⟨C', N', V', ⟨hp, h1, h2, h3⟩, hB⟩
    subst h1 h2 h3
    exact ⟨hp, hB⟩)
theorem Bg.drop {f : FuncId} {args : Array Value} {P : Ending → Prop} {Q : List Vn → Prop} {N' V' : Nat} (h : Bg b j t m u x w C D M S N V g G W) (ht : Tab w) (hc : ∀ F, TabZ (W, F) → Bc b j t m u x (W, F) C D M S N V W → Calls Tryz.prog f args W fun e w' => P e ∧ ∃ C', Q C' ∧ Bc b j t m u x (W, F) C' D M S N' V' w') :
    Calls Tryz.prog f args W fun e w' => P e ∧ ∃ C', Q C' ∧ Bg b j t m u x w C' D M S N' V' g G w' :=
  (h.call (P := fun e C2 N2 V2 => P e ∧ Q C2 ∧ N2 = N' ∧ V2 = V') ht (fun F hz hB => (hc F hz hB).mono fun e w' ⟨h1, C', h2, h3⟩ => ⟨C', N', V', ⟨h1, h2, rfl, rfl⟩, h3⟩)).mono (by
    rintro e w' ⟨C', N2, V2, ⟨hp, hq, h2, h3⟩, hB⟩
    subst h2 h3
    exact ⟨hp, C', hq, hB⟩)
end
end Go.Proofs.YtdfcbnejnnibpaaGreatDoor.Cn

namespace Go.Proofs.YtdfcbnejnnibpaaGreatDoor.Cs
open Go.ChangeMaps (open_string shut_string)
open Go.ChangeShapes Go.WideShapes Go.ChangeAt Go.RowKit Tx
set_option linter.unusedVariables false
structure Sp where
  k : Int
  n : Int
  t : ByteArray
def dS {H : Type} (x : Sp) : DataW H := .agg [.lit (.int .i64 x.k), .lit (.int .i64 x.n), .lit (.string x.t.data.toList)]
def int64 (k : Int) : Prop := -9223372036854775808 ≤ k ∧ k ≤ 9223372036854775807
theorem cells9 : Tryz.prog.cellsOf 9 = 1 := by kernel_rfl
theorem cells3 : Tryz.prog.cellsOf 3 = 1 := by kernel_rfl
theorem cellsS : Tryz.prog.cellsOf 37 = 3 := by kernel_rfl
theorem wf_int {k : Int} (h : (Lit.int .i64 k).wf = true) : int64 k := by
  unfold int64
  simpa [Lit.wf, IntKind.min, IntKind.max, IntKind.signed, IntKind.bits] using h
def Script (w : World) (a : Option Addr) (n : Nat) (l : List Sp) : Prop := l.length = n ∧ (n = 0 ∨ ∃ b off, a = some ⟨b, off, none⟩ ∧ b < w.heap.size ∧ ∀ k x, l[k]? = some x → w.cell? ⟨b, off + k * 3, none⟩ = some (.int .i64 x.k) ∧ w.cell? ⟨b, off + k * 3 + 1, none⟩ = some (.int .i64 x.n) ∧ w.cell? ⟨b, off + k * 3 + 1 + 1, none⟩ = some (.string x.t))
theorem step_open {H : Type} {enc : TypeId × Value → H} {w : World} {base : Nat} {spare : Nat → Bool} {held : Bool} {m : Nat} {c0 c1 c2 : Value} {y : DataW H × List MemPlace} (h : DataW.trod enc Tryz.prog w base spare held m 37 [c0, c1, c2] = some y) :
    ∃ x : Sp, c0 = .int .i64 x.k ∧ c1 = .int .i64 x.n ∧ c2 = .string x.t ∧ y = (dS x, []) ∧ int64 x.k ∧ int64 x.n := by
  obtain ⟨ys, m2, _, hy, _, hyl, hf⟩ := DataW.trod_struct Tryz.underlying37 h
  have h0 := hf 0 _ rfl
  have h1 := hf 1 _ rfl
  have h2 := hf 2 _ rfl
  match ys, hyl with
  | [y0, y1, y2], _ =>
    have h0 : DataW.trod enc Tryz.prog w base spare held m2 3 (([c0, c1, c2].drop 0).take (Tryz.prog.cellsOf 3)) = some y0 := h0
    have h1 : DataW.trod enc Tryz.prog w base spare held m2 3 (([c0, c1, c2].drop 1).take (Tryz.prog.cellsOf 3)) = some y1 := h1
    have h2 : DataW.trod enc Tryz.prog w base spare held m2 9 (([c0, c1, c2].drop 2).take (Tryz.prog.cellsOf 9)) = some y2 := h2
    rw [cells3] at h0 h1
    rw [cells9] at h2
    obtain ⟨k, hk, hx0, hw⟩ := DataW.trod_int Tryz.underlying3 h0
    obtain ⟨n, hn, hx1, hw1⟩ := DataW.trod_int Tryz.underlying3 h1
    obtain ⟨t, ht, hx2, hl2⟩ := DataW.trod_string Tryz.underlying9 h2
    simp at hk hn ht
    refine ⟨⟨k, n, t⟩, hk, hn, ht, ?_, wf_int hw, wf_int hw1⟩
    rw [hy, hx0, hx1, hx2]
    rfl
theorem step_at {H : Type} {enc : TypeId × Value → H} {w : World} {base : Nat} {spare : Nat → Bool} {held : Bool} {m : Nat} {a : Addr} {cs' : List Value} {y : DataW H × List MemPlace} (hc : w.cells? base a 3 = some cs') (h : DataW.trod enc Tryz.prog w base spare held m 37 cs' = some y) :
    ∃ x : Sp, w.cell? a = some (.int .i64 x.k) ∧ w.cell? (a.add 1) = some (.int .i64 x.n) ∧ w.cell? (a.add 2) = some (.string x.t) ∧ y = (dS x, []) ∧ int64 x.k ∧ int64 x.n := by
  obtain ⟨_, hcl, hat⟩ := World.cells?_some hc
  match cs', hcl with
  | [c0, c1, c2], _ =>
    obtain ⟨x, h0, h1, h2, hy, hr⟩ := step_open h
    have a0 := hat 0 (by omega)
    have a1 := hat 1 (by omega)
    have a2 := hat 2 (by omega)
    refine ⟨x, ?_, ?_, ?_, hy, hr⟩
    · have e : a.add 0 = a := by simp [Addr.add]
      rw [e] at a0
      rw [a0, h0]
      rfl
    · rw [a1, h1]; rfl
    · rw [a2, h2]; rfl
theorem open_steps {H : Type} {enc : TypeId × Value → H} {w : World} {base : Nat} {spare : Nat → Bool} {held : Bool} {fuel : Nat} {cs : List Value} {x : DataW H × List MemPlace} (h : DataW.trod enc Tryz.prog w base spare held fuel 22 cs = some x) :
    (cs = [.slice none 0 0] ∧ x = (.nil, [])) ∨ ∃ (a : Addr) (len cap : Nat) (l : List Sp) (rest : List (DataW H)) (pl : List MemPlace), cs = [.slice (some a) len cap] ∧ len ≤ cap ∧ cap ≤ maxLen ∧ x = (.slice (l.map dS) rest, pl) ∧ Script w (some a) len l ∧ ∀ e ∈ l, int64 e.k ∧ int64 e.n := by
  rcases Go.Deep.open_slice Tryz.underlying22 h with h0 | ⟨a, len, cap, m, n, D, Pl, rfl, hb, hl, hm, hmm, hx, hi⟩
  · exact .inl h0
  · right
    have hlm : len ≤ m := by
      rw [hmm]
      split
      · exact hl
      · exact Nat.le_refl _
    have hex : ∀ i, i < len → ∃ e : Sp, w.cell? (a.add (i * 3)) = some (.int .i64 e.k) ∧ w.cell? ((a.add (i * 3)).add 1) = some (.int .i64 e.n) ∧ w.cell? ((a.add (i * 3)).add 2) = some (.string e.t) ∧ D i = dS e ∧ int64 e.k ∧ int64 e.n := by
      intro i him
      obtain ⟨cs', hc, ht⟩ := hi i (by omega)
      rw [cellsS] at hc
      obtain ⟨e, h1, h2, h3, h5, hr⟩ := step_at hc ht
      exact ⟨e, h1, h2, h3, congrArg Prod.fst h5, hr⟩
    have : Inhabited Sp := ⟨⟨0, 0, ⟨#[]⟩⟩⟩
    obtain ⟨X, hX⟩ := Go.Deep.choose_lt hex
    have hget : ∀ k y, ((List.range len).map X)[k]? = some y → k < len ∧ y = X k := by
      intro k y hk
      have hk2 := (List.getElem?_eq_some_iff.1 hk).1
      simp at hk2
      rw [List.getElem?_map, List.getElem?_range hk2] at hk
      injection hk with hk
      exact ⟨hk2, hk.symm⟩
    refine ⟨a, len, cap, (List.range len).map X, (List.range (m - len)).map fun j => D (len + j), x.2, rfl, hl, hm, ?_, ⟨by simp, ?_⟩, ?_⟩
    · rw [hx]
      refine Prod.ext ?_ rfl
      show DataW.slice _ _ = DataW.slice _ _
      congr 1
      rw [List.map_map]
      refine List.map_congr_left (fun i hi' => ?_)
      exact (hX i (List.mem_range.1 hi')).2.2.2.1
    · by_cases h0 : len = 0
      · exact .inl h0
      · right
        obtain ⟨b, off, spot⟩ := a
        have hc0 := (hX 0 (by omega)).1
        rw [Nat.zero_mul] at hc0
        have hspot : spot = none := by simpa [Addr.add] using World.cell?_spot hc0
        subst hspot
        refine ⟨b, off, rfl, ?_, fun k y hk => ?_⟩
        · have := World.block_lt_of_cell? w _ hc0
          simpa [Addr.add] using this
        · obtain ⟨hk2, rfl⟩ := hget k y hk
          obtain ⟨h1, h2, h3, _⟩ := hX k hk2
          rw [add_plain] at h1 h2 h3
          rw [add_plain] at h2 h3
          exact ⟨h1, h2, h3⟩
    · intro e he
      obtain ⟨k, hk⟩ := List.getElem?_of_mem he
      obtain ⟨hk2, rfl⟩ := hget k e hk
      exact (hX k hk2).2.2.2.2
theorem bulk_step {H : Type} (x : Sp) : Rows.uptoBulk (dS (H := H) x) = x.t.size + 4 := by
  have e : Rows.uptoBulk (dS (H := H) x) = 1 + (1 + ((x.t.data.toList.length + 1) + 0)) + 1 := rfl
  rw [e, len_l]
  omega
theorem bulk_steps {H : Type} : ∀ l : List Sp, l.length ≤ Rows.uptoBulkAll (l.map (dS (H := H))) ∧ (l.map fun x => x.t.size).sum ≤ Rows.uptoBulkAll (l.map (dS (H := H)))
  | [] => ⟨Nat.zero_le _, Nat.zero_le _⟩
  | y :: l => by
    obtain ⟨h1, h2⟩ := bulk_steps (H := H) l
    have e : Rows.uptoBulkAll ((y :: l).map (dS (H := H))) = Rows.uptoBulk (dS (H := H) y) + Rows.uptoBulkAll (l.map (dS (H := H))) := rfl
    rw [e, bulk_step]
    refine ⟨by rw [List.length_cons]; omega, ?_⟩
    rw [List.map_cons, List.sum_cons]
    omega
theorem arg_steps {H : Type} {enc : TypeId × Value → H} {w : World} {base : Nat} {spare : Nat → Bool} {held : Bool} {a : Option Addr} {n c : Nat} {d : DataW H} {p : List MemPlace} (h : DataW.Trod enc Tryz.prog w base spare held 22 (.slice a n c) d p) :
    ∃ l : List Sp, Script w a n l ∧ (∀ e ∈ l, int64 e.k ∧ int64 e.n) ∧ n ≤ Rows.uptoBulk d ∧ (l.map fun x => x.t.size).sum ≤ Rows.uptoBulk d := by
  obtain ⟨fuel, hf⟩ := h
  rcases open_steps hf with ⟨hcs, _⟩ | ⟨x, len, cap, l, rest, pl, hcs, _, _, hx, he, hall⟩
  · simp [Value.cells] at hcs
    obtain ⟨rfl, rfl, rfl⟩ := hcs
    exact ⟨[], ⟨rfl, .inl rfl⟩, (fun e he => by cases he), Nat.zero_le _, Nat.zero_le _⟩
  · simp [Value.cells] at hcs
    obtain ⟨rfl, rfl, rfl⟩ := hcs
    have hd : d = .slice (l.map dS) rest := congrArg Prod.fst hx
    have e : Rows.uptoBulk d = Rows.uptoBulkAll (l.map (dS (H := H))) + Rows.uptoBulkAll rest + 1 := by rw [hd]; rfl
    obtain ⟨h1, h2⟩ := bulk_steps (H := H) l
    rw [he.1] at h1
    exact ⟨l, he, hall, by omega, by omega⟩
theorem steps_nth {w : World} {a : Option Addr} {n : Nat} {l : List Sp} (h : Script w a n l) {k : Nat} {x : Sp} (hx : l[k]? = some x) : ∃ b off, a = some ⟨b, off, none⟩ ∧ b < w.heap.size ∧ w.cell? ⟨b, off + k * 3, none⟩ = some (.int .i64 x.k) ∧ w.cell? ⟨b, off + k * 3 + 1, none⟩ = some (.int .i64 x.n) ∧ w.cell? ⟨b, off + k * 3 + 1 + 1, none⟩ = some (.string x.t) := by
  have hk := (List.getElem?_eq_some_iff.1 hx).1
  rcases h.2 with h0 | ⟨b, off, ha, hlt, hc⟩
  · have := h.1; omega
  · exact ⟨b, off, ha, hlt, hc k x hx⟩
def su (l : List Sp) (i : Nat) : Nat := ((l.take i).map fun x => x.t.size).sum
theorem su_succ {l : List Sp} {i : Nat} {x : Sp} (h : l[i]? = some x) : su l (i + 1) = su l i + x.t.size := by
  unfold su
  rw [List.take_add_one, h, Option.toList_some, List.map_append, List.sum_append]
  rfl
theorem su_all (l : List Sp) (i : Nat) : su l i ≤ (l.map fun x => x.t.size).sum := by
  have h := congrArg (fun L : List Sp => (L.map fun x => x.t.size).sum) (List.take_append_drop i l)
  simp only [List.map_append, List.sum_append] at h
  unfold su
  omega
end Go.Proofs.YtdfcbnejnnibpaaGreatDoor.Cs

namespace Go.Proofs.YtdfcbnejnnibpaaGreatDoor.Cn
open Go.RowKit
set_option linter.unusedVariables false
set_option linter.unusedSimpArgs false
set_option linter.unnecessarySimpa false
def Bx3 (z : Nat) (n : Int) (t : ByteArray) (W : World) : Prop := W.cell? ⟨z, 1, none⟩ = some (.int .i64 n) ∧ W.cell? ⟨z, 2, none⟩ = some (.string t)
set_option maxRecDepth 100000 in
set_option maxHeartbeats 4000000 in
theorem regPAdd (ops : Array Oper) (hops : ops = (Rg.opsOf Tryz.f3 12)) (id : Nat) (z ub cb : Nat) (n m : Int) (t : ByteArray) {u0 u1 u2 u3 u4 u7 u9 u10 u11 u12 u13 u14 u15 u16 u17 u18 u19 u20 u21 u22 u23 u24 u25 u26 u27 u28 u29 u30 u31 u32 u33 u34 u35 u36 u37 u38 u39 u40 u41 u42 u43 u44 u45 u46 u47 u48 u49 u50 u51 u52 u53 u54 u55 u56 u57 u58 u59 u60 u61 u62 u63 u64 u65 u66 u67 u68 u69 u70 u71 u72 u73 u74 u75 u76 u77 u78 u79 u80 u81 u82 u83 u84 u85 u86 u87 u88 u89 u90 u91 u92 u93 : Value} (w : World) (B1 B2 : World → Prop)
    (hS : Bx3 z n t w) (hA : Calls Tryz.prog 10 #[.pointer (some ⟨ub, 0, none⟩), .string t, .int .i64 n] w.drew fun e w' => e = .returned (.int .i64 m) ∧ B1 w') (hAS : ∀ W, B1 W → Bx3 z n t W)
    (hB : ∀ W, B1 W → Calls Tryz.prog 11 #[.pointer (some ⟨cb, 0, none⟩), .string t] W fun e w' => e = .returned (.int .i64 m) ∧ B2 w') (hBS : ∀ W, B2 W → Bx3 z n t W) :
    (Code.region id ops true).wp Tryz.prog (Rg.Only fun a' w' => a' = ⟨#[u0, u1, u2, u3, u4, (.pointer (some ⟨ub, 0, none⟩)), (.pointer (some ⟨cb, 0, none⟩)), u7, (.pointer (some ⟨z, 0, none⟩)), u9, u10, u11, u12, u13, u14, u15, u16, u17, u18, u19, u20, u21, u22, u23, u24, u25, u26, u27, u28, u29, u30, u31, u32, u33, u34, u35, u36, u37, u38, u39, u40, u41, u42, u43, u44, u45, u46, u47, (.pointer (some ⟨ub, 0, none⟩)), (.pointer (some ⟨z, 2, none⟩)), (.string t), (.pointer (some ⟨z, 1, none⟩)), (.int .i64 n), (.int .i64 m), (.pointer (some ⟨cb, 0, none⟩)), (.pointer (some ⟨z, 2, none⟩)), (.string t), (.int .i64 m), (.bool false), u59, u60, u61, u62, u63, u64, u65, u66, u67, u68, u69, u70, u71, u72, u73, u74, u75, u76, u77, u78, u79, u80, u81, u82, u83, u84, u85, u86, u87, u88, u89, u90, u91, u92, u93], []⟩ ∧ B2 w') ⟨#[u0, u1, u2, u3, u4, (.pointer (some ⟨ub, 0, none⟩)), (.pointer (some ⟨cb, 0, none⟩)), u7, (.pointer (some ⟨z, 0, none⟩)), u9, u10, u11, u12, u13, u14, u15, u16, u17, u18, u19, u20, u21, u22, u23, u24, u25, u26, u27, u28, u29, u30, u31, u32, u33, u34, u35, u36, u37, u38, u39, u40, u41, u42, u43, u44, u45, u46, u47, u48, u49, u50, u51, u52, u53, u54, u55, u56, u57, u58, u59, u60, u61, u62, u63, u64, u65, u66, u67, u68, u69, u70, u71, u72, u73, u74, u75, u76, u77, u78, u79, u80, u81, u82, u83, u84, u85, u86, u87, u88, u89, u90, u91, u92, u93], []⟩ w := by
  subst hops
  have hNS : Region.noSelect (Rg.opsOf Tryz.f3 12) = true := by kernel_rfl
  refine wp_region_held_drew (S := Bx3 z n t) (by kernel_rfl) hS (fun hHeld => ?_)
  rw [show (Rg.opsOf Tryz.f3 12).size = 11 by kernel_rfl]
  refine Rg.take (ops := (Rg.opsOf Tryz.f3 12)) 0 (some 48) ((.pointer (some ⟨ub, 0, none⟩))) hNS (by kernel_rfl) (by kernel_rfl) (by kernel_rfl) (by kernel_rfl) (by kernel_rfl) hHeld (Rg.y_move (x := (Operand.tmp 5)) (Or.inl (by kernel_rfl)) (by kernel_rfl)) ?_
  refine Rg.take (ops := (Rg.opsOf Tryz.f3 12)) 1 (some 49) ((.pointer (some ⟨z, 2, none⟩))) hNS (by kernel_rfl) (by kernel_rfl) (by kernel_rfl) (by kernel_rfl) (by kernel_rfl) hHeld (Rg.y_field (T := 37) (k := 2) (x := (Operand.tmp 8)) (vx := (.pointer (some ⟨z, 0, none⟩))) (by kernel_rfl) (by kernel_rfl) ?_) ?_
  · (intro w hSw; clear hSw; go_simp)
  refine Rg.take (ops := (Rg.opsOf Tryz.f3 12)) 2 (some 50) ((.string t)) hNS (by kernel_rfl) (by kernel_rfl) (by kernel_rfl) (by kernel_rfl) (by kernel_rfl) hHeld (Rg.y_load (T := 9) (x := (Operand.tmp 49)) (vx := (.pointer (some ⟨z, 2, none⟩))) (by kernel_rfl) (by kernel_rfl) ?_) ?_
  · (intro w hSw; obtain ⟨s0, s1⟩ := hSw; go_simp)
  refine Rg.take (ops := (Rg.opsOf Tryz.f3 12)) 3 (some 51) ((.pointer (some ⟨z, 1, none⟩))) hNS (by kernel_rfl) (by kernel_rfl) (by kernel_rfl) (by kernel_rfl) (by kernel_rfl) hHeld (Rg.y_field (T := 37) (k := 1) (x := (Operand.tmp 8)) (vx := (.pointer (some ⟨z, 0, none⟩))) (by kernel_rfl) (by kernel_rfl) ?_) ?_
  · (intro w hSw; clear hSw; go_simp)
  refine Rg.take (ops := (Rg.opsOf Tryz.f3 12)) 4 (some 52) ((.int .i64 n)) hNS (by kernel_rfl) (by kernel_rfl) (by kernel_rfl) (by kernel_rfl) (by kernel_rfl) hHeld (Rg.y_load (T := 3) (x := (Operand.tmp 51)) (vx := (.pointer (some ⟨z, 1, none⟩))) (by kernel_rfl) (by kernel_rfl) ?_) ?_
  · (intro w hSw; obtain ⟨s0, s1⟩ := hSw; go_simp)
  refine Rg.take (ops := (Rg.opsOf Tryz.f3 12)) 6 (some 54) ((.pointer (some ⟨cb, 0, none⟩))) hNS (by kernel_rfl) (by kernel_rfl) (by kernel_rfl) (by kernel_rfl) (by kernel_rfl) hHeld (Rg.y_move (x := (Operand.tmp 6)) (Or.inl (by kernel_rfl)) (by kernel_rfl)) ?_
  refine Rg.take (ops := (Rg.opsOf Tryz.f3 12)) 7 (some 55) ((.pointer (some ⟨z, 2, none⟩))) hNS (by kernel_rfl) (by kernel_rfl) (by kernel_rfl) (by kernel_rfl) (by kernel_rfl) hHeld (Rg.y_field (T := 37) (k := 2) (x := (Operand.tmp 8)) (vx := (.pointer (some ⟨z, 0, none⟩))) (by kernel_rfl) (by kernel_rfl) ?_) ?_
  · (intro w hSw; clear hSw; go_simp)
  refine Rg.take (ops := (Rg.opsOf Tryz.f3 12)) 8 (some 56) ((.string t)) hNS (by kernel_rfl) (by kernel_rfl) (by kernel_rfl) (by kernel_rfl) (by kernel_rfl) hHeld (Rg.y_load (T := 9) (x := (Operand.tmp 55)) (vx := (.pointer (some ⟨z, 2, none⟩))) (by kernel_rfl) (by kernel_rfl) ?_) ?_
  · (intro w hSw; obtain ⟨s0, s1⟩ := hSw; go_simp)
  refine Rg.call (ops := (Rg.opsOf Tryz.f3 12)) (fn := Tryz.f10) (xs := #[Operand.tmp 48, Operand.tmp 50, Operand.tmp 52]) (ats := #[30, 9, 3]) 5 (some 53) 10 #[(.pointer (some ⟨ub, 0, none⟩)), (.string t), (.int .i64 n)] (by kernel_rfl) (by kernel_rfl) (by kernel_rfl) (by kernel_rfl) (by kernel_rfl) Tryz.func10 (by kernel_rfl) (by kernel_rfl) (by kernel_rfl) ?_
  refine hA.mono ?_
  rintro e w5 ⟨rfl, h5⟩
  refine ⟨_, rfl, hAS _ h5, fun hHeld => ?_⟩
  refine Rg.call (ops := (Rg.opsOf Tryz.f3 12)) (fn := Tryz.f11) (xs := #[Operand.tmp 54, Operand.tmp 56]) (ats := #[32, 9]) 9 (some 57) 11 #[(.pointer (some ⟨cb, 0, none⟩)), (.string t)] (by kernel_rfl) (by kernel_rfl) (by kernel_rfl) (by kernel_rfl) (by kernel_rfl) Tryz.func11 (by kernel_rfl) (by kernel_rfl) (by kernel_rfl) ?_
  refine (hB _ h5).mono ?_
  rintro e w6 ⟨rfl, h6⟩
  refine ⟨_, rfl, hBS _ h6, fun hHeld => ?_⟩
  refine Rg.take (ops := (Rg.opsOf Tryz.f3 12)) 10 (some 58) ((.bool false)) hNS (by kernel_rfl) (by kernel_rfl) (by kernel_rfl) (by kernel_rfl) (by kernel_rfl) hHeld (Rg.y_bin (b := BinOp.neq) (T := 3) (R' := 3) (x := (Operand.tmp 53)) (y := (Operand.tmp 57)) (vx := (.int .i64 m)) (vy := (.int .i64 m)) (by kernel_rfl) (by kernel_rfl) (by kernel_rfl) ?_) ?_
  · (intro w hSw; clear hSw; go_simp)
  refine Rg.done (ops := (Rg.opsOf Tryz.f3 12)) (by kernel_rfl) ?_
  exact ⟨by kernel_rfl, h6⟩
end Go.Proofs.YtdfcbnejnnibpaaGreatDoor.Cn

namespace Go.Proofs.YtdfcbnejnnibpaaGreatDoor.Cn
open Go.RowKit Tx Pm Dk Wm Wr Wl Pl Tb Bl
set_option linter.unusedVariables false
set_option linter.unusedSimpArgs false
set_option linter.unnecessarySimpa false
theorem e_add {I : List Nat} {D : Nat → ByteArray} {M : Nat} (d : ByteArray) (h : ∀ k ∈ I, k ≤ M) : eOf I D ++ [(M + 1, d)] = eOf (I ++ [M + 1]) (addD D M d) := by
  unfold eOf
  rw [List.map_append]
  congr 1
  · refine List.map_congr_left (fun k hk => ?_)
    have := h k hk
    unfold addD
    rw [if_neg (by omega)]
  · simp [addD]
theorem e_drop {D : Nat → ByteArray} : ∀ {I : List Nat} {k q : Nat}, I.Pairwise (· < ·) → I[k]? = some q → (eOf I D).take k ++ (eOf I D).drop (k + 1) = eOf (I.filter (fun a => !decide (a = q))) D
  | [], k, q, _, hk => by simp at hk
  | a :: I, 0, q, h, hk => by
    have e : a = q := by simpa using hk
    subst e
    have h1 := (List.pairwise_cons.1 h).1
    have h2 : I.filter (fun b => !decide (b = a)) = I := List.filter_eq_self.2 (fun b hb => by have := h1 b hb; simp; omega)
    rw [List.filter_cons_of_neg (by simp), h2]
    simp [eOf]
  | a :: I, k + 1, q, h, hk => by
    have hk' : I[k]? = some q := by simpa using hk
    have h1 := (List.pairwise_cons.1 h).1 q (List.mem_of_getElem? hk')
    have ih := e_drop (D := D) (List.pairwise_cons.1 h).2 hk'
    rw [List.filter_cons_of_pos (by simp; omega)]
    simp only [eOf, List.map_cons, List.take_succ_cons, List.drop_succ_cons, List.cons_append] at ih ⊢
    rw [ih]
def bx3 (K Z : Int) (T : ByteArray) : Obj := .cells #[.int .i64 K, .int .i64 Z, .string T] 37
theorem bx3_cells {W : World} {bs : Nat} {K Z : Int} {T : ByteArray} (h : W.heap[bs]? = some (bx3 K Z T)) : W.cell? ⟨bs, 0, none⟩ = some (.int .i64 K) ∧ W.cell? ⟨bs, 1, none⟩ = some (.int .i64 Z) ∧ W.cell? ⟨bs, 2, none⟩ = some (.string T) := by
  unfold bx3 at h
  refine ⟨?_, ?_, ?_⟩ <;> (unfold World.cell?; rw [h]; rfl)
section
variable {w W : World} {q : Option (Nat × Obj)} {b j t m u cb M S N V K : Nat} {x : Tst} {C : List Vn} {D : Nat → ByteArray} {E : List Ent}
theorem tt_below {b j t m : Nat} {w W W1 : World} {x : Tst} (o : Own (Tt b j t m) w x W) (hb : Below W.heap.size W W1) : Own (Tt b j t m) w x W1 := by
  obtain ⟨F, h1, h2, h3⟩ := o
  exact ⟨F, (kd_tt b j t m).kept h1 (fun i hi => hb.block i ((kd_tt b j t m).lt h1 i hi)), h2, Tx.below_call h3 hb⟩
theorem cp_first (D : Nat → ByteArray) (S : Nat) (o : Own (Tu b j t m u) w (x0, []) W) : Cp b j t m u W.heap.size w none x0 [] D 0 S 0 0 (eOf (ids []) D) 0 (W.alloc (.cells #[.slice none 0 0, .int .i64 0] 35)) := by
  obtain ⟨F, h1, h2, h3⟩ := o
  have hbl := (Below.refl W.heap.size W).alloc (Nat.le_refl _) (.cells #[.slice none 0 0, .int .i64 0] 35)
  refine ⟨[], fun _ => 0, ⟨F, fun i => i = W.heap.size, (kd_tu b j t m u).kept h1 (fun i hi => hbl.block i ((kd_tu b j t m u).lt h1 i hi)), ⟨.slice none 0 0, new_at W _ rfl, World.ownsRow_nil _ _ _ _, (fun e => by cases e), fun i => ⟨fun e => .inl e, fun e => by rcases e with e | e; exact e; cases e⟩⟩, fun i hi hg => ?_, fun i hi => ?_, Tx.below_call h3 hbl, fun p hp => by cases hp⟩, rp_nil, gv_nil D 0 S, Nat.le_refl _, (fun _ h => by cases h), Nat.le_refl _⟩
  · have := (kd_tu b j t m u).lt h1 i hi
    omega
  · rcases hi with hi | hi
    · exact h2 i hi
    · have := h3.size; omega
theorem cp_addA {d : ByteArray} {n : Int} (h : Cp b j t m u cb w q x C D M S N V E K W) (ht : Tab w) (hM : M ≤ 10000000) (hN : N ≤ 100000000) (hS : S ≤ 100000000) (hd : d.size ≤ S) (hn : i64 n) :
    Calls Tryz.prog 10 #[.pointer (some ⟨u, 0, none⟩), .string d, .int .i64 n] W fun e w' => e = .returned (.int .i64 ((M + 1 : Nat) : Nat)) ∧ Cp b j t m u cb w q x (addC C M d n) (addD D M d) (M + 1) S (N + 2) (V + d.size + 400) E K w' := by
  refine (h.call (P := fun e => e = .returned (.int .i64 ((M + 1 : Nat) : Nat))) (Q := fun C' => C' = addC C M d n) (D' := addD D M d) (M' := M + 1) (N' := N + 2) (V' := V + d.size + 400) ht (fun F hz hc => ?_)).mono ?_
  · exact (add_any hc hM hN hS hd hn hz).mono fun e w' hh => ⟨hh.1, _, rfl, hh.2⟩
  · rintro e w' ⟨he, C', rfl, hh⟩
    exact ⟨he, hh⟩
theorem cp_addB {d : ByteArray} (h : Cp b j t m u cb w q x C D M S N V E K W) (hK : K ≤ 1000000000) (hE : E.length ≤ 1000000) :
    Calls Tryz.prog 11 #[.pointer (some ⟨cb, 0, none⟩), .string d] W fun e w' => e = .returned (.int .i64 ((K + 1 : Nat) : Nat)) ∧ Cp b j t m u cb w q x C D M S N V (E ++ [(K + 1, d)]) (K + 1) w' :=
  h.ref (P := fun e => e = .returned (.int .i64 ((K + 1 : Nat) : Nat))) (fun G hr => rAdd_any cb K d W hr hK hE)
theorem cp_place {z : Int} (h : Cp b j t m u cb w q x C D M S N V (eOf (ids C) D) K W) : (placeE (eOf (ids C) D) z = -1 ∧ atI C z = none) ∨ ∃ k v, v ∈ C ∧ (v.id : Int) = z ∧ placeE (eOf (ids C) D) z = (k : Nat) ∧ (eOf (ids C) D).take k ++ (eOf (ids C) D).drop (k + 1) = eOf ((ids C).filter (fun a => !decide (a = v.id))) D := by
  obtain ⟨r, hg⟩ := h.good
  rcases place_neg (eOf (ids C) D) z with e | ⟨k, e⟩
  · refine .inl ⟨e, not_at (fun k hk he => ?_)⟩
    have := (place_eOf (ids C) D z).2 ⟨k, hk, he⟩
    omega
  · obtain ⟨hk, y, hy, hyz⟩ := place_at e
    unfold eOf at hy
    rw [List.getElem?_map] at hy
    cases hi : (ids C)[k]? with
    | none => rw [hi] at hy; cases hy
    | some a =>
      rw [hi] at hy
      injection hy with hy
      subst hy
      obtain ⟨v, hv, e1, _⟩ := mem_at hg (List.mem_of_getElem? hi)
      refine .inr ⟨k, v, hv, by rw [e1]; exact hyz, e, ?_⟩
      rw [e1]
      exact e_drop (ids_rise hg) hi
theorem e_len : (eOf (ids C) D).length = C.length := by unfold eOf; rw [List.length_map, len_ids]
theorem e_ids {r : Nat → Nat} (hg : Gv C D r M S) : ∀ p ∈ eOf (ids C) D, p.1 ≤ M := by
  intro p hp
  obtain ⟨k, hk, rfl⟩ := List.mem_map.1 hp
  exact (ids_le hg hk).2
theorem cp_dropA {v : Vn} (h : Cp b j t m u cb w q x C D M S N V E K W) (ht : Tab w) (hx : Xk x) (hv : v ∈ C) (hM : M ≤ 10000000) (hN : N ≤ 10000000) (hS : S ≤ 100000000) (hcl : C.length ≤ 10000000) :
    Calls Tryz.prog 12 #[.pointer (some ⟨u, 0, none⟩), .int .i64 (v.id : Nat)] W fun e w' => e = .returned (.int .i64 0) ∧ ∃ C', ids C' = (ids C).filter (fun k => !decide (k = v.id)) ∧ Cp b j t m u cb w q x C' D M S (N + C.length + 1) (V + C.length * 4300 + 100) E K w' :=
  h.call (P := fun e => e = .returned (.int .i64 0)) (Q := fun C' => ids C' = (ids C).filter (fun k => !decide (k = v.id))) ht (fun F hz hc => drop_any hc hx hv hM hN hS hcl hz)
theorem cp_dropN {z : Int} (h : Cp b j t m u cb w q x C D M S N V E K W) (ht : Tab w) (hz : i64 z) (ha : atI C z = none) (hM : M ≤ 10000000) (hS : S ≤ 100000000) :
    Calls Tryz.prog 12 #[.pointer (some ⟨u, 0, none⟩), .int .i64 z] W fun e w' => e = .returned (.int .i64 11) ∧ Cp b j t m u cb w q x C D M S N V E K w' := by
  refine (h.call (P := fun e => e = .returned (.int .i64 11)) (Q := fun C' => C' = C) (D' := D) (M' := M) (N' := N) (V' := V) ht (fun F hz0 hc => ?_)).mono ?_
  · exact (drop_none hc hz ha hM hS hz0).mono fun e w' hh => ⟨hh.1, _, rfl, hh.2⟩
  · rintro e w' ⟨he, C', rfl, hh⟩
    exact ⟨he, hh⟩
theorem cp_dropB {z : Int} {k : Nat} (h : Cp b j t m u cb w q x C D M S N V E K W) (hE : E.length ≤ 1000000) (hEs : ∀ p ∈ E, p.1 ≤ 1000000000) (hk : placeE E z = (k : Nat)) :
    Calls Tryz.prog 13 #[.pointer (some ⟨cb, 0, none⟩), .int .i64 z] W fun e w' => e = .returned (.bool true) ∧ Cp b j t m u cb w q x C D M S N V (E.take k ++ E.drop (k + 1)) K w' :=
  h.ref (P := fun e => e = .returned (.bool true)) (fun G hr => rDrop_any cb K z W hr hE hEs hk)
theorem cp_dropBN {z : Int} (h : Cp b j t m u cb w q x C D M S N V E K W) (hE : E.length ≤ 1000000) (hEs : ∀ p ∈ E, p.1 ≤ 1000000000) (hk : placeE E z = -1) :
    Calls Tryz.prog 13 #[.pointer (some ⟨cb, 0, none⟩), .int .i64 z] W fun e w' => e = .returned (.bool false) ∧ Cp b j t m u cb w q x C D M S N V E K w' :=
  h.refB (P := fun e => e = .returned (.bool false)) (fun G hr => rDrop_none cb K z W hr hE hEs hk)
def St10 (b j t m cb : Nat) (w : World) (q : Option (Nat × Obj)) (l : List Cs.Sp) (i : Nat) (v : Value) (W : World) : Prop :=
  ∃ (u : Nat) (x : Tst) (C : List Vn) (D : Nat → ByteArray) (M N V K : Nat), v = .pointer (some ⟨u, 0, none⟩) ∧ Cp b j t m u cb w q x C D M 1048576 N V (eOf (ids C) D) M W ∧ Gt x K ∧ K ≤ i ∧ Xp x ∧ ws x.L + V ≤ Cs.su l i + i * 345000 ∧ C.length ≤ i ∧ M ≤ i ∧ N ≤ i * 200
theorem xp0 : Xp x0 := fun _ h => by cases h
end
end Go.Proofs.YtdfcbnejnnibpaaGreatDoor.Cn

namespace Go.Proofs.YtdfcbnejnnibpaaGreatDoor.chainPlays
open Go.ChangeMaps (open_string shut_string)
open Go.ChangeShapes Go.WideShapes Go.ChangeAt Go.RowKit Tx Pm Dk Wm Wr Wl Pl Tb Bl Cn
set_option linter.unusedVariables false
set_option linter.unusedSimpArgs false
set_option linter.unnecessarySimpa false
set_option maxRecDepth 100000 in
set_option maxHeartbeats 40000000 in
theorem walk (A : Option Addr) (n c : Nat) (l : List Cs.Sp) (w : World) (hS : Cs.Script w A n l) (hKs : ∀ e ∈ l, Cs.int64 e.k ∧ Cs.int64 e.n) (hU : (l.map fun x => x.t.size).sum ≤ 1048576) (ht : Tab w) :
    Calls Tryz.prog 3 #[.slice A n c] w fun e w' => e = .returned (.bool true) ∧ Below w.heap.size w w' := by
  have HL := Lib.hid hS
  have HLN := Lib.hid hS.1
  have HW : Hid (∀ x ∈ l, x.t.size ≤ 1048576) := Lib.hid (fun x hx => by
    have := mem_le_sum (List.mem_map.2 ⟨x, hx, rfl⟩ : x.t.size ∈ l.map (fun x => x.t.size))
    omega)
  have HK := Lib.hid hKs
  have HSU := Lib.hid (fun i => Nat.le_trans (Cs.su_all l i) hU)
  have HT := Lib.hid ht
  clear hS ht hKs hU
  go_enter Tryz.func3, Tryz.ntmps3
  go_wp2_with fail
  go_at_call 7
  refine (w_new w (Below.refl _ _)).mono ?_
  rintro e w1 ⟨b, rfl, o1⟩
  go_wp2_with fail
  go_at_call 6
  refine (a_open o1 new_ok7 new_open7).mono ?_
  rintro e w2 ⟨t, j, m, rfl, o2⟩
  clear o1
  go_wp2_with fail
  go_at_call 8
  refine (awake_any10 w2 w2 (Below.refl _ _) (HT.out.below o2.bel)).mono ?_
  rintro e w3 ⟨rfl, hb3⟩
  have o3 := tt_below o2 hb3
  clear o2 hb3
  go_wp2_with fail
  go_at_call 9
  refine (a_begin o3).mono ?_
  rintro e w4 ⟨u, rfl, o4⟩
  have o5 := cp_first (fun _ => ⟨#[]⟩) 1048576 o4
  clear o3 o4
  go_wp2_with fail
  generalize w4.heap.size = cb at o5 ⊢
  have hat0 : St10 b j t m cb w none l 0 (.pointer (some ⟨u, 0, none⟩)) _ := ⟨u, x0, [], _, 0, 0, 0, 0, rfl, o5, gt_new, Nat.le_refl _, xp0, Nat.zero_le _, Nat.le_refl _, Nat.le_refl _, Nat.le_refl _⟩
  clear o5
  go_loopw [5, 7] (fun bv iv wr => ∃ i : Nat, i ≤ n ∧ i ≤ 80 ∧ iv = .int .i64 i ∧ St10 b j t m cb w none l i bv wr) (fun _ iv _ => n - (intOf iv).toNat)
  case atStart => exact ⟨0, Nat.zero_le _, Nat.zero_le _, rfl, hat0⟩
  case round =>
    clear hat0
    obtain ⟨i, hi, hi2, rfl, u, x, C, D, M, N, V, Kt, rfl, o, hgt, hKt, hxp, hw, hcl, hMi, hNi⟩ := hrel
    by_cases hlt : i < n
    · by_cases hlt2 : i < 80
      · obtain ⟨xs, hx⟩ : ∃ x, l[i]? = some x := ⟨_, List.getElem?_eq_getElem (by have := HLN.out; omega)⟩
        obtain ⟨ba, off, rfl, hba, c1, c2, c3⟩ := Cs.steps_nth HL.out hx
        have hts := HW.out xs (List.mem_of_getElem? hx)
        have hKZ := HK.out xs (List.mem_of_getElem? hx)
        have hsx := Cs.su_succ hx
        have hB := o.bel
        have d1 := (hB.cell (p := ⟨ba, _, none⟩) hba).trans c1
        have d2 := (hB.cell (p := ⟨ba, _, none⟩) hba).trans c2
        have d3 := (hB.cell (p := ⟨ba, _, none⟩) hba).trans c3
        obtain ⟨K, Z, T⟩ := xs
        simp only at d1 d2 d3 hts hKZ hsx
        have hzi : i64 Z := hKZ.2
        have hsu1 := HSU.out (i + 1)
        have hKi := hKZ.1
        unfold Cs.int64 at hKi
        have hltz : (i : Int) < (n : Int) := by omega
        have hltz2 : (i : Int) < 80 := by omega
        have HSX := Lib.hid hsx
        have HGT := Lib.hid hgt
        have HXP := Lib.hid hxp
        obtain ⟨w2, hw2⟩ : ∃ w2, w2 = wr.alloc (.cells #[.int .i64 K, .int .i64 Z, .string T] 37) := ⟨_, rfl⟩
        have o2 : Cp b j t m u cb w (some (wr.heap.size, bx3 K Z T)) x C D M 1048576 N V (eOf (ids C) D) M w2 := by
          rw [hw2]
          exact o.box (bx3 K Z T)
        have hsb : ws x.L + V ≤ 28700000 := by have := Cs.su_succ hx; simp only at this; omega
        clear c1 c2 c3 hx hB o hgt hxp hKZ
        go_upto_block 2 with fail
        rw [← hw2]
        obtain ⟨e0, e1, e2⟩ := bx3_cells o2.at
        clear hw2 d1 d2 d3 hsx
        generalize wr.heap.size = bs at o2 e0 e1 e2 ⊢
        go_cut [5, 9, 10] from 46 to 94 (fun bv _ _ wq => St10 b j t m cb w (some (bs, bx3 K Z T)) l (i + 1) bv wq)
        case first =>
          by_cases hK1 : K = 1
          · as_aux_lemma =>
              subst hK1
              have hle : Hid (∀ k ∈ ids C, k ≤ M) := Lib.hid (fun k hk => by
                obtain ⟨r, hg⟩ := o2.good
                exact (ids_le hg hk).2)
              have o3 := o2.below ((Below.refl _ _).drew)
              have hel : (eOf (ids C) D).length = C.length := e_len
              have hel2 : (eOf (ids C) D).length ≤ 1000000 := by omega
              have ca := cp_addA (d := T) (n := Z) o3 HT.out (by omega) (by omega) (by omega) hts hzi
              clear o2 o3 hel e0
              go_wp2_with fail
              refine Rg.wp_only ?_ (regPAdd _ (by kernel_rfl) _ bs u cb Z ((M + 1 : Nat) : Int) T w2 _ (fun W => Cp b j t m u cb w (some (bs, bx3 1 Z T)) x (addC C M T Z) (addD D M T) (M + 1) 1048576 (N + 2) (V + T.size + 400) (eOf (ids C) D ++ [(M + 1, T)]) (M + 1) W) ⟨e1, e2⟩ ca (fun W h => ⟨(bx3_cells h.at).2.1, (bx3_cells h.at).2.2⟩) (fun W h => cp_addB h (by omega) hel2) (fun W h => ⟨(bx3_cells h.at).2.1, (bx3_cells h.at).2.2⟩))
              rintro _ w9 ⟨rfl, o9⟩
              rw [e_add T hle.out, ← ids_add C M T Z] at o9
              have HL2 := Lib.hid (len_add C M T Z)
              clear ca e1 e2 hel2
              go_wp2_with fail
              go_meet
              exact ⟨u, x, _, _, M + 1, N + 2, V + T.size + 400, Kt, rfl, o9, HGT.out, by omega, HXP.out, by have := HSX.out; omega, by have := HL2.out; omega, by omega, by omega⟩
          have n1 : ((K : Int) == 1) = false := beq_eq_false_iff_ne.2 hK1
          by_cases hK2 : K = 2
          · as_aux_lemma =>
              subst hK2
              have hel : (eOf (ids C) D).length = C.length := e_len
              have HEI : Hid (∀ p ∈ eOf (ids C) D, p.1 ≤ 1000000000) := Lib.hid (fun p hp => by
                obtain ⟨r, hg⟩ := o2.good
                have := e_ids hg p hp
                omega)
              rcases cp_place (z := Z) o2 with ⟨hpl, hat⟩ | ⟨kk, v, hv, hvz, hpl, hdr⟩
              · have cd := cp_dropN o2 HT.out hzi hat (by omega) (by omega)
                have HC := Lib.hid (fun W (h : Cp b j t m u cb w (some (bs, bx3 2 Z T)) x C D M 1048576 N V (eOf (ids C) D) M W) => cp_dropBN (z := Z) h (by omega) HEI.out hpl)
                clear o2 hpl hat hel e0 e2
                go_wp2_with fail
                go_at_call 12
                refine (cd).mono ?_
                rintro e w3 ⟨rfl, o3⟩
                have cr := HC.out w3 o3
                clear e1
                obtain ⟨f0, e1, f2⟩ := bx3_cells o3.at
                clear cd o3 f0 f2
                go_wp2_with fail
                go_at_call 13
                refine (cr).mono ?_
                rintro e w4 ⟨rfl, o4⟩
                clear cr e1
                have o9 := o4.mono (N' := N) (V' := V) (Nat.le_refl _) (Nat.le_refl _)
                clear o4
                go_wp2_with fail
                go_meet
                exact ⟨u, x, C, D, M, N, V, Kt, rfl, o9, HGT.out, by omega, HXP.out, by have := HSX.out; omega, by omega, by omega, by omega⟩
              · have cd := cp_dropA o2 HT.out (xk_of HXP.out (by omega)) hv (by omega) (by omega) (by omega) (by omega)
                rw [hvz] at cd
                have HC := Lib.hid (fun C' N' V' W (h : Cp b j t m u cb w (some (bs, bx3 2 Z T)) x C' D M 1048576 N' V' (eOf (ids C) D) M W) => cp_dropB (z := Z) h (by omega) HEI.out hpl)
                have HDR := Lib.hid hdr
                generalize v.id = vi at cd HDR
                clear o2 hpl hel e0 e2 hv hvz hdr
                go_wp2_with fail
                go_at_call 12
                refine (cd).mono ?_
                rintro e w3 ⟨rfl, C', hC', o3⟩
                have cr := HC.out _ _ _ w3 o3
                rw [HDR.out, ← hC'] at cr
                have hlen : C'.length ≤ C.length := by
                  have h1 := len_ids C'
                  have h2 := List.length_filter_le (fun a => !decide (a = vi)) (ids C)
                  have h3 := len_ids C
                  rw [hC'] at h1
                  omega
                clear e1
                obtain ⟨f0, e1, f2⟩ := bx3_cells o3.at
                clear cd o3 f0 f2 hC'
                go_wp2_with fail
                go_at_call 13
                refine (cr).mono ?_
                rintro e w4 ⟨rfl, o9⟩
                clear cr e1
                go_wp2_with fail
                go_meet
                exact ⟨u, x, C', D, M, _, _, Kt, rfl, o9, HGT.out, by omega, HXP.out, by have := HSX.out; omega, by omega, by omega, by omega⟩
          have n2 : ((K : Int) == 2) = false := beq_eq_false_iff_ne.2 hK2
          by_cases hK3 : K = 3
          · as_aux_lemma =>
              subst hK3
              obtain ⟨r, hg⟩ := o2.good
              have HG := Lib.hid hg
              have cc := cp_commit o2 HGT.out (by omega) (by omega) HXP.out (Nat.le_refl _) (by omega)
              clear o2 hg e0 e1 e2
              go_wp2_with fail
              go_at_call 14
              refine (cc).mono ?_
              rintro e w3 ⟨rfl, y, hy, hR, hxy, hwy, o3⟩
              have cb' := cp_begin o3 hR HG.out
              have HY := Lib.hid hy
              have HXY := Lib.hid hxy
              clear cc o3 hR hy hxy
              go_wp2_with fail
              go_at_call 9
              refine (cb').mono ?_
              rintro e w4 ⟨u2, rfl, o9⟩
              clear cb'
              go_wp2_with fail
              go_meet
              exact ⟨u2, y, C, D, M, 0, 0, Kt + 1, rfl, o9, HY.out, by omega, HXY.out, by have := HSX.out; omega, by omega, by omega, by omega⟩
          have n3 : ((K : Int) == 3) = false := beq_eq_false_iff_ne.2 hK3
          clear hK1 hK2 hK3 e0 e1 e2
          go_wp2_with fail
          go_meet
          exact ⟨u, x, C, D, M, N, V, Kt, rfl, o2, HGT.out, by omega, HXP.out, by have := HSX.out; omega, by omega, by omega, by omega⟩
        case rest =>
          clear o2 e0 e1 e2 hw hcl hMi hNi hKt HGT HXP HSX hsb
          obtain ⟨u, x, C, D, M, N, V, Kt, rfl, o, hgt, hKt, hxp, hw, hcl, hMi, hNi⟩ := hcut
          obtain ⟨f0, f1, f2⟩ := bx3_cells o.at
          have ca := cp_alike o HT.out (xk_of hxp (by omega)) (by omega) (by omega) (by omega) hzi (by omega)
          have HGT := Lib.hid hgt
          have HXP := Lib.hid hxp
          clear o f0 f2 hgt hxp
          go_wp2_with fail
          go_at_call 15
          refine (ca).mono ?_
          rintro e w9 ⟨rfl, o9⟩
          have o10 := o9.drop
          clear ca o9 f1
          go_wp2_with fail
          go_roundw
          case rel => exact ⟨i + 1, by omega, by omega, by go_num, u, x, C, D, M, N, V, Kt, rfl, o10, HGT.out, hKt, HXP.out, hw, hcl, hMi, hNi⟩
          case measure => simp [intOf]; omega
      · obtain rfl : i = 80 := by omega
        have hltz : ((80 : Nat) : Int) < (n : Int) := by omega
        have hbel := o.bel
        clear o
        go_wp2_with fail
        go_ret
        exact ⟨rfl, hbel⟩
    · obtain rfl : i = n := by omega
      have hbel := o.bel
      clear o
      go_wp2_with fail
      go_ret
      exact ⟨rfl, hbel⟩
theorem tab_of {W : World} (h : laidMetH Tryz.prog Rows.chainPlaysUptoRow.laid W) : Tab W := tab_laid h
theorem own : ownKnob Tryz.prog.godebug = none := by kernel_rfl
theorem laidOut : laidOutB Tryz.prog = true := by kernel_rfl
set_option maxRecDepth 100000 in
theorem contract (H : Type) (enc : TypeId × Value → H) (W : World) (base : Nat) (args : Array Value) (ds gs : List (DataW H)) (before : List MemPlace)
    (hval0 : ∀ (j : Nat) t v, Tryz.f3.params[j]? = some t → args[j]? = some v → Value.okWide Tryz.prog W .any base t v)
    (hW : DataW.Whole enc Tryz.prog Tryz.f3.params.toList Rows.chainPlaysSpec.vars false W args.toList ds gs before)
    (hk : Rows.uptoSmall H (ds ++ gs) = true)
    (hsz0 : (DataW.weightsEach Tryz.prog (Tryz.f3.params.toList ++ Rows.chainPlaysSpec.plain.varTypes Tryz.prog) (ds ++ gs)).all (· ≤ reachBytes) = true)
    (hL : laidMetH Tryz.prog Rows.chainPlaysUptoRow.laid W) :
    Calls Tryz.prog 3 args W fun e W' => ∃ v, e = .returned v ∧ Rows.chainPlaysSpec.post enc Tryz.prog Tryz.f3 false true false false W args v W' := by
  have hval : ∀ (j : Nat) t v, Tryz.f3.params[j]? = some t → args[j]? = some v → Value.okWide Tryz.prog W .any base t v := hval0
  have hsz := hsz0
  clear hsz0
  have hW' := hW
  obtain ⟨p, q, hA0, hV, rfl, hfz, hnd⟩ := hW
  have hA : DataW.TrodAll enc Tryz.prog W 0 (fun _ => true) true Tryz.f3.params.toList args.toList ds p := hA0
  rw [Tryz.params3] at hA hval hsz
  obtain ⟨v0, vs0, d0, ds0, p0, q0, hargs, rfl, rfl, h0, r0⟩ := trodAll_cons hA
  obtain ⟨rfl, rfl, rfl⟩ := trodAll_nil r0
  obtain rfl : args = #[v0] := by cases args; simp_all
  obtain ⟨rfl, rfl⟩ := trodVars_none hV
  obtain ⟨A0, n0, c0, rfl⟩ := okWide_slice Tryz.underlying22 (hval 0 22 v0 rfl rfl)
  have k0 := h0
  have lt0 : ∀ x ∈ p0, x.block < W.heap.size := by obtain ⟨m, hm⟩ := k0; exact DataW.trod_lt m _ _ _ hm
  clear hA0 hval0
  obtain ⟨l0, hS0, hi0, hm0, hu0⟩ := Cs.arg_steps k0
  have hu0 : (l0.map fun x => x.t.size).sum ≤ 1048576 := by
    have h1 := of_decide_eq_true hk
    simp only [List.cons_append, List.nil_append, List.append_nil, Rows.uptoBulkAll] at h1
    omega
  refine (walk A0 n0 c0 l0 W hS0 hi0 hu0 (tab_of hL)).mono fun e W' ⟨he, bel⟩ => ?_
  subst he
  exact ⟨_, rfl, _, _, _, [], _, [], hW', trodAll_mk1 (shut_bool Tryz.underlying4 _), (trodAll_cons_mk (Below.trod laidOut (by kernel_rfl) (of_decide_eq_true (by kernel_rfl)) k0 bel lt0) trodAll_mk0), rfl, bel.frame _, fun h => by cases h⟩
theorem door_met (os : Os) : laidMetH Tryz.prog Rows.chainPlaysUptoRow.laid ((World.doorLaid Tryz.prog 400 os).forCall (fun _ _ => 0) ⟨#[], #[.slice none 0 0], []⟩).memory :=
  laidMetH_of_parts3 (fuel := 8) (laidMet_of_run' 8 (by kernel_rfl) (by kernel_rfl)) (by kernel_rfl) (by kernel_rfl)
theorem reads (os : Os) {H : Type} (enc : TypeId × Value → H) : ∃ places, DataW.whole enc Tryz.prog ((World.doorLaid Tryz.prog 400 os).forCall (fun _ _ => 0) ⟨#[], #[.slice none 0 0], []⟩).memory Tryz.f3.params.toList Rows.chainPlaysSpec.vars false (#[.slice none 0 0] : Array Value).toList 8 = some ([.nil], [], places) :=
  ⟨[], by kernel_rfl⟩
set_option maxRecDepth 100000 in
theorem lifted (os : Os) (started : os.Started) (H : Type) (enc : TypeId × Value → H) (F : Stop.Interp) :
    ReturnsInHanded {} Tryz.checked os 3 .any ((Rows.OpenSpec.upto Rows.chainPlaysSpec).preRow enc Tryz.prog Tryz.f3 Rows.chainPlaysUptoRow.domain false Rows.chainPlaysUptoRow.laid) (((Rows.OpenSpec.upto Rows.chainPlaysSpec).at F).post enc Tryz.prog Tryz.f3 false true false false) := by
  obtain ⟨places, hx⟩ := reads os enc
  refine returnsInHanded_of_row (C := Tryz.checked) (s := (Rows.OpenSpec.upto Rows.chainPlaysSpec)) own started (by kernel_rfl) Tryz.func3
    (witness_row_at (enc := enc) (C := Tryz.checked) false (World.doorLaid Tryz.prog 400 os) #[.slice none 0 0] rfl (by kernel_rfl) (by kernel_rfl) (by kernel_rfl)
      (OpenSpec.preRow_of_cond 8 hx (by kernel_rfl) (fun k hk => by cases hk; kernel_rfl) (by kernel_rfl) (door_met os))) ?_
  intro W base args ds gs before hval hW _ hcond hsz0 hL _ _
  exact contract H enc W base args ds gs before hval hW (hcond _ rfl) hsz0 hL
theorem over : Rows.chainPlaysUptoRow.holds Tryz.pinned (Rows.OpenSpec.upto Rows.chainPlaysSpec) :=
  OpenClaim.holds_of_cond 3 Tryz.f3 rfl rfl rfl rfl rfl rfl rfl ⟨rfl, rfl, rfl, rfl, rfl⟩ rfl rfl rfl rfl rfl (by kernel_rfl) Tryz.func3 (by kernel_rfl)
    (of_decide_eq_true (by kernel_rfl)) (by unfold Func.isWrapper; first | (rw [if_pos (by decide +kernel)]; kernel_rfl) | (rw [if_neg (by decide +kernel)]; exact ⟨rfl, rfl⟩))
    (fun os started H enc _ F => by rw [OpenClaim.pre_eq_preRow]; exact lifted os started H enc F)
theorem plain (f : FuncId) (fn : Func) (hf : Tryz.pinned.checked.prog.funcNamed "tether/tetherlaw10.ChainPlays" = some f) (hfn : Tryz.pinned.checked.prog.funcs[f]? = some fn) :
    true = Tryz.pinned.checked.prog.looks [] ∧ ∀ (j : Nat) t, fn.params[j]? = some t → Tryz.pinned.checked.prog.wantsStandIn t = false := by
  obtain rfl : f = 3 := Option.some.inj ((show Tryz.prog.funcNamed "tether/tetherlaw10.ChainPlays" = some 3 by kernel_rfl).symm.trans hf) |>.symm
  obtain rfl : fn = Tryz.f3 := (Option.some.inj (Tryz.func3.symm.trans hfn)).symm
  refine ⟨by kernel_rfl, fun j t ht => ?_⟩
  rw [Tryz.params3] at ht
  have hm : t ∈ [22] := by simpa using Array.mem_of_getElem? ht
  have hall : ([22].all fun u => !Tryz.prog.wantsStandIn u) = true := by kernel_rfl
  exact (show Tryz.prog.wantsStandIn t = false by simpa using List.all_eq_true.1 hall t hm)
theorem card : Rows.ChainPlaysUptoCardSaid :=
  Claim7.holds_tied_plain_at .later [] _ _ _ _ over (fun _ h => by cases h) (by kernel_rfl) (fun _ h => by cases h) chainPlaysUpto_row_tie rfl ⟨rfl, rfl⟩ (by kernel_rfl) rfl plain (by kernel_rfl)
end Go.Proofs.YtdfcbnejnnibpaaGreatDoor.chainPlays
namespace Go.Proofs.YtdfcbnejnnibpaaGreatDoor
theorem chainPlaysUptoCard_holds : Rows.ChainPlaysUptoCardSaid := chainPlays.card
#print axioms chainPlaysUptoCard_holds
end Go.Proofs.YtdfcbnejnnibpaaGreatDoor
