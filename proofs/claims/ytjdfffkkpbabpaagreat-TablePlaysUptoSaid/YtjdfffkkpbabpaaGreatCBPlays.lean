/-
  TablePlays, up to the bound: a table over any script of changes, commits, new batches, packs, stops and losses (that holds at most 1048576 values and letters) answers, step by step, what the document's own table answers, every key and every value, also as a batch would have it, and both disks have made as many steps: the law returns true, and writes nothing that was there. Condition: the bound of the second form.
-/
import Derived.Test.YtjdfffkkpbabpaaGreatT7
import Derived.JoinedCond
import Derived.SizedLaws
import Derived.ChangeOld
import Derived.Deep.CondSized
namespace Go.Proofs.YtjdfffkkpbabpaaGreat.tablePlays
open Go.ChangeMaps (open_string shut_string)
open Go.ChangeShapes Go.WideShapes Go.ChangeAt Go.RowKit Tx Pm Dk Wm Wr Wl Pl Od Tb
set_option linter.unusedVariables false
theorem mem_sum {l : List Ts.Sp} {x : Ts.Sp} (h : x ∈ l) : x.p.size + x.t.size + 5 ≤ (l.map fun x => x.p.size + x.t.size + 5).sum := by
  induction l with
  | nil => cases h
  | cons y l ih =>
    rw [List.map_cons, List.sum_cons]
    rcases List.mem_cons.1 h with rfl | h
    · omega
    · have := ih h; omega
theorem su_le (l : List Ts.Sp) (m : Nat) : su l m ≤ (l.map fun x => x.p.size + x.t.size + 5).sum + 35 * m := Ts.take_sum l m
set_option maxRecDepth 100000 in
set_option maxHeartbeats 60000000 in
theorem walk (A : Option Addr) (n0 c : Nat) (l : List Ts.Sp) (w : World) (hl : Ts.Script w A n0 l) (hn0 : n0 ≤ 1048576) (hs : ∀ x ∈ l, x.p.size ≤ 1048576 ∧ x.t.size ≤ 1048576 ∧ Ts.int64 x.k ∧ Ts.int64 x.n) (hsu : su l 150 ≤ 1100000) :
    Calls Tryz.prog 3 #[.slice A n0 c] w fun e w' => e = .returned (.bool true) ∧ Below w.heap.size w w' := by
  have HL := Lib.hid hl
  have HS := Lib.hid hs
  have HLN := Lib.hid hl.1
  have HSU := Lib.hid hsu
  have HTOT := Lib.hid (show tot (Sl l) ≤ 1100000 by rw [tot_sl]; exact hsu)
  clear hl hs hsu
  go_enter Tryz.func3, Tryz.ntmps3
  go_wp2_with fail
  go_at_call 4
  refine (w_new w (Below.refl _ _)).mono ?_
  rintro e w1 ⟨b, rfl, o1⟩
  go_wp2_with fail
  go_at_call 5
  refine (rNew_any _).mono ?_
  rintro e w2 ⟨bw, rfl, hbw, hatw, hb2⟩
  go_wp2_with fail
  go_at_call 6
  refine (awake_any7 w2 w2 (Below.refl _ _)).mono ?_
  rintro e w3 ⟨rfl, hb3⟩
  have hT3 := tw_new7 o1 hbw hatw hb2 hb3
  have cA := t_open (kd_ref bw) hT3 new_ok7 new_open7
  clear o1 hatw hb2 hb3 hT3 hbw
  go_wp2_with fail
  go_at_call 7
  refine (cA).mono ?_
  rintro e w4 (⟨_, t, j, m, rfl, hT4⟩ | ⟨hne, _⟩)
  rotate_left
  · exact absurd rfl hne
  have cB := r_open (kd_tt b j t m) hT4 (fun F h => new_ropen bw _ h)
  clear cA hT4
  go_wp2_with fail
  go_at_call 8
  refine (cB).mono ?_
  rintro e w5 (⟨_, jw, v, rfl, hT5⟩ | ⟨hne, _⟩)
  rotate_left
  · exact absurd rfl hne
  have cC := t_begin (kd_rn bw jw v) hT5
  clear cB hT5
  go_wp2_with fail
  go_at_call 9
  refine (cC).mono ?_
  rintro e w6 ⟨u, rfl, hT6⟩
  have hT7 := tw_rb hT6
  clear cC hT6
  go_wp2_with fail
  go_loopw [5, 6, 7, 8, 9, 10, 11] (fun tv ev uv fv bv lv iv wr => ∃ k j t m jw v, k ≤ n0 ∧ k ≤ 150 ∧ iv = .int .i64 k ∧ tv = .pointer (some ⟨t, 0, none⟩) ∧ uv = .pointer (some ⟨v, 0, none⟩) ∧ Wrk b j t m bw jw v w none l (4 + 20 * k) (2 * k) k bv lv wr) (fun _ _ _ _ _ _ i _ => n0 - (intOf i).toNat)
  case atStart => exact ⟨0, j, t, m, jw, v, Nat.zero_le _, Nat.zero_le _, rfl, rfl, rfl, u, _, _, rfl, hT7, wk_new, ba_nil _ _⟩
  case round =>
    clear hT7
    obtain ⟨k, j, t, m, jw, v, hkn, hk150, rfl, rfl, rfl, u, x, lc, rfl, hT, hwk, hba⟩ := hrel
    by_cases hgo : k < n0 ∧ k < 150
    · obtain ⟨hlt, hlt150⟩ := hgo
      obtain ⟨xs, hx⟩ : ∃ x, l[k]? = some x := ⟨_, List.getElem?_eq_getElem (by have := HLN.out; omega)⟩
      obtain ⟨ba, off, rfl, hba0, c1, c2, c3, c4⟩ := steps_nth HL.out hx
      have hB := hT.bel
      obtain ⟨hps, hts, hKi, hM⟩ := HS.out xs (List.mem_of_getElem? hx)
      have d1 := (hB.cell (p := ⟨ba, _, none⟩) hba0).trans c1
      have d2 := (hB.cell (p := ⟨ba, _, none⟩) hba0).trans c2
      have d3 := (hB.cell (p := ⟨ba, _, none⟩) hba0).trans c3
      have d4 := (hB.cell (p := ⟨ba, _, none⟩) hba0).trans c4
      obtain ⟨K, P, T, M⟩ := xs
      simp only at d1 d2 d3 d4 hps hts hKi hM
      unfold Ts.int64 at hKi hM
      have hltz : (k : Int) < (n0 : Int) := by omega
      have hltz2 : (k : Int) < 150 := by omega
      have hT0 := hT.box (kd_tu b j t m u) (kd_rb bw jw v u10) (bx K M P T)
      obtain ⟨e0, e1, e2, e3⟩ := bx_cells hT0.at
      have hbl := hba.len (Nat.le_trans (su_mono (show k ≤ 150 by omega)) HSU.out)
      clear c1 c2 c3 c4 hT hB
      have hT := hT0
      clear hT0
      go_upto_block 2 with fail
      go_cut [9, 10] from 60 to 198 (fun bv lv wq => Swt b j t m bw jw v w (some (wr.heap.size, bx K M P T)) l K (4 + 20 * k + 8) (2 * k + 1) (k + 1) bv lv wq)
      case first =>
        by_cases hK1 : K = 1
        · as_aux_lemma =>
            subst hK1
            have cp := t_put (key := P) (val := T) (kd_rb bw jw v u10) hT (by omega) (by omega)
            have HBA := Lib.hid (hba.put hx hlt150)
            have HWK := Lib.hid (hwk.up (K' := 4 + 20 * k + 8) (M' := 2 * k + 1) (by omega) (by omega))
            have hll := hbl.1
            clear hT hwk hba hbl
            go_wp2_with fail
            go_at_call 10
            refine (cp).mono ?_
            rintro e w2 ⟨rfl, hT2⟩
            obtain ⟨f0, f1, f2, f3⟩ := bx_cells hT2.at
            have cb := r_batch (c := ⟨P, T, false⟩) (kd_tu b j t m u) hT2 (by omega)
            clear cp hT2 e0 e1 e2 e3
            go_wp2_with fail
            go_at_call 11
            refine (cb).mono ?_
            rintro e w3 ⟨v3, rfl, hT3⟩
            clear cb f0 f1 f2 f3
            go_wp2_with fail
            go_meet
            exact .inl ⟨by decide, _, _, _, rfl, hT3, HWK.out, HBA.out⟩
        have n1 : ((K : Int) == 1) = false := beq_eq_false_iff_ne.2 hK1
        by_cases hK2 : K = 2
        · as_aux_lemma =>
            subst hK2
            have cp := t_drop (key := P) (kd_rb bw jw v u10) hT (by omega) (by omega)
            have HBA := Lib.hid (hba.drop hx)
            have HWK := Lib.hid (hwk.up (K' := 4 + 20 * k + 8) (M' := 2 * k + 1) (by omega) (by omega))
            have hll := hbl.1
            clear hT hwk hba hbl
            go_wp2_with fail
            go_at_call 12
            refine (cp).mono ?_
            rintro e w2 ⟨rfl, hT2⟩
            obtain ⟨f0, f1, f2, f3⟩ := bx_cells hT2.at
            have cb := r_batch (c := ⟨P, ⟨#[]⟩, true⟩) (kd_tu b j t m u) hT2 (by omega)
            clear cp hT2 e0 e1 e2 e3
            go_wp2_with fail
            go_at_call 11
            refine (cb).mono ?_
            rintro e w3 ⟨v3, rfl, hT3⟩
            clear cb f0 f1 f2 f3
            go_wp2_with fail
            go_meet
            exact .inl ⟨by decide, _, _, _, rfl, hT3, HWK.out, HBA.out⟩
        have n2 : ((K : Int) == 2) = false := beq_eq_false_iff_ne.2 hK2
        by_cases hK3 : K = 3
        · as_aux_lemma =>
            subst hK3
            obtain ⟨co, cc⟩ := wk_commit hwk HTOT.out (by omega) (by omega) hbl.2.1 hba.frm
            obtain ⟨kc, y, hcs⟩ : ∃ kc y, commitS x lc pB pG = (kc, y) := ⟨_, _, rfl⟩
            have hcase : (kc = 0 ∧ Wk (Sl l) (4 + 20 * k + 8) (2 * k + 1) y) ∨ (kc = 14 ∧ y.j.s.down = true ∧ Dsk (Sl l) (4 + 20 * k + 8) (2 * k + 1) y.j.s) := by
              by_cases hn : lc = []
              · subst hn
                rw [commit_0] at hcs
                injection hcs with h1 h2
                subst h1 h2
                exact .inl ⟨rfl, hwk.up (K' := 4 + 20 * k + 8) (M' := 2 * k + 1) (by omega) (by omega)⟩
              · obtain ⟨k2, y2, h1, h2⟩ := cc hn
                rw [hcs] at h1
                injection h1 with h1 h3
                subst h1 h3
                exact h2
            have hra := dsk_data hwk.dsk
            obtain ⟨_, _, _, hwx⟩ := hwk.rows HTOT.out
            have hwa := ws_all x.L lc
            have hwl := hbl.2.1
            have hws : ws (all7 x.L lc) ≤ 10000000 := by omega
            have cp := t_commit (kd_rb bw jw v u10) hT co hcs
            have HCO := Lib.hid co
            have HCS := Lib.hid hcs
            have HRA := Lib.hid hra
            have hwl2 : wt lc ≤ 10000000 := by omega
            have HWL := Lib.hid hwl2
            have HWS := Lib.hid hws
            clear hT hwk hba hbl co cc hcs hra hwx hwa hwl hws hwl2
            rcases hcase with ⟨rfl, hwy⟩ | ⟨rfl, hdn, hdy⟩
            · have HWY := Lib.hid hwy
              clear hwy
              go_wp2_with fail
              go_at_call 13
              refine (cp).mono ?_
              rintro e w2 ⟨rfl, _, hT2⟩
              have hT2 := hT2 (by trivial)
              have cr := r_commit (kd_tu b j t m u) hT2 HCO.out HRA.out HWL.out HWS.out HCS.out
              clear cp hT2 e0 e1 e2 e3
              go_wp2_with fail
              go_at_call 14
              refine (cr).mono ?_
              rintro e w3 ⟨rfl, hT3⟩
              have hT4 := tw_rb hT3
              clear cr hT3
              go_wp2_with fail
              go_meet
              exact .inl ⟨by decide, _, _, _, rfl, hT4, HWY.out, ba_nil _ _⟩
            · have HDN := Lib.hid hdn
              have HDY := Lib.hid hdy
              clear hdn hdy
              go_wp2_with fail
              go_at_call 13
              refine (cp).mono ?_
              rintro e w2 ⟨rfl, hT2, _⟩
              have cr := r_commit (kd_tt b j t m) hT2 HCO.out HRA.out HWL.out HWS.out HCS.out
              clear cp hT2 e0 e1 e2 e3
              go_wp2_with fail
              go_at_call 14
              refine (cr).mono ?_
              rintro e w3 ⟨rfl, hT3⟩
              have hT4 := tw_disks hT3
              clear cr hT3
              go_wp2_with fail
              go_meet
              exact .inr (.inl ⟨_, hT4, HDN.out, HDY.out⟩)
        have n3 : ((K : Int) == 3) = false := beq_eq_false_iff_ne.2 hK3
        by_cases hK4 : K = 4
        · as_aux_lemma =>
            subst hK4
            have cp := t_begin (kd_rb bw jw v u10) (tw_tt hT)
            have HWK := Lib.hid (hwk.up (K' := 4 + 20 * k + 8) (M' := 2 * k + 1) (by omega) (by omega))
            clear hT hwk hba hbl
            go_wp2_with fail
            go_at_call 9
            refine (cp).mono ?_
            rintro e w2 ⟨u2, rfl, hT2⟩
            have hT3 := tw_nil hT2
            clear cp hT2 e0 e1 e2 e3
            go_wp2_with fail
            go_meet
            exact .inl ⟨by decide, _, _, _, rfl, hT3, HWK.out, ba_nil _ _⟩
        have n4 : ((K : Int) == 4) = false := beq_eq_false_iff_ne.2 hK4
        by_cases hK5 : K = 5
        · as_aux_lemma =>
            subst hK5
            obtain ⟨po, kp, y, hps, hcase⟩ := wk_pack hwk HTOT.out (by omega) (by omega)
            obtain ⟨_, _, _, hwx⟩ := hwk.rows HTOT.out
            have hw10 : ws x.L ≤ 10000000 := by omega
            have cp := t_pack (kd_rb bw jw v u10) hT po hps
            have HPO := Lib.hid po
            have HPS := Lib.hid hps
            have HW10 := Lib.hid hw10
            have HBA := Lib.hid (hba.up (j := k + 1) (by omega))
            clear hT hwk hba hbl po hps hwx hw10
            rcases hcase with ⟨rfl, hwy⟩ | ⟨rfl, hdn, hdy⟩
            · have HWY := Lib.hid (hwy.up (K' := 4 + 20 * k + 8) (M' := 2 * k + 1) (by omega) (by omega))
              clear hwy
              go_wp2_with fail
              go_at_call 15
              refine (cp).mono ?_
              rintro e w2 ⟨rfl, hT2⟩
              have cr := r_pack (kd_tu b j t m u) hT2 HPO.out HW10.out HPS.out
              clear cp hT2 e0 e1 e2 e3
              go_wp2_with fail
              go_at_call 16
              refine (cr).mono ?_
              rintro e w3 ⟨rfl, hT3⟩
              clear cr
              go_wp2_with fail
              go_meet
              exact .inl ⟨by decide, _, _, _, rfl, hT3, HWY.out, HBA.out⟩
            · have HDN := Lib.hid hdn
              have HDY := Lib.hid (hdy.up (K' := 4 + 20 * k + 8) (M' := 2 * k + 1) (by omega) (by omega))
              clear hdn hdy
              go_wp2_with fail
              go_at_call 15
              refine (cp).mono ?_
              rintro e w2 ⟨rfl, hT2⟩
              have cr := r_pack (kd_tu b j t m u) hT2 HPO.out HW10.out HPS.out
              clear cp hT2 e0 e1 e2 e3
              go_wp2_with fail
              go_at_call 16
              refine (cr).mono ?_
              rintro e w3 ⟨rfl, hT3⟩
              have hT4 := tw_disks2 hT3
              clear cr hT3
              go_wp2_with fail
              go_meet
              exact .inr (.inl ⟨_, hT4, HDN.out, HDY.out⟩)
        have n5 : ((K : Int) == 5) = false := beq_eq_false_iff_ne.2 hK5
        by_cases hK7 : K = 7
        · as_aux_lemma =>
            subst hK7
            by_cases hneg : M < 0
            · have cp := t_arm (kd_rb bw jw v u10) hT hM
              rw [if_pos hneg] at cp
              have hrg : Rng (-1) := ⟨by omega, by omega⟩
              have HWK := Lib.hid (wk_arm (hwk.up (K' := 4 + 20 * k + 8) (M' := 2 * k + 1) (by omega) (by omega)) hrg)
              have HBA := Lib.hid (hba.up (j := k + 1) (by omega))
              have hmax : max M (-1) = -1 := by omega
              have hmax2 : max (-1) M = -1 := by omega
              clear hT hwk hba hbl hrg
              go_wp2_with fail
              go_at_call 17
              refine (cp).mono ?_
              rintro e w2 ⟨rfl, hT2⟩
              obtain ⟨f0, f1, f2, f3⟩ := bx_cells hT2.at
              obtain ⟨⟨g1, g2⟩, hT3⟩ := rb_armed (kd_tu b j t m u) (-1) hT2
              have HT3 := Lib.hid hT3
              clear cp hT2 hT3 e0 e1 e2 e3
              go_wp2_with fail
              go_meet
              exact .inl ⟨by decide, _, _, _, rfl, HT3.out, HWK.out, HBA.out⟩
            · have cp := t_arm (kd_rb bw jw v u10) hT hM
              rw [if_neg hneg] at cp
              have hrg : Rng M := ⟨by omega, by omega⟩
              have HWK := Lib.hid (wk_arm (hwk.up (K' := 4 + 20 * k + 8) (M' := 2 * k + 1) (by omega) (by omega)) hrg)
              have HBA := Lib.hid (hba.up (j := k + 1) (by omega))
              have hmax : max M (-1) = M := by omega
              have hmax2 : max (-1) M = M := by omega
              clear hT hwk hba hbl hrg
              go_wp2_with fail
              go_at_call 17
              refine (cp).mono ?_
              rintro e w2 ⟨rfl, hT2⟩
              obtain ⟨f0, f1, f2, f3⟩ := bx_cells hT2.at
              obtain ⟨⟨g1, g2⟩, hT3⟩ := rb_armed (kd_tu b j t m u) (M) hT2
              have HT3 := Lib.hid hT3
              clear cp hT2 hT3 e0 e1 e2 e3
              go_wp2_with fail
              go_meet
              exact .inl ⟨by decide, _, _, _, rfl, HT3.out, HWK.out, HBA.out⟩
        have n7 : ((K : Int) == 7) = false := beq_eq_false_iff_ne.2 hK7
        by_cases hK8 : K = 8
        · as_aux_lemma =>
            subst hK8
            have hdk := hwk.dsk
            have hTd := tw_disks2 hT
            clear hT hwk hba hbl
            have HSD := Lib.hid (dsk_sound hdk)
            obtain ⟨sw1, sw2, sw3, hr⟩ := dsk_restart hdk (by omega) M
            have cp := t_restartA (kd_ref bw) hTd ⟨sw1, sw2, sw3⟩ hM
            have HR := Lib.hid hr
            clear hdk hTd sw1 sw2 sw3 hr
            go_wp2_with fail
            go_at_call 18
            refine (cp).mono ?_
            rintro e w12 ⟨rfl, hT12⟩
            obtain ⟨f0, f1, f2, f3⟩ := bx_cells hT12.at
            have cq := r_restart (kd_imp b) hT12 HSD.out.1 HSD.out.2 hM
            clear cp hT12 e0 e1 e2 e3
            go_wp2_with fail
            go_at_call 19
            refine (cq).mono ?_
            rintro e w13 ⟨rfl, hT13⟩
            clear cq f0 f1 f2 f3
            go_wp2_with fail
            go_meet
            exact .inr (.inr ⟨rfl, _, hT13, HR.out.up (by omega) (by omega)⟩)
        have n8 : ((K : Int) == 8) = false := beq_eq_false_iff_ne.2 hK8
        have HWK := Lib.hid (hwk.up (K' := 4 + 20 * k + 8) (M' := 2 * k + 1) (by omega) (by omega))
        have HBA := Lib.hid (hba.up (j := k + 1) (by omega))
        have HK8 := Lib.hid hK8
        clear hK1 hK2 hK3 hK4 hK5 hK7 hK8 hwk hba hbl
        go_wp2_with fail
        go_meet
        exact .inl ⟨HK8.out, _, _, _, rfl, hT, HWK.out, HBA.out⟩
      case rest =>
        clear hT hwk hba hbl e0 e1 e2 e3 d1 d2 d3 d4 hx
        go_upto_region 36 with fail
        go_cut [138] from 127 to 198 (fun gv wq => ∃ g : Bool, gv = .bool g ∧ Askd b j t m bw jw v w (some (wr.heap.size, bx K M P T)) l (4 + 20 * k + 8) (2 * k + 1) (k + 1) g u9 u10 wq)
        case first =>
          unfold Swt at hcut
          rcases hcut with ⟨hK8, u, x, lc, rfl, hT, hwk, hba⟩ | ⟨s, hT, hdn, hd⟩ | ⟨rfl, s, hT, hr⟩
          · as_aux_lemma =>
              obtain ⟨e0, e1, e2, e3⟩ := bx_cells hT.at
              by_cases hK6 : K = 6
              · subst hK6
                have HA := Lib.hid (⟨x.j.s, tw_disks2 hT, hwk.rst⟩ : Rsd b bw w (some (wr.heap.size, bx 6 M P T)) l (4 + 20 * k + 8) (2 * k + 1) _)
                clear hK8 hwk hba hT
                go_wp2_with fail
                go_meet
                exact ⟨true, rfl, .inr ⟨rfl, .inr HA.out⟩⟩
              have n6 : ((K : Int) == 6) = false := beq_eq_false_iff_ne.2 hK6
              have n8 : ((K : Int) == 8) = false := beq_eq_false_iff_ne.2 hK8
              have cd := t_downD (tw_imp (tw_tt hT))
              rw [hwk.down.1] at cd
              have HA := Lib.hid (⟨u, x, lc, rfl, hT, hwk, hba⟩ : Wrk b j t m bw jw v w (some (wr.heap.size, bx K M P T)) l (4 + 20 * k + 8) (2 * k + 1) (k + 1) (.pointer (some ⟨u, 0, none⟩)) u10 _)
              clear hK6 hK8 hwk hba hT
              go_wp2_with fail
              go_at_call 20
              refine (cd).mono ?_
              rintro e w11 ⟨rfl, rfl⟩
              clear cd
              go_wp2_with fail
              go_meet
              exact ⟨false, rfl, .inl ⟨rfl, HA.out⟩⟩
          · as_aux_lemma =>
              obtain ⟨e0, e1, e2, e3⟩ := bx_cells hT.at
              have cd := t_downD hT
              rw [hdn] at cd
              have HA := Lib.hid (⟨s, hT, hdn, hd⟩ : Dwn b bw w (some (wr.heap.size, bx K M P T)) l (4 + 20 * k + 8) (2 * k + 1) _)
              clear hdn hd hT
              by_cases hK6 : K = 6
              · subst hK6
                go_wp2_with fail
                go_meet
                exact ⟨true, rfl, .inr ⟨rfl, .inl HA.out⟩⟩
              have n6 : ((K : Int) == 6) = false := beq_eq_false_iff_ne.2 hK6
              by_cases hK8 : K = 8
              · subst hK8
                go_wp2_with fail
                go_meet
                exact ⟨true, rfl, .inr ⟨rfl, .inl HA.out⟩⟩
              have n8 : ((K : Int) == 8) = false := beq_eq_false_iff_ne.2 hK8
              clear hK6 hK8
              go_wp2_with fail
              go_at_call 20
              refine (cd).mono ?_
              rintro e w11 ⟨rfl, rfl⟩
              clear cd
              go_wp2_with fail
              go_meet
              exact ⟨true, rfl, .inr ⟨rfl, .inl HA.out⟩⟩
          · as_aux_lemma =>
              obtain ⟨e0, e1, e2, e3⟩ := bx_cells hT.at
              have HA := Lib.hid (⟨s, hT, hr⟩ : Rsd b bw w (some (wr.heap.size, bx 8 M P T)) l (4 + 20 * k + 8) (2 * k + 1) _)
              clear hr hT
              go_wp2_with fail
              go_meet
              exact ⟨true, rfl, .inr ⟨rfl, .inr HA.out⟩⟩
        case rest =>
          obtain ⟨g, rfl, hask⟩ := hcut
          go_upto_if 138 with fail
          go_cut [5, 6, 7, 8, 9, 10] from 139 to 198 (fun tv ev uv fv bv lv wq => ∃ j t m jw v, tv = .pointer (some ⟨t, 0, none⟩) ∧ uv = .pointer (some ⟨v, 0, none⟩) ∧ Wrk b j t m bw jw v w (some (wr.heap.size, bx K M P T)) l (4 + 20 * (k + 1)) (2 * (k + 1)) (k + 1) bv lv wq)
          case first =>
            unfold Askd at hask
            rcases hask with ⟨rfl, u, x, lc, rfl, hT, hwk, hba⟩ | ⟨rfl, hdr⟩
            · as_aux_lemma =>
                have HWK := Lib.hid (hwk.up (K' := 4 + 20 * (k + 1)) (M' := 2 * (k + 1)) (by omega) (by omega))
                have HBA := Lib.hid hba
                clear hwk hba
                go_wp2_with fail
                go_meet
                exact ⟨j, t, m, jw, v, rfl, rfl, _, _, _, rfl, hT, HWK.out, HBA.out⟩
            · obtain ⟨s, dn, hT, hdn, hs⟩ : ∃ s dn, Tw (ImpAt b) (RefAt bw) w (some (wr.heap.size, bx K M P T)) s s _ ∧ s.down = dn ∧ ((dn = true ∧ Dsk (Sl l) (4 + 20 * k + 8) (2 * k + 1) s) ∨ (dn = false ∧ Rst (Sl l) (4 + 20 * k + 8) (2 * k + 1) s)) := by
                rcases hdr with ⟨s, hT, hdn, hd⟩ | ⟨s, hT, hr⟩
                · exact ⟨s, _, hT, hdn, .inl ⟨rfl, hd⟩⟩
                · exact ⟨s, _, hT, rst_down hr, .inr ⟨rfl, hr⟩⟩
              clear hdr
              obtain ⟨e0, e1, e2, e3⟩ := bx_cells hT.at
              have cd := t_downD hT
              rw [hdn] at cd
              clear hdn
              go_wp2_with fail
              go_at_call 20
              refine (cd).mono ?_
              rintro e w11 ⟨rfl, rfl⟩
              clear cd
              go_upto_if 140 with fail
              go_cut [] from 141 to 198 (fun wq => Rsd b bw w (some (wr.heap.size, bx K M P T)) l (4 + 20 * k + 12) (2 * k + 1) wq)
              case first => as_aux_lemma =>
                rcases hs with ⟨rfl, hdk⟩ | ⟨rfl, hr⟩
                · have hTd := hT
                  clear hT
                  have HSD := Lib.hid (dsk_sound hdk)
                  obtain ⟨sw1, sw2, sw3, hr⟩ := dsk_restart hdk (by omega) M
                  have cp := t_restartA (kd_ref bw) hTd ⟨sw1, sw2, sw3⟩ hM
                  have HR := Lib.hid hr
                  clear hdk hTd sw1 sw2 sw3 hr
                  go_wp2_with fail
                  go_at_call 18
                  refine (cp).mono ?_
                  rintro e w12 ⟨rfl, hT12⟩
                  obtain ⟨f0, f1, f2, f3⟩ := bx_cells hT12.at
                  have cq := r_restart (kd_imp b) hT12 HSD.out.1 HSD.out.2 hM
                  clear cp hT12 e0 e1 e2 e3
                  go_wp2_with fail
                  go_at_call 19
                  refine (cq).mono ?_
                  rintro e w13 ⟨rfl, hT13⟩
                  clear cq f0 f1 f2 f3
                  go_wp2_with fail
                  go_meet
                  exact ⟨_, hT13, HR.out.up (by omega) (Nat.le_refl _)⟩
                · have HR := Lib.hid hr
                  clear hr
                  go_wp2_with fail
                  go_meet
                  exact ⟨_, hT, HR.out.up (by omega) (Nat.le_refl _)⟩
              case rest => as_aux_lemma =>
                clear hs hT e0 e1 e2 e3
                obtain ⟨s, hT, hr⟩ := hcut
                obtain ⟨oo, ko, z, hos, hcase⟩ := rst_open hr HTOT.out (by omega) (by omega)
                have cA := t_open (kd_ref bw) hT oo hos
                have HROP := Lib.hid (fun F W hF => rst_ropen bw hr HTOT.out (by omega) (by omega) (F := F) W hF)
                rw [hos] at HROP
                clear hT oo hos hr
                by_cases hko : ko = 0
                · subst hko
                  have hwz : Wk (Sl l) (4 + 20 * (k + 1)) (2 * (k + 1)) z := by
                    rcases hcase with ⟨_, h⟩ | h
                    · exact h.up (by omega) (by omega)
                    · cases h
                  have HWZ := Lib.hid hwz
                  clear hwz hcase
                  go_wp2_with fail
                  go_at_call 7
                  refine (cA).mono ?_
                  rintro e w15 hh
                  obtain ⟨_, t2, j2, m2, rfl, hT15⟩ | ⟨hne, _⟩ := hh
                  rotate_left
                  · exact absurd rfl hne
                  have cB := r_open (kd_tt b j2 t2 m2) hT15 (fun F hF => HROP.out F _ hF)
                  clear hT15 cA
                  go_wp2_with fail
                  go_at_call 8
                  refine (cB).mono ?_
                  rintro e w16 hh
                  obtain ⟨_, jw2, v2, rfl, hT16⟩ | ⟨hne, _⟩ := hh
                  rotate_left
                  · exact absurd rfl hne
                  have cC := t_begin (kd_rn bw jw2 v2) hT16
                  clear hT16 cB HROP
                  go_wp2_with fail
                  go_at_call 9
                  refine (cC).mono ?_
                  rintro e w17 ⟨u2, rfl, hT17⟩
                  have hT18 := tw_rb hT17
                  clear hT17 cC
                  go_wp2_with fail
                  go_meet
                  exact ⟨j2, t2, m2, jw2, v2, rfl, rfl, _, _, _, rfl, hT18, HWZ.out, ba_nil _ _⟩
                · have nrc := Dk.ne_eq hko
                  have HKO := Lib.hid hko
                  have e8 : ((ko : Int) == (ko : Int)) = true := beq_self_eq_true _
                  clear hko hcase
                  go_wp2_with fail
                  go_at_call 7
                  refine (cA).mono ?_
                  rintro e w15 hh
                  obtain ⟨h0, _⟩ | ⟨_, rfl, hT15⟩ := hh
                  · exact absurd h0 HKO.out
                  have cB := r_open (kd_imp b) hT15 (fun F hF => HROP.out F _ hF)
                  clear hT15 cA
                  go_wp2_with fail
                  go_at_call 8
                  refine (cB).mono ?_
                  rintro e w16 hh
                  obtain ⟨h0, _⟩ | ⟨_, rfl, hT16⟩ := hh
                  · exact absurd h0 HKO.out
                  have hbel := hT16.bel
                  clear hT16 cB HROP
                  go_wp2_with fail
                  go_ret
                  exact ⟨rfl, hbel⟩
          case rest =>
            clear hask
            obtain ⟨j, t, m, jw, v, rfl, rfl, u, x, lc, rfl, hT, hwk, hba⟩ := hcut
            have hxl := wk_len hwk HTOT.out
            have hbl : lc.length ≤ 1000000 ∧ ∀ c ∈ lc, c.key.size ≤ 1000000000 ∧ (c.gone = true → c.val = ⟨#[]⟩) := by
              have := hba.len (Nat.le_trans (su_mono (show k + 1 ≤ 150 by omega)) HSU.out)
              exact ⟨by omega, this.2.2⟩
            have HT9 := Lib.hid hT
            have HWK9 := Lib.hid hwk
            have HBA9 := Lib.hid hba
            clear hT hwk hba
            have hsz := HT9.out.bel
            have hseen := seen_any (key := P) (HT9.out.below (kd_tu b j t m u) (kd_rb bw jw v u10) (Below.refl _ _).drew) hxl hbl (by omega)
            have hse2 := fun W (hW : Below wc.heap.size wc W) => seen_any (key := ⟨#[]⟩) (HT9.out.below (kd_tu b j t m u) (kd_rb bw jw v u10) hW) hxl hbl (Nat.zero_le _)
            have hst := fun W (hW : Below wc.heap.size wc W) => t_stepsD (tw_imp (tw_tt (HT9.out.below (kd_tu b j t m u) (kd_rb bw jw v u10) hW)))
            have hsh : ∀ W, Below wc.heap.size wc W → ShT wr.heap.size bw P x.j.s.steps W := fun W hW => ⟨(bx_cells (HT9.out.below (kd_tu b j t m u) (kd_rb bw jw v u10) hW).at).2.1, (rb_steps (HT9.out.below (kd_tu b j t m u) (kd_rb bw jw v u10) hW)).1⟩
            have HA := Lib.hid (hseen.mono (fun e w' hh => (⟨hh.1, Tx.below_call (Below.refl _ _).drew hh.2⟩ : e = .returned (.bool true) ∧ Below wc.heap.size wc w')))
            have HB := Lib.hid (fun W hW => (hst W hW).mono (fun e w' hh => (⟨hh.1, hh.2 ▸ hW⟩ : e = .returned (.int .i64 (x.j.s.steps : Nat)) ∧ Below wc.heap.size wc w')))
            have HC := Lib.hid (fun W hW => (hse2 W hW).mono (fun e w' hh => (⟨hh.1, Tx.below_call hW hh.2⟩ : e = .returned (.bool true) ∧ Below wc.heap.size wc w')))
            have HSH := Lib.hid hsh
            clear hseen hse2 hst hsh hsz
            go_wp2_with fail
            refine Rg.wp_only ?_ (regSeen _ (by kernel_rfl) _ b bw t u v wr.heap.size x.j.s.steps P u10 _ _ _ _ (HSH.out _ (Below.refl _ _)) HA.out HSH.out HB.out HSH.out HC.out HSH.out)
            rintro _ w25 ⟨rfl, hB5⟩
            have hT25 := (HT9.out.below (kd_tu b j t m u) (kd_rb bw jw v u10) hB5).drop
            go_wp2_with fail
            go_roundw
            case rel => exact ⟨k + 1, j, t, m, jw, v, by omega, by omega, by go_num, rfl, rfl, u, x, lc, rfl, hT25, HWK9.out, HBA9.out⟩
            case measure => simp [intOf]; omega
    · have hbel := hT.bel
      clear hT hwk hba
      by_cases hlt : k < n0
      · have hltz : (k : Int) < (n0 : Int) := by omega
        have hlt2 : ¬ (k : Int) < 150 := by omega
        go_wp2_with fail
        go_ret
        exact ⟨rfl, hbel⟩
      · have hltz : ¬ (k : Int) < (n0 : Int) := by omega
        go_wp2_with fail
        go_ret
        exact ⟨rfl, hbel⟩
theorem own : ownKnob Tryz.prog.godebug = none := by kernel_rfl
theorem laidOut : laidOutB Tryz.prog = true := by kernel_rfl
set_option maxRecDepth 100000 in
theorem contract (H : Type) (enc : TypeId × Value → H) (W : World) (base : Nat) (args : Array Value) (ds gs : List (DataW H)) (before : List MemPlace)
    (hval0 : ∀ (j : Nat) t v, Tryz.f3.params[j]? = some t → args[j]? = some v → Value.okWide Tryz.prog W .any base t v)
    (hW : DataW.Whole enc Tryz.prog Tryz.f3.params.toList Rows.tablePlaysSpec.vars false W args.toList ds gs before)
    (hk : Rows.uptoSmall H (ds ++ gs) = true)
    (hsz0 : (DataW.weightsEach Tryz.prog (Tryz.f3.params.toList ++ Rows.tablePlaysSpec.plain.varTypes Tryz.prog) (ds ++ gs)).all (· ≤ reachBytes) = true) :
    Calls Tryz.prog 3 args W fun e W' => ∃ v, e = .returned v ∧ Rows.tablePlaysSpec.post enc Tryz.prog Tryz.f3 false true false false W args v W' := by
  have hval : ∀ (j : Nat) t v, Tryz.f3.params[j]? = some t → args[j]? = some v → Value.okWide Tryz.prog W .any base t v := hval0
  have hsz := hsz0
  clear hsz0
  have hW' := hW
  obtain ⟨p, q, hA0, hV, rfl, hfz, hnd⟩ := hW
  have hA : DataW.TrodAll enc Tryz.prog W 0 (fun _ => true) true Tryz.f3.params.toList args.toList ds p := hA0
  rw [Tryz.params3] at hA hval hsz
  obtain ⟨v0, vs0, d0, ds0, p0, q0, hargs, rfl, rfl, h0, r0⟩ := trodAll_cons hA
  obtain ⟨rfl, rfl, rfl⟩ := trodAll_nil r0
  obtain rfl : args = #[v0] := by cases args; simp_all
  obtain ⟨rfl, rfl⟩ := trodVars_none hV
  obtain ⟨A0, n0, c0, rfl⟩ := okWide_slice Tryz.underlying22 (hval 0 22 v0 rfl rfl)
  have k0 := h0
  have lt0 : ∀ x ∈ p0, x.block < W.heap.size := by obtain ⟨m, hm⟩ := k0; exact DataW.trod_lt m _ _ _ hm
  clear hA0 hval0
  obtain ⟨l0, e0, i0, m0, sm0⟩ := Ts.arg_steps k0
  have hbulk : Rows.uptoBulk d0 ≤ 1048576 := by
    have h := of_decide_eq_true hk
    rw [List.append_nil] at h
    have x : Rows.uptoBulkAll [d0] = Rows.uptoBulk d0 + 0 := rfl
    rw [x] at h
    omega
  refine (walk A0 n0 c0 l0 W e0 (by omega) (fun x hx => by have h1 := mem_sum hx; have h2 := i0 x hx; exact ⟨by omega, by omega, h2⟩) (by have h1 := su_le l0 150; omega)).mono fun e W' ⟨he, bel⟩ => ?_
  subst he
  exact ⟨_, rfl, _, _, _, [], _, [], hW', trodAll_mk1 (shut_bool Tryz.underlying4 _), (trodAll_cons_mk (Below.trod laidOut (by kernel_rfl) (of_decide_eq_true (by kernel_rfl)) k0 bel lt0) trodAll_mk0), rfl, bel.frame _, fun h => by cases h⟩
set_option maxRecDepth 100000 in
theorem lifted (os : Os) (started : os.Started) (H : Type) (enc : TypeId × Value → H) (F : Stop.Interp) :
    ReturnsInHanded {} Tryz.checked os 3 .any ((Rows.OpenSpec.upto Rows.tablePlaysSpec).pre6 enc Tryz.prog Tryz.f3 Rows.tablePlaysUptoRow.domain false) (((Rows.OpenSpec.upto Rows.tablePlaysSpec).at F).post enc Tryz.prog Tryz.f3 false true false false) := by
  refine returnsInHanded_of_cond_sized (C := Tryz.checked) (s := Rows.OpenSpec.upto Rows.tablePlaysSpec) (k := Rows.uptoSmall) rfl own started (by kernel_rfl) Tryz.func3
    (OpenSpec.witness (enc := enc) (C := Tryz.checked) (s := Rows.OpenSpec.upto Rows.tablePlaysSpec) (k := Rows.uptoSmall) rfl false ⟨#[], #[.slice none 0 0], []⟩ 8 (by kernel_rfl) (by kernel_rfl) (by kernel_rfl)
      (x := ([.nil], [], [])) (by kernel_rfl) rfl (by kernel_rfl)) ?_
  intro W base args ds gs before hval hW _ hk hsz0 _
  exact contract H enc W base args ds gs before hval hW hk hsz0
theorem over : Rows.tablePlaysUptoRow.holds Tryz.pinned (Rows.OpenSpec.upto Rows.tablePlaysSpec) :=
  OpenClaim.holds_of_cond 3 Tryz.f3 rfl rfl rfl rfl rfl rfl rfl ⟨rfl, rfl, rfl, rfl, rfl⟩ rfl rfl rfl rfl rfl (by kernel_rfl) Tryz.func3 (by kernel_rfl)
    (of_decide_eq_true (by kernel_rfl)) (by unfold Func.isWrapper; first | (rw [if_pos (by decide +kernel)]; kernel_rfl) | (rw [if_neg (by decide +kernel)]; exact ⟨rfl, rfl⟩))
    (fun os started H enc _ F => lifted os started H enc F)
end Go.Proofs.YtjdfffkkpbabpaaGreat.tablePlays
namespace Go.Proofs.YtjdfffkkpbabpaaGreat
theorem tablePlaysUpto_holds : Rows.TablePlaysUptoSaid := tablePlays.over
#print axioms tablePlaysUpto_holds
end Go.Proofs.YtjdfffkkpbabpaaGreat
