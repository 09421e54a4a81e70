/-
  BlobLasts, up to the bound: contents that were committed are there when the table is opened again: the law returns true, and writes nothing that was there. Condition: the argument holds at most 1048576 values and letters; the library's tables are those of the program's text (the card's tie).
-/
import Derived.Test.YthejpojmmokinaaGreatDoorT4
import Derived.Deep.CondSized
namespace Go.Proofs.YthejpojmmokinaaGreatDoor.Tb
open Go.RowKit Tx Pm Dk Wm Wr Wl Pl
set_option linter.unusedVariables false
set_option linter.unusedSimpArgs false
set_option linter.unnecessarySimpa false
structure Gd (y : Tst) (N : Nat) : Prop where
  is : ∃ n st sm, y = ⟨⟨T7 none none (some (sy (PK y.j.R) n)) none st sm (-1) false, y.j.R, false⟩, rows7 [] y.j.R⟩ ∧ st ≤ 4 + 2 * N ∧ sm ≤ 2 + N
  len : y.j.R.length ≤ N
  each : ∀ x ∈ y.j.R, (opsS x).2 = 0 ∧ x.size ≤ 30000010
  sum : (y.j.R.map (·.size)).sum ≤ N * 30000010
  pk : (PK y.j.R).size ≤ N * 30000100
theorem gd_new : Gd ⟨⟨s0T, [], false⟩, []⟩ 0 := ⟨⟨2, 4, 2, rfl, by decide, by decide⟩, Nat.le_refl _, fun x hx => (by cases hx), Nat.le_refl _, Nat.le_refl _⟩
theorem gd_sz {y : Tst} {N n st sm : Nat} (h : Gd y N) (hN : N ≤ 10) (hst : st ≤ 4 + 2 * N) (hsm : sm ≤ 2 + N) : Sz none none (some (sy (PK y.j.R) n)) none st sm := ⟨ook_none, ook_none, ook_sy (by have := h.pk; omega), ook_none, by omega, by omega⟩
theorem gd_commit {y : Tst} {N : Nat} {l : List Ch} (h : Gd y N) (hN : N ≤ 10) (hw : wt l ≤ 30000000) : CommitOk y l pB pG ∧ ∃ y', commitS y l pB pG = (0, y') ∧ Gd y' (N + 1) ∧ y'.L = all7 y.L l := by
  obtain ⟨n, st, sm, e, hst, hsm⟩ := h.is
  have hz := gd_sz (n := n) h hN hst hsm
  have hpk := h.pk
  have hlen := h.len
  have hsum := h.sum
  have heach := h.each
  have hwl := wt_len l
  have hL := len_rows [] y.j.R
  have hL0 : ([] : List It).length = 0 := rfl
  obtain ⟨R, hR⟩ : ∃ R, R = y.j.R := ⟨_, rfl⟩
  rw [← hR] at e hz hpk hlen hsum heach hL
  subst e
  obtain ⟨h1, c', n', st', sm', R', h2, hcs, hc, hst', hsm'⟩ := commit_U (B := none) (BT := none) (GT := none) (c := PK R) (n := n) (st := st) (sm := sm) (R := R) (dm := false) (L := rows7 [] R) (l := l) hz (by omega) (by omega) (by omega) (by omega) (by omega) (by omega)
  refine ⟨h1, _, h2, ?_, rfl⟩
  have hr := rec7_le (l := l) (by omega)
  rcases hcs with ⟨rfl, rfl, rfl⟩ | ⟨hl, rfl, rfl⟩
  · exact ⟨⟨_, _, _, rfl, by omega, by omega⟩, by show R'.length ≤ _; omega, heach, Nat.le_trans hsum (Nat.mul_le_mul_right _ (Nat.le_succ _)), Nat.le_trans hpk (Nat.mul_le_mul_right _ (Nat.le_succ _))⟩
  · have hb := ops_back (l := l) (by omega)
    have hrow : rows7 [] (R ++ [rec7 l]) = all7 (rows7 [] R) l := by rw [rows7_snoc, hb]; exact all_norm _ _
    have hp := pk_bound (r := rec7 l) (by omega)
    refine ⟨⟨n', st', sm', ?_, by omega, by omega⟩, ?_, ?_, ?_, ?_⟩
    · show _ = Tst.mk ⟨T7 none none (some (sy (PK (R ++ [rec7 l])) n')) none st' sm' (-1) false, R ++ [rec7 l], false⟩ (rows7 [] (R ++ [rec7 l]))
      rw [PK_snoc, hrow]
    · show (R ++ [rec7 l]).length ≤ _
      rw [List.length_append]
      exact Nat.add_le_add_right hlen 1
    · intro x hx
      rcases List.mem_append.1 hx with hx | hx
      · exact heach x hx
      · rw [List.mem_singleton.1 hx, hb]
        exact ⟨rfl, by omega⟩
    · show ((R ++ [rec7 l]).map (·.size)).sum ≤ _
      rw [List.map_append, List.sum_append]
      show _ + ((rec7 l).size + 0) ≤ _
      omega
    · show (PK (R ++ [rec7 l])).size ≤ _
      rw [PK_snoc, ByteArray.size_append]
      omega
theorem gd_open {y : Tst} {N : Nat} (h : Gd y N) (hN : N ≤ 10) : Open7Ok y.j.s pS pB pG ∧ open7 y.j.s pS pB pG = (0, y) := by
  obtain ⟨n, st, sm, e, hst, hsm⟩ := h.is
  have hz := gd_sz (n := n) h hN hst hsm
  have hrec : RecOk [] y.j.R := ⟨fun x hx => by have := h.each x hx; exact ⟨this.1, by omega⟩, by show 0 + _ ≤ _; have := h.sum; omega, by have := h.len; omega⟩
  have hw := open_W (B := none) (BT := none) (GT := none) (L0 := []) (l := y.j.R) (n := n) (st := st) (sm := sm) (a := -1) (.inl ⟨rfl, rfl⟩) hz rng_m1 hrec (by have := h.len; omega) (by omega) (by omega)
  have es : y.j.s = T7 none none (some (sy (PK y.j.R) n)) none st sm (-1) false := congrArg (fun z : Tst => z.j.s) e
  rw [es]
  rw [← e] at hw
  exact hw
end Go.Proofs.YthejpojmmokinaaGreatDoor.Tb

namespace Go.Proofs.YthejpojmmokinaaGreatDoor.blobLasts
open Go.ChangeMaps (open_string shut_string)
open Go.ChangeShapes Go.WideShapes Go.ChangeAt Go.RowKit Tx Pm Dk Tb Wl Bl
set_option linter.unusedVariables false
set_option linter.unusedSimpArgs false
set_option linter.unnecessarySimpa false
def vK (l : List ByteArray) (k : Nat) : Nat := ((l.take k).map (·.size)).sum + 100 * k
theorem vK_succ {l : List ByteArray} {k : Nat} {x : ByteArray} (h : l[k]? = some x) : vK l (k + 1) = vK l k + x.size + 100 := by
  unfold vK
  rw [take_snoc h, List.map_append, List.sum_append]
  show _ + (x.size + 0) + _ = _
  omega
section
variable {w W W1 : World} {b j t m u M N V n : Nat} {x y : Tst} {C : List On} {Z : List It} {v : Value} {xs : List ByteArray}
def RowBy (w W : World) (F : Nat → Prop) (v : Value) (n : Nat) (xs : List ByteArray) : Prop := Below w.heap.size w W ∧ (∀ i, F i → w.heap.size ≤ i ∧ i < W.heap.size) ∧ W.ownsRow w.heap.size 9 1 v n (xs.map sv) ∧ ∀ g, v.ownBlock = some g → ¬ F g
theorem RowBy.step {F F' : Nat → Prop} (h : RowBy w W F v n xs) (hc : Chg F W W1) (hF : ∀ g, F' g → F g ∨ W.heap.size ≤ g) (hlt : ∀ i, F' i → i < W1.heap.size) : RowBy w W1 F' v n xs := by
  obtain ⟨h1, h2, h3, h4⟩ := h
  have hs := h1.size
  refine ⟨h1.trans (hc.below hs (fun i hi => (h2 i hi).1)), fun i hi => ⟨(hF i hi).elim (fun hh => (h2 i hh).1) (fun hh => Nat.le_trans hs hh), hlt i hi⟩, own_chg h3 hc h4, fun g hg hh => ?_⟩
  rcases hF g hh with h5 | h5
  · exact h4 g hg h5
  · have := (h3.lt g hg).2
    omega
theorem RowBy.sub {F F' : Nat → Prop} (h : RowBy w W F v n xs) (hF : ∀ i, F' i → F i) : RowBy w W F' v n xs := ⟨h.1, fun i hi => h.2.1 i (hF i hi), h.2.2.1, fun g hg hh => h.2.2.2 g hg (hF g hh)⟩
theorem tn_lt {W : World} {F : Nat → Prop} (h : Tt b j t m W F x) : ∀ i, F i → i < W.heap.size := by
  obtain ⟨Fj, h1⟩ := h
  exact h1.lt
theorem last_commit (h : Bw b j t m u x0 [] w C M N V v n xs W) (hN : N ≤ 1000000) (hV : V ≤ 30000000) :
    Calls Tryz.prog 27 #[.pointer (some ⟨u, 0, none⟩)] W fun e w' => e = .returned (.int .i64 0) ∧ ∃ (y : Tst) (F : Nat → Prop), ImpAt b w' F y.j.s ∧ RowBy w w' F v n xs ∧ Gd y 1 ∧ Rep y.L C ∧ Good8 C M ∧ Xk y := by
  obtain ⟨F, hB, h2, h3, h4, h5, h6⟩ := h
  obtain ⟨l, ⟨F1, g1, g2, g3⟩, hR, hg, _, hlN, hks, hwt⟩ := hB
  have hsub : ∀ i, F1 i → F i := fun i hi => (g3 i hi).elim id (fun hh => by have := tu_lt g1 i hi; have hh : W.heap.size ≤ i := hh; omega)
  obtain ⟨k1, y, k2, k3, k4⟩ := gd_commit (l := l) gd_new (by omega) (Nat.le_trans hwt hV)
  have c := commit_any b j t m u pB pG W g1 k1
  rw [show commitS x0 l pB pG = (0, y) from k2] at c
  refine c.mono fun e w' hh => ⟨hh.1, ?_⟩
  obtain ⟨F2, q1, q2, q3⟩ := hh.2.1
  have hrow : RowBy w W F1 v n xs := ⟨h4, fun i hi => ⟨h2 i (hsub i hi), tu_lt g1 i hi⟩, h5, fun g hg hF => h6 g hg (hsub g hF)⟩
  have hrow2 := hrow.step q2 q3 (tn_lt q1)
  obtain ⟨Fj, a1⟩ := q1
  obtain ⟨vj, Fd, hj⟩ := a1.jn
  refine ⟨y, Fd, hj.dsk, hrow2.sub (fun i hi => (a1.foot i).2 (.inl ((hj.foot i).2 (.inl hi)))), k3, by rw [k4]; exact hR, hg, ?_, fun z hz => ?_⟩
  · rw [k4]
    have := len_all x0.L l
    show _ ≤ 100000000
    have e : x0.L.length = 0 := rfl
    rw [e] at this
    refine Nat.le_trans this ?_
    omega
  · rw [k4] at hz
    rcases mem_all hz with ⟨c, hc, rfl⟩ | hz
    · exact hks c hc
    · cases hz
theorem last_open {F : Nat → Prop} (h : ImpAt b W F y.j.s) (hr : RowBy w W F v n xs) (hg : Gd y 1) : Calls Tryz.prog 25 #[.pointer (some ⟨b, 0, none⟩), .string pS] W fun e w' => ∃ t j m F', e = .returned (.tuple #[.pointer (some ⟨t, 0, none⟩), .int .i64 0]) ∧ Tt b j t m w' F' y ∧ RowBy w w' F' v n xs := by
  obtain ⟨k1, k2⟩ := gd_open hg (by omega)
  have c := open_any b pS pB pG W h sys_base sys_log k1
  rw [k2] at c
  refine c.mono fun e w' hh => ?_
  rcases hh with ⟨_, t, j, m, he, hl⟩ | ⟨h0, _⟩
  · obtain ⟨F2, q1, q2, q3⟩ := hl
    exact ⟨t, j, m, F2, he, q1, hr.step q2 q3 (tn_lt q1)⟩
  · exact absurd rfl h0
theorem last_begin {F : Nat → Prop} (h : Tt b j t m W F y) (hR : Rep y.L C) (hg : Good8 C M) : Calls Tryz.prog 26 #[.pointer (some ⟨t, 0, none⟩)] W fun e w' => ∃ u F', e = .returned (.pointer (some ⟨u, 0, none⟩)) ∧ Below W.heap.size W w' ∧ Bo b j t m u y y.L (w', F') C M 0 0 w' := by
  obtain ⟨Fj, h1⟩ := h
  refine (begin_any (some ⟨t, 0, none⟩) W).mono fun e w' hh => ?_
  obtain ⟨u, he, G, hB, hG, hb⟩ := hh
  refine ⟨u, fun i => F i ∨ G i, he, hb, [], ⟨fun i => F i ∨ G i, ⟨F, G, ⟨Fj, h1.below hb⟩, hB, fun i hi hg => by have := h1.lt i hi; have := hG i hg; omega, fun i => Iff.rfl⟩, Chg.refl _ _, fun g hg => .inl hg⟩, hR, hg, fun p _ => rfl, Nat.le_refl _, (fun _ h => by cases h), Nat.le_refl _⟩
end
set_option maxRecDepth 100000 in
set_option maxHeartbeats 16000000 in
theorem walk (A : Option Addr) (n c : Nat) (l : List ByteArray) (w : World) (hS : Strs w A n l) (hU : (l.map (·.size)).sum ≤ 1048576) (hc : n ≤ c) (ht : Tab w) :
    Calls Tryz.prog 6 #[.slice A n c] w fun e w' => e = .returned (.bool true) ∧ Below w.heap.size w w' := by
  obtain ⟨i0, hi, hz0, hz1, hz2⟩ := info_parts Tx.info9
  have HST := Lib.hid (fun V (hV : Below w.heap.size w V) => hS.below hV)
  have HL := Lib.hid hS.1
  have HU := Lib.hid hU
  have hW : ∀ x ∈ l, x.size ≤ 140737488351232 := fun x hx => by
    have := mem_le_sum (List.mem_map.2 ⟨x, hx, rfl⟩ : x.size ∈ l.map (·.size))
    omega
  have HW := Lib.hid hW
  have HT := Lib.hid ht
  clear hS hW ht hU
  go_enter Tryz.func6, Tryz.ntmps6
  go_wp2_with fail
  go_at_call 24
  refine (w_new w (Below.refl _ _)).mono ?_
  rintro e w1 ⟨b, rfl, o1⟩
  go_wp2_with fail
  go_at_call 25
  refine (a_open o1 new_ok7 new_open7).mono ?_
  rintro e w2 ⟨t, j, m, rfl, o2⟩
  clear o1
  have HB2 := Lib.hid o2.bel
  by_cases hn : n ≤ 60
  · have hnz : ¬ (60 : Int) < (n : Int) := by omega
    go_wp2_with fail
    go_at_call 9
    refine (awake_any8 w2 w2 (Below.refl _ _) (HT.out.below HB2.out)).mono ?_
    rintro e w3 ⟨rfl, hb3⟩
    have o3 := ownT_below o2 hb3
    clear o2 hb3
    go_wp2_with fail
    go_at_call 26
    refine (a_begin o3).mono ?_
    rintro e w4 ⟨u, rfl, o4⟩
    clear o3
    have hb4 := o4.bel
    obtain ⟨F, hF, o5⟩ := bo_new o4
    clear o4
    have o6 := Bw.first o5 hF hb4.size hb4
    clear o5 hF hb4
    go_wp2_with fail
    go_loopw [7, 8] (fun v iv wr => ∃ k V : Nat, k ≤ n ∧ iv = .int .i64 k ∧ Hid (V = vK l k) ∧ Bw b j t m u x0 [] w (puts (l.take k)) k k V v k (keysD (l.take k)) wr) (fun _ iv _ => n - (intOf iv).toNat)
    case atStart => exact ⟨0, 0, Nat.zero_le _, rfl, rfl, o6⟩
    case round =>
      clear o6
      obtain ⟨k, V, hk, rfl, hV, o⟩ := hrel
      by_cases hlt : k < n
      · obtain ⟨x, hx⟩ : ∃ x, l[k]? = some x := ⟨_, List.getElem?_eq_getElem (by rw [HL.out]; exact hlt)⟩
        obtain ⟨_, hne⟩ := HST.out _ o.bel
        obtain ⟨bk, off, rfl, hbk, hcc⟩ := hne.resolve_left (by omega)
        have g0 := hcc k x hx
        have hkz : (k : Int) < (n : Int) := by omega
        have hxw := HW.out x (List.mem_of_getElem? hx)
        have htk := take_snoc hx
        have hks := keysD_snoc2 (l.take k) x (fun y hy => HW.out y (List.mem_of_mem_take hy))
        rw [← htk] at hks
        have cp := o.call HT.out (fun F hT hB => put_put (l := l.take k) (d := x) hB xk0 (by omega) (by omega) hxw hT)
        rw [← htk] at cp
        have HVK := Lib.hid (show V + x.size + 100 = vK l (k + 1) by rw [vK_succ hx, hV.out])
        obtain ⟨KX, hKX⟩ : ∃ K, K = keyD (puts (l.take (k + 1))) x := ⟨_, rfl⟩
        rw [← hKX] at cp hks
        have HKS := Lib.hid hks
        clear hne hcc hx htk hks hKX o
        go_wp2_with fail
        go_at_call 13
        refine cp.mono ?_
        rintro e w3 ⟨rfl, o3⟩
        have hown3 := o3.row
        clear cp
        go_wp2_with (at_builtin; refine Ap.wpList_append_two _ rfl _ _ 38 rfl w.heap.size 9 i0 (.string ⟨#[]⟩) 1 16 Tryz.underlying38 hi hz0 hz1 hz2 rfl (by decide) (by decide) _ _ _ rfl (hown3.alloc _) ⟨w3.heap.size, 0, none⟩ 1 [sv KX] rfl rfl ?c1 ?c2 ?c3 ?c4 ?c5 ?_)
        case c1 => first | exact cell_one_new _ _ _ | exact fun _ _ h => h
        case c2 => first | exact sv_one [KX] | rfl
        case c3 => omega
        case c4 => omega
        case c5 => exact Nat.le_trans o3.bel.size (((Below.refl _ _).alloc (Nat.le_refl _) _).size)
        intro v' w6 hown6 hg6
        have o6 := o3.app (y := KX) (W1 := w3.alloc (.cells #[.string KX] 9)) ((Below.refl _ _).alloc (Nat.le_refl _) _) (by rw [List.map_append]; exact hown6) (by first | exact hg6 | (rw [World.size_alloc]; exact hg6))
        clear hown6 hg6 o3 hown3
        rw [← HKS.out] at o6
        go_wp2_with fail
        go_roundw
        case rel => exact ⟨k + 1, _, by omega, by go_num, HVK.out, o6⟩
        case measure => simp [intOf]; omega
      · obtain rfl : k = n := by omega
        have eA : l.take k = l := List.take_of_length_le (by rw [HL.out]; exact Nat.le_refl _)
        have hVb : V ≤ 30000000 := by
          have := hV.out
          have := HU.out
          unfold vK at *
          rw [eA] at *
          omega
        rw [eA] at o
        obtain ⟨aK, cK, rfl, _, hcK, _⟩ := o.strs (by rw [keysD_len]; exact HL.out)
        have HP := Lib.hid (fun d (hd : d ∈ l) => (puts_has l HW.out d).2 hd)
        clear hlt eA hnz hV
        go_wp2_with fail
        go_at_call 27
        refine (last_commit o (by omega) hVb).mono ?_
        rintro e w6 ⟨rfl, y, F6, q1, q2, q3, q4, q5, q6⟩
        clear o
        go_wp2_with fail
        go_at_call 25
        refine (last_open q1 q2 q3).mono ?_
        rintro e w7 ⟨t7, j7, m7, F7, rfl, hT7, hr7⟩
        clear q1 q2 q3
        have HT7 := Lib.hid (fun V (hV : Below w7.heap.size w7 V) => tn_below hT7 hV)
        have HR7 := Lib.hid (fun V (hV : Below w7.heap.size w7 V) => strs_row (own_belowT hr7.2.2.1 hV))
        have HB7 := Lib.hid hr7.1
        have HQ4 := Lib.hid q4
        have HQ5 := Lib.hid q5
        have HQ6 := Lib.hid q6
        clear hT7 hr7 q4 q5 q6
        go_wp2_with fail
        go_loopw [11] (fun iv wr => ∃ i : Nat, i ≤ k ∧ iv = .int .i64 i ∧ Below w7.heap.size w7 wr) (fun iv _ => k - (intOf iv).toNat)
        case atStart => exact ⟨0, Nat.zero_le _, rfl, Below.refl _ _⟩
        case round =>
          obtain ⟨i, hik, rfl, hB⟩ := hrel
          by_cases hlt : i < k
          · obtain ⟨d, hd⟩ : ∃ d, l[i]? = some d := ⟨_, List.getElem?_eq_getElem (by rw [HL.out]; exact hlt)⟩
            have hiz : (i : Int) < (k : Int) := by omega
            obtain ⟨bK, oK, rfl, _, gK⟩ := Strs.at2 (HR7.out _ hB) (keysD_at hd) hlt
            obtain ⟨bT, oT, rfl, _, _⟩ := Strs.at2 (HST.out _ HB7.out) hd hlt
            have HD := Lib.hid hd
            have hdl := List.mem_of_getElem? hd
            have cb := fun V hV => last_begin (HT7.out V hV) HQ4.out HQ5.out
            obtain ⟨KD, hKD⟩ : ∃ K, K = keyD (puts l) d := ⟨_, rfl⟩
            have HKD := Lib.hid hKD
            have HHAS := Lib.hid (HP.out d hdl)
            rw [← hKD] at gK
            have b2 : (d.toList == d.toList) = true := beq_self_eq_true _
            clear hd hdl hKD
            have hlK : bK < wr.heap.size := World.block_lt_of_cell? wr _ gK
            have hBd := Tx.below_call hB (Below.refl _ wr).drew
            have HLK := Lib.hid hlK
            clear hlK
            go_wp2_with fail
            go_region_with (first
              | (go_at_call 26
                 refine (cb _ hBd).mono ?_
                 rintro e w8 ⟨u8, F8, rfl, hb8, hB8⟩
                 have gK8 := (hb8.cell (p := ⟨bK, oK + i, none⟩) HLK.out).trans gK
                 have cg := get_below (d := d) hB8 (by omega) HHAS.out
                 rw [← HKD.out] at cg
                 have HB8 := Lib.hid (Tx.below_call hBd hb8)
                 clear hB8 hb8)
              | (go_at_call 19
                 refine cg.mono ?_
                 rintro e w9 ⟨rfl, hB9⟩
                 have hB9 := Tx.below_call HB8.out hB9))
            all_goals
              have gT := Strs.at1 (HST.out _ (Tx.below_call HB7.out hB9)) HD.out
              go_wp2_with fail
              go_roundw
              case rel => exact ⟨i + 1, by omega, by go_num, hB9⟩
              case measure => simp [intOf]; omega
          · obtain rfl : i = k := by omega
            go_wp2_with fail
            go_ret
            exact ⟨rfl, Tx.below_call HB7.out hB⟩
  · have hnz : (60 : Int) < (n : Int) := by omega
    go_wp2_with fail
    go_at_call 9
    refine (awake_any8 w2 w2 (Below.refl _ _) (HT.out.below HB2.out)).mono ?_
    rintro e w3 ⟨rfl, hb3⟩
    have hB3 := Tx.below_call HB2.out hb3
    go_wp2_with fail
    go_at_call 9
    refine (awake_any8 w3 w3 (Below.refl _ _) (HT.out.below hB3)).mono ?_
    rintro e w4 ⟨rfl, hb4⟩
    go_wp2_with fail
    go_ret
    exact ⟨rfl, Tx.below_call hB3 hb4⟩
theorem tab_of {W : World} (h : laidMetH Tryz.prog Rows.blobLastsUptoRow.laid W) : Tab W := tab_laid h
theorem own : ownKnob Tryz.prog.godebug = none := by kernel_rfl
theorem laidOut : laidOutB Tryz.prog = true := by kernel_rfl
set_option maxRecDepth 100000 in
theorem contract (H : Type) (enc : TypeId × Value → H) (W : World) (base : Nat) (args : Array Value) (ds gs : List (DataW H)) (before : List MemPlace)
    (hval0 : ∀ (j : Nat) t v, Tryz.f6.params[j]? = some t → args[j]? = some v → Value.okWide Tryz.prog W .any base t v)
    (hW : DataW.Whole enc Tryz.prog Tryz.f6.params.toList Rows.blobLastsSpec.vars false W args.toList ds gs before)
    (hk : Rows.uptoSmall H (ds ++ gs) = true)
    (hsz0 : (DataW.weightsEach Tryz.prog (Tryz.f6.params.toList ++ Rows.blobLastsSpec.plain.varTypes Tryz.prog) (ds ++ gs)).all (· ≤ reachBytes) = true)
    (hL : laidMetH Tryz.prog Rows.blobLastsUptoRow.laid W) :
    Calls Tryz.prog 6 args W fun e W' => ∃ v, e = .returned v ∧ Rows.blobLastsSpec.post enc Tryz.prog Tryz.f6 false true false false W args v W' := by
  have hval : ∀ (j : Nat) t v, Tryz.f6.params[j]? = some t → args[j]? = some v → Value.okWide Tryz.prog W .any base t v := hval0
  have hsz := hsz0
  clear hsz0
  have hW' := hW
  obtain ⟨p, q, hA0, hV, rfl, hfz, hnd⟩ := hW
  have hA : DataW.TrodAll enc Tryz.prog W 0 (fun _ => true) true Tryz.f6.params.toList args.toList ds p := hA0
  rw [Tryz.params6] at hA hval hsz
  obtain ⟨v0, vs0, d0, ds0, p0, q0, hargs, rfl, rfl, h0, r0⟩ := trodAll_cons hA
  obtain ⟨rfl, rfl, rfl⟩ := trodAll_nil r0
  obtain rfl : args = #[v0] := by cases args; simp_all
  obtain ⟨rfl, rfl⟩ := trodVars_none hV
  obtain ⟨A0, n0, c0, rfl⟩ := okWide_slice Tryz.underlying38 (hval 0 38 v0 rfl rfl)
  have k0 := h0
  have lt0 : ∀ x ∈ p0, x.block < W.heap.size := by obtain ⟨m, hm⟩ := k0; exact DataW.trod_lt m _ _ _ hm
  clear hA0 hval0
  obtain ⟨l0, hS0, hm0, hln0, hc0, _, _⟩ := arg_texts k0
  have hu0 : Rows.uptoBulk d0 ≤ 1048576 := by
    have := of_decide_eq_true hk
    simp [Rows.uptoBulkAll, Rows.uptoBulk] at this
    omega
  refine (walk A0 n0 c0 l0 W hS0 (by omega) hc0 (tab_of hL)).mono fun e W' ⟨he, bel⟩ => ?_
  subst he
  exact ⟨_, rfl, _, _, _, [], _, [], hW', trodAll_mk1 (shut_bool Tryz.underlying4 _), (trodAll_cons_mk (Below.trod laidOut (by kernel_rfl) (of_decide_eq_true (by kernel_rfl)) k0 bel lt0) trodAll_mk0), rfl, bel.frame _, fun h => by cases h⟩
theorem door_met (os : Os) : laidMetH Tryz.prog Rows.blobLastsUptoRow.laid ((World.doorLaid Tryz.prog 400 os).forCall (fun _ _ => 0) ⟨#[], #[.slice none 0 0], []⟩).memory :=
  laidMetH_of_parts3 (fuel := 8) (laidMet_of_run' 8 (by kernel_rfl) (by kernel_rfl)) (by kernel_rfl) (by kernel_rfl)
theorem reads (os : Os) {H : Type} (enc : TypeId × Value → H) : ∃ places, DataW.whole enc Tryz.prog ((World.doorLaid Tryz.prog 400 os).forCall (fun _ _ => 0) ⟨#[], #[.slice none 0 0], []⟩).memory Tryz.f6.params.toList Rows.blobLastsSpec.vars false (#[.slice none 0 0] : Array Value).toList 8 = some ([.nil], [], places) :=
  ⟨[], by kernel_rfl⟩
set_option maxRecDepth 100000 in
theorem lifted (os : Os) (started : os.Started) (H : Type) (enc : TypeId × Value → H) (F : Stop.Interp) :
    ReturnsInHanded {} Tryz.checked os 6 .any ((Rows.OpenSpec.upto Rows.blobLastsSpec).preRow enc Tryz.prog Tryz.f6 Rows.blobLastsUptoRow.domain false Rows.blobLastsUptoRow.laid) (((Rows.OpenSpec.upto Rows.blobLastsSpec).at F).post enc Tryz.prog Tryz.f6 false true false false) := by
  obtain ⟨places, hx⟩ := reads os enc
  refine returnsInHanded_of_row (C := Tryz.checked) (s := (Rows.OpenSpec.upto Rows.blobLastsSpec)) own started (by kernel_rfl) Tryz.func6
    (witness_row_at (enc := enc) (C := Tryz.checked) false (World.doorLaid Tryz.prog 400 os) #[.slice none 0 0] rfl (by kernel_rfl) (by kernel_rfl) (by kernel_rfl)
      (OpenSpec.preRow_of_cond 8 hx (by kernel_rfl) (fun k hk => by cases hk; kernel_rfl) (by kernel_rfl) (door_met os))) ?_
  intro W base args ds gs before hval hW _ hcond hsz0 hL _ _
  exact contract H enc W base args ds gs before hval hW (hcond _ rfl) hsz0 hL
theorem over : Rows.blobLastsUptoRow.holds Tryz.pinned (Rows.OpenSpec.upto Rows.blobLastsSpec) :=
  OpenClaim.holds_of_cond 6 Tryz.f6 rfl rfl rfl rfl rfl rfl rfl ⟨rfl, rfl, rfl, rfl, rfl⟩ rfl rfl rfl rfl rfl (by kernel_rfl) Tryz.func6 (by kernel_rfl)
    (of_decide_eq_true (by kernel_rfl)) (by unfold Func.isWrapper; first | (rw [if_pos (by decide +kernel)]; kernel_rfl) | (rw [if_neg (by decide +kernel)]; exact ⟨rfl, rfl⟩))
    (fun os started H enc _ F => by rw [OpenClaim.pre_eq_preRow]; exact lifted os started H enc F)
theorem plain (f : FuncId) (fn : Func) (hf : Tryz.pinned.checked.prog.funcNamed "tether/tetherlaw08.BlobLasts" = some f) (hfn : Tryz.pinned.checked.prog.funcs[f]? = some fn) :
    false = Tryz.pinned.checked.prog.looks [] ∧ ∀ (j : Nat) t, fn.params[j]? = some t → Tryz.pinned.checked.prog.wantsStandIn t = false := by
  obtain rfl : f = 6 := Option.some.inj ((show Tryz.prog.funcNamed "tether/tetherlaw08.BlobLasts" = some 6 by kernel_rfl).symm.trans hf) |>.symm
  obtain rfl : fn = Tryz.f6 := (Option.some.inj (Tryz.func6.symm.trans hfn)).symm
  refine ⟨by kernel_rfl, fun j t ht => ?_⟩
  rw [Tryz.params6] at ht
  have hm : t ∈ [38] := by simpa using Array.mem_of_getElem? ht
  have hall : ([38].all fun u => !Tryz.prog.wantsStandIn u) = true := by kernel_rfl
  exact (show Tryz.prog.wantsStandIn t = false by simpa using List.all_eq_true.1 hall t hm)
theorem card : Rows.BlobLastsUptoCardSaid :=
  Claim7.holds_tied_plain_at .later [] _ _ _ _ over (fun _ h => by cases h) (by kernel_rfl) (fun _ h => by cases h) blobLastsUpto_row_tie rfl ⟨rfl, rfl⟩ (by kernel_rfl) rfl plain (by kernel_rfl)
end Go.Proofs.YthejpojmmokinaaGreatDoor.blobLasts
namespace Go.Proofs.YthejpojmmokinaaGreatDoor
theorem blobLastsUptoCard_holds : Rows.BlobLastsUptoCardSaid := blobLasts.card
#print axioms blobLastsUptoCard_holds
end Go.Proofs.YthejpojmmokinaaGreatDoor
