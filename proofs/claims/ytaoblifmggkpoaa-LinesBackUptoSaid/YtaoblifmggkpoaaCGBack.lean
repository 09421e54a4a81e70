/-
  LinesBack, up to the bound: for every text (of at most 1048576 letters): the lines of a text, joined, are the text; each line is not empty and has no line's end but its last byte, which each line but the last one has; the lines, closed and joined, split again are themselves. Condition: the bound of the second form.
-/
import Derived.Test.YtaoblifmggkpoaaT1
import Derived.ProofKit
import Derived.OpenShut
import Derived.ChangeOld
import Derived.Below
import Derived.SizedLaws
import Derived.ShutString
import Derived.JoinedCond
import Derived.Deep.CondSized
namespace Go.Proofs.Ytaoblifmggkpoaa.linesBack
open Go.ChangeMaps (open_string shut_string)
open Go.ChangeShapes Go.WideShapes Go.ChangeAt Go.RowKit Tx Lm Ln Aq
set_option linter.unusedVariables false
theorem strs_of {w : World} {B g n c : Nat} {l : List ByteArray} (h : Texts w B (.slice (some ⟨g, 0, none⟩) n c) l) : Strs w (some ⟨g, 0, none⟩) n l := by
  obtain ⟨a, c', hv, hs, _, _⟩ := h.form
  injection hv with h1 h2 h3
  subst h1
  subst h2
  exact hs
theorem texts_cap {w : World} {B g n c : Nat} {l : List ByteArray} (h : Texts w B (.slice (some ⟨g, 0, none⟩) n c) l) : n ≤ c ∧ B ≤ g ∧ g < w.heap.size := by
  rcases h.2 with ⟨h0, _⟩ | ⟨g', cap', cur, hv, hg, hh, hn, _, _⟩
  · cases h0
  · injection hv with h1 h2 h3
    injection h1 with h1
    injection h1 with h1
    subst h1
    subst h2
    subst h3
    exact ⟨hn, hg, (Array.getElem?_eq_some_iff.1 hh).1⟩
theorem line_good (s : ByteArray) (i : Nat) (x : ByteArray) (h : (lns s)[i]? = some x) : 0 < x.size ∧ (∀ k, (hk : k < x.size) → k + 1 < x.size → x[k] ≠ 10) ∧ (i + 1 < (lns s).length → (hp : x.size - 1 < x.size) → x[x.size - 1] = 10) := by
  rw [lns, List.getElem?_map] at h
  obtain ⟨y, hy, rfl⟩ := Option.map_eq_some_iff.1 h
  obtain ⟨h1, h2, h3⟩ := spl_good _ s.data.toList (Nat.le_refl _) i y hy
  have hsz := tb_size y
  refine ⟨by omega, fun k hk hk2 => ?_, fun hi hp => ?_⟩
  · exact h2 k (by omega) _ (by
      rw [List.getElem?_eq_getElem (by omega)]
      rfl)
  · have he := h3 (by rw [lns_len] at hi; exact hi)
    have := ends_at (tb y) (by rw [tb_size]; exact h1)
    rw [tb_list, he] at this
    exact of_decide_eq_true this.symm
theorem clot_le (x : ByteArray) : (clot x).size ≤ x.size + 1 := by
  unfold clot
  split
  · omega
  · rw [ByteArray.size_append]; exact Nat.le_refl _
theorem clt_size (l : List ByteArray) : (cat (clt l)).size ≤ (cat l).size + 1 := by
  rcases List.eq_nil_or_concat l with rfl | ⟨r, x, rfl⟩
  · rw [clt_nil]; omega
  · rw [List.concat_eq_append, clt_snoc, cat_snoc, cat_snoc, ByteArray.size_append, ByteArray.size_append]
    have := clot_le x
    omega
theorem piece_le (l : List ByteArray) (k : Nat) (x : ByteArray) (h : l[k]? = some x) : x.size ≤ (cat l).size := by
  obtain ⟨hk, rfl⟩ := List.getElem?_eq_some_iff.1 h
  have h1 := cat_take l k hk
  have h2 := cat_take_le l (k + 1)
  rw [h1, ByteArray.size_append] at h2
  omega
set_option maxRecDepth 100000 in
set_option maxHeartbeats 4000000 in
theorem walk (s : ByteArray) (w : World) (hs : s.size ≤ 1048576) :
    Calls Try.prog 5 #[.string s] w fun e w' => e = .returned (.bool true) ∧ Below w.heap.size w w' := by
  have c1 := fun W => split_lines s W (by omega)
  have c3 := fun W => count_lines s W (by omega)
  have hle := lns_le s
  have hcat := lns_cat s
  have hgood := line_good s
  have hback := clt_back s
  have hclen := clt_len (lns s)
  have hcsz := clt_size (lns s)
  have hpl := piece_le (lns s)
  rw [hcat] at hcsz hpl
  obtain ⟨L, hL⟩ : ∃ L, L = lns s := ⟨_, rfl⟩
  rw [← hL] at c1 c3 hle hcat hgood hback hclen hcsz hpl
  clear hL
  unfold ListN at c1
  obtain ⟨n, hn⟩ : ∃ n, n = L.length := ⟨_, rfl⟩
  rw [← hn] at c1 c3 hle hgood hclen
  have HN := Lib.hid hn.symm
  clear hn
  obtain ⟨M, hM⟩ : ∃ M, M = cat (clt L) := ⟨_, rfl⟩
  rw [← hM] at hback hcsz
  have HM := Lib.hid hM
  have c6 := fun W => split_lines M W (by omega)
  rw [hback] at c6
  unfold ListN at c6
  rw [hclen] at c6
  clear hM hback
  have HG := Lib.hid hgood
  have HCAT := Lib.hid hcat
  have HCL := Lib.hid hclen
  have HPL := Lib.hid hpl
  clear hgood hcat hclen hpl
  have hse : (s.toList == s.toList) = true := beq_self_eq_true _
  go_enter Try.func5, Try.ntmps5
  go_wp2_with fail
  go_at_call 6
  refine (c1 _).mono ?_
  rintro e w1 ⟨ga, ca, rfl, ha1, hb1⟩
  go_wp2_with fail
  go_at_call 7
  refine (awake_any11 _).mono ?_
  rintro e w2 ⟨rfl, hb2⟩
  have ha2 := ha1.below hb2
  have hB2 := below_call hb1 hb2
  clear ha1 hb1 hb2
  obtain ⟨hcap, hgb, hglt⟩ := texts_cap ha2
  have cj := join_lines ga 0 n ca L w2 HN.out (fun j x hj => by rw [Nat.zero_add]; exact texts_cell ha2 hj) hglt (by omega) hcap (by rw [HCAT.out]; omega)
  rw [HCAT.out] at cj
  go_wp2_with fail
  go_at_call 15
  refine cj.mono ?_
  rintro e w3 ⟨rfl, hb3⟩
  have ha3 := ha2.below hb3
  have hB3 := below_call hB2 hb3
  have HA3 := Lib.hid ha3
  clear ha2 ha3 hB2 hb3 cj hgb hglt
  go_wp2_with (go_at_call 10; refine (c3 _).mono ?_; rintro e w' ⟨rfl, rfl⟩)
  go_loop [4, 5, 6] (fun i _ _ => ∃ k : Nat, k ≤ n ∧ i = .int .i64 k) (fun i _ _ => n - (intOf i).toNat)
  case atStart => exact ⟨0, Nat.zero_le _, rfl⟩
  case round =>
    obtain ⟨i, hi, rfl⟩ := hrel
    by_cases hlt : i < n
    · obtain ⟨S, hS⟩ : ∃ S, L[i]? = some S := ⟨L[i]'(by rw [HN.out]; exact hlt), List.getElem?_eq_getElem _⟩
      have hcell := texts_cell HA3.out hS
      obtain ⟨g1, g2, g3⟩ := HG.out i S hS
      have hSs := HPL.out i S hS
      have HG2 := Lib.hid g2
      have hlt' : (i : Int) < (n : Int) := by omega
      have h0 : ((S.size : Int) == 0) = false := beq_eq_false_iff_ne.2 (by omega)
      have e6 : ((S.size : Int) - 1).toNat = S.size - 1 := by omega
      have hp' : (0 : Int) < S.size := by omega
      have inner : ∀ (b : Bool), True := fun _ => trivial
      clear hS g2 inner
      by_cases hlast : i + 1 < n
      · have hlast' : (i : Int) < (n : Int) - 1 := by omega
        have h10 := g3 hlast (by omega)
        have e7 : ((S[S.size - 1].toNat : Int) == 10) = true := by simp [h10]
        have e8 : (!((S[S.size - 1].toNat : Int) == 10)) = false := by rw [e7]; rfl
        clear h10 g3
        go_wp2_with fail
        go_loop [6] (fun x => ∃ k : Nat, k + 1 ≤ S.size ∧ x = .int .i64 k) (fun x => S.size - (intOf x).toNat)
        case atStart => exact ⟨0, by omega, rfl⟩
        case round =>
          obtain ⟨k, hk, rfl⟩ := hrel
          by_cases hkl : k + 1 < S.size
          · have f1 : (k : Int) < (S.size : Int) - 1 := by omega
            have f2 : k < S.size := by omega
            have f3 : ((S[k].toNat : Int) == 10) = false := ne_10 (HG2.out k f2 hkl)
            have f4 : (k : Int) < (S.size : Int) := by omega
            go_wp2_with fail
            go_round
            case rel => exact ⟨k + 1, by omega, by go_num⟩
            case measure => simp only [intOf]; omega
          · have f1 : ¬ (k : Int) < (S.size : Int) - 1 := by omega
            go_wp2_with fail
            go_round
            case rel => exact ⟨i + 1, by omega, by go_num⟩
            case measure => simp only [intOf]; omega
      · have hlast' : ¬ (i : Int) < (n : Int) - 1 := by omega
        clear g3
        go_wp2_with fail
        go_loop [6] (fun x => ∃ k : Nat, k + 1 ≤ S.size ∧ x = .int .i64 k) (fun x => S.size - (intOf x).toNat)
        case atStart => exact ⟨0, by omega, rfl⟩
        case round =>
          obtain ⟨k, hk, rfl⟩ := hrel
          by_cases hkl : k + 1 < S.size
          · have f1 : (k : Int) < (S.size : Int) - 1 := by omega
            have f2 : k < S.size := by omega
            have f3 : ((S[k].toNat : Int) == 10) = false := ne_10 (HG2.out k f2 hkl)
            have f4 : (k : Int) < (S.size : Int) := by omega
            go_wp2_with fail
            go_round
            case rel => exact ⟨k + 1, by omega, by go_num⟩
            case measure => simp only [intOf]; omega
          · have f1 : ¬ (k : Int) < (S.size : Int) - 1 := by omega
            go_wp2_with fail
            go_round
            case rel => exact ⟨i + 1, by omega, by go_num⟩
            case measure => simp only [intOf]; omega
    · have hlt' : ¬ (i : Int) < (n : Int) := by omega
      have c4 := closed_lines ga 0 n ca L w3 (strs_of HA3.out) (by omega) (fun k x hx => by have := HPL.out k x hx; omega)
      unfold ListN at c4
      rw [HCL.out] at c4
      go_wp2_with fail
      go_at_call 14
      refine c4.mono ?_
      rintro e w4 ⟨gc, cc, rfl, hc4, hb4⟩
      have hB4 := below_call hB3 hb4
      obtain ⟨hcapc, hgbc, hgltc⟩ := texts_cap hc4
      have cj := join_lines gc 0 n cc (clt L) w4 HCL.out (fun j x hj => by rw [Nat.zero_add]; exact texts_cell hc4 hj) hgltc (by omega) hcapc (by rw [← HM.out]; omega)
      rw [← HM.out] at cj
      clear c4 hb4 hB3
      go_wp2_with fail
      go_at_call 15
      refine cj.mono ?_
      rintro e w5 ⟨rfl, hb5⟩
      have hc5 := hc4.below hb5
      have hB5 := below_call hB4 hb5
      clear cj hc4 hB4 hb5
      go_wp2_with fail
      go_at_call 6
      refine (c6 _).mono ?_
      rintro e w6 ⟨gd, cd, rfl, hd6, hb6⟩
      have hc6 := hc5.below hb6
      have hB6 := below_call hB5 hb6
      clear hc5 hB5 hb6
      go_wp2_with fail
      go_at_call 8
      refine (same_true _ _ n _ _ (clt L) _ (by omega) (strs_of hd6) (strs_of hc6)).mono ?_
      rintro e w7 ⟨rfl, hb7⟩
      have hB7 := below_call hB6 hb7
      clear hd6 hc6 hB6 hb7
      go_wp2_with fail
      go_ret
      exact ⟨rfl, hB7⟩
theorem own : ownKnob Try.prog.godebug = none := by kernel_rfl
theorem laidOut : laidOutB Try.prog = true := by kernel_rfl
set_option maxRecDepth 100000 in
theorem contract (H : Type) (enc : TypeId × Value → H) (W : World) (base : Nat) (args : Array Value) (ds gs : List (DataW H)) (before : List MemPlace)
    (hval0 : ∀ (j : Nat) t v, Try.f5.params[j]? = some t → args[j]? = some v → Value.okWide Try.prog W .any base t v)
    (hW : DataW.Whole enc Try.prog Try.f5.params.toList Rows.linesBackSpec.vars false W args.toList ds gs before)
    (hk : Rows.uptoSmall H (ds ++ gs) = true)
    (hsz0 : (DataW.weightsEach Try.prog (Try.f5.params.toList ++ Rows.linesBackSpec.plain.varTypes Try.prog) (ds ++ gs)).all (· ≤ reachBytes) = true) :
    Calls Try.prog 5 args W fun e W' => ∃ v, e = .returned v ∧ Rows.linesBackSpec.post enc Try.prog Try.f5 false true false false W args v W' := by
  have hval : ∀ (j : Nat) t v, Try.f5.params[j]? = some t → args[j]? = some v → Value.okWide Try.prog W .any base t v := hval0
  have hsz := hsz0
  clear hsz0
  have hW' := hW
  obtain ⟨p, q, hA0, hV, rfl, hfz, hnd⟩ := hW
  have hA : DataW.TrodAll enc Try.prog W 0 (fun _ => true) true Try.f5.params.toList args.toList ds p := hA0
  rw [Try.params5] at hA hval hsz
  obtain ⟨v0, vs0, d0, ds0, p0, q0, hargs, rfl, rfl, h0, r0⟩ := trodAll_cons hA
  obtain ⟨rfl, rfl, rfl⟩ := trodAll_nil r0
  obtain rfl : args = #[v0] := by cases args; simp_all
  obtain ⟨rfl, rfl⟩ := trodVars_none hV
  obtain ⟨s0, rfl, rfl, rfl, w0⟩ := open_string Try.underlying9 (hval 0 9 v0 rfl rfl) h0
  have hreach0 : s0.size ≤ 140737488351232 := by
    have := sized_string hsz (j := 0) (t := 9) rfl rfl
    simpa [reachBytes] using this
  clear hA0 hval0
  have hbulk : s0.size ≤ 1048576 := by
    have h := of_decide_eq_true hk
    rw [List.append_nil] at h
    have x : Rows.uptoBulkAll [DataW.lit (H := H) (.string s0.data.toList)] = (s0.data.toList.length + 1) + 0 := rfl
    rw [x, len_l] at h
    omega
  refine (walk s0 W (by omega)).mono fun e W' ⟨he, bel⟩ => ?_
  subst he
  exact ⟨_, rfl, _, _, _, [], _, [], hW', trodAll_mk1 (shut_bool Try.underlying4 _), (trodAll_cons_mk (shut_string Try.underlying9 w0) trodAll_mk0), rfl, bel.frame _, fun h => by cases h⟩
set_option maxRecDepth 100000 in
theorem lifted (os : Os) (started : os.Started) (H : Type) (enc : TypeId × Value → H) (F : Stop.Interp) :
    ReturnsInHanded {} Try.checked os 5 .any ((Rows.OpenSpec.upto Rows.linesBackSpec).pre6 enc Try.prog Try.f5 Rows.linesBackUptoRow.domain false) (((Rows.OpenSpec.upto Rows.linesBackSpec).at F).post enc Try.prog Try.f5 false true false false) := by
  refine returnsInHanded_of_cond_sized (C := Try.checked) (s := Rows.OpenSpec.upto Rows.linesBackSpec) (k := Rows.uptoSmall) rfl own started (by kernel_rfl) Try.func5
    (OpenSpec.witness (enc := enc) (C := Try.checked) (s := Rows.OpenSpec.upto Rows.linesBackSpec) (k := Rows.uptoSmall) rfl false ⟨#[], #[.string ByteArray.empty], []⟩ 8 (by kernel_rfl) (by kernel_rfl) (by kernel_rfl)
      (x := ([.lit (.string [])], [], [])) (by kernel_rfl) rfl (by kernel_rfl)) ?_
  intro W base args ds gs before hval hW _ hk hsz0 _
  exact contract H enc W base args ds gs before hval hW hk hsz0
theorem over : Rows.linesBackUptoRow.holds Try.pinned (Rows.OpenSpec.upto Rows.linesBackSpec) :=
  OpenClaim.holds_of_cond 5 Try.f5 rfl rfl rfl rfl rfl rfl rfl ⟨rfl, rfl, rfl, rfl, rfl⟩ rfl rfl rfl rfl rfl (by kernel_rfl) Try.func5 (by kernel_rfl)
    (of_decide_eq_true (by kernel_rfl)) (by unfold Func.isWrapper; first | (rw [if_pos (by decide +kernel)]; kernel_rfl) | (rw [if_neg (by decide +kernel)]; exact ⟨rfl, rfl⟩))
    (fun os started H enc _ F => lifted os started H enc F)
end Go.Proofs.Ytaoblifmggkpoaa.linesBack
namespace Go.Proofs.Ytaoblifmggkpoaa
theorem linesBackUpto_holds : Rows.LinesBackUptoSaid := linesBack.over
#print axioms linesBackUpto_holds
end Go.Proofs.Ytaoblifmggkpoaa
