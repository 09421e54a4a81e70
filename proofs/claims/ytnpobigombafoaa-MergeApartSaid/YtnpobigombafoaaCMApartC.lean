/-
  MergeApart: of every four lists of texts: changes of lines ahead of a line that stands once, and of lines behind it, are both in the merge, without a conflict.
  It is said of the code of package merge as it landed, for every argument of the given row's domain, in the first form. The law returns true, and writes nothing that was there. No other condition.
-/
import Derived.Test.YtnpobigombafoaaT4
import Derived.ProofKit
import Derived.OpenShut
import Derived.ChangeOld
import Derived.Below
import Derived.JoinedCond
namespace Go.Proofs.Ytnpobigombafoaa.Mg
open Go.RowKit Go.ChangeShapes Go.WideShapes Tx Um Ud Aq Km Kd Lm Ln
set_option linter.unusedVariables false
def let20 (s : ByteArray) (k : Nat) : ByteArray := tb ((s.data.toList.take k).filter letter)
theorem let20_next {s : ByteArray} {k : Nat} (h : k < s.size) : let20 s (k + 1) = if letter s[k] = true then let20 s k ++ s.extract k (k + 1) else let20 s k := by
  have hl : k < s.data.toList.length := by rw [len_l]; exact h
  have hg : s.data.toList[k] = s[k] := rfl
  unfold let20
  rw [List.take_succ_eq_append_getElem hl, List.filter_append, hg]
  by_cases hc : letter s[k] = true
  · rw [if_pos hc, List.filter_cons_of_pos hc]
    apply ByteArray.ext
    apply Array.toList_inj.1
    have e : (s.extract k (k + 1)).data.toList = [s[k]] := by
      rw [ByteArray.data_extract, Array.toList_extract]
      show (s.data.toList.extract k (k + 1)) = _
      rw [List.extract_eq_take_drop, Nat.add_sub_cancel_left, List.drop_eq_getElem_cons hl]
      rfl
    rw [ByteArray.data_append, Array.toList_append, e]
    rfl
  · rw [if_neg hc, List.filter_cons_of_neg hc]
    simp
theorem let20_size (s : ByteArray) (k : Nat) : (let20 s k).size ≤ k := by
  unfold let20
  rw [tb_size]
  exact Nat.le_trans (List.length_filter_le _ _) (by rw [List.length_take]; omega)
theorem toln_let (s : ByteArray) {k : Nat} (h : k = 20 ∨ (k = s.size ∧ k ≤ 20)) : toln s = let20 s k ++ ⟨#[10]⟩ := by
  have e : s.data.toList.take 20 = s.data.toList.take k := by
    rcases h with rfl | ⟨rfl, h⟩
    · rfl
    · rw [List.take_of_length_le (by rw [len_l]; exact h), List.take_of_length_le (by rw [len_l]; exact Nat.le_refl _)]
  unfold toln let20
  rw [e]
  apply ByteArray.ext
  simp [tb]
theorem toln_size (s : ByteArray) : (toln s).size ≤ 21 := by
  unfold toln
  rw [tb_size, List.length_append, List.length_singleton]
  have := List.length_filter_le letter (s.data.toList.take 20)
  rw [List.length_take] at this
  omega
theorem told_take {l : List ByteArray} {i : Nat} (h : i < l.length) : cat (told (l.take (i + 1))) = cat (told (l.take i)) ++ toln l[i] := by
  rw [List.take_succ_eq_append_getElem h]
  unfold told
  rw [List.map_append, List.map_singleton, cat_snoc]
theorem told_size (l : List ByteArray) : (cat (told l)).size ≤ 21 * l.length := by
  rw [cat_size]
  unfold told
  induction l with
  | nil => exact Nat.le_refl _
  | cons x l ih =>
    have := toln_size x
    simp only [List.map_cons, List.sum_cons, List.length_cons]
    omega
theorem letter_yes {c : UInt8} (h : letter c = true) : (97 : Int) ≤ (c.toNat : Int) ∧ (c.toNat : Int) ≤ 122 := by
  have := of_decide_eq_true h
  have h1 := UInt8.le_iff_toNat_le.1 this.1
  have h2 := UInt8.le_iff_toNat_le.1 this.2
  have e1 : (97 : UInt8).toNat = 97 := rfl
  have e2 : (122 : UInt8).toNat = 122 := rfl
  omega
theorem letter_no {c : UInt8} (h : ¬ letter c = true) : ¬ (97 : Int) ≤ (c.toNat : Int) ∨ ((97 : Int) ≤ (c.toNat : Int) ∧ ¬ (c.toNat : Int) ≤ 122) := by
  by_cases h1 : 97 ≤ c.toNat
  · by_cases h2 : c.toNat ≤ 122
    · exact absurd (decide_eq_true ⟨UInt8.le_iff_toNat_le.2 h1, UInt8.le_iff_toNat_le.2 h2⟩) h
    · exact .inr ⟨by omega, by omega⟩
  · exact .inl (by omega)
set_option maxRecDepth 100000 in
set_option maxHeartbeats 1000000 in
theorem told_any (A : Option Addr) (n c : Nat) (l : List ByteArray) (w : World) (h : Strs w A n l) (hn : n ≤ 180) :
    Calls Try.prog 19 #[.slice A n c] w fun e w' => e = .returned (.string (cat (told l))) ∧ Below w.heap.size w w' := by
  have hln := h.1
  have HA : Hid (Strs w A l.length l) := by show Strs _ _ _ _; rw [hln]; exact h
  have HL := Lib.hid hln
  clear h hln
  go_enter Try.func19, Try.ntmps19
  go_wp2_with fail
  go_loop [3, 4, 5, 6] (fun s i _ _ => ∃ (k : Nat) (S : ByteArray), k ≤ n ∧ i = .int .i64 (k : Int) ∧ s = .string S ∧ Hid (S = cat (told (l.take k))) ∧ S.size ≤ 21 * k) (fun _ i _ _ => n - (intOf i).toNat)
  case atStart => exact ⟨0, ⟨#[]⟩, Nat.zero_le _, rfl, rfl, rfl, Nat.le_refl _⟩
  case round =>
    obtain ⟨k, S, hk, rfl, rfl, HS, hSs⟩ := hrel
    by_cases hlt : k < n
    · have e1 : (k : Int) < (n : Int) := by omega
      have hka : k < l.length := by rw [HL.out]; exact hlt
      obtain ⟨ba, oa, rfl, c1⟩ := strs_cell HA.out hka (Below.refl _ _)
      obtain ⟨X, hX⟩ : ∃ X, X = l[k] := ⟨_, rfl⟩
      have hT := told_take hka
      rw [← hX] at c1 hT
      rw [← HS.out] at hT
      have HT := Lib.hid hT
      have hTs := toln_size X
      clear hT hX hka HS
      go_wp2_with fail
      go_loop [5, 6] (fun o j => ∃ (b : Nat) (O : ByteArray), b ≤ X.size ∧ b ≤ 20 ∧ j = .int .i64 (b : Int) ∧ o = .string O ∧ Hid (O = let20 X b) ∧ O.size ≤ b) (fun _ j => 20 - (intOf j).toNat)
      case atStart => exact ⟨0, ⟨#[]⟩, Nat.zero_le _, by omega, rfl, rfl, by rfl, Nat.le_refl _⟩
      case round =>
        obtain ⟨b, O, hb, hb20, rfl, rfl, HO, hOs⟩ := hrel
        by_cases hbl : b < X.size ∧ b < 20
        · obtain ⟨hb1, hb2⟩ := hbl
          have e2 : (b : Int) < (X.size : Int) := by omega
          have e3 : (b : Int) < 20 := by omega
          have hN := let20_next hb1
          rw [← HO.out] at hN
          have wb : IntKind.i64.wrap ((b : Int) + 1) = (b : Int) + 1 := IntWalk.i64_in _ (by omega)
          have hsz := let20_size X (b + 1)
          by_cases hc : letter X[b] = true
          · rw [if_pos hc] at hN
            obtain ⟨e4, e5⟩ := letter_yes hc
            have HN := Lib.hid hN
            clear hN hc HO
            go_wp2_with fail
            go_round
            case rel => exact ⟨b + 1, _, by omega, by omega, by go_num, rfl, HN.out.symm, by rw [← HN.out]; exact hsz⟩
            case measure => simp only [intOf]; omega
          · rw [if_neg hc] at hN
            have HN := Lib.hid hN
            clear hN HO
            rcases letter_no hc with e4 | ⟨e4, e5⟩
            · clear hc
              go_wp2_with fail
              go_round
              case rel => exact ⟨b + 1, O, by omega, by omega, by go_num, rfl, HN.out.symm, by omega⟩
              case measure => simp only [intOf]; omega
            · clear hc
              go_wp2_with fail
              go_round
              case rel => exact ⟨b + 1, O, by omega, by omega, by go_num, rfl, HN.out.symm, by omega⟩
              case measure => simp only [intOf]; omega
        · have hTL : Hid (S ++ O ++ ⟨#[10]⟩ = cat (told (l.take (k + 1)))) := by
            show _ = _
            rw [HT.out, toln_let X (k := b) (by omega), HO.out, ByteArray.append_assoc]
          have hsz : (S ++ O ++ ⟨#[10]⟩ : ByteArray).size ≤ 21 * (k + 1) := by
            rw [ByteArray.size_append, ByteArray.size_append]
            have : (⟨#[10]⟩ : ByteArray).size = 1 := rfl
            omega
          by_cases hx : b < X.size
          · have e2 : (b : Int) < (X.size : Int) := by omega
            have e3 : ¬ (b : Int) < 20 := by omega
            clear hbl HO
            go_wp2_with fail
            go_round
            case rel => exact ⟨k + 1, _, by omega, by go_num, rfl, hTL, hsz⟩
            case measure => simp only [intOf]; omega
          · have e2 : ¬ (b : Int) < (X.size : Int) := by omega
            clear hbl HO
            go_wp2_with fail
            go_round
            case rel => exact ⟨k + 1, _, by omega, by go_num, rfl, hTL, hsz⟩
            case measure => simp only [intOf]; omega
    · have e1 : ¬ (k : Int) < (n : Int) := by omega
      have hE : Hid (S = cat (told l)) := by
        show _ = _
        rw [HS.out, List.take_of_length_le (by rw [HL.out]; omega)]
      clear HS
      go_wp2_with fail
      go_ret
      exact ⟨by rw [← hE.out]; rfl, Below.refl _ _⟩
end Go.Proofs.Ytnpobigombafoaa.Mg

namespace Go.Proofs.Ytnpobigombafoaa.mergeApart
open Go.ChangeShapes Go.WideShapes Go.ChangeAt Go.RowKit Tx Um Ud Aq Km Kd Lm Ln Mg
set_option linter.unusedVariables false
theorem text2_eq (A B : List ByteArray) : text2 A B = cat (told A) ++ MID ++ cat (told B) := by
  unfold text2
  have e : MID :: told B = [MID] ++ told B := rfl
  rw [e, cat_app, cat_app, ByteArray.append_assoc]
  rfl
theorem text2_size (A B : List ByteArray) (h : A.length + B.length ≤ 180) : (text2 A B).size ≤ 4000 := by
  rw [text2_eq, ByteArray.size_append, ByteArray.size_append]
  have h1 := told_size A
  have h2 := told_size B
  have e : MID.size = 9 := rfl
  omega
theorem same_text (s : ByteArray) : (s.toList == s.toList) = true := beq_self_eq_true _
set_option maxRecDepth 100000 in
set_option maxHeartbeats 2000000 in
theorem walk {Q : ByteArray → ByteArray → ByteArray → Prop} (hM : Impl Q) (PA PB PX PY : Option Addr) (cA cB cX cY : Nat) (lA lB lX lY : List ByteArray) (w : World) (hA : Strs w PA lA.length lA) (hB : Strs w PB lB.length lB) (hX : Strs w PX lX.length lX) (hY : Strs w PY lY.length lY) (sA : lA.length ≤ 8796093022208) (sB : lB.length ≤ 8796093022208) (sX : lX.length ≤ 8796093022208) (sY : lY.length ≤ 8796093022208) :
    Calls Try.prog 7 #[.slice PA lA.length cA, .slice PB lB.length cB, .slice PX lX.length cX, .slice PY lY.length cY] w fun e w' => e = .returned (.bool true) ∧ Below w.heap.size w w' := by
  obtain ⟨nA, hnA⟩ : ∃ n, n = lA.length := ⟨_, rfl⟩
  obtain ⟨nB, hnB⟩ : ∃ n, n = lB.length := ⟨_, rfl⟩
  obtain ⟨nX, hnX⟩ : ∃ n, n = lX.length := ⟨_, rfl⟩
  obtain ⟨nY, hnY⟩ : ∃ n, n = lY.length := ⟨_, rfl⟩
  rw [← hnA] at hA sA ⊢
  rw [← hnB] at hB sB ⊢
  rw [← hnX] at hX sX ⊢
  rw [← hnY] at hY sY ⊢
  have HA := Lib.hid hA
  have HB := Lib.hid hB
  have HX := Lib.hid hX
  have HY := Lib.hid hY
  have w1 : IntKind.i64.wrap ((nA : Int) + (nB : Int)) = (nA : Int) + (nB : Int) := IntWalk.i64_in _ (by omega)
  have w2 : IntKind.i64.wrap ((nX : Int) + (nY : Int)) = (nX : Int) + (nY : Int) := IntWalk.i64_in _ (by omega)
  clear hA hB hX hY
  by_cases h1 : 180 < nA + nB
  · have e1 : (180 : Int) < (nA : Int) + (nB : Int) := by omega
    have e1' : decide ((180 : Int) < (nA : Int) + (nB : Int)) = true := decide_eq_true e1
    clear hnA hnB hnX hnY
    go_enter Try.func7, Try.ntmps7
    go_wp2_with fail
    go_at_call 11
    refine (awake_any14 hM _).mono ?_
    rintro e w1 ⟨rfl, hb1⟩
    go_wp2_with fail
    go_at_call 11
    refine (awake_any14 hM _).mono ?_
    rintro e w2 ⟨rfl, hb2⟩
    have hB2 := below_call hb1 hb2
    go_wp2_with fail
    go_ret
    exact ⟨rfl, hB2⟩
  · have e1 : ¬ (180 : Int) < (nA : Int) + (nB : Int) := by omega
    have e1' : decide ((180 : Int) < (nA : Int) + (nB : Int)) = false := decide_eq_false e1
    by_cases h2 : 180 < nX + nY
    · have e2 : (180 : Int) < (nX : Int) + (nY : Int) := by omega
      have e2' : decide ((180 : Int) < (nX : Int) + (nY : Int)) = true := decide_eq_true e2
      clear hnA hnB hnX hnY
      go_enter Try.func7, Try.ntmps7
      go_wp2_with fail
      go_at_call 11
      refine (awake_any14 hM _).mono ?_
      rintro e w1 ⟨rfl, hb1⟩
      go_wp2_with fail
      go_at_call 11
      refine (awake_any14 hM _).mono ?_
      rintro e w2 ⟨rfl, hb2⟩
      have hB2 := below_call hb1 hb2
      go_wp2_with fail
      go_ret
      exact ⟨rfl, hB2⟩
    · have e2 : ¬ (180 : Int) < (nX : Int) + (nY : Int) := by omega
      have e2' : decide ((180 : Int) < (nX : Int) + (nY : Int)) = false := decide_eq_false e2
      have z1 := text2_size lA lB (by omega)
      have z2 : (text2 lX lB).size ≤ 8000 := by
        rw [text2_eq, ByteArray.size_append, ByteArray.size_append]
        have h1 := told_size lX
        have h2 := told_size lB
        have e : MID.size = 9 := rfl
        omega
      have z3 : (text2 lA lY).size ≤ 8000 := by
        rw [text2_eq, ByteArray.size_append, ByteArray.size_append]
        have h1 := told_size lA
        have h2 := told_size lY
        have e : MID.size = 9 := rfl
        omega
      have c1 := fun w1 => hM.merge (text2 lA lB) (text2 lX lB) (text2 lA lY) w1 (hM.small _ _ _ (by omega))
      have her : err3 (text2 lA lB) (text2 lX lB) (text2 lA lY) = 0 := by
        unfold err3
        rw [text2_txt lA lB (by omega), text2_txt lX lB (by omega), text2_txt lA lY (by omega)]
        rfl
      have hx : mtx (text2 lA lB) (text2 lX lB) (text2 lA lY) = text2 lX lY ∧ mcf (text2 lA lB) (text2 lX lB) (text2 lA lY) = 0 := by
        unfold mtx mcf
        rw [if_pos her, if_pos her]
        exact merge_apart lA lB lX lY
      unfold MgTo at c1
      rw [her, hx.1, hx.2, text2_eq, text2_eq, text2_eq, text2_eq] at c1
      have k1 := told_size lA
      have k2 := told_size lB
      have k3 := told_size lX
      have k4 := told_size lY
      obtain ⟨tA, hA⟩ : ∃ t, t = cat (told lA) := ⟨_, rfl⟩
      obtain ⟨tB, hB⟩ : ∃ t, t = cat (told lB) := ⟨_, rfl⟩
      obtain ⟨tX, hX⟩ : ∃ t, t = cat (told lX) := ⟨_, rfl⟩
      obtain ⟨tY, hY⟩ : ∃ t, t = cat (told lY) := ⟨_, rfl⟩
      rw [← hA, ← hB, ← hX, ← hY] at c1
      rw [← hA] at k1
      rw [← hB] at k2
      rw [← hX] at k3
      rw [← hY] at k4
      unfold MID at c1
      have C1 := Lib.hid c1
      have TA := Lib.hid hA
      have TB := Lib.hid hB
      have TX := Lib.hid hX
      have TY := Lib.hid hY
      have zA : tA.size ≤ 4000 := by omega
      have zB : tB.size ≤ 4000 := by omega
      have zX : tX.size ≤ 4000 := by omega
      have zY : tY.size ≤ 4000 := by omega
      have g1 := same_text (tX ++ ⟨#[124, 109, 105, 100, 100, 108, 101, 124, 10]⟩ ++ tY)
      clear c1 hA hB hX hY z1 z2 z3 her hx k1 k2 k3 k4 hnA hnB hnX hnY
      go_enter Try.func7, Try.ntmps7
      go_wp2_with fail
      go_at_call 11
      refine (awake_any14 hM _).mono ?_
      rintro e w1 ⟨rfl, hb1⟩
      go_wp2_with fail
      have hB1 := hb1
      go_at_call 19
      refine (told_any PA nA cA lA _ (HA.out.below hB1) (by omega)).mono ?_
      rintro e w2 ⟨rfl, hb2⟩
      have hB2 := below_call hB1 hb2
      rw [← TA.out]
      go_wp2_with fail
      go_at_call 19
      refine (told_any PB nB cB lB _ (HB.out.below hB2) (by omega)).mono ?_
      rintro e w3 ⟨rfl, hb3⟩
      have hB3 := below_call hB2 hb3
      rw [← TB.out]
      go_wp2_with fail
      go_at_call 19
      refine (told_any PX nX cX lX _ (HX.out.below hB3) (by omega)).mono ?_
      rintro e w4 ⟨rfl, hb4⟩
      have hB4 := below_call hB3 hb4
      rw [← TX.out]
      go_wp2_with fail
      go_at_call 19
      refine (told_any PB nB cB lB _ (HB.out.below hB4) (by omega)).mono ?_
      rintro e w5 ⟨rfl, hb5⟩
      have hB5 := below_call hB4 hb5
      rw [← TB.out]
      go_wp2_with fail
      go_at_call 19
      refine (told_any PA nA cA lA _ (HA.out.below hB5) (by omega)).mono ?_
      rintro e w6 ⟨rfl, hb6⟩
      have hB6 := below_call hB5 hb6
      rw [← TA.out]
      go_wp2_with fail
      go_at_call 19
      refine (told_any PY nY cY lY _ (HY.out.below hB6) (by omega)).mono ?_
      rintro e w7 ⟨rfl, hb7⟩
      have hB7 := below_call hB6 hb7
      rw [← TY.out]
      go_wp2_with fail
      go_at_call 14
      refine (C1.out _).mono ?_
      rintro e w8 ⟨rfl, hb8⟩
      have hB8 := below_call hB7 hb8
      go_wp2_with fail
      go_at_call 19
      refine (told_any PX nX cX lX _ (HX.out.below hB8) (by omega)).mono ?_
      rintro e w9 ⟨rfl, hb9⟩
      have hB9 := below_call hB8 hb9
      rw [← TX.out]
      go_wp2_with fail
      go_at_call 19
      refine (told_any PY nY cY lY _ (HY.out.below hB9) (by omega)).mono ?_
      rintro e w10 ⟨rfl, hb10⟩
      have hB10 := below_call hB9 hb10
      rw [← TY.out]
      go_wp2_with fail
      go_ret
      exact ⟨rfl, hB10⟩
theorem own : ownKnob Try.prog.godebug = none := by kernel_rfl
theorem laidOut : laidOutB Try.prog = true := by kernel_rfl
set_option maxRecDepth 100000 in
theorem contract {Q : ByteArray → ByteArray → ByteArray → Prop} (hM : Impl Q) (H : Type) (enc : TypeId × Value → H) (W : World) (base : Nat) (args : Array Value) (ds gs : List (DataW H)) (before : List MemPlace)
    (hval0 : ∀ (j : Nat) t v, Try.f7.params[j]? = some t → args[j]? = some v → Value.okWide Try.prog W .any base t v)
    (hW : DataW.Whole enc Try.prog Try.f7.params.toList Rows.mergeApartSpec.vars false W args.toList ds gs before)
    (hsz0 : (DataW.weightsEach Try.prog (Try.f7.params.toList ++ Rows.mergeApartSpec.plain.varTypes Try.prog) (ds ++ gs)).all (· ≤ reachBytes) = true) :
    Calls Try.prog 7 args W fun e W' => ∃ v, e = .returned v ∧ Rows.mergeApartSpec.post enc Try.prog Try.f7 false true false false W args v W' := by
  have hval : ∀ (j : Nat) t v, Try.f7.params[j]? = some t → args[j]? = some v → Value.okWide Try.prog W .any base t v := hval0
  have hsz := hsz0
  clear hsz0
  have hW' := hW
  obtain ⟨p, q, hA0, hV, rfl, hfz, hnd⟩ := hW
  have hA : DataW.TrodAll enc Try.prog W 0 (fun _ => true) true Try.f7.params.toList args.toList ds p := hA0
  rw [Try.params7] at hA hval hsz
  obtain ⟨v0, vs0, d0, ds0, p0, q0, hargs, rfl, rfl, h0, r0⟩ := trodAll_cons hA
  obtain ⟨v1, vs1, d1, ds1, p1, q1, rfl, rfl, rfl, h1, r1⟩ := trodAll_cons r0
  obtain ⟨v2, vs2, d2, ds2, p2, q2, rfl, rfl, rfl, h2, r2⟩ := trodAll_cons r1
  obtain ⟨v3, vs3, d3, ds3, p3, q3, rfl, rfl, rfl, h3, r3⟩ := trodAll_cons r2
  obtain ⟨rfl, rfl, rfl⟩ := trodAll_nil r3
  obtain rfl : args = #[v0, v1, v2, v3] := by cases args; simp_all
  obtain ⟨rfl, rfl⟩ := trodVars_none hV
  obtain ⟨A0, n0, c0, rfl⟩ := okWide_slice Try.underlying31 (hval 0 31 v0 rfl rfl)
  have k0 := h0
  have lt0 : ∀ x ∈ p0, x.block < W.heap.size := by obtain ⟨m, hm⟩ := k0; exact DataW.trod_lt m _ _ _ hm
  obtain ⟨A1, n1, c1, rfl⟩ := okWide_slice Try.underlying31 (hval 1 31 v1 rfl rfl)
  have k1 := h1
  have lt1 : ∀ x ∈ p1, x.block < W.heap.size := by obtain ⟨m, hm⟩ := k1; exact DataW.trod_lt m _ _ _ hm
  obtain ⟨A2, n2, c2, rfl⟩ := okWide_slice Try.underlying31 (hval 2 31 v2 rfl rfl)
  have k2 := h2
  have lt2 : ∀ x ∈ p2, x.block < W.heap.size := by obtain ⟨m, hm⟩ := k2; exact DataW.trod_lt m _ _ _ hm
  obtain ⟨A3, n3, c3, rfl⟩ := okWide_slice Try.underlying31 (hval 3 31 v3 rfl rfl)
  have k3 := h3
  have lt3 : ∀ x ∈ p3, x.block < W.heap.size := by obtain ⟨m, hm⟩ := k3; exact DataW.trod_lt m _ _ _ hm
  clear hA0 hval0
  obtain ⟨l0, hl0⟩ := arg_list h0 (j := 0) hsz rfl rfl
  have ln0 := hl0.1.1
  obtain rfl := ln0.symm
  obtain ⟨l1, hl1⟩ := arg_list h1 (j := 1) hsz rfl rfl
  have ln1 := hl1.1.1
  obtain rfl := ln1.symm
  obtain ⟨l2, hl2⟩ := arg_list h2 (j := 2) hsz rfl rfl
  have ln2 := hl2.1.1
  obtain rfl := ln2.symm
  obtain ⟨l3, hl3⟩ := arg_list h3 (j := 3) hsz rfl rfl
  have ln3 := hl3.1.1
  obtain rfl := ln3.symm
  refine (walk hM A0 A1 A2 A3 c0 c1 c2 c3 l0 l1 l2 l3 W hl0.1 hl1.1 hl2.1 hl3.1 (by have := hl0.2.2.1; omega) (by have := hl1.2.2.1; omega) (by have := hl2.2.2.1; omega) (by have := hl3.2.2.1; omega)).mono fun e W' ⟨he, bel⟩ => ?_
  subst he
  exact ⟨_, rfl, _, _, _, [], _, [], hW', trodAll_mk1 (shut_bool Try.underlying4 _), (trodAll_cons_mk (Below.trod laidOut (by kernel_rfl) (of_decide_eq_true (by kernel_rfl)) k0 bel lt0) (trodAll_cons_mk (Below.trod laidOut (by kernel_rfl) (of_decide_eq_true (by kernel_rfl)) k1 bel lt1) (trodAll_cons_mk (Below.trod laidOut (by kernel_rfl) (of_decide_eq_true (by kernel_rfl)) k2 bel lt2) (trodAll_cons_mk (Below.trod laidOut (by kernel_rfl) (of_decide_eq_true (by kernel_rfl)) k3 bel lt3) trodAll_mk0)))), rfl, bel.frame _, fun h => by cases h⟩
set_option maxRecDepth 100000 in
theorem lifted {Q : ByteArray → ByteArray → ByteArray → Prop} (hM : Impl Q) (os : Os) (started : os.Started) (H : Type) (enc : TypeId × Value → H) :
    ReturnsInHanded {} Try.checked os 7 .any (Rows.mergeApartSpec.pre6 enc Try.prog Try.f7 Rows.mergeApartRow.domain false) (Rows.mergeApartSpec.post enc Try.prog Try.f7 false true false false) := by
  refine returnsInHanded_of_change_sized (C := Try.checked) own started (by kernel_rfl) Try.func7
    (ChangeSpec.witness6 (enc := enc) (C := Try.checked) false ⟨#[], #[.slice none 0 0, .slice none 0 0, .slice none 0 0, .slice none 0 0], []⟩ 8 (by kernel_rfl) (by kernel_rfl) (by kernel_rfl) (by kernel_rfl)) ?_
  intro W base args ds gs before hval0 hW _ hsz0 _
  exact contract hM H enc W base args ds gs before hval0 hW hsz0
theorem over {Q : ByteArray → ByteArray → ByteArray → Prop} (hM : Impl Q) : Rows.mergeApartRow.holds Try.pinned (OpenSpec.ofChange Rows.mergeApartSpec) :=
  OpenClaim.holds_of_wide 7 Try.f7 rfl rfl rfl rfl rfl rfl rfl ⟨rfl, rfl, rfl, rfl, rfl⟩ rfl rfl rfl rfl rfl (by kernel_rfl) Try.func7 (by kernel_rfl)
    (of_decide_eq_true (by kernel_rfl)) (by unfold Func.isWrapper; first | (rw [if_pos (by decide +kernel)]; kernel_rfl) | (rw [if_neg (by decide +kernel)]; exact ⟨rfl, rfl⟩))
    (fun os started H enc _ => lifted hM os started H enc)
end Go.Proofs.Ytnpobigombafoaa.mergeApart

namespace Go.Proofs.Ytnpobigombafoaa
theorem mergeApart_holds : Rows.MergeApartSaid := mergeApart.over Mg.impl
#print axioms mergeApart_holds
end Go.Proofs.Ytnpobigombafoaa
