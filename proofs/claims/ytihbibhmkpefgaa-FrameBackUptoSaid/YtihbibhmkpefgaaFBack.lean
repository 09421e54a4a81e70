/-
  FrameBack, up to the bound: for every list of strings and every int cut (the list holds at most 1048576 values and letters): frames that were packed one behind the other are scanned as their texts; cut short anywhere, the whole ones ahead of the cut are, and the rest is told as too short: the law returns true, and writes nothing that was there. Condition: the bound of the second form.
-/
import Derived.Test.YtihbibhmkpefgaaFAwake
import Derived.Test.YtihbibhmkpefgaaFBackMath
import Derived.ProofKit
import Derived.OpenShut
import Derived.ShutString
import Derived.SizedLaws
import Derived.ChangeOld
import Derived.JoinedCond
import Derived.Deep.CondSized
import Derived.SliceStrings
namespace Go.Proofs.Ytihbibhmkpefgaa.frameBack
open Go.ChangeMaps (open_string shut_string)
open Go.ChangeShapes Go.WideShapes Go.ChangeAt Go.RowKit Wm Wr Fm Fr
set_option linter.unusedVariables false

/-- How many whole frames fit a, an int. -/
def wh (l : List ByteArray) (a : Int) (k : Nat) : Nat := if a < 0 then 0 else cnt (l.take k) a.toNat
theorem wh_zero (l : List ByteArray) (a : Int) : wh l a 0 = 0 := by
  unfold wh
  split
  · rfl
  · rfl
theorem wh_yes {l : List ByteArray} {a : Int} {k : Nat} (hk : k < l.length) (h : ((PKl (l.take (k + 1))).length : Int) ≤ a) : wh l a (k + 1) = k + 1 := by
  rw [wh, if_neg (by omega), cnt_take l k _ hk, if_pos (by omega)]
theorem wh_no {l : List ByteArray} {a : Int} {k : Nat} (hk : k < l.length) (h : a < ((PKl (l.take (k + 1))).length : Int)) : wh l a (k + 1) = wh l a k := by
  unfold wh
  split
  · rfl
  · rw [cnt_take l k _ hk, if_neg (by omega)]
/-- The frames of the first k texts. -/
def Pn (l : List ByteArray) (k : Nat) : ByteArray := ⟨(PKl (l.take k)).toArray⟩
theorem Pn_zero (l : List ByteArray) : Pn l 0 = ⟨#[]⟩ := rfl
theorem Pn_size (l : List ByteArray) (k : Nat) : (Pn l k).size = (PKl (l.take k)).length := mk_len _
theorem Pn_step (l : List ByteArray) (k : Nat) (h : k < l.length) : Pn l (k + 1) = Pn l k ++ pk l[k] := by
  apply ByteArray.ext
  apply Array.toList_inj.1
  rw [Pn, PKl_take l k h]
  simp [Pn]
theorem PKl_bound : ∀ (l : List ByteArray), (l.map (·.size)).sum ≤ 1048576 → (PKl l).length ≤ (l.map (·.size)).sum + 14 * l.length
  | [], _ => Nat.le_refl _
  | t :: l, h => by
    rw [List.map_cons, List.sum_cons] at h
    have ih := PKl_bound l (by omega)
    have := vb_len (x := t.size) (by omega)
    rw [PKl_cons, List.length_append, len_l, pk_size, List.map_cons, List.sum_cons, List.length_cons]
    omega
theorem Pn_bound (l : List ByteArray) (k : Nat) (h : (l.map (·.size)).sum ≤ 1048576) (hn : l.length ≤ 1048576) : (Pn l k).size ≤ 15728640 := by
  have e : ((l.take k).map (·.size)).sum ≤ (l.map (·.size)).sum := by
    conv => rhs; rw [← List.take_append_drop k l]
    rw [List.map_append, List.sum_append]
    omega
  have := PKl_bound (l.take k) (by omega)
  rw [List.length_take] at this
  rw [Pn_size]
  omega
theorem one_le_sum (l : List ByteArray) {t : ByteArray} (h : t ∈ l) : t.size ≤ (l.map (·.size)).sum := by
  induction l with
  | nil => cases h
  | cons x l ih =>
    rw [List.map_cons, List.sum_cons]
    cases List.mem_cons.1 h with
    | inl e => subst e; omega
    | inr e => have := ih e; omega

/-- What Scan answers, the list's form laid open. -/
def ScanIs (l : List ByteArray) (m f : Nat) (w : World) (e : Ending) (w' : World) : Prop := ∃ av cv, e = .returned (.tuple #[.slice av l.length cv, .int .i64 (m : Int), .int .i64 (f : Int)]) ∧ Strs w' av l.length l ∧ Below w.heap.size w w'
theorem scan_is {s : ByteArray} {l : List ByteArray} {m f : Nat} (h : sc s 0 = (l, m, f)) (w : World) (hs : s.size ≤ 8796093022207) : Calls Try.prog 17 #[.string s] w (ScanIs l m f w) := by
  refine (fScan_any s w hs).mono fun e w' ⟨v, he, htx, hb⟩ => ?_
  rw [h] at he htx
  obtain ⟨a, c, hv, hst, _, _⟩ := htx.form
  exact ⟨a, c, by rw [he, hv], hst, hb⟩
theorem scan_all (l : List ByteArray) (ht : ∀ t ∈ l, t.size ≤ 9223372036854775807) : sc (Pn l l.length) 0 = (l, (PKl l).length, 0) := by
  have h := scan_cut l [] (PKl l).length ht
  rw [cnt_all l _ (Nat.le_refl _), List.take_length, List.take_length] at h
  simp only [List.nil_append, List.length_nil, Nat.zero_add, Nat.min_self, if_true] at h
  rw [Pn, List.take_length]
  exact h
theorem scan_part (l : List ByteArray) (b : Nat) (ht : ∀ t ∈ l, t.size ≤ 9223372036854775807) (hb : b ≤ (PKl l).length) : sc ⟨((PKl l).take b).toArray⟩ 0 = (l.take (cnt l b), (PKl (l.take (cnt l b))).length, if (PKl (l.take (cnt l b))).length = b then 0 else 2) := by
  have h := scan_cut l [] b ht
  rw [Nat.min_eq_left hb] at h
  simp only [List.nil_append, List.length_nil, Nat.zero_add] at h
  exact h
theorem part_is (l : List ByteArray) (b : Nat) (hb : b ≤ (PKl l).length) : (Pn l l.length).extract 0 b = ⟨((PKl l).take b).toArray⟩ := by
  apply ByteArray.ext
  rw [ByteArray.data_extract]
  apply Array.toList_inj.1
  rw [Pn, List.take_length]
  simp

set_option maxRecDepth 100000 in
set_option maxHeartbeats 4000000 in
theorem walk_plain (bs off n cap : Nat) (l : List ByteArray) (a : Int) (w : World) (hl : l.length = n) (hn0 : 0 < n) (hnc : n ≤ cap) (hn : n ≤ 1048576) (hsum : (l.map (·.size)).sum ≤ 1048576) (h1 : -9223372036854775808 ≤ a) (h2 : a ≤ 9223372036854775807)
    (hbs : bs < w.heap.size) (hc : ∀ (k : Nat) x, l[k]? = some x → w.cell? ⟨bs, off + k, none⟩ = some (.string x)) :
    Calls Try.prog 6 #[.slice (some ⟨bs, off, none⟩) n cap, .int .i64 a] w fun e w' => e = .returned (.bool true) ∧ Below w.heap.size w w' := by
  have HST : Hid (Strs w (some ⟨bs, off, none⟩) n l) := ⟨hl, .inr ⟨bs, off, rfl, hbs, hc⟩⟩
  have HCELL := Lib.hid hc
  clear hc
  go_enter Try.func6, Try.ntmps6
  go_wp2_with (go_at_call 8; refine (awake_any2 _).mono ?_; rintro e w0 ⟨rfl, hb0⟩)
  go_loopw [5, 6, 7] (fun x g i wr => ∃ k : Nat, k ≤ n ∧ i = .int .i64 k ∧ x = .string (Pn l k) ∧ g = .int .i64 (wh l a k : Nat) ∧ Below w.heap.size w wr) (fun _ _ i _ => n - (intOf i).toNat)
  case atStart => exact ⟨0, Nat.zero_le _, rfl, rfl, by rw [wh_zero]; rfl, hb0⟩
  case round =>
    obtain ⟨k, hk, rfl, rfl, rfl, hB⟩ := hrel
    clear hb0
    by_cases hlt : k < n
    · have hkl : k < l.length := by omega
      have hcell := (hB.cell (p := ⟨bs, off + k, none⟩) hbs).trans (HCELL.out k l[k] (List.getElem?_eq_getElem hkl))
      have hst := Pn_step l k hkl
      have hbd := Pn_bound l (k + 1) hsum (by omega)
      have htl := one_le_sum l (List.getElem_mem hkl)
      have hsz := Pn_size l (k + 1)
      have cp := fun W => fPack_any l[k] W (by omega)
      rw [hst] at hbd hsz
      have hadd : (Pn l k ++ pk l[k]).size = (Pn l k).size + (pk l[k]).size := ByteArray.size_append
      rw [hadd] at hbd hsz
      obtain ⟨Q, hQ⟩ : ∃ Q, Q = pk l[k] := ⟨_, rfl⟩
      obtain ⟨R, hR⟩ : ∃ R, R = Pn l k := ⟨_, rfl⟩
      obtain ⟨X, hX⟩ : ∃ X, X = l[k] := ⟨_, rfl⟩
      rw [← hX] at cp hcell htl
      rw [← hX] at hQ
      rw [← hQ] at cp
      rw [← hX, ← hQ] at hst hbd hsz
      rw [← hR] at hst hbd hsz ⊢
      have HSTEP := Lib.hid hst
      have HSZ := Lib.hid hsz
      clear hst hsz hadd hQ hR hX
      obtain ⟨V, hV⟩ : ∃ V, V = wh l a k := ⟨_, rfl⟩
      rw [← hV]
      have HV := Lib.hid hV
      have hVl : V ≤ k := by
        rw [hV, wh]
        split
        · exact Nat.zero_le _
        · have := cnt_le (l.take k) a.toNat
          rw [List.length_take] at this
          omega
      clear hV
      by_cases hfit : (R.size : Int) + (Q.size : Int) ≤ a
      · have HW := Lib.hid (wh_yes (l := l) (a := a) hkl (by rw [← HSZ.out]; omega))
        go_wp2_with (go_at_call 11; refine (cp _).mono ?_; rintro e w1 ⟨rfl, hb1⟩)
        go_roundw
        case rel => exact ⟨k + 1, by omega, by go_num, by rw [HSTEP.out], by rw [HW.out]; go_num, below_call hB hb1⟩
        case measure => simp [intOf]; omega
      · have HW := Lib.hid (wh_no (l := l) (a := a) hkl (by rw [← HSZ.out]; omega))
        go_wp2_with (go_at_call 11; refine (cp _).mono ?_; rintro e w1 ⟨rfl, hb1⟩)
        go_roundw
        case rel => exact ⟨k + 1, by omega, by go_num, by rw [HSTEP.out], by rw [HW.out, HV.out], below_call hB hb1⟩
        case measure => simp [intOf]; omega
    · obtain rfl : n = k := by omega
      have hst : Strs w (some ⟨bs, off, none⟩) n l := HST.out
      have hall := scan_all l (fun t ht => by have := one_le_sum l ht; omega)
      have hbd := Pn_bound l l.length hsum (by omega)
      have hps : (Pn l l.length).size = (PKl l).length := by rw [Pn_size, List.take_length]
      have cs := fun W => scan_is hall W (by omega)
      rw [hl] at cs
      have HP := Lib.hid (part_is l)
      have HS := Lib.hid (scan_part l)
      rw [hl] at hall hbd hps HP
      obtain ⟨T, hT⟩ : ∃ T, T = (PKl l).length := ⟨_, rfl⟩
      rw [← hT] at cs hps HP HS
      obtain ⟨S, hS⟩ : ∃ S, S = Pn l n := ⟨_, rfl⟩
      rw [← hS] at cs hps hbd HP ⊢
      have hps' : (S.size : Int) = (T : Int) := by omega
      have hTl : T ≤ 15728640 := by omega
      clear hall hS hps
      go_wp2_with fail
      go_at_call 17
      refine (cs _).mono ?_
      rintro e w1 ⟨av, cv, rfl, hs1, hb1⟩
      rw [hl] at hs1 ⊢
      have hB1 := below_call hB hb1
      have cm := same_true av ((some ⟨bs, off, none⟩)) n cv cap l w1 (by omega) hs1 (hst.below hB1)
      clear cs hs1 hb1 hB
      go_wp2_with fail
      go_at_call 19
      refine cm.mono ?_
      rintro e w2 ⟨rfl, hb2⟩
      have hB2 := below_call hB1 hb2
      clear cm hb2 hB1
      by_cases hcut : a < 0 ∨ (T : Int) < a
      · rcases hcut with hcut | hcut
        · go_wp2_with fail
          go_ret
          exact ⟨rfl, hB2⟩
        · go_wp2_with fail
          go_ret
          exact ⟨rfl, hB2⟩
      · obtain ⟨b, rfl⟩ : ∃ b : Nat, a = (b : Int) := ⟨a.toNat, by omega⟩
        have hbT : b ≤ T := by omega
        have hbT' : (b : Int) ≤ (T : Int) := by omega
        have hpart := HP.out b hbT
        have hscan := HS.out b (fun t ht => by have := one_le_sum l ht; omega) hbT
        have hwh : wh l (b : Int) n = cnt l b := by
          rw [wh, if_neg (by omega), Int.toNat_natCast, ← hl, List.take_length]
        have hfit := cnt_fits l b
        have hcl := cnt_le l b
        rw [hwh]
        obtain ⟨W, hW⟩ : ∃ W, W = cnt l b := ⟨_, rfl⟩
        rw [← hW] at hscan hfit hcl ⊢
        obtain ⟨S2, hS2⟩ : ∃ S2 : ByteArray, S2 = ⟨((PKl l).take b).toArray⟩ := ⟨_, rfl⟩
        rw [← hS2] at hscan hpart
        have hS2l : S2.size ≤ 15728640 := by rw [hS2, mk_len, List.length_take]; omega
        obtain ⟨m, hm⟩ : ∃ m, m = (PKl (l.take W)).length := ⟨_, rfl⟩
        rw [← hm] at hscan hfit
        have hWl : (l.take W).length = W := by rw [List.length_take]; omega
        have hst2 : Strs w (some ⟨bs, off, none⟩) W (l.take W) := hst.take (by omega)
        have hWn : (W : Int) ≤ n := by omega
        have hWc : (W : Int) ≤ cap := by omega
        have hmb : (m : Int) ≤ (b : Int) := by omega
        have hmT : m ≤ T := by omega
        have HC := Lib.hid hcut
        clear hwh hW hS2 hm hT hcut HP HS
        by_cases hmb2 : m = b
        · rw [if_pos hmb2] at hscan
          subst hmb2
          have cs2 := fun W' => scan_is hscan W' (by omega)
          clear hscan
          go_wp2_with fail
          go_at_call 17
          refine (cs2 _).mono ?_
          rintro e w3 ⟨bv', cv', rfl, hs3, hb3⟩
          rw [hWl] at hs3 ⊢
          have hB3 := below_call hB2 hb3
          have cm2 := same_true bv' ((some ⟨bs, off, none⟩)) W cv' cap (l.take W) w3 (by omega) hs3 (hst2.below hB3)
          clear cs2 hs3 hb3 hB2
          go_wp2_with fail
          go_at_call 19
          refine cm2.mono ?_
          rintro e w4 ⟨rfl, hb4⟩
          go_wp2_with fail
          go_ret
          exact ⟨rfl, below_call hB3 hb4⟩
        · rw [if_neg hmb2] at hscan
          have hlt3 : (m : Int) < (b : Int) := by omega
          have hne3 : ((m : Int) == (b : Int)) = false := beq_eq_false_iff_ne.2 (by omega)
          have cs2 := fun W' => scan_is hscan W' (by omega)
          clear hscan hmb2
          go_wp2_with fail
          go_at_call 17
          refine (cs2 _).mono ?_
          rintro e w3 ⟨bv', cv', rfl, hs3, hb3⟩
          rw [hWl] at hs3 ⊢
          have hB3 := below_call hB2 hb3
          have cm2 := same_true bv' ((some ⟨bs, off, none⟩)) W cv' cap (l.take W) w3 (by omega) hs3 (hst2.below hB3)
          clear cs2 hs3 hb3 hB2
          go_wp2_with fail
          go_at_call 19
          refine cm2.mono ?_
          rintro e w4 ⟨rfl, hb4⟩
          go_wp2_with fail
          go_ret
          exact ⟨rfl, below_call hB3 hb4⟩

set_option maxRecDepth 100000 in
set_option maxHeartbeats 4000000 in
theorem walk_nil (l : List ByteArray) (n : Nat) (a : Int) (w : World) (hl : l.length = n) (hn : n = 0) (h1 : -9223372036854775808 ≤ a) (h2 : a ≤ 9223372036854775807) :
    Calls Try.prog 6 #[.slice none 0 0, .int .i64 a] w fun e w' => e = .returned (.bool true) ∧ Below w.heap.size w w' := by
  have hsum : (l.map (·.size)).sum ≤ 1048576 := by
    have : l = [] := List.eq_nil_of_length_eq_zero (by omega)
    subst this
    exact Nat.zero_le _
  have HST : Hid (Strs w none n l) := ⟨hl, .inl hn⟩
  have e0 : Hid (n = 0) := hn
  have hpn : (⟨#[]⟩ : ByteArray) = Pn l n := by subst hn; rfl
  have hwn : (0 : Int) = (wh l a n : Nat) := by subst hn; rw [wh_zero]; rfl
  have HPN := Lib.hid hpn
  have HWN := Lib.hid hwn
  clear hpn hwn
  subst hn
  go_enter Try.func6, Try.ntmps6
  go_wp2_with (go_at_call 8; refine (awake_any2 _).mono ?_; rintro e w0 ⟨rfl, hb0⟩)
  go_loopw [5, 6, 7] (fun x g i wr => i = .int .i64 0 ∧ x = .string (Pn l 0) ∧ g = .int .i64 (wh l a 0 : Nat) ∧ Below w.heap.size w wr) (fun _ _ _ _ => 0)
  case atStart => exact ⟨rfl, by rw [← HPN.out], by rw [← HWN.out], hb0⟩
  case round =>
    obtain ⟨rfl, rfl, rfl, hB⟩ := hrel
    clear hb0 HPN HWN
    · have hn : (0 : Nat) ≤ 1048576 := by omega
      have hst : Strs w none 0 l := HST.out
      have hall := scan_all l (fun t ht => by have := one_le_sum l ht; omega)
      have hbd := Pn_bound l l.length hsum (by omega)
      have hps : (Pn l l.length).size = (PKl l).length := by rw [Pn_size, List.take_length]
      have cs := fun W => scan_is hall W (by omega)
      rw [hl] at cs
      have HP := Lib.hid (part_is l)
      have HS := Lib.hid (scan_part l)
      rw [hl] at hall hbd hps HP
      obtain ⟨T, hT⟩ : ∃ T, T = (PKl l).length := ⟨_, rfl⟩
      rw [← hT] at cs hps HP HS
      obtain ⟨S, hS⟩ : ∃ S, S = Pn l 0 := ⟨_, rfl⟩
      rw [← hS] at cs hps hbd HP ⊢
      have hps' : (S.size : Int) = (T : Int) := by omega
      have hTl : T ≤ 15728640 := by omega
      clear hall hS hps
      go_wp2_with fail
      go_at_call 17
      refine (cs _).mono ?_
      rintro e w1 ⟨av, cv, rfl, hs1, hb1⟩
      rw [hl] at hs1 ⊢
      have hB1 := below_call hB hb1
      have cm := same_true av none 0 cv 0 l w1 (by omega) hs1 (hst.below hB1)
      clear cs hs1 hb1 hB
      go_wp2_with fail
      go_at_call 19
      refine cm.mono ?_
      rintro e w2 ⟨rfl, hb2⟩
      have hB2 := below_call hB1 hb2
      clear cm hb2 hB1
      by_cases hcut : a < 0 ∨ (T : Int) < a
      · rcases hcut with hcut | hcut
        · go_wp2_with fail
          go_ret
          exact ⟨rfl, hB2⟩
        · go_wp2_with fail
          go_ret
          exact ⟨rfl, hB2⟩
      · obtain ⟨b, rfl⟩ : ∃ b : Nat, a = (b : Int) := ⟨a.toNat, by omega⟩
        have hbT : b ≤ T := by omega
        have hbT' : (b : Int) ≤ (T : Int) := by omega
        have hpart := HP.out b hbT
        have hscan := HS.out b (fun t ht => by have := one_le_sum l ht; omega) hbT
        have hwh : wh l (b : Int) 0 = cnt l b := by
          rw [wh, if_neg (by omega), Int.toNat_natCast, ← hl, List.take_length]
        have hfit := cnt_fits l b
        have hcl := cnt_le l b
        rw [hwh]
        obtain ⟨W, hW⟩ : ∃ W, W = cnt l b := ⟨_, rfl⟩
        rw [← hW] at hscan hfit hcl ⊢
        obtain ⟨S2, hS2⟩ : ∃ S2 : ByteArray, S2 = ⟨((PKl l).take b).toArray⟩ := ⟨_, rfl⟩
        rw [← hS2] at hscan hpart
        have hS2l : S2.size ≤ 15728640 := by rw [hS2, mk_len, List.length_take]; omega
        obtain ⟨m, hm⟩ : ∃ m, m = (PKl (l.take W)).length := ⟨_, rfl⟩
        rw [← hm] at hscan hfit
        have hWl : (l.take W).length = W := by rw [List.length_take]; omega
        have hst2 : Strs w none W (l.take W) := hst.take (by omega)
        have hWn : (W : Int) ≤ (0 : Nat) := by omega
        have hWc : (W : Int) ≤ (0 : Nat) := by omega
        have hmb : (m : Int) ≤ (b : Int) := by omega
        have hmT : m ≤ T := by omega
        have HC := Lib.hid hcut
        clear hwh hW hS2 hm hT hcut HP HS
        by_cases hmb2 : m = b
        · rw [if_pos hmb2] at hscan
          subst hmb2
          have cs2 := fun W' => scan_is hscan W' (by omega)
          clear hscan
          go_wp2_with fail
          go_at_call 17
          refine (cs2 _).mono ?_
          rintro e w3 ⟨bv', cv', rfl, hs3, hb3⟩
          rw [hWl] at hs3 ⊢
          have hB3 := below_call hB2 hb3
          have cm2 := same_true bv' none W cv' 0 (l.take W) w3 (by omega) hs3 (hst2.below hB3)
          clear cs2 hs3 hb3 hB2
          go_wp2_with fail
          go_at_call 19
          refine cm2.mono ?_
          rintro e w4 ⟨rfl, hb4⟩
          go_wp2_with fail
          go_ret
          exact ⟨rfl, below_call hB3 hb4⟩
        · rw [if_neg hmb2] at hscan
          have hlt3 : (m : Int) < (b : Int) := by omega
          have hne3 : ((m : Int) == (b : Int)) = false := beq_eq_false_iff_ne.2 (by omega)
          have cs2 := fun W' => scan_is hscan W' (by omega)
          clear hscan hmb2
          go_wp2_with fail
          go_at_call 17
          refine (cs2 _).mono ?_
          rintro e w3 ⟨bv', cv', rfl, hs3, hb3⟩
          rw [hWl] at hs3 ⊢
          have hB3 := below_call hB2 hb3
          have cm2 := same_true bv' none W cv' 0 (l.take W) w3 (by omega) hs3 (hst2.below hB3)
          clear cs2 hs3 hb3 hB2
          go_wp2_with fail
          go_at_call 19
          refine cm2.mono ?_
          rintro e w4 ⟨rfl, hb4⟩
          go_wp2_with fail
          go_ret
          exact ⟨rfl, below_call hB3 hb4⟩

set_option maxRecDepth 100000 in
set_option maxHeartbeats 4000000 in
theorem walk_zero (x : Addr) (cap : Nat) (l : List ByteArray) (n : Nat) (a : Int) (w : World) (hl : l.length = n) (hn : n = 0) (h1 : -9223372036854775808 ≤ a) (h2 : a ≤ 9223372036854775807) :
    Calls Try.prog 6 #[.slice (some x) 0 cap, .int .i64 a] w fun e w' => e = .returned (.bool true) ∧ Below w.heap.size w w' := by
  have hsum : (l.map (·.size)).sum ≤ 1048576 := by
    have : l = [] := List.eq_nil_of_length_eq_zero (by omega)
    subst this
    exact Nat.zero_le _
  have HST : Hid (Strs w (some x) n l) := ⟨hl, .inl hn⟩
  have e0 : Hid (n = 0) := hn
  have hpn : (⟨#[]⟩ : ByteArray) = Pn l n := by subst hn; rfl
  have hwn : (0 : Int) = (wh l a n : Nat) := by subst hn; rw [wh_zero]; rfl
  have HPN := Lib.hid hpn
  have HWN := Lib.hid hwn
  clear hpn hwn
  subst hn
  go_enter Try.func6, Try.ntmps6
  go_wp2_with (go_at_call 8; refine (awake_any2 _).mono ?_; rintro e w0 ⟨rfl, hb0⟩)
  go_loopw [5, 6, 7] (fun x g i wr => i = .int .i64 0 ∧ x = .string (Pn l 0) ∧ g = .int .i64 (wh l a 0 : Nat) ∧ Below w.heap.size w wr) (fun _ _ _ _ => 0)
  case atStart => exact ⟨rfl, by rw [← HPN.out], by rw [← HWN.out], hb0⟩
  case round =>
    obtain ⟨rfl, rfl, rfl, hB⟩ := hrel
    clear hb0 HPN HWN
    · have hn : (0 : Nat) ≤ 1048576 := by omega
      have hst : Strs w (some x) 0 l := HST.out
      have hall := scan_all l (fun t ht => by have := one_le_sum l ht; omega)
      have hbd := Pn_bound l l.length hsum (by omega)
      have hps : (Pn l l.length).size = (PKl l).length := by rw [Pn_size, List.take_length]
      have cs := fun W => scan_is hall W (by omega)
      rw [hl] at cs
      have HP := Lib.hid (part_is l)
      have HS := Lib.hid (scan_part l)
      rw [hl] at hall hbd hps HP
      obtain ⟨T, hT⟩ : ∃ T, T = (PKl l).length := ⟨_, rfl⟩
      rw [← hT] at cs hps HP HS
      obtain ⟨S, hS⟩ : ∃ S, S = Pn l 0 := ⟨_, rfl⟩
      rw [← hS] at cs hps hbd HP ⊢
      have hps' : (S.size : Int) = (T : Int) := by omega
      have hTl : T ≤ 15728640 := by omega
      clear hall hS hps
      go_wp2_with fail
      go_at_call 17
      refine (cs _).mono ?_
      rintro e w1 ⟨av, cv, rfl, hs1, hb1⟩
      rw [hl] at hs1 ⊢
      have hB1 := below_call hB hb1
      have cm := same_true av (some x) 0 cv cap l w1 (by omega) hs1 (hst.below hB1)
      clear cs hs1 hb1 hB
      go_wp2_with fail
      go_at_call 19
      refine cm.mono ?_
      rintro e w2 ⟨rfl, hb2⟩
      have hB2 := below_call hB1 hb2
      clear cm hb2 hB1
      by_cases hcut : a < 0 ∨ (T : Int) < a
      · rcases hcut with hcut | hcut
        · go_wp2_with fail
          go_ret
          exact ⟨rfl, hB2⟩
        · go_wp2_with fail
          go_ret
          exact ⟨rfl, hB2⟩
      · obtain ⟨b, rfl⟩ : ∃ b : Nat, a = (b : Int) := ⟨a.toNat, by omega⟩
        have hbT : b ≤ T := by omega
        have hbT' : (b : Int) ≤ (T : Int) := by omega
        have hpart := HP.out b hbT
        have hscan := HS.out b (fun t ht => by have := one_le_sum l ht; omega) hbT
        have hwh : wh l (b : Int) 0 = cnt l b := by
          rw [wh, if_neg (by omega), Int.toNat_natCast, ← hl, List.take_length]
        have hfit := cnt_fits l b
        have hcl := cnt_le l b
        rw [hwh]
        obtain ⟨W, hW⟩ : ∃ W, W = cnt l b := ⟨_, rfl⟩
        rw [← hW] at hscan hfit hcl ⊢
        obtain ⟨S2, hS2⟩ : ∃ S2 : ByteArray, S2 = ⟨((PKl l).take b).toArray⟩ := ⟨_, rfl⟩
        rw [← hS2] at hscan hpart
        have hS2l : S2.size ≤ 15728640 := by rw [hS2, mk_len, List.length_take]; omega
        obtain ⟨m, hm⟩ : ∃ m, m = (PKl (l.take W)).length := ⟨_, rfl⟩
        rw [← hm] at hscan hfit
        have hWl : (l.take W).length = W := by rw [List.length_take]; omega
        have hst2 : Strs w (some x) W (l.take W) := hst.take (by omega)
        have hWn : (W : Int) ≤ (0 : Nat) := by omega
        have hWc : (W : Int) ≤ (cap : Nat) := by omega
        have hmb : (m : Int) ≤ (b : Int) := by omega
        have hmT : m ≤ T := by omega
        have HC := Lib.hid hcut
        clear hwh hW hS2 hm hT hcut HP HS
        by_cases hmb2 : m = b
        · rw [if_pos hmb2] at hscan
          subst hmb2
          have cs2 := fun W' => scan_is hscan W' (by omega)
          clear hscan
          go_wp2_with fail
          go_at_call 17
          refine (cs2 _).mono ?_
          rintro e w3 ⟨bv', cv', rfl, hs3, hb3⟩
          rw [hWl] at hs3 ⊢
          have hB3 := below_call hB2 hb3
          have cm2 := same_true bv' (some x) W cv' cap (l.take W) w3 (by omega) hs3 (hst2.below hB3)
          clear cs2 hs3 hb3 hB2
          go_wp2_with fail
          go_at_call 19
          refine cm2.mono ?_
          rintro e w4 ⟨rfl, hb4⟩
          go_wp2_with fail
          go_ret
          exact ⟨rfl, below_call hB3 hb4⟩
        · rw [if_neg hmb2] at hscan
          have hlt3 : (m : Int) < (b : Int) := by omega
          have hne3 : ((m : Int) == (b : Int)) = false := beq_eq_false_iff_ne.2 (by omega)
          have cs2 := fun W' => scan_is hscan W' (by omega)
          clear hscan hmb2
          go_wp2_with fail
          go_at_call 17
          refine (cs2 _).mono ?_
          rintro e w3 ⟨bv', cv', rfl, hs3, hb3⟩
          rw [hWl] at hs3 ⊢
          have hB3 := below_call hB2 hb3
          have cm2 := same_true bv' (some x) W cv' cap (l.take W) w3 (by omega) hs3 (hst2.below hB3)
          clear cs2 hs3 hb3 hB2
          go_wp2_with fail
          go_at_call 19
          refine cm2.mono ?_
          rintro e w4 ⟨rfl, hb4⟩
          go_wp2_with fail
          go_ret
          exact ⟨rfl, below_call hB3 hb4⟩

end Go.Proofs.Ytihbibhmkpefgaa.frameBack
