/- What the document's own Parent, Base, Join, Under, Deep, Check answer: contracts. -/
import Derived.Test.YthokkobmlhbfgaaPRef2
namespace Go.Proofs.Ythokkobmlhbfgaa.Pr
open Go.RowKit Pm Tx
set_option linter.unusedVariables false

theorem par_ext (s : ByteArray) : s.extract 0 (lastN s.data.toList - 1) = tb (par s.data.toList) := by
  apply ByteArray.ext
  apply Array.toList_inj.1
  rw [ByteArray.data_extract, Array.toList_extract, List.extract_eq_take_drop]
  simp [tb, par]
theorem bas_ext (s : ByteArray) : s.extract (lastN s.data.toList) s.size = tb (bas s.data.toList) := by
  apply ByteArray.ext
  apply Array.toList_inj.1
  rw [ByteArray.data_extract, Array.toList_extract, List.extract_eq_take_drop]
  simp [tb, bas]
  rw [List.take_of_length_le (by rw [List.length_drop, len_l]; omega)]

set_option maxRecDepth 100000 in
set_option maxHeartbeats 1000000 in
theorem refParent_any (s : ByteArray) (w : World) (hs : s.size ≤ 9223372036854775807) :
    Calls Try.prog 33 #[.string s] w fun e w' => e = .returned (.string (tb (par s.data.toList))) ∧ w = w' := by
  have cl := fun W => reflast_any s W hs
  have hL := lastN_le s.data.toList
  rw [len_l] at hL
  rw [← par_ext]
  obtain ⟨L, hLe⟩ : ∃ L, L = lastN s.data.toList := ⟨_, rfl⟩
  rw [← hLe] at cl hL ⊢
  clear hLe
  by_cases h0 : L = 0
  · subst h0
    go_enter Try.func33, Try.ntmps33
    go_wp2_with (go_at_call 54; refine (cl _).mono ?_; rintro e w1 ⟨rfl, rfl⟩)
    go_ret
    exact ⟨by simp; rfl, rfl⟩
  · obtain ⟨K, rfl⟩ : ∃ K, L = K + 1 := ⟨L - 1, by omega⟩
    have e1 : ((K + 1 : Nat) : Int) - 1 = K := by omega
    rw [e1] at cl
    rw [Nat.add_sub_cancel]
    clear h0
    go_enter Try.func33, Try.ntmps33
    go_wp2_with (go_at_call 54; refine (cl _).mono ?_; rintro e w1 ⟨rfl, rfl⟩)
    go_ret
    exact ⟨rfl, rfl⟩

theorem size_zero {s : ByteArray} : s.size = 0 ↔ s = ⟨#[]⟩ := by
  refine ⟨fun h => ?_, fun h => by rw [h]; rfl⟩
  apply ByteArray.ext
  exact Array.eq_empty_of_size_eq_zero h
theorem list_nil {s : ByteArray} (h : s = ⟨#[]⟩) : s.data.toList = [] := by rw [h]
theorem list_ne {s : ByteArray} (h : s ≠ ⟨#[]⟩) : s.data.toList ≠ [] := fun e => h (ByteArray.ext (Array.toList_inj.1 e))
theorem is_empty {s : ByteArray} (h : s = ⟨#[]⟩) : s.toList.isEmpty = true := by rw [h, ByteArray.toList_eq]; rfl
theorem not_empty {s : ByteArray} (h : s ≠ ⟨#[]⟩) : s.toList.isEmpty = false := by
  rw [ByteArray.toList_eq]
  cases e : s.data.toList with
  | nil => exact absurd e (list_ne h)
  | cons c r => rfl

theorem extract_eq {p t : ByteArray} : p.extract 0 t.size = t ↔ t.data.toList <+: p.data.toList := by
  have e : (p.extract 0 t.size).data.toList = p.data.toList.take t.data.toList.length := by
    rw [ByteArray.data_extract, Array.toList_extract, List.extract_eq_take_drop, len_l]
    simp
  rw [List.prefix_iff_eq_take, ← e]
  exact ⟨fun h => by rw [h], fun h => ByteArray.ext (Array.toList_inj.1 h.symm)⟩
theorem und_top {p top : ByteArray} (h : top = ⟨#[]⟩) : und p.data.toList top.data.toList = true := by
  rw [und, list_nil h]; simp
theorem und_same {p top : ByteArray} (h : p = top) : und p.data.toList top.data.toList = true := by
  rw [und, h]; simp
theorem und_eq {p top : ByteArray} (h1 : top ≠ ⟨#[]⟩) (h2 : p ≠ top) : und p.data.toList top.data.toList = (top.data.toList ++ [47]).isPrefixOf p.data.toList := by
  have e1 := list_ne h1
  have e2 : p.data.toList ≠ top.data.toList := fun e => h2 (ByteArray.ext (Array.toList_inj.1 e))
  rw [und, decide_eq_false e1, decide_eq_false e2, Bool.false_or, Bool.false_or]
theorem pre_cons {p t : ByteArray} (h : t.size < p.size) : t.data.toList ++ [47] <+: p.data.toList ↔ (t.data.toList <+: p.data.toList ∧ p[t.size] = 47) := by
  have h' : t.data.toList.length < p.data.toList.length := by rw [len_l, len_l]; exact h
  have e : p.data.toList[t.data.toList.length] = p[t.size] := by
    have e3 : ∀ (k : Nat) (hk : k < p.data.toList.length) (hk2 : k < p.size), p.data.toList[k] = p[k] := fun _ _ _ => rfl
    have e4 : ∀ (k n : Nat) (hk : k < p.size) (hn : n < p.size), k = n → p[k] = p[n] := by
      intro k n hk hn hh
      subst hh
      rfl
    rw [e3 _ h' (by rw [len_l]; exact h)]
    exact e4 _ _ _ _ (len_l t)
  rw [List.prefix_iff_eq_take, List.prefix_iff_eq_take, List.length_append, List.length_singleton, List.take_succ_eq_append_getElem h', e]
  constructor
  · intro hh
    have := List.append_inj hh (by rw [List.length_take]; omega)
    refine ⟨this.1, ?_⟩
    have h3 := this.2
    injection h3 with h3 _
    exact h3.symm
  · rintro ⟨h1, h2⟩
    rw [← h1, h2]
theorem pre_short {p t : ByteArray} (h : p.size ≤ t.size) : (t.data.toList ++ [47]).isPrefixOf p.data.toList = false := by
  apply Bool.eq_false_iff.2
  intro hh
  have := (List.isPrefixOf_iff_prefix.1 hh).length_le
  rw [List.length_append, len_l, len_l] at this
  simp at this
  omega

set_option maxRecDepth 100000 in
set_option maxHeartbeats 1000000 in
theorem refUnder_any (p t : ByteArray) (w : World) (hp : p.size ≤ 9223372036854775807) (ht : t.size ≤ 9223372036854775807) :
    Calls Try.prog 39 #[.string p, .string t] w fun e w' => e = .returned (.bool (und p.data.toList t.data.toList)) ∧ w = w' := by
  by_cases h1 : t = ⟨#[]⟩
  · have e1 := is_empty h1
    rw [und_top h1]
    clear h1
    go_enter Try.func39, Try.ntmps39
    go_wp2
    go_ret
    exact ⟨rfl, rfl⟩
  have e1 := not_empty h1
  by_cases h2 : p = t
  · rw [und_same h2]
    subst h2
    have e2 : (p.toList == p.toList) = true := beq_self_eq_true _
    clear h1
    go_enter Try.func39, Try.ntmps39
    go_wp2
    go_ret
    exact ⟨rfl, rfl⟩
  have e2 := bytes_ne h2
  rw [und_eq h1 h2]
  by_cases h3 : t.size < p.size
  · have hpc := pre_cons h3
    by_cases h4 : p.extract 0 t.size = t
    · have e4 : ((p.extract 0 t.size).toList == t.toList) = true := by rw [h4]; exact beq_self_eq_true _
      by_cases h5 : p[t.size] = 47
      · have HR := Lib.hid (List.isPrefixOf_iff_prefix.2 (hpc.2 ⟨extract_eq.1 h4, h5⟩))
        have e5 : ((p[t.size].toNat : Int) == 47) = true := by rw [h5]; rfl
        clear h1 h2 h4 h5 hpc
        go_enter Try.func39, Try.ntmps39
        go_wp2
        go_ret
        exact ⟨by rw [HR.out]; rfl, rfl⟩
      · have HR := Lib.hid (Bool.eq_false_iff.2 (fun hh => h5 (hpc.1 (List.isPrefixOf_iff_prefix.1 hh)).2))
        have e5 : ((p[t.size].toNat : Int) == 47) = false := by
          apply Bool.eq_false_iff.2
          intro hh
          have hh : (p[t.size].toNat : Int) = 47 := eq_of_beq hh
          exact h5 (UInt8.toNat_inj.1 (by rw [show (47 : UInt8).toNat = 47 from rfl]; omega))
        clear h1 h2 h4 h5 hpc
        go_enter Try.func39, Try.ntmps39
        go_wp2
        go_ret
        exact ⟨by rw [HR.out]; rfl, rfl⟩
    · have e4 := bytes_ne h4
      have HR := Lib.hid (Bool.eq_false_iff.2 (fun hh => h4 (extract_eq.2 (hpc.1 (List.isPrefixOf_iff_prefix.1 hh)).1)))
      clear h1 h2 h4 hpc
      go_enter Try.func39, Try.ntmps39
      go_wp2
      go_ret
      exact ⟨by rw [HR.out]; rfl, rfl⟩
  · have HR := Lib.hid (pre_short (p := p) (t := t) (by omega))
    clear h1 h2
    go_enter Try.func39, Try.ntmps39
    go_wp2
    go_ret
    exact ⟨by rw [HR.out]; rfl, rfl⟩

theorem all_step (l : List (List UInt8)) (k : Nat) (x : List UInt8) (h : l[k]? = some x) (ha : (l.take k).all isName = true) (hb : isName x = true) : (l.take (k + 1)).all isName = true := by
  obtain ⟨hk, he⟩ := List.getElem?_eq_some_iff.1 h
  rw [List.take_succ_eq_append_getElem hk, List.all_append, ha, he]
  simp [hb]
theorem all_fail (l : List (List UInt8)) (k : Nat) (x : List UInt8) (h : l[k]? = some x) (hb : isName x = false) : l.all isName = false := by
  obtain ⟨hk, he⟩ := List.getElem?_eq_some_iff.1 h
  rw [← Bool.not_eq_true, List.all_eq_true]
  intro hall
  have := hall _ (List.getElem_mem hk)
  rw [he, hb] at this
  cases this
theorem chk_far {l : List UInt8} {d : Int} (h : d < (spl l).length) : chk l d = 10 := by
  rw [chk, isPath, decide_eq_false (by omega), Bool.false_and, if_neg (by simp)]
theorem chk_bad {l : List UInt8} {d : Int} (h : (spl l).all isName = false) : chk l d = 10 := by
  rw [chk, isPath, h, Bool.and_false, if_neg (by simp)]
theorem chk_good {l : List UInt8} {d : Int} (hd : ((spl l).length : Int) ≤ d) (h : (spl l).all isName = true) : chk l d = 0 := by
  rw [chk, isPath, h, decide_eq_true hd, Bool.and_true, if_pos rfl]
theorem spl_sizes (l : List UInt8) : ∀ x ∈ spl l, x.length ≤ l.length := by
  induction l with
  | nil => simp [spl]
  | cons c r ih =>
    rw [spl]
    split
    · intro x hx
      rcases List.mem_cons.1 hx with rfl | hx
      · simp
      · have := ih x hx; simp; omega
    · cases hs : spl r with
      | nil => exact absurd hs (spl_ne r)
      | cons y ys =>
        rw [hs] at ih
        intro x hx
        rcases List.mem_cons.1 hx with rfl | hx
        · have := ih y (List.mem_cons_self ..); simp; omega
        · have := ih x (List.mem_cons_of_mem _ hx); simp; omega

set_option maxRecDepth 100000 in
set_option maxHeartbeats 1000000 in
theorem refCheck_any (p : ByteArray) (d : Int) (w : World) (hs : p.size ≤ 8796093022207) (h1 : -9223372036854775808 ≤ d) (h2 : d ≤ 9223372036854775807) :
    Calls Try.prog 31 #[.string p, .int .i64 d] w fun e w' => e = .returned (.int .i64 (chk p.data.toList d : Nat)) ∧ Below w.heap.size w w' := by
  have hl := spl_len p.data.toList
  rw [len_l] at hl
  have hsz := spl_sizes p.data.toList
  rw [len_l] at hsz
  have hfar := @chk_far p.data.toList d
  have hbad := @chk_bad p.data.toList d
  have hgood := @chk_good p.data.toList d
  have cs := fun W => refSplit_any p W hs
  unfold SplitTo at cs
  obtain ⟨S, hS⟩ : ∃ S, S = spl p.data.toList := ⟨_, rfl⟩
  obtain ⟨R, hR⟩ : ∃ R, R = chk p.data.toList d := ⟨_, rfl⟩
  rw [← hS] at hl hsz hfar hbad hgood cs
  rw [← hR] at hfar hbad hgood
  rw [← hR]
  have hne : S ≠ [] := by rw [hS]; exact spl_ne _
  have hpos : 0 < S.length := List.length_pos_iff.2 hne
  clear hS hR hne
  by_cases hd : d < (S.length : Int)
  · have e := hfar hd
    subst e
    clear hfar hbad hgood
    go_enter Try.func31, Try.ntmps31
    go_wp2_with (go_at_call 51; refine (cs _).mono ?_; rintro e w1 ⟨v, rfl, ht, hb⟩; obtain ⟨a, c, rfl, hst, _, _⟩ := ht.form)
    go_ret
    exact ⟨rfl, hb⟩
  · have HB := Lib.hid hbad
    have HG := Lib.hid (hgood (by omega))
    have HZ := Lib.hid hsz
    have hd' : (S.length : Int) ≤ d := by omega
    clear hfar hbad hgood hsz
    go_enter Try.func31, Try.ntmps31
    go_wp2_with (go_at_call 51; refine (cs _).mono ?_; rintro e w1 ⟨v, rfl, ht, hb⟩; obtain ⟨a, c, rfl, hst, _, _⟩ := ht.form)
    obtain ⟨hln, hst⟩ := hst
    obtain ⟨b, off, rfl, hlt, hc⟩ := hst.resolve_left (by rw [List.length_map]; omega)
    have hsz1 := hb.size
    have HC : Hid (∀ k x, S[k]? = some x → w1.cell? ⟨b, off + k, none⟩ = some (.string (tb x))) := fun k x hx => hc k (tb x) (by rw [List.getElem?_map, hx]; rfl)
    clear hst hln hc ht
    go_loop [6] (fun i => ∃ k : Nat, k ≤ S.length ∧ i = .int .i64 k ∧ Hid ((S.take k).all isName = true)) (fun i => S.length - (intOf i).toNat)
    case atStart => exact ⟨0, Nat.zero_le _, rfl, rfl⟩
    case round =>
      obtain ⟨k, hk, rfl, hall⟩ := hrel
      by_cases hlk : k < S.length
      · obtain ⟨x, hx⟩ : ∃ x, S[k]? = some x := ⟨_, List.getElem?_eq_getElem hlk⟩
        have hcell := HC.out k x hx
        have hxl := HZ.out x (List.mem_of_getElem? hx)
        have cn := fun W => refName_any (tb x) W (by rw [tb_size]; omega)
        rw [tb_list] at cn
        have hnext := fun h => Lib.hid (all_step S k x hx hall.out h)
        have hfail := fun h => HB.out (all_fail S k x hx h)
        obtain ⟨T, hT⟩ : ∃ T, T = tb x := ⟨_, rfl⟩
        rw [← hT] at hcell cn
        clear hx hxl hT hall
        by_cases hn : isName x = true
        · have HN := hnext hn
          rw [hn] at cn
          clear hnext hfail hn
          go_wp2_with (go_at_call 52; refine (cn _).mono ?_; rintro e w2 ⟨rfl, rfl⟩)
          go_round
          case rel => exact ⟨k + 1, by omega, by go_num, HN⟩
          case measure => simp [intOf]; omega
        · rw [Bool.eq_false_iff.2 hn] at cn
          have HF := hfail (Bool.eq_false_iff.2 hn)
          subst HF
          clear hnext hfail hn
          go_wp2_with (go_at_call 52; refine (cn _).mono ?_; rintro e w2 ⟨rfl, rfl⟩)
          go_ret
          exact ⟨rfl, hb⟩
      · obtain rfl : k = S.length := by omega
        have h := hall.out
        rw [List.take_of_length_le (Nat.le_refl _)] at h
        have HF := HG.out h
        subst HF
        clear hall h
        go_wp2
        go_ret
        exact ⟨rfl, hb⟩

end Go.Proofs.Ythokkobmlhbfgaa.Pr
