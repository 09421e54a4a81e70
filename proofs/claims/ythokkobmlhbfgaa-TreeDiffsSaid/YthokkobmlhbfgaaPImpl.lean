/- What package path answers: contracts. -/
import Derived.Test.YthokkobmlhbfgaaPLib
namespace Go.Proofs.Ythokkobmlhbfgaa.Pr
open Go.RowKit Pm Tx Pl
set_option linter.unusedVariables false

theorem count_spl (l : List UInt8) : l.count 47 + 1 = (spl l).length := by
  induction l with
  | nil => rfl
  | cons c r ih =>
    rw [spl]
    by_cases hc : c = 47
    · rw [if_pos hc, List.length_cons, ← ih, hc, List.count_cons_self]
    · rw [if_neg hc, List.count_cons_of_ne hc]
      cases hs : spl r with
      | nil => exact absurd hs (spl_ne r)
      | cons x xs => rw [ih, hs]; rfl
theorem spl_cut (l : List UInt8) : spl l = cutA l :: (if hasSt l then spl (cutB l) else []) := by
  induction l with
  | nil => rfl
  | cons c r ih =>
    rw [spl]
    by_cases hc : c = 47
    · simp [hc, cutA, cutB, hasSt]
    · have e : hasSt (c :: r) = hasSt r := by simp [hasSt, Ne.symm hc]
      rw [if_neg hc, ih, cutA, if_neg hc, cutB, if_neg hc, e]
theorem cutB_le (l : List UInt8) : (cutB l).length ≤ l.length := by
  induction l with
  | nil => exact Nat.le_refl _
  | cons c r ih =>
    rw [cutB]
    split
    · simp
    · simp; omega
theorem cutB_lt (l : List UInt8) (h : hasSt l = true) : (cutB l).length < l.length := by
  induction l with
  | nil => simp [hasSt] at h
  | cons c r ih =>
    rw [cutB]
    by_cases hc : c = 47
    · rw [if_pos hc]; simp
    · rw [if_neg hc]
      have := ih (by simpa [hasSt, Ne.symm hc] using h)
      simp; omega
theorem cutA_le (l : List UInt8) : (cutA l).length ≤ l.length := by
  induction l with
  | nil => exact Nat.le_refl _
  | cons c r ih =>
    rw [cutA]
    split
    · simp
    · simp; omega

/-- Whether a letter may stand in a name. -/
def okR (c : Nat) : Bool := (97 ≤ c && c ≤ 122) || (48 ≤ c && c ≤ 57) || c == 95

set_option maxRecDepth 100000 in
set_option maxHeartbeats 1000000 in
theorem inName_any (X : Nat) (w : World) (hX : X ≤ 2147483647) :
    Calls Try.prog 86 #[.int .i32 X] w fun e w' => e = .returned (.bool (okR X)) ∧ w = w' := by
  rcases show (X < 48) ∨ (57 < X ∧ X < 95) ∨ X = 96 ∨ 122 < X ∨ (48 ≤ X ∧ X ≤ 57) ∨ X = 95 ∨ (97 ≤ X ∧ X ≤ 122) by omega with h | h | h | h | h | h | h
  · have hb : okR X = false := by simp [okR]; omega
    have e : ((X : Int) == 95) = false := beq_eq_false_iff_ne.2 (by omega)
    rw [hb]
    go_enter Try.func86, Try.ntmps86
    go_wp2
    go_ret
    exact ⟨rfl, rfl⟩
  · have hb : okR X = false := by simp [okR]; omega
    have e : ((X : Int) == 95) = false := beq_eq_false_iff_ne.2 (by omega)
    have d57 : decide ((X : Int) ≤ 57) = false := decide_eq_false (by omega)
    rw [hb]
    go_enter Try.func86, Try.ntmps86
    go_wp2
    go_ret
    exact ⟨rfl, rfl⟩
  · have hb : okR X = false := by simp [okR]; omega
    have e : ((X : Int) == 95) = false := beq_eq_false_iff_ne.2 (by omega)
    have d57 : decide ((X : Int) ≤ 57) = false := decide_eq_false (by omega)
    rw [hb]
    go_enter Try.func86, Try.ntmps86
    go_wp2
    go_ret
    exact ⟨rfl, rfl⟩
  · have hb : okR X = false := by simp [okR]; omega
    have e : ((X : Int) == 95) = false := beq_eq_false_iff_ne.2 (by omega)
    have d57 : decide ((X : Int) ≤ 57) = false := decide_eq_false (by omega)
    have d122 : decide ((X : Int) ≤ 122) = false := decide_eq_false (by omega)
    rw [hb]
    go_enter Try.func86, Try.ntmps86
    go_wp2
    go_ret
    exact ⟨rfl, rfl⟩
  · have hb : okR X = true := by simp [okR]; omega
    have e : ((X : Int) == 95) = false := beq_eq_false_iff_ne.2 (by omega)
    rw [hb]
    go_enter Try.func86, Try.ntmps86
    go_wp2
    go_ret
    exact ⟨rfl, rfl⟩
  · have hb : okR X = true := by simp [okR]; omega
    have e : ((X : Int) == 95) = true := by simp [h]
    rw [hb]
    go_enter Try.func86, Try.ntmps86
    go_wp2
    go_ret
    exact ⟨rfl, rfl⟩
  · have hb : okR X = true := by simp [okR]; omega
    have e : ((X : Int) == 95) = false := beq_eq_false_iff_ne.2 (by omega)
    rw [hb]
    go_enter Try.func86, Try.ntmps86
    go_wp2
    go_ret
    exact ⟨rfl, rfl⟩

theorem below_iter (w : World) (s : ByteArray) (pos : Nat) : Below w.heap.size w (w.iter s pos) := by
  have := (Below.refl w.heap.size w).alloc (Nat.le_refl _) (.stringIter s pos)
  exact this

set_option maxRecDepth 100000 in
set_option maxHeartbeats 1000000 in
theorem pName_any (s : ByteArray) (w : World) (hs : s.size ≤ 562949953421312) :
    Calls Try.prog 65 #[.string s] w fun e w' => e = .returned (.bool (isName s.data.toList)) ∧ Below w.heap.size w w' := by
  by_cases h0 : s = ⟨#[]⟩
  · have hn : isName s.data.toList = false := by rw [list_nil h0]; rfl
    have e1 := is_empty h0
    rw [hn]
    clear hn h0
    go_enter Try.func65, Try.ntmps65
    go_wp2
    go_ret
    exact ⟨rfl, Below.refl _ _⟩
  have hpos : 1 ≤ s.size := by
    rcases Nat.eq_zero_or_pos s.size with h | h
    · exact absurd (size_zero.1 h) h0
    · exact h
  have e1 := not_empty h0
  clear h0
  by_cases h12 : s.size ≤ 12
  · go_enter Try.func65, Try.ntmps65
    go_wp2
    go_loopw [] (fun wr => ∃ k : Nat, k ≤ s.size ∧ wr = w.iter s k ∧ Hid ((s.data.toList.take k).all okC = true)) (fun wr => s.size - wr.iterPos w.heap.size)
    case atStart => exact ⟨0, Nat.zero_le _, rfl, rfl⟩
    case round =>
      obtain ⟨k, hk, rfl, hall⟩ := hrel
      by_cases hlt : k < s.size
      · have hnx : ∀ ty, (Instr.next (.pointer (some ⟨w.heap.size, 0, none⟩)) true ty).run Try.prog (w.iter s k) = _ := fun ty => run_next_any w s k ty hlt
        have hd1 := decode_le s k
        by_cases ha : s[k].toNat < 128
        · rw [decode_ascii s k hlt ha] at hnx
          have hgood := fun h => Lib.hid (all_at s k hlt hall.out h)
          have hbad := fun h => Lib.hid (all_not s k hlt h)
          obtain ⟨X, hXe⟩ : ∃ X, X = s[k].toNat := ⟨_, rfl⟩
          have hok : okC s[k] = okR X := by rw [hXe]; rfl
          rw [hok] at hgood hbad
          rw [← hXe] at hnx ha
          clear hok hXe hall hd1
          cases hx : okR X with
          | true =>
            have hb := hgood hx
            clear hgood hbad
            go_wp2_with (go_at_call 86; refine (inName_any X _ (by omega)).mono ?_; rintro e w' ⟨rfl, rfl⟩; rw [hx])
            go_roundw
            case rel => exact ⟨k + 1, by omega, rfl, hb.out⟩
            case measure => simp; omega
          | false =>
            have hb := hbad hx
            clear hgood hbad
            go_wp2_with (go_at_call 86; refine (inName_any X _ (by omega)).mono ?_; rintro e w' ⟨rfl, rfl⟩; rw [hx])
            go_ret
            exact ⟨by rw [hb.out]; rfl, below_iter _ _ _⟩
        · have hdh := (decode_high s k hlt (by omega)).1
          have hb := Lib.hid (all_not s k hlt (by simp [okC]; omega))
          obtain ⟨X, hXe⟩ : ∃ X, X = (Utf8.decode s k).1 := ⟨_, rfl⟩
          rw [← hXe] at hnx hdh hd1
          have hx : okR X = false := by simp [okR]; omega
          clear hXe hall
          go_wp2_with (go_at_call 86; refine (inName_any X _ (by omega)).mono ?_; rintro e w' ⟨rfl, rfl⟩; rw [hx])
          go_ret
          exact ⟨by rw [hb.out]; rfl, below_iter _ _ _⟩
      · have hnx : ∀ ty, (Instr.next (.pointer (some ⟨w.heap.size, 0, none⟩)) true ty).run Try.prog (w.iter s k) = _ := fun ty => run_next_end w s k ty hlt
        obtain rfl : k = s.size := by omega
        have hn : isName s.data.toList = true := by
          have h := hall.out
          rw [take_all] at h
          rw [isName, h, len_l]
          simp [hpos, h12]
        have HN := Lib.hid hn
        clear hn hall
        go_wp2
        go_ret
        exact ⟨by rw [HN.out]; rfl, below_iter _ _ _⟩
  · have hn : isName s.data.toList = false := by
      rw [isName, len_l]
      simp [h12]
    rw [hn]
    go_enter Try.func65, Try.ntmps65
    go_wp2
    go_ret
    exact ⟨rfl, Below.refl _ _⟩

set_option maxRecDepth 100000 in
set_option maxHeartbeats 1000000 in
theorem lastStroke_any (s : ByteArray) (w : World) (hs : s.size ≤ 562949953421312) :
    Calls Try.prog 96 #[.string s] w fun e w' => e = .returned (.int .i64 ((lastN s.data.toList : Nat) - 1)) ∧ w = w' := by
  go_enter Try.func96, Try.ntmps96
  go_wp2_with (go_at_call 111; refine (last_any _ _ hs).mono ?_; rintro e w' ⟨rfl, rfl⟩)
  go_ret
  exact ⟨rfl, rfl⟩

set_option maxRecDepth 100000 in
set_option maxHeartbeats 1000000 in
theorem pParent_any (s : ByteArray) (w : World) (hs : s.size ≤ 562949953421312) :
    Calls Try.prog 68 #[.string s] w fun e w' => e = .returned (.string (tb (par s.data.toList))) ∧ Below w.heap.size w w' := by
  have cl := fun W => lastStroke_any s W hs
  have hL := lastN_le s.data.toList
  rw [len_l] at hL
  rw [← par_ext]
  obtain ⟨L, hLe⟩ : ∃ L, L = lastN s.data.toList := ⟨_, rfl⟩
  rw [← hLe] at cl hL ⊢
  clear hLe
  by_cases h0 : L = 0
  · subst h0
    go_enter Try.func68, Try.ntmps68
    go_wp2_with (go_at_call 96; refine (cl _).mono ?_; rintro e w1 ⟨rfl, rfl⟩)
    go_ret
    exact ⟨by simp, Below.refl _ _⟩
  · obtain ⟨K, rfl⟩ : ∃ K, L = K + 1 := ⟨L - 1, by omega⟩
    have e1 : ((K + 1 : Nat) : Int) - 1 = K := by omega
    rw [e1] at cl
    rw [Nat.add_sub_cancel]
    clear h0
    go_enter Try.func68, Try.ntmps68
    go_wp2_with (go_at_call 96; refine (cl _).mono ?_; rintro e w1 ⟨rfl, rfl⟩)
    go_ret
    exact ⟨rfl, Below.refl _ _⟩

set_option maxRecDepth 100000 in
set_option maxHeartbeats 1000000 in
theorem pDeep_any (p : ByteArray) (w : World) (hs : p.size ≤ 562949953421312) :
    Calls Try.prog 63 #[.string p] w fun e w' => e = .returned (.int .i64 (dep p.data.toList : Nat)) ∧ Below w.heap.size w w' := by
  by_cases h1 : p = ⟨#[]⟩
  · have e1 := is_empty h1
    have e2 : dep p.data.toList = 0 := by rw [dep, if_pos (list_nil h1)]
    rw [e2]
    clear h1 e2
    go_enter Try.func63, Try.ntmps63
    go_wp2
    go_ret
    exact ⟨rfl, Below.refl _ _⟩
  · have e1 := not_empty h1
    have e2 : dep p.data.toList = p.data.toList.count 47 + 1 := by rw [dep, if_neg (list_ne h1), count_spl]
    rw [e2]
    have cs := fun W => count_any p W
    have hc : p.data.toList.count 47 ≤ p.size := by rw [← len_l]; exact List.count_le_length
    obtain ⟨C, hC⟩ : ∃ C, C = p.data.toList.count 47 := ⟨_, rfl⟩
    rw [← hC] at cs hc ⊢
    clear h1 e2 hC
    go_enter Try.func63, Try.ntmps63
    go_wp2_with (go_at_call 84; refine (cs _).mono ?_; rintro e w1 ⟨rfl, rfl⟩)
    go_ret
    exact ⟨by first | rfl | go_num, Below.refl _ _⟩

theorem und_nil {p t : List UInt8} (h : t = []) : und p t = true := by simp [und, h]
theorem und_not {p t : List UInt8} (h1 : t ≠ []) (h : Lib.hasPrefix p t = false) : und p t = false := by
  have h2 : p ≠ t := by
    rintro rfl
    have : Lib.hasPrefix p p = true := by simp [Lib.hasPrefix]
    rw [this] at h
    cases h
  have h3 : (t ++ [47]).isPrefixOf p = false := by
    rw [← Bool.not_eq_true, List.isPrefixOf_iff_prefix]
    intro h3
    have : Lib.hasPrefix p t = true := List.isPrefixOf_iff_prefix.2 ((List.prefix_append t [47]).trans h3)
    rw [this] at h
    cases h
  rw [und, h3]
  simp [h1, h2]
theorem und_hit {p t : List UInt8} (h1 : t ≠ []) (h : Lib.hasPrefix p t = true) : und p t = (decide (trimP p t = []) || Lib.hasPrefix (trimP p t) [47]) := by
  obtain ⟨r, rfl⟩ := List.isPrefixOf_iff_prefix.1 h
  rw [trimP, if_pos h, List.drop_left, und]
  have e : (t ++ [47]).isPrefixOf (t ++ r) = Lib.hasPrefix r [47] := by
    rw [Bool.eq_iff_iff, List.isPrefixOf_iff_prefix, Lib.hasPrefix, List.isPrefixOf_iff_prefix, List.prefix_append_right_inj]
  rw [e]
  simp [h1]

set_option maxRecDepth 100000 in
set_option maxHeartbeats 1000000 in
theorem pUnder_any (p t : ByteArray) (w : World) (hs : p.size ≤ 562949953421312) (ht : t.size ≤ 562949953421312) :
    Calls Try.prog 36 #[.string p, .string t] w fun e w' => e = .returned (.bool (und p.data.toList t.data.toList)) ∧ Below w.heap.size w w' := by
  have cp := fun W => cutPrefix_any p t W hs ht
  have hxs : (tb (trimP p.data.toList t.data.toList)).size ≤ 562949953421312 := by
    rw [tb_size, trimP]
    split
    · rw [List.length_drop, len_l]; omega
    · rw [len_l]; exact hs
  have ch := fun W => hasPrefix_any (tb (trimP p.data.toList t.data.toList)) ⟨#[47]⟩ W hxs (by decide)
  rw [tb_list] at ch
  by_cases h1 : t = ⟨#[]⟩
  · have e1 := is_empty h1
    rw [und_nil (list_nil h1)]
    clear h1
    go_enter Try.func36, Try.ntmps36
    go_wp2_with (go_at_call 55; refine (cp _).mono ?_; rintro e w1 ⟨rfl, rfl⟩)
    go_ret
    exact ⟨rfl, Below.refl _ _⟩
  have e1 := not_empty h1
  have h1' := list_ne h1
  cases hb : Lib.hasPrefix p.data.toList t.data.toList with
  | false =>
    rw [und_not h1' hb]
    rw [hb] at cp
    clear h1 h1'
    go_enter Try.func36, Try.ntmps36
    go_wp2_with (go_at_call 55; refine (cp _).mono ?_; rintro e w1 ⟨rfl, rfl⟩)
    go_ret
    exact ⟨rfl, Below.refl _ _⟩
  | true =>
    rw [und_hit h1' hb]
    rw [hb] at cp
    obtain ⟨r, hr⟩ : ∃ r, r = trimP p.data.toList t.data.toList := ⟨_, rfl⟩
    rw [← hr] at cp ch hxs ⊢
    clear h1 h1' hr hb
    by_cases h2 : r = []
    · have e2 : (tb r).toList.isEmpty = true := is_empty (by rw [h2]; rfl)
      rw [show decide (r = []) = true from decide_eq_true h2, Bool.true_or]
      clear h2
      go_enter Try.func36, Try.ntmps36
      go_wp2_with (go_at_call 55; refine (cp _).mono ?_; rintro e w1 ⟨rfl, rfl⟩)
      go_ret
      exact ⟨rfl, Below.refl _ _⟩
    · have e2 : (tb r).toList.isEmpty = false := not_empty (fun e => h2 (by rw [← tb_list r, e]))
      rw [show decide (r = []) = false from decide_eq_false h2, Bool.false_or]
      change ∀ W, Calls _ _ _ W fun e w' => e = .returned (.bool (Lib.hasPrefix r [47])) ∧ _ at ch
      obtain ⟨B, hB⟩ : ∃ B, B = Lib.hasPrefix r [47] := ⟨_, rfl⟩
      rw [← hB] at ch ⊢
      clear h2 hB
      cases B
      all_goals
        go_enter Try.func36, Try.ntmps36
        go_wp2_with (first | (go_at_call 55; refine (cp _).mono ?_; rintro e w1 ⟨rfl, rfl⟩) | (go_at_call 56; refine (ch _).mono ?_; rintro e w1 ⟨rfl, rfl⟩))
        go_ret
        exact ⟨rfl, Below.refl _ _⟩

theorem names_cut (l : List UInt8) : (spl l).all isName = (isName (cutA l) && (if hasSt l then (spl (cutB l)).all isName else true)) := by
  rw [spl_cut, List.all_cons]
  cases hasSt l <;> rfl
/-- A text's length. -/
def strLen : Value → Nat
  | .string s => s.size
  | _ => 0

set_option maxRecDepth 100000 in
set_option maxHeartbeats 1000000 in
theorem pCheck_any (p : ByteArray) (d : Int) (w : World) (hs : p.size ≤ 562949953421312) (h1 : -9223372036854775808 ≤ d) (h2 : d ≤ 9223372036854775807) :
    Calls Try.prog 46 #[.string p, .int .i64 d] w fun e w' => e = .returned (.int .i64 (chk p.data.toList d : Nat)) ∧ Below w.heap.size w w' := by
  have cd := fun W => pDeep_any p W hs
  by_cases hd : (dep p.data.toList : Int) > d
  · have hr : chk p.data.toList d = 10 := by
      rw [chk, isPath, if_neg]
      intro h
      rw [Bool.and_eq_true] at h
      have := of_decide_eq_true h.1
      rw [dep] at hd
      split at hd
      · rename_i h0
        rw [h0] at h
        have := h.2
        revert this
        decide
      · omega
    rw [hr]
    have hdl : dep p.data.toList ≤ p.size + 1 := by
      have := spl_len p.data.toList
      rw [len_l] at this
      rw [dep]
      split <;> omega
    obtain ⟨D, hD⟩ : ∃ D, D = dep p.data.toList := ⟨_, rfl⟩
    rw [← hD] at cd hd hdl
    clear hr hD
    go_enter Try.func46, Try.ntmps46
    go_wp2_with (go_at_call 63; refine (cd _).mono ?_; rintro e w1 ⟨rfl, hb1⟩)
    go_ret
    exact ⟨rfl, hb1⟩
  · have hr : chk p.data.toList d = if (spl p.data.toList).all isName then 0 else 10 := by
      rw [chk, isPath]
      rw [dep] at hd
      split at hd
      · rename_i h0
        rw [h0]
        have e : (spl []).all isName = false := by decide
        rw [e, Bool.and_false]
      · rw [decide_eq_true (by omega), Bool.true_and]
    have HR := Lib.hid hr
    have hdl : dep p.data.toList ≤ p.size + 1 := by
      have := spl_len p.data.toList
      rw [len_l] at this
      rw [dep]
      split <;> omega
    obtain ⟨D, hD⟩ : ∃ D, D = dep p.data.toList := ⟨_, rfl⟩
    rw [← hD] at cd hd hdl
    clear hr hD
    go_enter Try.func46, Try.ntmps46
    go_wp2_with (go_at_call 63; refine (cd _).mono ?_; rintro e w1 ⟨rfl, hb1⟩)
    go_loopw [0, 5, 6, 7] (fun q a b m wr => ∃ l : List UInt8, q = .string (tb l) ∧ l.length ≤ p.size ∧ Hid ((spl p.data.toList).all isName = (spl l).all isName) ∧ Below w.heap.size w wr) (fun q _ _ _ _ => strLen q)
    case atStart => exact ⟨p.data.toList, by rw [tb_of], by rw [len_l]; exact Nat.le_refl _, rfl, hb1⟩
    case round =>
      obtain ⟨l, rfl, hl, hinv, hb⟩ := hrel
      have cc := fun W => cut_any (tb l) W (by rw [tb_size]; omega)
      have hA := cutA_le l
      have hB := cutB_le l
      have hB2 := cutB_lt l
      have cn := fun W => pName_any (tb (cutA l)) W (by rw [tb_size]; omega)
      rw [tb_list] at cc cn
      have hcut := names_cut l
      cases hn : isName (cutA l) with
      | false =>
        have hno : (spl p.data.toList).all isName = false := by rw [hinv.out, hcut, hn]; rfl
        have hr := Lib.hid (show chk p.data.toList d = 10 by rw [HR.out, hno]; rfl)
        rw [hn] at cn
        clear hinv HR hcut hno hn hB2
        go_wp2_with (first | (go_at_call 64; refine (cc _).mono ?_; rintro e w1 ⟨rfl, n1, rfl⟩) | (go_at_call 65; refine (cn _).mono ?_; rintro e w2 ⟨rfl, hb2⟩))
        go_ret
        exact ⟨by rw [hr.out]; rfl, below_call (below_drewN hb n1) hb2⟩
      | true =>
        rw [hn] at cn
        cases hst : hasSt l with
        | false =>
          have hyes : (spl p.data.toList).all isName = true := by rw [hinv.out, hcut, hn, hst]; rfl
          have hr := Lib.hid (show chk p.data.toList d = 0 by rw [HR.out, hyes]; rfl)
          rw [hst] at cc
          clear hinv HR hcut hyes hn hB2 hst
          go_wp2_with (first | (go_at_call 64; refine (cc _).mono ?_; rintro e w1 ⟨rfl, n1, rfl⟩) | (go_at_call 65; refine (cn _).mono ?_; rintro e w2 ⟨rfl, hb2⟩))
          go_ret
          exact ⟨by rw [hr.out]; rfl, below_call (below_drewN hb n1) hb2⟩
        | true =>
          have hnext : Hid ((spl p.data.toList).all isName = (spl (cutB l)).all isName) := Lib.hid (by rw [hinv.out, hcut, hn, hst]; rfl)
          have hlt := hB2 hst
          rw [hst] at cc
          clear hinv HR hcut hn hB2 hst
          go_wp2_with (first | (go_at_call 64; refine (cc _).mono ?_; rintro e w1 ⟨rfl, n1, rfl⟩) | (go_at_call 65; refine (cn _).mono ?_; rintro e w2 ⟨rfl, hb2⟩))
          go_roundw
          case rel => exact ⟨cutB l, rfl, by omega, hnext, below_call (below_drewN hb n1) hb2⟩
          case measure => simp [strLen, tb_size]; omega

end Go.Proofs.Ythokkobmlhbfgaa.Pr
