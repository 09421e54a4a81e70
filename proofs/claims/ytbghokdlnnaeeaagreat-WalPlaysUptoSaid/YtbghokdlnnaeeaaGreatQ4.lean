/- Texts of this seat, one behind the other. -/
import Derived.Test.YtbghokdlnnaeeaaGreatQ3
import Derived.RegionTactic
import Derived.BigRegion
import Derived.Deep.CutRange
import Derived.StillTailTactics
import Derived.Shelf.Sort.Plain
import Derived.Test.YtbghokdlnnaeeaaGreatProg
import Derived.Lib.OwnBridge
import Derived.Shelf.Slices.In.SortNone
import Derived.Sort.OwnSorted
import Derived.Deep.QuietTactic
import Derived.BigQuiet
/- What package path answers: contracts. -/
namespace Go.Proofs.YtbghokdlnnaeeaaGreat.Pr
open Go.RowKit Pm Tx Pl
set_option linter.unusedVariables false

theorem count_spl (l : List UInt8) : l.count 47 + 1 = (spl l).length := by
  induction l with
  | nil => rfl
  | cons c r ih =>
    rw [spl]
    by_cases hc : c = 47
    · rw [if_pos hc, List.length_cons, ← ih, hc, List.count_cons_self]
    · rw [if_neg hc, List.count_cons_of_ne hc]
      cases hs : spl r with
      | nil => exact absurd hs (spl_ne r)
      | cons x xs => rw [ih, hs]; rfl
theorem spl_cut (l : List UInt8) : spl l = cutA l :: (if hasSt l then spl (cutB l) else []) := by
  induction l with
  | nil => rfl
  | cons c r ih =>
    rw [spl]
    by_cases hc : c = 47
    · simp [hc, cutA, cutB, hasSt]
    · have e : hasSt (c :: r) = hasSt r := by simp [hasSt, Ne.symm hc]
      rw [if_neg hc, ih, cutA, if_neg hc, cutB, if_neg hc, e]
theorem cutB_le (l : List UInt8) : (cutB l).length ≤ l.length := by
  induction l with
  | nil => exact Nat.le_refl _
  | cons c r ih =>
    rw [cutB]
    split
    · simp
    · simp; omega
theorem cutB_lt (l : List UInt8) (h : hasSt l = true) : (cutB l).length < l.length := by
  induction l with
  | nil => simp [hasSt] at h
  | cons c r ih =>
    rw [cutB]
    by_cases hc : c = 47
    · rw [if_pos hc]; simp
    · rw [if_neg hc]
      have := ih (by simpa [hasSt, Ne.symm hc] using h)
      simp; omega
theorem cutA_le (l : List UInt8) : (cutA l).length ≤ l.length := by
  induction l with
  | nil => exact Nat.le_refl _
  | cons c r ih =>
    rw [cutA]
    split
    · simp
    · simp; omega

/-- Whether a letter may stand in a name. -/
def okR (c : Nat) : Bool := (97 ≤ c && c ≤ 122) || (48 ≤ c && c ≤ 57) || c == 95

set_option maxRecDepth 100000 in
set_option maxHeartbeats 1000000 in
theorem inName_any (X : Nat) (w : World) (hX : X ≤ 2147483647) :
    Calls Tryz.prog 142 #[.int .i32 X] w fun e w' => e = .returned (.bool (okR X)) ∧ w = w' := by
  rcases show (X < 48) ∨ (57 < X ∧ X < 95) ∨ X = 96 ∨ 122 < X ∨ (48 ≤ X ∧ X ≤ 57) ∨ X = 95 ∨ (97 ≤ X ∧ X ≤ 122) by omega with h | h | h | h | h | h | h
  · have hb : okR X = false := by simp [okR]; omega
    have e : ((X : Int) == 95) = false := beq_eq_false_iff_ne.2 (by omega)
    rw [hb]
    go_enter Tryz.func142, Tryz.ntmps142
    go_wp2
    go_ret
    exact ⟨rfl, rfl⟩
  · have hb : okR X = false := by simp [okR]; omega
    have e : ((X : Int) == 95) = false := beq_eq_false_iff_ne.2 (by omega)
    have d57 : decide ((X : Int) ≤ 57) = false := decide_eq_false (by omega)
    rw [hb]
    go_enter Tryz.func142, Tryz.ntmps142
    go_wp2
    go_ret
    exact ⟨rfl, rfl⟩
  · have hb : okR X = false := by simp [okR]; omega
    have e : ((X : Int) == 95) = false := beq_eq_false_iff_ne.2 (by omega)
    have d57 : decide ((X : Int) ≤ 57) = false := decide_eq_false (by omega)
    rw [hb]
    go_enter Tryz.func142, Tryz.ntmps142
    go_wp2
    go_ret
    exact ⟨rfl, rfl⟩
  · have hb : okR X = false := by simp [okR]; omega
    have e : ((X : Int) == 95) = false := beq_eq_false_iff_ne.2 (by omega)
    have d57 : decide ((X : Int) ≤ 57) = false := decide_eq_false (by omega)
    have d122 : decide ((X : Int) ≤ 122) = false := decide_eq_false (by omega)
    rw [hb]
    go_enter Tryz.func142, Tryz.ntmps142
    go_wp2
    go_ret
    exact ⟨rfl, rfl⟩
  · have hb : okR X = true := by simp [okR]; omega
    have e : ((X : Int) == 95) = false := beq_eq_false_iff_ne.2 (by omega)
    rw [hb]
    go_enter Tryz.func142, Tryz.ntmps142
    go_wp2
    go_ret
    exact ⟨rfl, rfl⟩
  · have hb : okR X = true := by simp [okR]; omega
    have e : ((X : Int) == 95) = true := by simp [h]
    rw [hb]
    go_enter Tryz.func142, Tryz.ntmps142
    go_wp2
    go_ret
    exact ⟨rfl, rfl⟩
  · have hb : okR X = true := by simp [okR]; omega
    have e : ((X : Int) == 95) = false := beq_eq_false_iff_ne.2 (by omega)
    rw [hb]
    go_enter Tryz.func142, Tryz.ntmps142
    go_wp2
    go_ret
    exact ⟨rfl, rfl⟩

theorem below_iter (w : World) (s : ByteArray) (pos : Nat) : Below w.heap.size w (w.iter s pos) := by
  have := (Below.refl w.heap.size w).alloc (Nat.le_refl _) (.stringIter s pos)
  exact this

set_option maxRecDepth 100000 in
set_option maxHeartbeats 1000000 in
theorem pName_any (s : ByteArray) (w : World) (hs : s.size ≤ 562949953421312) :
    Calls Tryz.prog 128 #[.string s] w fun e w' => e = .returned (.bool (isName s.data.toList)) ∧ Below w.heap.size w w' := by
  by_cases h0 : s = ⟨#[]⟩
  · have hn : isName s.data.toList = false := by rw [list_nil h0]; rfl
    have e1 := is_empty h0
    rw [hn]
    clear hn h0
    go_enter Tryz.func128, Tryz.ntmps128
    go_wp2
    go_ret
    exact ⟨rfl, Below.refl _ _⟩
  have hpos : 1 ≤ s.size := by
    rcases Nat.eq_zero_or_pos s.size with h | h
    · exact absurd (size_zero.1 h) h0
    · exact h
  have e1 := not_empty h0
  clear h0
  by_cases h12 : s.size ≤ 12
  · go_enter Tryz.func128, Tryz.ntmps128
    go_wp2
    go_loopw [] (fun wr => ∃ k : Nat, k ≤ s.size ∧ wr = w.iter s k ∧ Hid ((s.data.toList.take k).all okC = true)) (fun wr => s.size - wr.iterPos w.heap.size)
    case atStart => exact ⟨0, Nat.zero_le _, rfl, rfl⟩
    case round =>
      obtain ⟨k, hk, rfl, hall⟩ := hrel
      by_cases hlt : k < s.size
      · have hnx : ∀ ty, (Instr.next (.pointer (some ⟨w.heap.size, 0, none⟩)) true ty).run Tryz.prog (w.iter s k) = _ := fun ty => run_next_any w s k ty hlt
        have hd1 := decode_le s k
        by_cases ha : s[k].toNat < 128
        · rw [decode_ascii s k hlt ha] at hnx
          have hgood := fun h => Lib.hid (all_at s k hlt hall.out h)
          have hbad := fun h => Lib.hid (all_not s k hlt h)
          obtain ⟨X, hXe⟩ : ∃ X, X = s[k].toNat := ⟨_, rfl⟩
          have hok : okC s[k] = okR X := by rw [hXe]; rfl
          rw [hok] at hgood hbad
          rw [← hXe] at hnx ha
          clear hok hXe hall hd1
          cases hx : okR X with
          | true =>
            have hb := hgood hx
            clear hgood hbad
            go_wp2_with (go_at_call 142; refine (inName_any X _ (by omega)).mono ?_; rintro e w' ⟨rfl, rfl⟩; rw [hx])
            go_roundw
            case rel => exact ⟨k + 1, by omega, rfl, hb.out⟩
            case measure => simp; omega
          | false =>
            have hb := hbad hx
            clear hgood hbad
            go_wp2_with (go_at_call 142; refine (inName_any X _ (by omega)).mono ?_; rintro e w' ⟨rfl, rfl⟩; rw [hx])
            go_ret
            exact ⟨by rw [hb.out]; rfl, below_iter _ _ _⟩
        · have hdh := (decode_high s k hlt (by omega)).1
          have hb := Lib.hid (all_not s k hlt (by simp [okC]; omega))
          obtain ⟨X, hXe⟩ : ∃ X, X = (Utf8.decode s k).1 := ⟨_, rfl⟩
          rw [← hXe] at hnx hdh hd1
          have hx : okR X = false := by simp [okR]; omega
          clear hXe hall
          go_wp2_with (go_at_call 142; refine (inName_any X _ (by omega)).mono ?_; rintro e w' ⟨rfl, rfl⟩; rw [hx])
          go_ret
          exact ⟨by rw [hb.out]; rfl, below_iter _ _ _⟩
      · have hnx : ∀ ty, (Instr.next (.pointer (some ⟨w.heap.size, 0, none⟩)) true ty).run Tryz.prog (w.iter s k) = _ := fun ty => run_next_end w s k ty hlt
        obtain rfl : k = s.size := by omega
        have hn : isName s.data.toList = true := by
          have h := hall.out
          rw [take_all] at h
          rw [isName, h, len_l]
          simp [hpos, h12]
        have HN := Lib.hid hn
        clear hn hall
        go_wp2
        go_ret
        exact ⟨by rw [HN.out]; rfl, below_iter _ _ _⟩
  · have hn : isName s.data.toList = false := by
      rw [isName, len_l]
      simp [h12]
    rw [hn]
    go_enter Tryz.func128, Tryz.ntmps128
    go_wp2
    go_ret
    exact ⟨rfl, Below.refl _ _⟩

set_option maxRecDepth 100000 in
set_option maxHeartbeats 1000000 in
theorem lastStroke_any (s : ByteArray) (w : World) (hs : s.size ≤ 562949953421312) :
    Calls Tryz.prog 131 #[.string s] w fun e w' => e = .returned (.int .i64 ((lastN s.data.toList : Nat) - 1)) ∧ w = w' := by
  go_enter Tryz.func131, Tryz.ntmps131
  go_wp2_with (go_at_call 147; refine (last_any _ _ hs).mono ?_; rintro e w' ⟨rfl, rfl⟩)
  go_ret
  exact ⟨rfl, rfl⟩

set_option maxRecDepth 100000 in
set_option maxHeartbeats 1000000 in
theorem pParent_any (s : ByteArray) (w : World) (hs : s.size ≤ 562949953421312) :
    Calls Tryz.prog 109 #[.string s] w fun e w' => e = .returned (.string (tb (par s.data.toList))) ∧ Below w.heap.size w w' := by
  have cl := fun W => lastStroke_any s W hs
  have hL := lastN_le s.data.toList
  rw [len_l] at hL
  rw [← par_ext]
  obtain ⟨L, hLe⟩ : ∃ L, L = lastN s.data.toList := ⟨_, rfl⟩
  rw [← hLe] at cl hL ⊢
  clear hLe
  by_cases h0 : L = 0
  · subst h0
    go_enter Tryz.func109, Tryz.ntmps109
    go_wp2_with (go_at_call 131; refine (cl _).mono ?_; rintro e w1 ⟨rfl, rfl⟩)
    go_ret
    exact ⟨by first | (simp; done) | (simp; exact Or.inl (by decide)), Below.refl _ _⟩
  · obtain ⟨K, rfl⟩ : ∃ K, L = K + 1 := ⟨L - 1, by omega⟩
    have e1 : ((K + 1 : Nat) : Int) - 1 = K := by omega
    rw [e1] at cl
    rw [Nat.add_sub_cancel]
    clear h0
    go_enter Tryz.func109, Tryz.ntmps109
    go_wp2_with (go_at_call 131; refine (cl _).mono ?_; rintro e w1 ⟨rfl, rfl⟩)
    go_ret
    exact ⟨rfl, Below.refl _ _⟩

set_option maxRecDepth 100000 in
set_option maxHeartbeats 1000000 in
theorem pDeep_any (p : ByteArray) (w : World) (hs : p.size ≤ 562949953421312) :
    Calls Tryz.prog 106 #[.string p] w fun e w' => e = .returned (.int .i64 (dep p.data.toList : Nat)) ∧ Below w.heap.size w w' := by
  by_cases h1 : p = ⟨#[]⟩
  · have e1 := is_empty h1
    have e2 : dep p.data.toList = 0 := by rw [dep, if_pos (list_nil h1)]
    rw [e2]
    clear h1 e2
    go_enter Tryz.func106, Tryz.ntmps106
    go_wp2
    go_ret
    exact ⟨rfl, Below.refl _ _⟩
  · have e1 := not_empty h1
    have e2 : dep p.data.toList = p.data.toList.count 47 + 1 := by rw [dep, if_neg (list_ne h1), count_spl]
    rw [e2]
    have cs := fun W => count_any p W
    have hc : p.data.toList.count 47 ≤ p.size := by rw [← len_l]; exact List.count_le_length
    obtain ⟨C, hC⟩ : ∃ C, C = p.data.toList.count 47 := ⟨_, rfl⟩
    rw [← hC] at cs hc ⊢
    clear h1 e2 hC
    go_enter Tryz.func106, Tryz.ntmps106
    go_wp2_with (go_at_call 129; refine (cs _).mono ?_; rintro e w1 ⟨rfl, rfl⟩)
    go_ret
    exact ⟨by first | rfl | go_num, Below.refl _ _⟩

theorem und_nil {p t : List UInt8} (h : t = []) : und p t = true := by simp [und, h]
theorem und_not {p t : List UInt8} (h1 : t ≠ []) (h : Lib.hasPrefix p t = false) : und p t = false := by
  have h2 : p ≠ t := by
    rintro rfl
    have : Lib.hasPrefix p p = true := by simp [Lib.hasPrefix]
    rw [this] at h
    cases h
  have h3 : (t ++ [47]).isPrefixOf p = false := by
    rw [← Bool.not_eq_true, List.isPrefixOf_iff_prefix]
    intro h3
    have : Lib.hasPrefix p t = true := List.isPrefixOf_iff_prefix.2 ((List.prefix_append t [47]).trans h3)
    rw [this] at h
    cases h
  rw [und, h3]
  simp [h1, h2]
theorem und_hit {p t : List UInt8} (h1 : t ≠ []) (h : Lib.hasPrefix p t = true) : und p t = (decide (trimP p t = []) || Lib.hasPrefix (trimP p t) [47]) := by
  obtain ⟨r, rfl⟩ := List.isPrefixOf_iff_prefix.1 h
  rw [trimP, if_pos h, List.drop_left, und]
  have e : (t ++ [47]).isPrefixOf (t ++ r) = Lib.hasPrefix r [47] := by
    rw [Bool.eq_iff_iff, List.isPrefixOf_iff_prefix, Lib.hasPrefix, List.isPrefixOf_iff_prefix, List.prefix_append_right_inj]
  rw [e]
  simp [h1]

theorem names_cut (l : List UInt8) : (spl l).all isName = (isName (cutA l) && (if hasSt l then (spl (cutB l)).all isName else true)) := by
  rw [spl_cut, List.all_cons]
  cases hasSt l <;> rfl
/-- A text's length. -/
def strLen : Value → Nat
  | .string s => s.size
  | _ => 0

set_option maxRecDepth 100000 in
set_option maxHeartbeats 1000000 in
theorem pCheck_any (p : ByteArray) (d : Int) (w : World) (hs : p.size ≤ 562949953421312) (h1 : -9223372036854775808 ≤ d) (h2 : d ≤ 9223372036854775807) :
    Calls Tryz.prog 105 #[.string p, .int .i64 d] w fun e w' => e = .returned (.int .i64 (chk p.data.toList d : Nat)) ∧ Below w.heap.size w w' := by
  have cd := fun W => pDeep_any p W hs
  by_cases hd : (dep p.data.toList : Int) > d
  · have hr : chk p.data.toList d = 10 := by
      rw [chk, isPath, if_neg]
      intro h
      rw [Bool.and_eq_true] at h
      have := of_decide_eq_true h.1
      rw [dep] at hd
      split at hd
      · rename_i h0
        rw [h0] at h
        have := h.2
        revert this
        decide
      · omega
    rw [hr]
    have hdl : dep p.data.toList ≤ p.size + 1 := by
      have := spl_len p.data.toList
      rw [len_l] at this
      rw [dep]
      split <;> omega
    obtain ⟨D, hD⟩ : ∃ D, D = dep p.data.toList := ⟨_, rfl⟩
    rw [← hD] at cd hd hdl
    clear hr hD
    go_enter Tryz.func105, Tryz.ntmps105
    go_wp2_with (go_at_call 106; refine (cd _).mono ?_; rintro e w1 ⟨rfl, hb1⟩)
    go_ret
    exact ⟨rfl, hb1⟩
  · have hr : chk p.data.toList d = if (spl p.data.toList).all isName then 0 else 10 := by
      rw [chk, isPath]
      rw [dep] at hd
      split at hd
      · rename_i h0
        rw [h0]
        have e : (spl []).all isName = false := by decide
        rw [e, Bool.and_false]
      · rw [decide_eq_true (by omega), Bool.true_and]
    have HR := Lib.hid hr
    have hdl : dep p.data.toList ≤ p.size + 1 := by
      have := spl_len p.data.toList
      rw [len_l] at this
      rw [dep]
      split <;> omega
    obtain ⟨D, hD⟩ : ∃ D, D = dep p.data.toList := ⟨_, rfl⟩
    rw [← hD] at cd hd hdl
    clear hr hD
    go_enter Tryz.func105, Tryz.ntmps105
    go_wp2_with (go_at_call 106; refine (cd _).mono ?_; rintro e w1 ⟨rfl, hb1⟩)
    go_loopw [0, 5, 6, 7] (fun q a b m wr => ∃ l : List UInt8, q = .string (tb l) ∧ l.length ≤ p.size ∧ Hid ((spl p.data.toList).all isName = (spl l).all isName) ∧ Below w.heap.size w wr) (fun q _ _ _ _ => strLen q)
    case atStart => exact ⟨p.data.toList, by rw [tb_of], by rw [len_l]; exact Nat.le_refl _, rfl, hb1⟩
    case round =>
      obtain ⟨l, rfl, hl, hinv, hb⟩ := hrel
      have cc := fun W => cut_any (tb l) W (by rw [tb_size]; omega)
      have hA := cutA_le l
      have hB := cutB_le l
      have hB2 := cutB_lt l
      have cn := fun W => pName_any (tb (cutA l)) W (by rw [tb_size]; omega)
      rw [tb_list] at cc cn
      have hcut := names_cut l
      cases hn : isName (cutA l) with
      | false =>
        have hno : (spl p.data.toList).all isName = false := by rw [hinv.out, hcut, hn]; rfl
        have hr := Lib.hid (show chk p.data.toList d = 10 by rw [HR.out, hno]; rfl)
        rw [hn] at cn
        clear hinv HR hcut hno hn hB2
        go_wp2_with (first | (go_at_call 108; refine (cc _).mono ?_; rintro e w1 ⟨rfl, n1, rfl⟩) | (go_at_call 128; refine (cn _).mono ?_; rintro e w2 ⟨rfl, hb2⟩))
        go_ret
        exact ⟨by rw [hr.out]; rfl, below_call (below_drewN hb n1) hb2⟩
      | true =>
        rw [hn] at cn
        cases hst : hasSt l with
        | false =>
          have hyes : (spl p.data.toList).all isName = true := by rw [hinv.out, hcut, hn, hst]; rfl
          have hr := Lib.hid (show chk p.data.toList d = 0 by rw [HR.out, hyes]; rfl)
          rw [hst] at cc
          clear hinv HR hcut hyes hn hB2 hst
          go_wp2_with (first | (go_at_call 108; refine (cc _).mono ?_; rintro e w1 ⟨rfl, n1, rfl⟩) | (go_at_call 128; refine (cn _).mono ?_; rintro e w2 ⟨rfl, hb2⟩))
          go_ret
          exact ⟨by rw [hr.out]; rfl, below_call (below_drewN hb n1) hb2⟩
        | true =>
          have hnext : Hid ((spl p.data.toList).all isName = (spl (cutB l)).all isName) := Lib.hid (by rw [hinv.out, hcut, hn, hst]; rfl)
          have hlt := hB2 hst
          rw [hst] at cc
          clear hinv HR hcut hn hB2 hst
          go_wp2_with (first | (go_at_call 108; refine (cc _).mono ?_; rintro e w1 ⟨rfl, n1, rfl⟩) | (go_at_call 128; refine (cn _).mono ?_; rintro e w2 ⟨rfl, hb2⟩))
          go_roundw
          case rel => exact ⟨cutB l, rfl, by omega, hnext, below_call (below_drewN hb n1) hb2⟩
          case measure => simp [strLen, tb_size]; omega

end Go.Proofs.YtbghokdlnnaeeaaGreat.Pr

/- Package disk's calls that look at one path: volume, mustBeFile, inFolder, Kind, Stamp, Steps, Down. -/
namespace Go.Proofs.YtbghokdlnnaeeaaGreat.Dk
open Go.RowKit Tx Pm Pl Pr
set_option linter.unusedVariables false

theorem vol_cut (p : ByteArray) : vol p = tb (cutA p.data.toList) := by
  unfold vol
  rw [spl_cut]
  rfl
theorem below_drewN (w : World) (n : Nat) : Below w.heap.size w (w.drewN n) := by
  induction n with
  | zero => exact Below.refl _ _
  | succ n ih => exact ih.drew
set_option maxRecDepth 100000 in
theorem iVol_any (p : ByteArray) (w : World) (hp : p.size ≤ 8000000000000) :
    Calls Tryz.prog 86 #[.string p] w fun e w' => e = .returned (.string (vol p)) ∧ ∃ n, w' = w.drewN n := by
  have c1 := fun W => cut_any p W (by omega)
  rw [vol_cut]
  go_enter Tryz.func86, Tryz.ntmps86
  go_wp2_with (go_at_call 108; refine (c1 _).mono ?_; rintro e w' ⟨rfl, n, rfl⟩)
  go_ret
  exact ⟨rfl, _, rfl⟩
/-- What is wrong, if no file stands there. -/
def mbf (L : List It) (p : ByteArray) : Nat := if kind L p = 0 then 11 else if kind L p = 1 then 12 else 0
theorem fld0 (k : Int) (s t : ByteArray) (st n : Int) (w : World) : (Instr.field 82 (.agg #[.int .i64 k, .string s, .string t, .int .i64 st, .int .i64 n]) 0).run Tryz.prog w = .ok (.int .i64 k) w := by kernel_rfl
theorem fld1 (k : Int) (s t : ByteArray) (st n : Int) (w : World) : (Instr.field 82 (.agg #[.int .i64 k, .string s, .string t, .int .i64 st, .int .i64 n]) 1).run Tryz.prog w = .ok (.string s) w := by kernel_rfl
theorem fld2 (k : Int) (s t : ByteArray) (st n : Int) (w : World) : (Instr.field 82 (.agg #[.int .i64 k, .string s, .string t, .int .i64 st, .int .i64 n]) 2).run Tryz.prog w = .ok (.string t) w := by kernel_rfl
theorem fld4 (k : Int) (s t : ByteArray) (st n : Int) (w : World) : (Instr.field 82 (.agg #[.int .i64 k, .string s, .string t, .int .i64 st, .int .i64 n]) 4).run Tryz.prog w = .ok (.int .i64 n) w := by kernel_rfl
theorem kind_lit (L : List It) (p : ByteArray) : ∃ K : Int, K = (kind L p : Nat) ∧ ((K = 0 ∧ kind L p = 0) ∨ (K = 1 ∧ kind L p = 1) ∨ (K = 2 ∧ kind L p = 2)) := by
  rcases kind_le L p with h | h | h <;> exact ⟨_, rfl, by omega⟩
set_option maxRecDepth 100000 in
theorem iMbf_any (b bi bl : Nat) (l : Int) (s : St) (p : ByteArray) (w : World) (h : Ia b bi bl l w s) (hp : p.size ≤ 8000000000000) :
    Calls Tryz.prog 62 #[.pointer (some ⟨b, 0, none⟩), .string p] w fun e w' => e = .returned (.int .i64 (mbf s.L p : Nat)) ∧ w = w' := by
  have hl := h.look (maxLen_of hp)
  obtain ⟨c0, c1, c2, c3, c4, c5⟩ := h.cell
  have f0 := fld0
  unfold mbf
  generalize kind s.L p = K at hl ⊢
  clear h c1 c2 c3 c4 c5
  by_cases h0 : K = 0
  · subst h0
    rw [if_pos rfl]
    go_enter Tryz.func62, Tryz.ntmps62
    go_wp2
    go_ret
    exact ⟨rfl, rfl⟩
  · rw [if_neg h0]
    by_cases h1 : K = 1
    · subst h1
      rw [if_pos rfl]
      go_enter Tryz.func62, Tryz.ntmps62
      go_wp2
      go_ret
      exact ⟨rfl, rfl⟩
    · rw [if_neg h1]
      have e0 : ((K : Int) == 0) = false := beq_eq_false_iff_ne.2 (by omega)
      have e1 : ((K : Int) == 1) = false := beq_eq_false_iff_ne.2 (by omega)
      clear h0 h1
      go_enter Tryz.func62, Tryz.ntmps62
      go_wp2
      go_ret
      exact ⟨rfl, rfl⟩
set_option maxRecDepth 100000 in
theorem iKind_any (b bi bl : Nat) (l : Int) (s : St) (p : ByteArray) (w : World) (h : Ia b bi bl l w s) (hp : p.size ≤ 8000000000000) :
    Calls Tryz.prog 69 #[.pointer (some ⟨b, 0, none⟩), .string p] w fun e w' => e = .returned (.int .i64 (kind s.L p : Nat)) ∧ w = w' := by
  have hl := h.look (maxLen_of hp)
  obtain ⟨c0, c1, c2, c3, c4, c5⟩ := h.cell
  have f0 := fld0
  generalize kind s.L p = K at hl ⊢
  clear h c1 c2 c3 c4 c5
  go_enter Tryz.func69, Tryz.ntmps69
  go_wp2
  go_ret
  exact ⟨rfl, rfl⟩
theorem stamp_old (s : St) (p : ByteArray) : stampS s p = (old s.L p).stamp := by
  unfold stampS old
  cases find s.L p <;> rfl
set_option maxRecDepth 100000 in
theorem iSteps_any (b bi bl : Nat) (l : Int) (s : St) (w : World) (h : Ia b bi bl l w s) :
    Calls Tryz.prog 29 #[.pointer (some ⟨b, 0, none⟩)] w fun e w' => e = .returned (.int .i64 (s.steps : Nat)) ∧ w = w' := by
  obtain ⟨c0, c1, c2, c3, c4, c5⟩ := h.cell
  clear h c0 c1 c2 c4 c5
  go_enter Tryz.func29, Tryz.ntmps29
  go_wp2
  go_ret
  exact ⟨rfl, rfl⟩
set_option maxRecDepth 100000 in
theorem iDown_any (b bi bl : Nat) (l : Int) (s : St) (w : World) (h : Ia b bi bl l w s) :
    Calls Tryz.prog 23 #[.pointer (some ⟨b, 0, none⟩)] w fun e w' => e = .returned (.bool s.down) ∧ w = w' := by
  obtain ⟨c0, c1, c2, c3, c4, c5⟩ := h.cell
  clear h c0 c1 c2 c3 c4
  go_enter Tryz.func23, Tryz.ntmps23
  go_wp2
  go_ret
  exact ⟨rfl, rfl⟩
theorem tb_nil {l : List UInt8} (h : l = []) : tb l = ⟨#[]⟩ := by rw [h]; rfl
theorem tb_ne {l : List UInt8} (h : l ≠ []) : tb l ≠ ⟨#[]⟩ := fun e => h (by
  have := congrArg (fun x : ByteArray => x.data.toList) e
  simpa [tb] using this)
theorem par_len (l : List UInt8) : (tb (par l)).size ≤ l.length := by
  unfold par
  simp [tb, ByteArray.size]
  exact Nat.min_le_right _ _
set_option maxRecDepth 100000 in
theorem iHome_any (b bi bl : Nat) (l : Int) (s : St) (p : ByteArray) (w : World) (h : Ia b bi bl l w s) (hp : p.size ≤ 8000000000000) :
    Calls Tryz.prog 89 #[.pointer (some ⟨b, 0, none⟩), .string p] w fun e w' => e = .returned (.bool (home s.L p)) ∧ Below w.heap.size w w' := by
  have cp := pParent_any p w (by omega)
  have hq := par_len p.data.toList
  rw [len_l] at hq
  have hl := fun W (hW : Below w.heap.size w W) => (h.below hW).look (p := tb (par p.data.toList)) (maxLen_of (by omega))
  have hc := fun W (hW : Below w.heap.size w W) => (h.below hW).cell.1
  have f0 := fld0
  unfold home
  by_cases h0 : par p.data.toList = []
  · have e0 : (tb (par p.data.toList)).toList.isEmpty = true := is_empty (tb_nil h0)
    rw [tb_nil h0] at cp
    have e1 : (decide (par p.data.toList = []) || decide (kind s.L (tb (par p.data.toList)) = 1)) = true := by simp [h0]
    rw [e1]
    clear hl hc h e0 e1 h0 hq
    go_enter Tryz.func89, Tryz.ntmps89
    go_wp2_with (go_at_call 109; refine cp.mono ?_; rintro e w1 ⟨rfl, hb⟩)
    go_ret
    exact ⟨rfl, hb⟩
  · have e0 : (tb (par p.data.toList)).toList.isEmpty = false := not_empty (tb_ne h0)
    have e1 : (decide (par p.data.toList = []) || decide (kind s.L (tb (par p.data.toList)) = 1)) = decide (kind s.L (tb (par p.data.toList)) = 1) := by simp [h0]
    rw [e1]
    clear e1 h0 hq h
    generalize tb (par p.data.toList) = q at hl hc cp e0 ⊢
    generalize kind s.L q = K at hl ⊢
    have HL := Lib.hid hl
    have HC := Lib.hid hc
    clear hl hc
    by_cases h1 : K = 1
    · subst h1
      go_enter Tryz.func89, Tryz.ntmps89
      go_wp2_with (go_at_call 109; refine cp.mono ?_; rintro e w1 ⟨rfl, hb⟩; have c0 := HC.out _ hb; have l0 := HL.out _ hb)
      go_ret
      exact ⟨rfl, hb⟩
    · have e2 : ((K : Int) == 1) = false := beq_eq_false_iff_ne.2 (by omega)
      have e3 : decide (K = 1) = false := decide_eq_false h1
      rw [e3]
      clear h1 e3
      go_enter Tryz.func89, Tryz.ntmps89
      go_wp2_with (go_at_call 109; refine cp.mono ?_; rintro e w1 ⟨rfl, hb⟩; have c0 := HC.out _ hb; have l0 := HL.out _ hb)
      go_ret
      exact ⟨rfl, hb⟩
end Go.Proofs.YtbghokdlnnaeeaaGreat.Dk

/- Going through package disk's items in whatever order: what has come, as a list; the step of the range. -/
namespace Go.Proofs.YtbghokdlnnaeeaaGreat.Dk
open Go.RowKit Tx Pm
set_option linter.unusedVariables false

/-- The items that have come. -/
def came (L : List It) (left : Lit → Bool) : List It := L.filter (fun y => !left (kL y.path))
/-- Who is left behind the item at p. -/
def less (left : Lit → Bool) (p : ByteArray) : Lit → Bool := fun z => left z && !z.sameKey (kL p)
theorem less_same (left : Lit → Bool) (p : ByteArray) : less left p (kL p) = false := by
  unfold less
  rw [WideAt.sameKey_self (kL_key p)]
  simp
theorem less_other (left : Lit → Bool) {p q : ByteArray} (h : q ≠ p) : less left p (kL q) = left (kL q) := by
  unfold less
  rw [Go.Maps.sameKey_ne (fun e => h (kL_inj e))]
  simp
theorem came_step {left : Lit → Bool} {x : It} (hl : left (kL x.path) = true) : ∀ {L : List It}, Rises L → x ∈ L → (came L (less left x.path)).Perm (x :: came L left)
  | [], _, hx => by cases hx
  | y :: L, hr, hx => by
    obtain ⟨h1, h2⟩ := List.pairwise_cons.1 hr
    by_cases he : y.path = x.path
    · have hyx : x = y := by
        rcases List.mem_cons.1 hx with h | h
        · exact h
        · have := h1 x h
          rw [he, less_irrefl] at this
          cases this
      subst hyx
      have e1 : came L (less left x.path) = came L left := by
        unfold came
        refine List.filter_congr (fun z hz => ?_)
        rw [less_other left (fun e => by have := h1 z hz; rw [e, less_irrefl] at this; cases this)]
      have e2 : came (x :: L) (less left x.path) = x :: came L (less left x.path) := by
        unfold came
        rw [List.filter_cons_of_pos (by rw [less_same]; rfl)]
      have e3 : came (x :: L) left = came L left := by
        unfold came
        rw [List.filter_cons_of_neg (by rw [hl]; simp)]
      rw [e2, e3, e1]
    · have hxL : x ∈ L := by
        rcases List.mem_cons.1 hx with h | h
        · exact absurd (by rw [h]) he
        · exact h
      have ih := came_step hl h2 hxL
      cases hy : left (kL y.path) with
      | true =>
        have e2 : came (y :: L) (less left x.path) = came L (less left x.path) := by
          unfold came
          rw [List.filter_cons_of_neg (by rw [less_other left he, hy]; simp)]
        have e3 : came (y :: L) left = came L left := by
          unfold came
          rw [List.filter_cons_of_neg (by rw [hy]; simp)]
        rw [e2, e3]
        exact ih
      | false =>
        have e2 : came (y :: L) (less left x.path) = y :: came L (less left x.path) := by
          unfold came
          rw [List.filter_cons_of_pos (by rw [less_other left he, hy]; rfl)]
        have e3 : came (y :: L) left = y :: came L left := by
          unfold came
          rw [List.filter_cons_of_pos (by rw [hy]; rfl)]
        rw [e2, e3]
        exact (ih.cons y).trans (List.Perm.swap x y _)
theorem came_start {D : DataW Unit} {L : List It} (h : ReadsI D L) : came L (Go.Maps.has D) = [] := by
  unfold came
  refine List.filter_eq_nil_iff.2 (fun y hy => ?_)
  rw [readsI_has h]
  have : (find L y.path).isSome = true := List.find?_isSome.2 ⟨y, hy, by simp⟩
  rw [this]
  simp
theorem came_end {left : Lit → Bool} (L : List It) (h : ∀ z, left z = false) : came L left = L := by
  unfold came
  exact List.filter_eq_self.2 (fun y hy => by rw [h]; rfl)
theorem came_sub (L : List It) (left : Lit → Bool) : (came L left).Sublist L := List.filter_sublist

theorem key_is {v : ByteArray} {kl : Lit} (h : keyOf Tryz.prog 9 (.string v) = some kl) : kl = kL v ∧ v.size ≤ maxLen := by
  obtain ⟨s, h1, h2, h3⟩ := Go.WideMaps.string_of_keyOf Tryz.underlying9 h
  cases h1
  exact ⟨h2, h3⟩
theorem key_string {key : Value} {kl : Lit} (h : keyOf Tryz.prog 9 key = some kl) : ∃ x : ByteArray, key = .string x := by
  obtain ⟨s, h1, _⟩ := Go.WideMaps.string_of_keyOf Tryz.underlying9 h
  exact ⟨s, h1⟩
/-- The step of a range over the items. -/
theorem next_items (w : World) {ops : Array Oper} {rest : List Oper} {o : Oper} {a : Act} {Q : Exit → Act → World → Prop} (hg : o.guard = none) (it : Operand) (hop : o.op = Op.next it false) (b r n : Nat) (D : DataW Unit) (left : Lit → Bool) (cnt : Nat) (L : List It)
    (hit : a.eval it = .pointer (some ⟨r, 0, none⟩)) (h : w.ranges Tryz.prog 9 itemR b r n D left cnt) (hD : ReadsI D L)
    (hDone : (∀ z, left z = false) → wpList Tryz.prog ops Q rest (a.put o.dst (.tuple #[.bool false])) w)
    (hMore : ∀ (x : It) (w' : World) (cnt' : Nat), x ∈ L → left (kL x.path) = true → w'.ranges Tryz.prog 9 itemR b r n D (less left x.path) cnt' → cnt' < cnt → w.grownBy w' (some r) → w'.heap.size = w.heap.size →
      (Instr.entry (.pointer (some ⟨r, 0, none⟩))).run Tryz.prog w' = .ok (.tuple #[.string x.path, .agg #[.int .i64 (kOf x), .string x.data, .string x.kept, .int .i64 (stOf x), .int .i64 x.stamp]]) w' →
      wpList Tryz.prog ops Q rest (a.put o.dst (.tuple #[.bool true, .string x.path, .agg #[.int .i64 (kOf x), .string x.data, .string x.kept, .int .i64 (stOf x), .int .i64 x.stamp]])) w') :
    wpList Tryz.prog ops Q (o :: rest) a w := by
  refine wpList_next_ranges w hg it hop 9 strK itemR (Value.string) (fun c : Int × ByteArray × ByteArray × Int × Int => mv c.1 c.2.1 c.2.2.1 c.2.2.2.1 c.2.2.2.2)
    (fun key kl hk => key_string hk) (fun v y hv => by obtain ⟨k, s, t, st, m, rfl, _⟩ := itemR_inv hv; exact ⟨(k, s, t, st, m), rfl⟩)
    b r n D left cnt hit h (fun _ hl => hDone hl) (fun p c kl y w' cnt' hkey hlk hv hat hrg hlt hgr hsz hen => ?_)
  obtain ⟨k, s, t, st, m⟩ := c
  obtain ⟨rfl, hps⟩ := key_is hkey
  have hv : itemR (mv k s t st m) = some y := hv
  rw [itemR_mv] at hv
  injection hv with hv
  subst hv
  have hat : ∀ zd, D.atKey (kL p) zd = dv3 k s t st m := hat
  cases hf : find L p with
  | none =>
    have h1 := hat .nil
    rw [hD p, hf] at h1
    cases h1
  | some x =>
    have h1 := hat .nil
    rw [hD p, hf] at h1
    obtain ⟨rfl, rfl, rfl, rfl, rfl⟩ := dv3_inj h1
    obtain ⟨hm, rfl⟩ := find_mem hf
    exact hMore x w' cnt' hm hlk hrg hlt hgr hsz hen
/-- The items' range begins. -/
theorem range_items (w : World) {ops : Array Oper} {rest : List Oper} {o : Oper} {a : Act} {Q : Exit → Act → World → Prop} (hg : o.guard = none) (m : Operand) (hop : o.op = Op.range 76 m) (b : Nat) (L : List It)
    (hm : a.eval m = .map (some b)) (h : Mp w b L)
    (hK : ∀ (D : DataW Unit) (w' : World), ReadsI D L → w'.ranges Tryz.prog 9 itemR b w.heap.size L.length D (Go.Maps.has D) (Go.Maps.size D) → w.grownBy w' none → w'.heap.size = w.heap.size + 1 → wpList Tryz.prog ops Q rest (a.put o.dst (.pointer (some ⟨w.heap.size, 0, none⟩))) w') :
    wpList Tryz.prog ops Q (o :: rest) a w := by
  obtain ⟨D, ho, hr, _⟩ := h
  exact wpList_range_own w hg m _ hop 9 82 strK Tryz.underlying76 itemR b L.length D hm ho (fun w' h1 h2 h3 => hK D w' hr h1 h2 h3)
theorem below_grown {W w w' : World} {B r : Nat} (h : Below B W w) (hg : w.grownBy w' (some r)) (hB : B ≤ w.heap.size) (hr : B ≤ r) : Below B W w' := h.grown hg hB (fun j hj => by cases hj; exact hr)
end Go.Proofs.YtbghokdlnnaeeaaGreat.Dk

/- Package disk's Used: what all files of a volume have. -/
namespace Go.Proofs.YtbghokdlnnaeeaaGreat.Dk
open Go.RowKit Tx Pm
set_option linter.unusedVariables false

theorem ret_int {k : IntKind} {a b : Int} (h : a = b) : Ending.returned (.int k a) = .returned (.int k b) := by rw [h]
theorem used_perm {a b : List It} (h : a.Perm b) (v : ByteArray) : used a v = used b v := (h.map _).sum_nat
theorem used_cons (x : It) (l : List It) (v : ByteArray) : used (x :: l) v = (if vol x.path = v then x.data.size else 0) + used l v := by
  unfold used
  rw [List.map_cons, List.sum_cons]
theorem used_came (L : List It) (left : Lit → Bool) (v : ByteArray) : used (came L left) v ≤ whole L := by
  refine Nat.le_trans (used_le _ v) ?_
  have h := came_sub L left
  generalize came L left = c at h
  induction h with
  | slnil => exact Nat.le_refl _
  | cons x _ ih =>
    unfold whole at *
    rw [List.map_cons, List.sum_cons]
    omega
  | cons_cons x _ ih =>
    unfold whole at *
    rw [List.map_cons, List.sum_cons, List.map_cons, List.sum_cons]
    omega
theorem toList_eq_iff {a b : ByteArray} : a.toList = b.toList ↔ a = b := by
  rw [ByteArray.toList_eq, ByteArray.toList_eq]
  exact ⟨fun h => ByteArray.ext (Array.toList_inj.1 h), fun h => by rw [h]⟩
set_option maxRecDepth 100000 in
set_option maxHeartbeats 1000000 in
theorem iUsed_any (b bi bl : Nat) (l : Int) (s : St) (v : ByteArray) (w : World) (h : Ia b bi bl l w s) (hr : Rises s.L) (hf : Fit s) :
    Calls Tryz.prog 107 #[.pointer (some ⟨b, 0, none⟩), .string v] w fun e w' => e = .returned (.int .i64 (used s.L v : Nat)) ∧ Below w.heap.size w w' := by
  have hw := hf.2.2
  have hpp := hf.2.1
  have hub := fun left => used_came s.L left v
  obtain ⟨c0, _⟩ := h.cell
  have hm := h.items
  go_enter Tryz.func107, Tryz.ntmps107
  go_wp2_with (at_range; refine range_items _ rfl _ rfl bi s.L rfl hm ?_; intro D w0 hD hrg0 hg0 hs0)
  go_frame
  have HD := Lib.hid hD
  have HR := Lib.hid hr
  have HP := Lib.hid hpp
  have HU := Lib.hid hub
  have hsm : w.heap.size < w0.heap.size := by omega
  have HS := Lib.hid hs0
  clear hD hr hpp hub hs0
  go_loopw [5] (fun u wr => ∃ (left : Lit → Bool) (cnt T : Nat), wr.ranges Tryz.prog 9 itemR bi w.heap.size s.L.length D left cnt ∧ u = .int .i64 (T : Nat) ∧ Hid (T = used (came s.L left) v) ∧ Below w.heap.size w wr ∧ w.heap.size < wr.heap.size) (fun _ wr => wr.rangeLeft bi w.heap.size)
  case atStart => exact ⟨_, _, 0, hrg0, rfl, by show 0 = _; rw [came_start HD.out]; rfl, (Below.refl _ _).grown hg0 (Nat.le_refl _) (fun j hj => by cases hj), hsm⟩
  case round =>
    obtain ⟨left, cnt, T, hrg, rfl, hT, hbr, hlt⟩ := hrel
    go_wp2_with (at_next; refine next_items _ rfl _ rfl bi w.heap.size s.L.length D left cnt s.L rfl hrg HD.out ?_ ?_)
    · intro hl
      have hT' := hT.out
      rw [came_end s.L hl] at hT'
      have HT := Lib.hid hT'
      clear hl hT hT' hrg h
      go_wp2
      go_ret
      exact ⟨ret_int (by rw [HT.out]), hbr⟩
    · intro x w1 cnt1 hx hlx hrg1 hlt1 hg1 hs1 hen
      have hxp := HP.out x hx
      have hU1 := HU.out (less left x.path)
      have hst := used_perm (came_step hlx HR.out hx) v
      rw [used_cons, ← hT.out] at hst
      have hme : w1.rangeLeft bi w.heap.size < wr.rangeLeft bi w.heap.size := by rw [hrg1.left_eq, hrg.left_eq]; exact hlt1
      have hb1 : Below w.heap.size w w1 := below_grown hbr hg1 (Nat.le_of_lt hlt) (Nat.le_refl _)
      have hs2 : w.heap.size < w1.heap.size := by omega
      have hrg2 := hrg1.alloc (.cells #[.int .i64 (kOf x), .string x.data, .string x.kept, .int .i64 (stOf x), .int .i64 x.stamp] 82)
      have cv := fun W => iVol_any x.path W hxp
      have HME := Lib.hid hme
      clear hlx hs1 hx hme hrg hlt1 hT h hg1
      generalize less left x.path = left1 at hst hU1 hrg1 hrg2
      obtain ⟨V, hV⟩ : ∃ V, V = vol x.path := ⟨_, rfl⟩
      rw [← hV] at hst cv
      clear hV
      by_cases hvv : V = v
      · have e1 : (V.toList == v.toList) = true := by rw [hvv]; exact beq_self_eq_true _
        rw [if_pos hvv] at hst
        have hle : T + x.data.size ≤ 4000000000000000000 := by omega
        have HST := Lib.hid hst
        clear hst hvv hU1
        go_wp2_with (go_at_call 86; refine (cv _).mono ?_; rintro e w3 ⟨rfl, n3, rfl⟩)
        go_roundw
        case rel => exact ⟨left1, cnt1, T + x.data.size, hrg2, by go_num, (HST.out.trans (Nat.add_comm _ _)).symm, (hb1.alloc (Nat.le_of_lt hs2) _).trans (below_drewN _ _ |>.mono (by simp; omega)), by simp; omega⟩
        case measure => have e : (w1.alloc (.cells #[.int .i64 (kOf x), .string x.data, .string x.kept, .int .i64 (stOf x), .int .i64 x.stamp] 82)).rangeLeft bi w.heap.size = w1.rangeLeft bi w.heap.size := by rw [hrg2.left_eq, hrg1.left_eq]
                        show (w1.alloc _).rangeLeft _ _ < _
                        rw [e]
                        exact HME.out
      · have e1 : (V.toList == v.toList) = false := bytes_ne hvv
        rw [if_neg hvv, Nat.zero_add] at hst
        have HST := Lib.hid hst
        clear hst hvv hU1
        go_wp2_with (go_at_call 86; refine (cv _).mono ?_; rintro e w3 ⟨rfl, n3, rfl⟩)
        go_roundw
        case rel => exact ⟨left1, cnt1, T, hrg2, rfl, HST.out.symm, (hb1.alloc (Nat.le_of_lt hs2) _).trans (below_drewN _ _ |>.mono (by simp; omega)), by simp; omega⟩
        case measure => have e : (w1.alloc (.cells #[.int .i64 (kOf x), .string x.data, .string x.kept, .int .i64 (stOf x), .int .i64 x.stamp] 82)).rangeLeft bi w.heap.size = w1.rangeLeft bi w.heap.size := by rw [hrg2.left_eq, hrg1.left_eq]
                        show (w1.alloc _).rangeLeft _ _ < _
                        rw [e]
                        exact HME.out
end Go.Proofs.YtbghokdlnnaeeaaGreat.Dk

/- Package disk's isFull and ready. -/
namespace Go.Proofs.YtbghokdlnnaeeaaGreat.Dk
open Go.RowKit Tx Pm Pl Pr
set_option linter.unusedVariables false

/-- Whether a volume has no room for so many bytes more. -/
def full (s : St) (v : ByteArray) (more : Int) : Bool := match roomOf s.rooms v with
  | none => false
  | some r => decide (0 < more) && decide (r.n < (used s.L v : Nat) + more)
theorem roomOf_mem {R : List Rm} {v : ByteArray} {r : Rm} (h : roomOf R v = some r) : r ∈ R ∧ r.vol = v := ⟨List.mem_of_find?_eq_some h, by have := List.find?_some h; simpa using this⟩
theorem roomOf_of {R : List Rm} (hv : R.Pairwise (fun r r' => r.vol ≠ r'.vol)) {r : Rm} (hr : r ∈ R) : roomOf R r.vol = some r := by
  unfold roomOf
  induction R with
  | nil => cases hr
  | cons q R ih =>
    obtain ⟨h1, h2⟩ := List.pairwise_cons.1 hv
    rcases List.mem_cons.1 hr with rfl | hr
    · rw [List.find?_cons_of_pos (by simp)]
    · rw [List.find?_cons_of_neg (by simpa using h1 r hr)]
      exact ih h2 hr
theorem fits_full {s : St} (hg : Good s) (p : ByteArray) (more : Int) : fits s p more = !full s (vol p) more := by
  unfold fits full
  by_cases hm : more ≤ 0
  · rw [decide_eq_true hm, Bool.true_or]
    cases roomOf s.rooms (vol p) with
    | none => rfl
    | some r =>
      simp only
      rw [decide_eq_false (by omega), Bool.false_and]
      rfl
  · rw [decide_eq_false hm, Bool.false_or]
    cases hf : roomOf s.rooms (vol p) with
    | none =>
      refine List.all_eq_true.2 (fun r hr => ?_)
      have : r.vol ≠ vol p := fun e => by
        have := roomOf_of hg.vols hr
        rw [e, hf] at this
        cases this
      rw [decide_eq_false this, Bool.false_and]
      rfl
    | some r =>
      obtain ⟨hr, hrv⟩ := roomOf_mem hf
      simp only
      rw [decide_eq_true (show 0 < more by omega), Bool.true_and, Bool.eq_iff_iff, List.all_eq_true]
      constructor
      · intro h
        have := h r hr
        rw [decide_eq_true hrv, Bool.true_and] at this
        simp only [Bool.not_eq_true', decide_eq_false_iff_not] at this ⊢
        omega
      · intro h q hq
        by_cases hqv : q.vol = vol p
        · have h2 := roomOf_of hg.vols hq
          rw [hqv, hf] at h2
          cases h2
          rw [decide_eq_true hrv, Bool.true_and]
          simp only [Bool.not_eq_true', decide_eq_false_iff_not] at h ⊢
          omega
        · rw [decide_eq_false hqv, Bool.false_and]
          rfl
theorem vol_le (p : ByteArray) : (vol p).size ≤ p.size := by
  rw [vol_cut, tb_size]
  have := cutA_le p.data.toList
  rw [len_l] at this
  exact this
set_option maxRecDepth 100000 in
set_option maxHeartbeats 1000000 in
theorem iFull_any (b bi bl : Nat) (l : Int) (s : St) (v : ByteArray) (more : Int) (w : World) (h : Ia b bi bl l w s) (hr : Rises s.L) (hf : Fit s) (hv : v.size ≤ 8000000000000) (hm : -4000000000000000000 ≤ more ∧ more ≤ 4000000000000000000) :
    Calls Tryz.prog 85 #[.pointer (some ⟨b, 0, none⟩), .string v, .int .i64 more] w fun e w' => e = .returned (.bool (full s v more)) ∧ Below w.heap.size w w' := by
  have hl := h.limits.look (maxLen_of hv)
  have cu := iUsed_any b bi bl l s v w h hr hf
  have hu := Nat.le_trans (used_le s.L v) hf.2.2
  obtain ⟨_, c1, _⟩ := h.cell
  unfold full
  unfold limV at hl
  clear hf hr h
  generalize used s.L v = U at cu hu ⊢
  cases hR : roomOf s.rooms v with
  | none =>
    rw [hR] at hl
    simp only at hl ⊢
    clear hR cu
    go_enter Tryz.func85, Tryz.ntmps85
    go_wp2
    go_ret
    exact ⟨rfl, Below.refl _ _⟩
  | some r =>
    rw [hR] at hl
    simp only at hl ⊢
    clear hR
    generalize r.n = N at hl ⊢
    by_cases h0 : 0 < more
    · rw [decide_eq_true h0, Bool.true_and]
      go_enter Tryz.func85, Tryz.ntmps85
      go_wp2_with (go_at_call 107; refine cu.mono ?_; rintro e w1 ⟨rfl, hb⟩)
      go_ret
      exact ⟨rfl, hb⟩
    · rw [decide_eq_false h0, Bool.false_and]
      have h0' : more ≤ 0 := by omega
      clear h0 cu
      go_enter Tryz.func85, Tryz.ntmps85
      go_wp2
      go_ret
      exact ⟨rfl, Below.refl _ _⟩

/-- A path that isn't taken up. -/
def bad (m : Nat) (p : ByteArray) : Bool := decide (chk p.data.toList 6 ≠ 0) || decide ((spl p.data.toList).length ≤ m)
def rdy (s : St) (m : Nat) (l : List ByteArray) : Nat := if s.down then 14 else if l.any (bad m) then 10 else 0
theorem rdy_one (s : St) (m : Nat) (p : ByteArray) : rdy s m [p] = first s p m := by
  unfold rdy first bad
  rw [List.any_cons, List.any_nil, Bool.or_false]
  cases s.down with
  | true => rfl
  | false =>
    simp only [Bool.false_eq_true, if_false]
    by_cases h : chk p.data.toList 6 ≠ 0 ∨ (spl p.data.toList).length ≤ m
    · rw [if_pos h, if_pos (by simpa [Bool.or_eq_true] using h)]
    · rw [if_neg h, if_neg (by simpa [Bool.or_eq_true] using h)]
theorem rdy_two (s : St) (m : Nat) (p q : ByteArray) : rdy s m [p, q] = if first s p m ≠ 0 then first s p m else first s q m := by
  rw [← rdy_one, ← rdy_one]
  unfold rdy
  rw [List.any_cons, List.any_cons, List.any_cons, List.any_nil]
  cases s.down with
  | true => rfl
  | false => cases bad m p <;> cases bad m q <;> rfl
theorem bad_dep {p : ByteArray} {m : Nat} (h : chk p.data.toList 6 = 0) : bad m p = decide ((dep p.data.toList : Int) < ((m + 1 : Nat) : Int)) := by
  have hp : p.data.toList ≠ [] := fun e => by rw [e] at h; revert h; decide
  have hd : dep p.data.toList = (spl p.data.toList).length := by rw [dep, if_neg hp]
  unfold bad
  rw [h, hd, Bool.eq_iff_iff]
  simp
  omega
set_option maxRecDepth 100000 in
set_option maxHeartbeats 1000000 in
theorem iReady_any (b bi bl g n c m : Nat) (M l : Int) (s : St) (ps : List ByteArray) (w : World) (h : Ia b bi bl l w s) (hn : ps.length = n) (hm : m ≤ 1000) (hM : M = (m : Int) + 1) (hc : ∀ k p, ps[k]? = some p → w.cell? ⟨g, k, none⟩ = some (.string p)) (hg : g < w.heap.size) (hp : ∀ p ∈ ps, p.size ≤ 8000000000000) (hnm : n ≤ 1000) :
    Calls Tryz.prog 84 #[.pointer (some ⟨b, 0, none⟩), .int .i64 M, .slice (some ⟨g, 0, none⟩) n c] w fun e w' => e = .returned (.int .i64 (rdy s m ps : Nat)) ∧ Below w.heap.size w w' := by
  obtain ⟨c0, c1, c2, c3, c4, c5⟩ := h.cell
  unfold rdy
  clear h c0 c1 c2 c3 c4
  generalize s.down = D at c5 ⊢
  cases D with
  | true =>
    rw [if_pos rfl]
    clear hc hp hn
    go_enter Tryz.func84, Tryz.ntmps84
    go_wp2
    go_ret
    exact ⟨rfl, Below.refl _ _⟩
  | false =>
    rw [if_neg (by decide)]
    have HC := Lib.hid hc
    have HP := Lib.hid hp
    have HN := Lib.hid hn
    have HM := Lib.hid hM
    have hM2 : 1 ≤ M ∧ M ≤ 1001 := by omega
    obtain ⟨RES, hRES⟩ : ∃ RES, RES = if ps.any (bad m) = true then 10 else 0 := ⟨_, rfl⟩
    rw [← hRES]
    have HRES := Lib.hid hRES
    clear hc hp hn hM hRES
    go_enter Tryz.func84, Tryz.ntmps84
    go_wp2
    go_loopw [19] (fun i wr => ∃ k : Nat, k ≤ n ∧ i = .int .i64 k ∧ Hid ((ps.take k).any (bad m) = false) ∧ Below w.heap.size w wr) (fun i _ => n - (intOf i).toNat)
    case atStart => exact ⟨0, Nat.zero_le _, rfl, by show (ps.take 0).any _ = _; simp, Below.refl _ _⟩
    case round =>
      obtain ⟨k, hk, rfl, hT, hB⟩ := hrel
      by_cases hlt : k < n
      · obtain ⟨p, hx⟩ : ∃ p, ps[k]? = some p := ⟨_, List.getElem?_eq_getElem (by rw [HN.out]; exact hlt)⟩
        have f0 := (hB.cell (p := ⟨g, _, none⟩) hg).trans (HC.out k p hx)
        have hpm := List.mem_of_getElem? hx
        have hps := HP.out p hpm
        have cc := fun W => pCheck_any p 6 W (by omega) (by omega) (by omega)
        have cd := fun W => pDeep_any p W (by omega)
        have hch : chk p.data.toList 6 = 0 ∨ chk p.data.toList 6 = 10 := by unfold chk; split <;> simp
        have htk : (ps.take (k + 1)).any (bad m) = ((ps.take k).any (bad m) || bad m p) := by rw [take_more hx, List.any_append, List.any_cons, List.any_nil, Bool.or_false]
        rw [hT.out, Bool.false_or] at htk
        have hany : bad m p = true → ps.any (bad m) = true := fun hb => List.any_eq_true.2 ⟨p, hpm, hb⟩
        rcases hch with hch | hch
        · have hbd := bad_dep (m := m) hch
          rw [hch] at cc
          have e9 : ((m + 1 : Nat) : Int) = M := by rw [HM.out]; omega
          rw [e9] at hbd
          generalize dep p.data.toList = Dp at cd hbd
          by_cases hd : (Dp : Int) < M
          · rw [decide_eq_true hd] at hbd
            have HA := Lib.hid (hany hbd)
            clear htk hany hbd hch hx hT hpm hps e9
            go_wp2_with (first | (go_at_call 105; refine (cc _).mono ?_; rintro e w1 ⟨rfl, hb1⟩) | (go_at_call 106; refine (cd _).mono ?_; rintro e w2 ⟨rfl, hb2⟩))
            go_ret
            exact ⟨ret_int (by rw [HRES.out, HA.out]; rfl), below_call (below_call hB hb1) hb2⟩
          · rw [decide_eq_false hd] at hbd
            rw [hbd] at htk
            have HT := Lib.hid htk
            have hd' : M ≤ Dp := by omega
            clear htk hany hbd hch hx hT hpm hps hd e9
            go_wp2_with (first | (go_at_call 105; refine (cc _).mono ?_; rintro e w1 ⟨rfl, hb1⟩) | (go_at_call 106; refine (cd _).mono ?_; rintro e w2 ⟨rfl, hb2⟩))
            go_roundw
            case rel => exact ⟨k + 1, by omega, by go_num, HT, below_call (below_call hB hb1) hb2⟩
            case measure => simp [intOf]; omega
        · have hbd : bad m p = true := by unfold bad; rw [hch]; rfl
          rw [hch] at cc
          have HA := Lib.hid (hany hbd)
          clear htk hany hbd hch hx hT hpm hps cd
          go_wp2_with (go_at_call 105; refine (cc _).mono ?_; rintro e w1 ⟨rfl, hb1⟩)
          go_ret
          exact ⟨ret_int (by rw [HRES.out, HA.out]; rfl), below_call hB hb1⟩
      · obtain rfl : k = n := by omega
        have hT' := hT.out
        rw [List.take_of_length_le (by rw [HN.out]; exact Nat.le_refl _)] at hT'
        have HT := Lib.hid hT'
        clear hT hT'
        go_wp2
        go_ret
        exact ⟨ret_int (by rw [HRES.out, HT.out]; rfl), hB⟩
end Go.Proofs.YtbghokdlnnaeeaaGreat.Dk

/- What the closures of package disk's calls do: one step each. -/
namespace Go.Proofs.YtbghokdlnnaeeaaGreat.Dk
open Go.RowKit Tx Pm Pl Pr
set_option linter.unusedVariables false

/-- A captured variable. -/
def Cap (w : World) (g : Nat) (v : Value) : Prop := w.cell? ⟨g, 0, none⟩ = some v
set_option maxRecDepth 100000 in
theorem iMkdirC_any (b bi bl bd bp : Nat) (l : Int) (s : St) (p : ByteArray) (w : World) (h : Ia b bi bl l w s) (hd : Cap w bd (.pointer (some ⟨b, 0, none⟩))) (hp : Cap w bp (.string p)) (hps : p.size ≤ 8000000000000) (hn : s.L.length ≤ 1000000000) :
    Calls Tryz.prog 65 #[.pointer (some ⟨bd, 0, none⟩), .pointer (some ⟨bp, 0, none⟩)] w fun e w' => e = .returned (.tuple #[]) ∧ Ip b bi bl w { s with L := ins s.L ⟨p, true, ⟨#[]⟩, ⟨#[]⟩, false, false, 0⟩ } w' := by
  obtain ⟨c0, _⟩ := h.cell
  unfold Cap at hd hp
  have h0 := h.below (Below.refl _ w).drew
  obtain ⟨w1, hrun, hm, ht⟩ := h0.items.store (x := ⟨p, true, ⟨#[]⟩, ⟨#[]⟩, false, false, 0⟩) (maxLen_of hps) (by unfold maxLen; omega)
  have hend : Ip b bi bl w { s with L := ins s.L ⟨p, true, ⟨#[]⟩, ⟨#[]⟩, false, false, 0⟩ } w1 := ⟨l, h0.turned hm ht, (Chg.of_below (Below.refl _ w).drew).then ((turned_chg ht).mono ft_i)⟩
  have HE := Lib.hid hend
  clear h h0 hm ht hend
  have hrun : (Instr.mapUpdate 76 (.map (some bi)) (.string p) (.agg #[.int .i64 1, .string ⟨#[]⟩, .string ⟨#[]⟩, .int .i64 0, .int .i64 0])).run Tryz.prog w.drew = .ok () w1 := hrun
  go_enter Tryz.func65, Tryz.ntmps65
  go_region
  all_goals (go_end0; exact ⟨rfl, HE.out⟩)

/-! set, step -/
theorem own_cells {b bi bl : Nat} {l : Int} {w : World} {s : St} (h : Ia b bi bl l w s) (k : Nat) (u : Value) {cs : Array Value} (hk : (#[.map (some bi), .map (some bl), .int .i64 l, .int .i64 s.steps, .int .i64 s.stamps, .bool s.down] : Array Value).setIfInBounds k u = cs) :
    (w.setCell ⟨b, k, none⟩ u).heap[b]? = some (.cells cs 79 (0, 0)) := by
  rw [set_block h.blk, hk]
set_option maxRecDepth 100000 in
theorem iSet_any (b bi bl : Nat) (l : Int) (s : St) (x : It) (N : Int) (p : ByteArray) (w : World) (h : Ia b bi bl l w s) (hxp : x.path = p) (hps : p.size ≤ 8000000000000) (hn : s.L.length ≤ 1000000000) (hst : s.stamps ≤ 1000000000000) :
    Calls Tryz.prog 48 #[.pointer (some ⟨b, 0, none⟩), .string p, .agg #[.int .i64 (kOf x), .string x.data, .string x.kept, .int .i64 (stOf x), .int .i64 N]] w fun e w' => e = .returned (.tuple #[]) ∧ Ip b bi bl w (putS s x) w' := by
  obtain ⟨c0, c1, c2, c3, c4, c5⟩ := h.cell
  have hwm := h.warm
  have hbl : b < w.heap.size := h.lt b (.inl rfl)
  have a1 : Ia b bi bl l (w.setCell ⟨b, 4, none⟩ (.int .i64 ((s.stamps : Int) + 1))) { s with stamps := s.stamps + 1 } :=
    h.poke (chg_set _) (own_cells h 4 _ rfl) rfl rfl h.left h.low
  have hc1 : Chg (Ft b bi bl) w (w.setCell ⟨b, 4, none⟩ (.int .i64 ((s.stamps : Int) + 1))) := (chg_set _).mono ft_b
  have hB2 := ((Below.refl _ (w.setCell ⟨b, 4, none⟩ (.int .i64 ((s.stamps : Int) + 1)))).alloc (Nat.le_refl _) (.cells #[.int .i64 (kOf x), .string x.data, .string x.kept, .int .i64 (stOf x), .int .i64 ((s.stamps : Int) + 1)] 82)).drew
  have a2 := a1.below hB2
  obtain ⟨w3, hrun, hm, ht⟩ := a2.items.store (x := stamped s x) (by rw [show (stamped s x).path = p from hxp]; exact maxLen_of hps) (by unfold maxLen; show s.L.length < _; omega)
  have hrun : (Instr.mapUpdate 76 (.map (some bi)) (.string p) (.agg #[.int .i64 (kOf x), .string x.data, .string x.kept, .int .i64 (stOf x), .int .i64 ((s.stamps : Int) + 1)])).run Tryz.prog
      ((w.setCell ⟨b, 4, none⟩ (.int .i64 ((s.stamps : Int) + 1))).alloc (.cells #[.int .i64 (kOf x), .string x.data, .string x.kept, .int .i64 (stOf x), .int .i64 ((s.stamps : Int) + 1)] 82)).drew = .ok () w3 := by
    rw [← hxp]
    exact hrun
  have hend : Ip b bi bl w (putS s x) w3 := ⟨l, a2.turned hm ht, (hc1.then (Chg.of_below hB2 |>.mono (fun _ hi => hi))).then ((turned_chg ht).mono ft_i)⟩
  have HE := Lib.hid hend
  generalize kOf x = K at hrun ⊢
  generalize stOf x = T at hrun ⊢
  clear h a1 a2 hc1 hB2 hm ht hend hxp
  go_enter Tryz.func48, Tryz.ntmps48
  go_wp2
  go_region
  all_goals (go_end0; exact ⟨rfl, HE.out⟩)
end Go.Proofs.YtbghokdlnnaeeaaGreat.Dk

/- Package disk's step: a call that isn't refused is a step, or the stop. -/
namespace Go.Proofs.YtbghokdlnnaeeaaGreat.Dk
open Go.RowKit Tx Pm Pl Pr
set_option linter.unusedVariables false

def stepR (s : St) (r : Nat) (s' : St) : Nat × St := if r ≠ 0 then (r, s) else if (done s).1 ≠ 0 then done s else (0, s')
set_option maxRecDepth 100000 in
theorem iStep_any (b bi bl : Nat) (l : Int) (s : St) (r : Nat) (f : FuncId) (cap : Array Value) (s' : St) (w : World) (h : Ia b bi bl l w s) (hd : r = 0 → s.down = false) (hst : s.steps ≤ 1000000000000)
    (hen : ∀ W, (callFunc f cap).run Tryz.prog W = .ok (.enter f cap) W)
    (cf : ∀ l1 W, r = 0 → (done s).1 = 0 → Ia b bi bl l1 W (done s).2 → Chg (· = b) w W → Calls Tryz.prog f cap W fun e w' => e = .returned (.tuple #[]) ∧ Ip b bi bl W s' w') :
    Calls Tryz.prog 58 #[.pointer (some ⟨b, 0, none⟩), .int .i64 r, .func (.func f) #[] cap] w fun e w' => e = .returned (.int .i64 ((stepR s r s').1 : Nat)) ∧ Ip b bi bl w (stepR s r s').2 w' := by
  obtain ⟨c0, c1, c2, c3, c4, c5⟩ := h.cell
  have hwm := h.warm
  have hlow := h.low
  unfold stepR
  by_cases hr : r = 0
  · subst hr
    rw [if_neg (by decide)]
    have hdn := hd rfl
    have hla : l = s.armed := h.left.resolve_left (by rw [hdn]; decide)
    by_cases h0 : l = 0
    · have hD : done s = (14, { s with down := true, armed := -1 }) := by unfold done; rw [if_pos (by omega)]
      rw [hD, if_pos (fun e => by cases e)]
      subst h0
      have a1 : Ia b bi bl 0 (w.setCell ⟨b, 5, none⟩ (.bool true)) { s with down := true, armed := -1 } := h.poke (chg_set _) (own_cells h 5 _ rfl) rfl rfl (.inl rfl) h.low
      have HE := Lib.hid (show Ip b bi bl w { s with down := true, armed := -1 } (w.setCell ⟨b, 5, none⟩ (.bool true)) from ⟨0, a1, (chg_set _).mono ft_b⟩)
      clear a1 h hd hD hla cf
      go_enter Tryz.func58, Tryz.ntmps58
      go_wp2
      go_ret
      exact ⟨rfl, HE.out⟩
    · have hD : done s = (0, { s with armed := if s.armed > 0 then s.armed - 1 else s.armed, steps := s.steps + 1 }) := by unfold done; rw [if_neg (by omega)]
      rw [hD] at cf
      rw [hD, if_neg (fun e => e rfl)]
      have e0 : (l == 0) = false := beq_eq_false_iff_ne.2 h0
      by_cases hl1 : l = -1
      · have hl2 : (-1 : Int) = s.armed := hl1 ▸ hla
        subst hl1
        have hx1 : max ((-1 : Int) - 1) (-1) = -1 := by omega
        have hx2 : max (-2 : Int) (-1) = -1 := by omega
        have hb1 : (w.setCell ⟨b, 2, none⟩ (.int .i64 (-1))).heap[b]? = some (.cells #[.map (some bi), .map (some bl), .int .i64 (-1), .int .i64 s.steps, .int .i64 s.stamps, .bool s.down] 79 (0, 0)) := own_cells h 2 _ rfl
        have hb2 : ((w.setCell ⟨b, 2, none⟩ (.int .i64 (-1))).setCell ⟨b, 3, none⟩ (.int .i64 ((s.steps : Int) + 1))).heap[b]? = some (.cells #[.map (some bi), .map (some bl), .int .i64 (-1), .int .i64 ((s.steps : Int) + 1), .int .i64 s.stamps, .bool s.down] 79 (0, 0)) := set_block hb1 _
        have hc2 : Chg (· = b) w ((w.setCell ⟨b, 2, none⟩ (.int .i64 (-1))).setCell ⟨b, 3, none⟩ (.int .i64 ((s.steps : Int) + 1))) := (chg_set _).then (chg_set _)
        have a2 : Ia b bi bl (-1) _ { s with armed := if s.armed > 0 then s.armed - 1 else s.armed, steps := s.steps + 1 } := h.poke hc2 hb2 rfl rfl (.inr (by show _ = (if s.armed > 0 then s.armed - 1 else s.armed); split <;> omega)) (by omega)
        have cf2 := cf (-1) _ rfl rfl a2 hc2
        have HC := Lib.hid hc2
        have g3 : (w.setCell ⟨b, 2, none⟩ (.int .i64 (-1))).cell? ⟨b, 3, none⟩ = some (.int .i64 s.steps) := by unfold World.cell?; rw [hb1]; rfl
        clear hl2 a2 h hd hD hla cf hc2 hb1 hb2 h0
        go_enter Tryz.func58, Tryz.ntmps58
        go_wp2_with fail
        refine cf2.mono ?_
        rintro e w5 ⟨rfl, l5, hat5, hc5⟩
        go_wp2
        go_ret
        exact ⟨rfl, l5, hat5, (HC.out.mono ft_b).then hc5⟩
      · have hl2 : 1 ≤ l := by omega
        have hx1 : max (l - 1) (-1) = l - 1 := by omega
        have hb1 : (w.setCell ⟨b, 2, none⟩ (.int .i64 (l - 1))).heap[b]? = some (.cells #[.map (some bi), .map (some bl), .int .i64 (l - 1), .int .i64 s.steps, .int .i64 s.stamps, .bool s.down] 79 (0, 0)) := own_cells h 2 _ rfl
        have hb2 : ((w.setCell ⟨b, 2, none⟩ (.int .i64 (l - 1))).setCell ⟨b, 3, none⟩ (.int .i64 ((s.steps : Int) + 1))).heap[b]? = some (.cells #[.map (some bi), .map (some bl), .int .i64 (l - 1), .int .i64 ((s.steps : Int) + 1), .int .i64 s.stamps, .bool s.down] 79 (0, 0)) := set_block hb1 _
        have hc2 : Chg (· = b) w ((w.setCell ⟨b, 2, none⟩ (.int .i64 (l - 1))).setCell ⟨b, 3, none⟩ (.int .i64 ((s.steps : Int) + 1))) := (chg_set _).then (chg_set _)
        have a2 : Ia b bi bl (l - 1) _ { s with armed := if s.armed > 0 then s.armed - 1 else s.armed, steps := s.steps + 1 } := h.poke hc2 hb2 rfl rfl (.inr (by show _ = (if s.armed > 0 then s.armed - 1 else s.armed); split <;> omega)) (by omega)
        have cf2 := cf (l - 1) _ rfl rfl a2 hc2
        have HC := Lib.hid hc2
        have g3 : (w.setCell ⟨b, 2, none⟩ (.int .i64 (l - 1))).cell? ⟨b, 3, none⟩ = some (.int .i64 s.steps) := by unfold World.cell?; rw [hb1]; rfl
        clear hl1 a2 h hd hD hla cf hc2 hb1 hb2 h0
        go_enter Tryz.func58, Tryz.ntmps58
        go_wp2_with fail
        refine cf2.mono ?_
        rintro e w5 ⟨rfl, l5, hat5, hc5⟩
        go_wp2
        go_ret
        exact ⟨rfl, l5, hat5, (HC.out.mono ft_b).then hc5⟩
  · rw [if_pos hr]
    have e0 : ((r : Int) == 0) = false := beq_eq_false_iff_ne.2 (by omega)
    have HE := Lib.hid (show Ip b bi bl w s w from ⟨l, h, Chg.refl _ _⟩)
    clear h hd cf hr
    go_enter Tryz.func58, Tryz.ntmps58
    go_wp2
    go_ret
    exact ⟨rfl, HE.out⟩
end Go.Proofs.YtbghokdlnnaeeaaGreat.Dk

/- More of what a drawn region holds: look-ups in maps, fields of values, closures that are made, structs that are built. -/
namespace Go.Proofs.YtbghokdlnnaeeaaGreat.Rg
open Go.RowKit
set_option linter.unusedVariables false
section
variable {P : Program} {ops : Array Oper} {R : Act → World → Prop} {S : World → Prop}
theorem y_look {o : Oper} {a : Act} {T : TypeId} {x y : Operand} {c : Bool} {vx vy v : Value} (ho : o.op = .lookup T x y c) (hx : a.eval x = vx) (hy : a.eval y = vy)
    (hv : ∀ w, S w → (Instr.lookup T vx vy c).run P w = .ok v w) : ∀ w, S w → (execOp a.eval o).run P w = .ok (.value v) w := by
  intro w hw
  obtain ⟨dst, op, ty, pos, after, guard⟩ := o
  simp only at ho
  subst ho
  have := hv w hw
  simp only [execOp, hx, hy, Sem.run_bind]
  rw [this]
  rfl
theorem y_fld {o : Oper} {a : Act} {T : TypeId} {k : Nat} {x : Operand} {vx v : Value} (ho : o.op = .field T x k) (hx : a.eval x = vx)
    (hv : ∀ w, S w → (Instr.field T vx k).run P w = .ok v w) : ∀ w, S w → (execOp a.eval o).run P w = .ok (.value v) w := by
  intro w hw
  obtain ⟨dst, op, ty, pos, after, guard⟩ := o
  simp only at ho
  subst ho
  have := hv w hw
  simp only [execOp, hx, Sem.run_bind]
  rw [this]
  rfl
theorem y_func {o : Oper} {a : Act} {f : Fn} {xs ys : Array Operand} {vs us : Array Value} (ho : o.op = .makeFunc f xs ys) (hx : xs.map a.eval = vs) (hy : ys.map a.eval = us) : ∀ w, S w → (execOp a.eval o).run P w = .ok (.value (.func f vs us)) w := by
  intro w hw
  obtain ⟨dst, op, ty, pos, after, guard⟩ := o
  simp only at ho
  subst ho
  subst hx
  subst hy
  rfl
/-- A look-up, one of those that are ready, in the world at hand. -/
theorem op_look (i : Nat) (d : Option Tmp) {T : TypeId} {x y : Operand} {c : Bool} {vx vy v : Value} {fuel : Nat} {listed : Array Bool} {a : Act} {w : World}
    (hi : decide (i < ops.size) = true) (hd : (opOf ops i).dst = d)
    (hw : Region.wanted (opOf ops i) (yielded ops a.tmps) = true) (ho : (opOf ops i).op = .lookup T x y c) (hx : a.eval x = vx) (hy : a.eval y = vy)
    (hv : (Instr.lookup T vx vy c).run P w = .ok v w) (hS : S w)
    (h : wpAnyH P .any ops (Only R) S fuel (listed.setIfInBounds i true) (a.put d v) w) :
    wpOp P ops (Only R) i (fun a' w' => S w' ∧ wpAnyH P .any ops (Only R) S fuel (listed.setIfInBounds i true) a' w') a w := by
  subst hd
  unfold wpOp
  rw [opOf_some hi]
  simp only [hw, if_true]
  refine .inl ?_
  have he : (execOp a.eval (opOf ops i)).run P w = .ok (.value v) w := y_look (S := fun W => W = w) ho hx hy (fun W hW => by rw [hW]; exact hv) w rfl
  unfold Oper.wp
  rw [he, Oper.upon_value]
  exact ⟨hS, h⟩
end
end Go.Proofs.YtbghokdlnnaeeaaGreat.Rg

/- The regions of package disk's six calls, step by step. -/
namespace Go.Proofs.YtbghokdlnnaeeaaGreat.Dk
open Go.RowKit Tx Pm Pl Pr
set_option linter.unusedVariables false

set_option maxRecDepth 100000 in
set_option maxHeartbeats 2000000 in
theorem regMkdir (ops : Array Oper) (hops : ops = (Rg.opsOf Tryz.f32 1)) (id : Nat) (bd bp : Nat) (dv : Value) (p : ByteArray) (r X : Nat) {u0 u1 u4 u5 u6 u7 u8 u9 u10 : Value} (w : World) (A B : World → Prop)
    (hS : (fun W => Cap W bd dv ∧ Cap W bp (.string p)) w.drew) (hm : Calls Tryz.prog 64 #[dv, .string p] w.drew fun e w' => e = .returned (.int .i64 (r : Nat)) ∧ A w') (hAS : ∀ W, A W → (fun W => Cap W bd dv ∧ Cap W bp (.string p)) W)
    (hst : ∀ W, A W → Calls Tryz.prog 58 #[dv, .int .i64 (r : Nat), .func (.func 65) #[] #[.pointer (some ⟨bd, 0, none⟩), .pointer (some ⟨bp, 0, none⟩)]] W fun e w' => e = .returned (.int .i64 (X : Nat)) ∧ B w') (hBS : ∀ W, B W → (fun W => Cap W bd dv ∧ Cap W bp (.string p)) W) :
    (Code.region id ops true).wp Tryz.prog (Rg.Only fun a' w' => a' = ⟨#[u0, u1, (.pointer (some ⟨bd, 0, none⟩)), (.pointer (some ⟨bp, 0, none⟩)), (.int .i64 (X : Nat)), dv, dv, (.string p), (.int .i64 (r : Nat)), .func (Fn.func 65) #[] #[(.pointer (some ⟨bd, 0, none⟩)), (.pointer (some ⟨bp, 0, none⟩))], (.int .i64 (X : Nat))], []⟩ ∧ B w') ⟨#[u0, u1, (.pointer (some ⟨bd, 0, none⟩)), (.pointer (some ⟨bp, 0, none⟩)), u4, u5, u6, u7, u8, u9, u10], []⟩ w := by
  subst hops
  have hNS : Region.noSelect (Rg.opsOf Tryz.f32 1) = true := by kernel_rfl
  refine wp_region_held_drew (S := (fun W => Cap W bd dv ∧ Cap W bp (.string p))) (by kernel_rfl) hS (fun hHeld => ?_)
  rw [show (Rg.opsOf Tryz.f32 1).size = 7 by kernel_rfl]
  refine Rg.take (ops := (Rg.opsOf Tryz.f32 1)) 0 (some 5) (dv) hNS (by kernel_rfl) (by kernel_rfl) (by kernel_rfl) (by kernel_rfl) (by kernel_rfl) hHeld (Rg.y_load (T := 23) (x := (Operand.tmp 2)) (vx := (.pointer (some ⟨bd, 0, none⟩))) (by kernel_rfl) (by kernel_rfl) ?_) ?_
  · (intro w hSw; obtain ⟨s0, s1⟩ := hSw; unfold Cap at *; go_simp)
  refine Rg.take (ops := (Rg.opsOf Tryz.f32 1)) 1 (some 6) (dv) hNS (by kernel_rfl) (by kernel_rfl) (by kernel_rfl) (by kernel_rfl) (by kernel_rfl) hHeld (Rg.y_load (T := 23) (x := (Operand.tmp 2)) (vx := (.pointer (some ⟨bd, 0, none⟩))) (by kernel_rfl) (by kernel_rfl) ?_) ?_
  · (intro w hSw; obtain ⟨s0, s1⟩ := hSw; unfold Cap at *; go_simp)
  refine Rg.take (ops := (Rg.opsOf Tryz.f32 1)) 2 (some 7) ((.string p)) hNS (by kernel_rfl) (by kernel_rfl) (by kernel_rfl) (by kernel_rfl) (by kernel_rfl) hHeld (Rg.y_load (T := 9) (x := (Operand.tmp 3)) (vx := (.pointer (some ⟨bp, 0, none⟩))) (by kernel_rfl) (by kernel_rfl) ?_) ?_
  · (intro w hSw; obtain ⟨s0, s1⟩ := hSw; unfold Cap at *; go_simp)
  refine Rg.take (ops := (Rg.opsOf Tryz.f32 1)) 4 (some 9) (.func (Fn.func 65) #[] #[(.pointer (some ⟨bd, 0, none⟩)), (.pointer (some ⟨bp, 0, none⟩))]) hNS (by kernel_rfl) (by kernel_rfl) (by kernel_rfl) (by kernel_rfl) (by kernel_rfl) hHeld (Rg.y_func (f := Fn.func 65) (xs := #[]) (ys := #[Operand.tmp 2, Operand.tmp 3]) (vs := #[]) (us := #[(.pointer (some ⟨bd, 0, none⟩)), (.pointer (some ⟨bp, 0, none⟩))]) (by kernel_rfl) (by kernel_rfl) (by kernel_rfl)) ?_
  refine Rg.call (ops := (Rg.opsOf Tryz.f32 1)) (fn := Tryz.f64) (xs := #[Operand.tmp 6, Operand.tmp 7]) (ats := #[23, 9]) 3 (some 8) 64 #[dv, (.string p)] (by kernel_rfl) (by kernel_rfl) (by kernel_rfl) (by kernel_rfl) (by kernel_rfl) Tryz.func64 (by kernel_rfl) (by kernel_rfl) (by kernel_rfl) ?_
  refine hm.mono ?_
  rintro e w5 ⟨rfl, hA5⟩
  refine ⟨_, rfl, hAS _ hA5, fun hHeld => ?_⟩
  refine Rg.call (ops := (Rg.opsOf Tryz.f32 1)) (fn := Tryz.f58) (xs := #[Operand.tmp 5, Operand.tmp 8, Operand.tmp 9]) (ats := #[23, 30, 1]) 5 (some 10) 58 #[dv, (.int .i64 (r : Nat)), .func (Fn.func 65) #[] #[(.pointer (some ⟨bd, 0, none⟩)), (.pointer (some ⟨bp, 0, none⟩))]] (by kernel_rfl) (by kernel_rfl) (by kernel_rfl) (by kernel_rfl) (by kernel_rfl) Tryz.func58 (by kernel_rfl) (by kernel_rfl) (by kernel_rfl) ?_
  refine (hst _ hA5).mono ?_
  rintro e w6 ⟨rfl, hB6⟩
  refine ⟨_, rfl, hBS _ hB6, fun hHeld => ?_⟩
  refine Rg.take (ops := (Rg.opsOf Tryz.f32 1)) 6 (some 4) ((.int .i64 (X : Nat))) hNS (by kernel_rfl) (by kernel_rfl) (by kernel_rfl) (by kernel_rfl) (by kernel_rfl) hHeld (Rg.y_move (x := (Operand.tmp 10)) (Or.inr (by kernel_rfl)) (by kernel_rfl)) ?_
  refine Rg.done (ops := (Rg.opsOf Tryz.f32 1)) (by kernel_rfl) ?_
  exact ⟨by kernel_rfl, hB6⟩

set_option maxRecDepth 100000 in
set_option maxHeartbeats 2000000 in
theorem regWrite (ops : Array Oper) (hops : ops = (Rg.opsOf Tryz.f80 1)) (id : Nat) (bd bp bq : Nat) (dv : Value) (p q : ByteArray) (r X : Nat) {u0 u1 u2 u6 u7 u8 u9 u10 u11 u12 u13 : Value} (w : World) (A B : World → Prop)
    (hS : (fun W => Cap W bd dv ∧ Cap W bp (.string p) ∧ Cap W bq (.string q)) w.drew) (hm : Calls Tryz.prog 99 #[dv, .string p, .string q] w.drew fun e w' => e = .returned (.int .i64 (r : Nat)) ∧ A w') (hAS : ∀ W, A W → (fun W => Cap W bd dv ∧ Cap W bp (.string p) ∧ Cap W bq (.string q)) W)
    (hst : ∀ W, A W → Calls Tryz.prog 58 #[dv, .int .i64 (r : Nat), .func (.func 100) #[] #[.pointer (some ⟨bd, 0, none⟩), .pointer (some ⟨bp, 0, none⟩), .pointer (some ⟨bq, 0, none⟩)]] W fun e w' => e = .returned (.int .i64 (X : Nat)) ∧ B w') (hBS : ∀ W, B W → (fun W => Cap W bd dv ∧ Cap W bp (.string p) ∧ Cap W bq (.string q)) W) :
    (Code.region id ops true).wp Tryz.prog (Rg.Only fun a' w' => a' = ⟨#[u0, u1, u2, (.pointer (some ⟨bd, 0, none⟩)), (.pointer (some ⟨bp, 0, none⟩)), (.pointer (some ⟨bq, 0, none⟩)), (.int .i64 (X : Nat)), dv, dv, (.string p), (.string q), (.int .i64 (r : Nat)), .func (Fn.func 100) #[] #[(.pointer (some ⟨bd, 0, none⟩)), (.pointer (some ⟨bp, 0, none⟩)), (.pointer (some ⟨bq, 0, none⟩))], (.int .i64 (X : Nat))], []⟩ ∧ B w') ⟨#[u0, u1, u2, (.pointer (some ⟨bd, 0, none⟩)), (.pointer (some ⟨bp, 0, none⟩)), (.pointer (some ⟨bq, 0, none⟩)), u6, u7, u8, u9, u10, u11, u12, u13], []⟩ w := by
  subst hops
  have hNS : Region.noSelect (Rg.opsOf Tryz.f80 1) = true := by kernel_rfl
  refine wp_region_held_drew (S := (fun W => Cap W bd dv ∧ Cap W bp (.string p) ∧ Cap W bq (.string q))) (by kernel_rfl) hS (fun hHeld => ?_)
  rw [show (Rg.opsOf Tryz.f80 1).size = 8 by kernel_rfl]
  refine Rg.take (ops := (Rg.opsOf Tryz.f80 1)) 0 (some 7) (dv) hNS (by kernel_rfl) (by kernel_rfl) (by kernel_rfl) (by kernel_rfl) (by kernel_rfl) hHeld (Rg.y_load (T := 23) (x := (Operand.tmp 3)) (vx := (.pointer (some ⟨bd, 0, none⟩))) (by kernel_rfl) (by kernel_rfl) ?_) ?_
  · (intro w hSw; obtain ⟨s0, s1, s2⟩ := hSw; unfold Cap at *; go_simp)
  refine Rg.take (ops := (Rg.opsOf Tryz.f80 1)) 1 (some 8) (dv) hNS (by kernel_rfl) (by kernel_rfl) (by kernel_rfl) (by kernel_rfl) (by kernel_rfl) hHeld (Rg.y_load (T := 23) (x := (Operand.tmp 3)) (vx := (.pointer (some ⟨bd, 0, none⟩))) (by kernel_rfl) (by kernel_rfl) ?_) ?_
  · (intro w hSw; obtain ⟨s0, s1, s2⟩ := hSw; unfold Cap at *; go_simp)
  refine Rg.take (ops := (Rg.opsOf Tryz.f80 1)) 2 (some 9) ((.string p)) hNS (by kernel_rfl) (by kernel_rfl) (by kernel_rfl) (by kernel_rfl) (by kernel_rfl) hHeld (Rg.y_load (T := 9) (x := (Operand.tmp 4)) (vx := (.pointer (some ⟨bp, 0, none⟩))) (by kernel_rfl) (by kernel_rfl) ?_) ?_
  · (intro w hSw; obtain ⟨s0, s1, s2⟩ := hSw; unfold Cap at *; go_simp)
  refine Rg.take (ops := (Rg.opsOf Tryz.f80 1)) 3 (some 10) ((.string q)) hNS (by kernel_rfl) (by kernel_rfl) (by kernel_rfl) (by kernel_rfl) (by kernel_rfl) hHeld (Rg.y_load (T := 9) (x := (Operand.tmp 5)) (vx := (.pointer (some ⟨bq, 0, none⟩))) (by kernel_rfl) (by kernel_rfl) ?_) ?_
  · (intro w hSw; obtain ⟨s0, s1, s2⟩ := hSw; unfold Cap at *; go_simp)
  refine Rg.take (ops := (Rg.opsOf Tryz.f80 1)) 5 (some 12) (.func (Fn.func 100) #[] #[(.pointer (some ⟨bd, 0, none⟩)), (.pointer (some ⟨bp, 0, none⟩)), (.pointer (some ⟨bq, 0, none⟩))]) hNS (by kernel_rfl) (by kernel_rfl) (by kernel_rfl) (by kernel_rfl) (by kernel_rfl) hHeld (Rg.y_func (f := Fn.func 100) (xs := #[]) (ys := #[Operand.tmp 3, Operand.tmp 4, Operand.tmp 5]) (vs := #[]) (us := #[(.pointer (some ⟨bd, 0, none⟩)), (.pointer (some ⟨bp, 0, none⟩)), (.pointer (some ⟨bq, 0, none⟩))]) (by kernel_rfl) (by kernel_rfl) (by kernel_rfl)) ?_
  refine Rg.call (ops := (Rg.opsOf Tryz.f80 1)) (fn := Tryz.f99) (xs := #[Operand.tmp 8, Operand.tmp 9, Operand.tmp 10]) (ats := #[23, 9, 9]) 4 (some 11) 99 #[dv, (.string p), (.string q)] (by kernel_rfl) (by kernel_rfl) (by kernel_rfl) (by kernel_rfl) (by kernel_rfl) Tryz.func99 (by kernel_rfl) (by kernel_rfl) (by kernel_rfl) ?_
  refine hm.mono ?_
  rintro e w5 ⟨rfl, hA5⟩
  refine ⟨_, rfl, hAS _ hA5, fun hHeld => ?_⟩
  refine Rg.call (ops := (Rg.opsOf Tryz.f80 1)) (fn := Tryz.f58) (xs := #[Operand.tmp 7, Operand.tmp 11, Operand.tmp 12]) (ats := #[23, 30, 1]) 6 (some 13) 58 #[dv, (.int .i64 (r : Nat)), .func (Fn.func 100) #[] #[(.pointer (some ⟨bd, 0, none⟩)), (.pointer (some ⟨bp, 0, none⟩)), (.pointer (some ⟨bq, 0, none⟩))]] (by kernel_rfl) (by kernel_rfl) (by kernel_rfl) (by kernel_rfl) (by kernel_rfl) Tryz.func58 (by kernel_rfl) (by kernel_rfl) (by kernel_rfl) ?_
  refine (hst _ hA5).mono ?_
  rintro e w6 ⟨rfl, hB6⟩
  refine ⟨_, rfl, hBS _ hB6, fun hHeld => ?_⟩
  refine Rg.take (ops := (Rg.opsOf Tryz.f80 1)) 7 (some 6) ((.int .i64 (X : Nat))) hNS (by kernel_rfl) (by kernel_rfl) (by kernel_rfl) (by kernel_rfl) (by kernel_rfl) hHeld (Rg.y_move (x := (Operand.tmp 13)) (Or.inr (by kernel_rfl)) (by kernel_rfl)) ?_
  refine Rg.done (ops := (Rg.opsOf Tryz.f80 1)) (by kernel_rfl) ?_
  exact ⟨by kernel_rfl, hB6⟩

set_option maxRecDepth 100000 in
set_option maxHeartbeats 2000000 in
theorem regAppend (ops : Array Oper) (hops : ops = (Rg.opsOf Tryz.f21 1)) (id : Nat) (bd bp bq : Nat) (dv : Value) (p q : ByteArray) (r X : Nat) {u0 u1 u2 u6 u7 u8 u9 u10 u11 u12 u13 : Value} (w : World) (A B : World → Prop)
    (hS : (fun W => Cap W bd dv ∧ Cap W bp (.string p) ∧ Cap W bq (.string q)) w.drew) (hm : Calls Tryz.prog 59 #[dv, .string p, .string q] w.drew fun e w' => e = .returned (.int .i64 (r : Nat)) ∧ A w') (hAS : ∀ W, A W → (fun W => Cap W bd dv ∧ Cap W bp (.string p) ∧ Cap W bq (.string q)) W)
    (hst : ∀ W, A W → Calls Tryz.prog 58 #[dv, .int .i64 (r : Nat), .func (.func 60) #[] #[.pointer (some ⟨bd, 0, none⟩), .pointer (some ⟨bp, 0, none⟩), .pointer (some ⟨bq, 0, none⟩)]] W fun e w' => e = .returned (.int .i64 (X : Nat)) ∧ B w') (hBS : ∀ W, B W → (fun W => Cap W bd dv ∧ Cap W bp (.string p) ∧ Cap W bq (.string q)) W) :
    (Code.region id ops true).wp Tryz.prog (Rg.Only fun a' w' => a' = ⟨#[u0, u1, u2, (.pointer (some ⟨bd, 0, none⟩)), (.pointer (some ⟨bp, 0, none⟩)), (.pointer (some ⟨bq, 0, none⟩)), (.int .i64 (X : Nat)), dv, dv, (.string p), (.string q), (.int .i64 (r : Nat)), .func (Fn.func 60) #[] #[(.pointer (some ⟨bd, 0, none⟩)), (.pointer (some ⟨bp, 0, none⟩)), (.pointer (some ⟨bq, 0, none⟩))], (.int .i64 (X : Nat))], []⟩ ∧ B w') ⟨#[u0, u1, u2, (.pointer (some ⟨bd, 0, none⟩)), (.pointer (some ⟨bp, 0, none⟩)), (.pointer (some ⟨bq, 0, none⟩)), u6, u7, u8, u9, u10, u11, u12, u13], []⟩ w := by
  subst hops
  have hNS : Region.noSelect (Rg.opsOf Tryz.f21 1) = true := by kernel_rfl
  refine wp_region_held_drew (S := (fun W => Cap W bd dv ∧ Cap W bp (.string p) ∧ Cap W bq (.string q))) (by kernel_rfl) hS (fun hHeld => ?_)
  rw [show (Rg.opsOf Tryz.f21 1).size = 8 by kernel_rfl]
  refine Rg.take (ops := (Rg.opsOf Tryz.f21 1)) 0 (some 7) (dv) hNS (by kernel_rfl) (by kernel_rfl) (by kernel_rfl) (by kernel_rfl) (by kernel_rfl) hHeld (Rg.y_load (T := 23) (x := (Operand.tmp 3)) (vx := (.pointer (some ⟨bd, 0, none⟩))) (by kernel_rfl) (by kernel_rfl) ?_) ?_
  · (intro w hSw; obtain ⟨s0, s1, s2⟩ := hSw; unfold Cap at *; go_simp)
  refine Rg.take (ops := (Rg.opsOf Tryz.f21 1)) 1 (some 8) (dv) hNS (by kernel_rfl) (by kernel_rfl) (by kernel_rfl) (by kernel_rfl) (by kernel_rfl) hHeld (Rg.y_load (T := 23) (x := (Operand.tmp 3)) (vx := (.pointer (some ⟨bd, 0, none⟩))) (by kernel_rfl) (by kernel_rfl) ?_) ?_
  · (intro w hSw; obtain ⟨s0, s1, s2⟩ := hSw; unfold Cap at *; go_simp)
  refine Rg.take (ops := (Rg.opsOf Tryz.f21 1)) 2 (some 9) ((.string p)) hNS (by kernel_rfl) (by kernel_rfl) (by kernel_rfl) (by kernel_rfl) (by kernel_rfl) hHeld (Rg.y_load (T := 9) (x := (Operand.tmp 4)) (vx := (.pointer (some ⟨bp, 0, none⟩))) (by kernel_rfl) (by kernel_rfl) ?_) ?_
  · (intro w hSw; obtain ⟨s0, s1, s2⟩ := hSw; unfold Cap at *; go_simp)
  refine Rg.take (ops := (Rg.opsOf Tryz.f21 1)) 3 (some 10) ((.string q)) hNS (by kernel_rfl) (by kernel_rfl) (by kernel_rfl) (by kernel_rfl) (by kernel_rfl) hHeld (Rg.y_load (T := 9) (x := (Operand.tmp 5)) (vx := (.pointer (some ⟨bq, 0, none⟩))) (by kernel_rfl) (by kernel_rfl) ?_) ?_
  · (intro w hSw; obtain ⟨s0, s1, s2⟩ := hSw; unfold Cap at *; go_simp)
  refine Rg.take (ops := (Rg.opsOf Tryz.f21 1)) 5 (some 12) (.func (Fn.func 60) #[] #[(.pointer (some ⟨bd, 0, none⟩)), (.pointer (some ⟨bp, 0, none⟩)), (.pointer (some ⟨bq, 0, none⟩))]) hNS (by kernel_rfl) (by kernel_rfl) (by kernel_rfl) (by kernel_rfl) (by kernel_rfl) hHeld (Rg.y_func (f := Fn.func 60) (xs := #[]) (ys := #[Operand.tmp 3, Operand.tmp 4, Operand.tmp 5]) (vs := #[]) (us := #[(.pointer (some ⟨bd, 0, none⟩)), (.pointer (some ⟨bp, 0, none⟩)), (.pointer (some ⟨bq, 0, none⟩))]) (by kernel_rfl) (by kernel_rfl) (by kernel_rfl)) ?_
  refine Rg.call (ops := (Rg.opsOf Tryz.f21 1)) (fn := Tryz.f59) (xs := #[Operand.tmp 8, Operand.tmp 9, Operand.tmp 10]) (ats := #[23, 9, 9]) 4 (some 11) 59 #[dv, (.string p), (.string q)] (by kernel_rfl) (by kernel_rfl) (by kernel_rfl) (by kernel_rfl) (by kernel_rfl) Tryz.func59 (by kernel_rfl) (by kernel_rfl) (by kernel_rfl) ?_
  refine hm.mono ?_
  rintro e w5 ⟨rfl, hA5⟩
  refine ⟨_, rfl, hAS _ hA5, fun hHeld => ?_⟩
  refine Rg.call (ops := (Rg.opsOf Tryz.f21 1)) (fn := Tryz.f58) (xs := #[Operand.tmp 7, Operand.tmp 11, Operand.tmp 12]) (ats := #[23, 30, 1]) 6 (some 13) 58 #[dv, (.int .i64 (r : Nat)), .func (Fn.func 60) #[] #[(.pointer (some ⟨bd, 0, none⟩)), (.pointer (some ⟨bp, 0, none⟩)), (.pointer (some ⟨bq, 0, none⟩))]] (by kernel_rfl) (by kernel_rfl) (by kernel_rfl) (by kernel_rfl) (by kernel_rfl) Tryz.func58 (by kernel_rfl) (by kernel_rfl) (by kernel_rfl) ?_
  refine (hst _ hA5).mono ?_
  rintro e w6 ⟨rfl, hB6⟩
  refine ⟨_, rfl, hBS _ hB6, fun hHeld => ?_⟩
  refine Rg.take (ops := (Rg.opsOf Tryz.f21 1)) 7 (some 6) ((.int .i64 (X : Nat))) hNS (by kernel_rfl) (by kernel_rfl) (by kernel_rfl) (by kernel_rfl) (by kernel_rfl) hHeld (Rg.y_move (x := (Operand.tmp 13)) (Or.inr (by kernel_rfl)) (by kernel_rfl)) ?_
  refine Rg.done (ops := (Rg.opsOf Tryz.f21 1)) (by kernel_rfl) ?_
  exact ⟨by kernel_rfl, hB6⟩

set_option maxRecDepth 100000 in
set_option maxHeartbeats 2000000 in
theorem regSync (ops : Array Oper) (hops : ops = (Rg.opsOf Tryz.f42 1)) (id : Nat) (bd bp : Nat) (dv : Value) (p : ByteArray) (r X : Nat) {u0 u1 u4 u5 u6 u7 u8 u9 u10 : Value} (w : World) (A B : World → Prop)
    (hS : (fun W => Cap W bd dv ∧ Cap W bp (.string p)) w.drew) (hm : Calls Tryz.prog 53 #[dv, .string p] w.drew fun e w' => e = .returned (.int .i64 (r : Nat)) ∧ A w') (hAS : ∀ W, A W → (fun W => Cap W bd dv ∧ Cap W bp (.string p)) W)
    (hst : ∀ W, A W → Calls Tryz.prog 58 #[dv, .int .i64 (r : Nat), .func (.func 77) #[] #[.pointer (some ⟨bd, 0, none⟩), .pointer (some ⟨bp, 0, none⟩)]] W fun e w' => e = .returned (.int .i64 (X : Nat)) ∧ B w') (hBS : ∀ W, B W → (fun W => Cap W bd dv ∧ Cap W bp (.string p)) W) :
    (Code.region id ops true).wp Tryz.prog (Rg.Only fun a' w' => a' = ⟨#[u0, u1, (.pointer (some ⟨bd, 0, none⟩)), (.pointer (some ⟨bp, 0, none⟩)), (.int .i64 (X : Nat)), dv, dv, (.string p), (.int .i64 (r : Nat)), .func (Fn.func 77) #[] #[(.pointer (some ⟨bd, 0, none⟩)), (.pointer (some ⟨bp, 0, none⟩))], (.int .i64 (X : Nat))], []⟩ ∧ B w') ⟨#[u0, u1, (.pointer (some ⟨bd, 0, none⟩)), (.pointer (some ⟨bp, 0, none⟩)), u4, u5, u6, u7, u8, u9, u10], []⟩ w := by
  subst hops
  have hNS : Region.noSelect (Rg.opsOf Tryz.f42 1) = true := by kernel_rfl
  refine wp_region_held_drew (S := (fun W => Cap W bd dv ∧ Cap W bp (.string p))) (by kernel_rfl) hS (fun hHeld => ?_)
  rw [show (Rg.opsOf Tryz.f42 1).size = 7 by kernel_rfl]
  refine Rg.take (ops := (Rg.opsOf Tryz.f42 1)) 0 (some 5) (dv) hNS (by kernel_rfl) (by kernel_rfl) (by kernel_rfl) (by kernel_rfl) (by kernel_rfl) hHeld (Rg.y_load (T := 23) (x := (Operand.tmp 2)) (vx := (.pointer (some ⟨bd, 0, none⟩))) (by kernel_rfl) (by kernel_rfl) ?_) ?_
  · (intro w hSw; obtain ⟨s0, s1⟩ := hSw; unfold Cap at *; go_simp)
  refine Rg.take (ops := (Rg.opsOf Tryz.f42 1)) 1 (some 6) (dv) hNS (by kernel_rfl) (by kernel_rfl) (by kernel_rfl) (by kernel_rfl) (by kernel_rfl) hHeld (Rg.y_load (T := 23) (x := (Operand.tmp 2)) (vx := (.pointer (some ⟨bd, 0, none⟩))) (by kernel_rfl) (by kernel_rfl) ?_) ?_
  · (intro w hSw; obtain ⟨s0, s1⟩ := hSw; unfold Cap at *; go_simp)
  refine Rg.take (ops := (Rg.opsOf Tryz.f42 1)) 2 (some 7) ((.string p)) hNS (by kernel_rfl) (by kernel_rfl) (by kernel_rfl) (by kernel_rfl) (by kernel_rfl) hHeld (Rg.y_load (T := 9) (x := (Operand.tmp 3)) (vx := (.pointer (some ⟨bp, 0, none⟩))) (by kernel_rfl) (by kernel_rfl) ?_) ?_
  · (intro w hSw; obtain ⟨s0, s1⟩ := hSw; unfold Cap at *; go_simp)
  refine Rg.take (ops := (Rg.opsOf Tryz.f42 1)) 4 (some 9) (.func (Fn.func 77) #[] #[(.pointer (some ⟨bd, 0, none⟩)), (.pointer (some ⟨bp, 0, none⟩))]) hNS (by kernel_rfl) (by kernel_rfl) (by kernel_rfl) (by kernel_rfl) (by kernel_rfl) hHeld (Rg.y_func (f := Fn.func 77) (xs := #[]) (ys := #[Operand.tmp 2, Operand.tmp 3]) (vs := #[]) (us := #[(.pointer (some ⟨bd, 0, none⟩)), (.pointer (some ⟨bp, 0, none⟩))]) (by kernel_rfl) (by kernel_rfl) (by kernel_rfl)) ?_
  refine Rg.call (ops := (Rg.opsOf Tryz.f42 1)) (fn := Tryz.f53) (xs := #[Operand.tmp 6, Operand.tmp 7]) (ats := #[23, 9]) 3 (some 8) 53 #[dv, (.string p)] (by kernel_rfl) (by kernel_rfl) (by kernel_rfl) (by kernel_rfl) (by kernel_rfl) Tryz.func53 (by kernel_rfl) (by kernel_rfl) (by kernel_rfl) ?_
  refine hm.mono ?_
  rintro e w5 ⟨rfl, hA5⟩
  refine ⟨_, rfl, hAS _ hA5, fun hHeld => ?_⟩
  refine Rg.call (ops := (Rg.opsOf Tryz.f42 1)) (fn := Tryz.f58) (xs := #[Operand.tmp 5, Operand.tmp 8, Operand.tmp 9]) (ats := #[23, 30, 1]) 5 (some 10) 58 #[dv, (.int .i64 (r : Nat)), .func (Fn.func 77) #[] #[(.pointer (some ⟨bd, 0, none⟩)), (.pointer (some ⟨bp, 0, none⟩))]] (by kernel_rfl) (by kernel_rfl) (by kernel_rfl) (by kernel_rfl) (by kernel_rfl) Tryz.func58 (by kernel_rfl) (by kernel_rfl) (by kernel_rfl) ?_
  refine (hst _ hA5).mono ?_
  rintro e w6 ⟨rfl, hB6⟩
  refine ⟨_, rfl, hBS _ hB6, fun hHeld => ?_⟩
  refine Rg.take (ops := (Rg.opsOf Tryz.f42 1)) 6 (some 4) ((.int .i64 (X : Nat))) hNS (by kernel_rfl) (by kernel_rfl) (by kernel_rfl) (by kernel_rfl) (by kernel_rfl) hHeld (Rg.y_move (x := (Operand.tmp 10)) (Or.inr (by kernel_rfl)) (by kernel_rfl)) ?_
  refine Rg.done (ops := (Rg.opsOf Tryz.f42 1)) (by kernel_rfl) ?_
  exact ⟨by kernel_rfl, hB6⟩

set_option maxRecDepth 100000 in
set_option maxHeartbeats 2000000 in
theorem regRename (ops : Array Oper) (hops : ops = (Rg.opsOf Tryz.f81 1)) (id : Nat) (bd bp bq : Nat) (dv : Value) (p q : ByteArray) (r X : Nat) {u0 u1 u2 u6 u7 u8 u9 u10 u11 u12 u13 : Value} (w : World) (A B : World → Prop)
    (hS : (fun W => Cap W bd dv ∧ Cap W bp (.string p) ∧ Cap W bq (.string q)) w.drew) (hm : Calls Tryz.prog 101 #[dv, .string p, .string q] w.drew fun e w' => e = .returned (.int .i64 (r : Nat)) ∧ A w') (hAS : ∀ W, A W → (fun W => Cap W bd dv ∧ Cap W bp (.string p) ∧ Cap W bq (.string q)) W)
    (hst : ∀ W, A W → Calls Tryz.prog 58 #[dv, .int .i64 (r : Nat), .func (.func 102) #[] #[.pointer (some ⟨bd, 0, none⟩), .pointer (some ⟨bp, 0, none⟩), .pointer (some ⟨bq, 0, none⟩)]] W fun e w' => e = .returned (.int .i64 (X : Nat)) ∧ B w') (hBS : ∀ W, B W → (fun W => Cap W bd dv ∧ Cap W bp (.string p) ∧ Cap W bq (.string q)) W) :
    (Code.region id ops true).wp Tryz.prog (Rg.Only fun a' w' => a' = ⟨#[u0, u1, u2, (.pointer (some ⟨bd, 0, none⟩)), (.pointer (some ⟨bp, 0, none⟩)), (.pointer (some ⟨bq, 0, none⟩)), (.int .i64 (X : Nat)), dv, dv, (.string p), (.string q), (.int .i64 (r : Nat)), .func (Fn.func 102) #[] #[(.pointer (some ⟨bd, 0, none⟩)), (.pointer (some ⟨bp, 0, none⟩)), (.pointer (some ⟨bq, 0, none⟩))], (.int .i64 (X : Nat))], []⟩ ∧ B w') ⟨#[u0, u1, u2, (.pointer (some ⟨bd, 0, none⟩)), (.pointer (some ⟨bp, 0, none⟩)), (.pointer (some ⟨bq, 0, none⟩)), u6, u7, u8, u9, u10, u11, u12, u13], []⟩ w := by
  subst hops
  have hNS : Region.noSelect (Rg.opsOf Tryz.f81 1) = true := by kernel_rfl
  refine wp_region_held_drew (S := (fun W => Cap W bd dv ∧ Cap W bp (.string p) ∧ Cap W bq (.string q))) (by kernel_rfl) hS (fun hHeld => ?_)
  rw [show (Rg.opsOf Tryz.f81 1).size = 8 by kernel_rfl]
  refine Rg.take (ops := (Rg.opsOf Tryz.f81 1)) 0 (some 7) (dv) hNS (by kernel_rfl) (by kernel_rfl) (by kernel_rfl) (by kernel_rfl) (by kernel_rfl) hHeld (Rg.y_load (T := 23) (x := (Operand.tmp 3)) (vx := (.pointer (some ⟨bd, 0, none⟩))) (by kernel_rfl) (by kernel_rfl) ?_) ?_
  · (intro w hSw; obtain ⟨s0, s1, s2⟩ := hSw; unfold Cap at *; go_simp)
  refine Rg.take (ops := (Rg.opsOf Tryz.f81 1)) 1 (some 8) (dv) hNS (by kernel_rfl) (by kernel_rfl) (by kernel_rfl) (by kernel_rfl) (by kernel_rfl) hHeld (Rg.y_load (T := 23) (x := (Operand.tmp 3)) (vx := (.pointer (some ⟨bd, 0, none⟩))) (by kernel_rfl) (by kernel_rfl) ?_) ?_
  · (intro w hSw; obtain ⟨s0, s1, s2⟩ := hSw; unfold Cap at *; go_simp)
  refine Rg.take (ops := (Rg.opsOf Tryz.f81 1)) 2 (some 9) ((.string p)) hNS (by kernel_rfl) (by kernel_rfl) (by kernel_rfl) (by kernel_rfl) (by kernel_rfl) hHeld (Rg.y_load (T := 9) (x := (Operand.tmp 4)) (vx := (.pointer (some ⟨bp, 0, none⟩))) (by kernel_rfl) (by kernel_rfl) ?_) ?_
  · (intro w hSw; obtain ⟨s0, s1, s2⟩ := hSw; unfold Cap at *; go_simp)
  refine Rg.take (ops := (Rg.opsOf Tryz.f81 1)) 3 (some 10) ((.string q)) hNS (by kernel_rfl) (by kernel_rfl) (by kernel_rfl) (by kernel_rfl) (by kernel_rfl) hHeld (Rg.y_load (T := 9) (x := (Operand.tmp 5)) (vx := (.pointer (some ⟨bq, 0, none⟩))) (by kernel_rfl) (by kernel_rfl) ?_) ?_
  · (intro w hSw; obtain ⟨s0, s1, s2⟩ := hSw; unfold Cap at *; go_simp)
  refine Rg.take (ops := (Rg.opsOf Tryz.f81 1)) 5 (some 12) (.func (Fn.func 102) #[] #[(.pointer (some ⟨bd, 0, none⟩)), (.pointer (some ⟨bp, 0, none⟩)), (.pointer (some ⟨bq, 0, none⟩))]) hNS (by kernel_rfl) (by kernel_rfl) (by kernel_rfl) (by kernel_rfl) (by kernel_rfl) hHeld (Rg.y_func (f := Fn.func 102) (xs := #[]) (ys := #[Operand.tmp 3, Operand.tmp 4, Operand.tmp 5]) (vs := #[]) (us := #[(.pointer (some ⟨bd, 0, none⟩)), (.pointer (some ⟨bp, 0, none⟩)), (.pointer (some ⟨bq, 0, none⟩))]) (by kernel_rfl) (by kernel_rfl) (by kernel_rfl)) ?_
  refine Rg.call (ops := (Rg.opsOf Tryz.f81 1)) (fn := Tryz.f101) (xs := #[Operand.tmp 8, Operand.tmp 9, Operand.tmp 10]) (ats := #[23, 9, 9]) 4 (some 11) 101 #[dv, (.string p), (.string q)] (by kernel_rfl) (by kernel_rfl) (by kernel_rfl) (by kernel_rfl) (by kernel_rfl) Tryz.func101 (by kernel_rfl) (by kernel_rfl) (by kernel_rfl) ?_
  refine hm.mono ?_
  rintro e w5 ⟨rfl, hA5⟩
  refine ⟨_, rfl, hAS _ hA5, fun hHeld => ?_⟩
  refine Rg.call (ops := (Rg.opsOf Tryz.f81 1)) (fn := Tryz.f58) (xs := #[Operand.tmp 7, Operand.tmp 11, Operand.tmp 12]) (ats := #[23, 30, 1]) 6 (some 13) 58 #[dv, (.int .i64 (r : Nat)), .func (Fn.func 102) #[] #[(.pointer (some ⟨bd, 0, none⟩)), (.pointer (some ⟨bp, 0, none⟩)), (.pointer (some ⟨bq, 0, none⟩))]] (by kernel_rfl) (by kernel_rfl) (by kernel_rfl) (by kernel_rfl) (by kernel_rfl) Tryz.func58 (by kernel_rfl) (by kernel_rfl) (by kernel_rfl) ?_
  refine (hst _ hA5).mono ?_
  rintro e w6 ⟨rfl, hB6⟩
  refine ⟨_, rfl, hBS _ hB6, fun hHeld => ?_⟩
  refine Rg.take (ops := (Rg.opsOf Tryz.f81 1)) 7 (some 6) ((.int .i64 (X : Nat))) hNS (by kernel_rfl) (by kernel_rfl) (by kernel_rfl) (by kernel_rfl) (by kernel_rfl) hHeld (Rg.y_move (x := (Operand.tmp 13)) (Or.inr (by kernel_rfl)) (by kernel_rfl)) ?_
  refine Rg.done (ops := (Rg.opsOf Tryz.f81 1)) (by kernel_rfl) ?_
  exact ⟨by kernel_rfl, hB6⟩

end Go.Proofs.YtbghokdlnnaeeaaGreat.Dk

/- Drawn regions of mayWrite and mayRename, step by step. -/
namespace Go.Proofs.YtbghokdlnnaeeaaGreat.Dk
open Go.RowKit Tx Pm Pl Pr
set_option linter.unusedVariables false

set_option maxRecDepth 100000 in
set_option maxHeartbeats 2000000 in
theorem regMayWrite (ops : Array Oper) (hops : ops = (Rg.opsOf Tryz.f99 8)) (id : Nat) (b bi bl : Nat) (l : Int) (s : St) (p d V X0 X1 : ByteArray) (K X2 X3 : Int) (B : Bool) {u3 u4 u5 u6 u7 u8 u9 u10 u11 u12 u13 u14 u15 u16 u17 u18 u19 u20 u21 u22 u23 u24 u25 u26 u27 u28 u29 u30 u31 u32 u33 u34 u35 u36 u37 u38 u39 u40 u41 u42 u43 u44 : Value} (w : World) (h : Ia b bi bl l w s)
    (hlk : ∀ W, Ia b bi bl l W s → (Instr.lookup 76 (.map (some bi)) (.string p) false).run Tryz.prog W = .ok (.agg #[.int .i64 K, .string X0, .string X1, .int .i64 X2, .int .i64 X3]) W)
    (hsub : IntKind.i64.wrap ((d.size : Int) - (X0.size : Int)) = (d.size : Int) - (X0.size : Int))
    (cv : ∀ W, Calls Tryz.prog 86 #[.string p] W fun e w' => e = .returned (.string V) ∧ ∃ n, w' = W.drewN n)
    (cf : ∀ W, Ia b bi bl l W s → Calls Tryz.prog 85 #[.pointer (some ⟨b, 0, none⟩), .string V, .int .i64 ((d.size : Int) - (X0.size : Int))] W fun e w' => e = .returned (.bool B) ∧ Below W.heap.size W w') :
    (Code.region id ops true).wp Tryz.prog (Rg.Only fun a' w' => a' = ⟨#[(.pointer (some ⟨b, 0, none⟩)), (.string p), (.string d), u3, u4, u5, u6, u7, u8, u9, u10, u11, u12, u13, u14, u15, u16, u17, u18, u19, u20, u21, u22, u23, u24, u25, u26, u27, u28, (.bool B), (.pointer (some ⟨b, 0, none⟩)), (.string p), (.string V), (.string d), (.int .i64 (d.size : Int)), (.pointer (some ⟨b, 0, none⟩)), (.pointer (some ⟨b, 0, none⟩)), (.pointer (some ⟨b, 0, none⟩)), (.map (some bi)), (.string p), (.agg #[.int .i64 K, .string X0, .string X1, .int .i64 X2, .int .i64 X3]), (.string X0), (.int .i64 (X0.size : Int)), (.int .i64 ((d.size : Int) - (X0.size : Int))), (.bool B)], []⟩ ∧ Below w.heap.size w w') ⟨#[(.pointer (some ⟨b, 0, none⟩)), (.string p), (.string d), u3, u4, u5, u6, u7, u8, u9, u10, u11, u12, u13, u14, u15, u16, u17, u18, u19, u20, u21, u22, u23, u24, u25, u26, u27, u28, u29, u30, u31, u32, u33, u34, u35, u36, u37, u38, u39, u40, u41, u42, u43, u44], []⟩ w := by
  subst hops
  have hNS : Region.noSelect (Rg.opsOf Tryz.f99 8) = true := by kernel_rfl
  have h0 : Ia b bi bl l w.drew s ∧ Below w.heap.size w w.drew := ⟨h.below (Below.refl _ _).drew, (Below.refl _ _).drew⟩
  refine wp_region_held_drew (S := fun W => Ia b bi bl l W s ∧ Below w.heap.size w W) (by kernel_rfl) h0 (fun hHeld => ?_)
  rw [show (Rg.opsOf Tryz.f99 8).size = 16 by kernel_rfl]
  refine Rg.take (ops := (Rg.opsOf Tryz.f99 8)) 0 (some 30) ((.pointer (some ⟨b, 0, none⟩))) hNS (by kernel_rfl) (by kernel_rfl) (by kernel_rfl) (by kernel_rfl) (by kernel_rfl) hHeld (Rg.y_move (x := (Operand.tmp 0)) (Or.inl (by kernel_rfl)) (by kernel_rfl)) ?_
  refine Rg.take (ops := (Rg.opsOf Tryz.f99 8)) 1 (some 31) ((.string p)) hNS (by kernel_rfl) (by kernel_rfl) (by kernel_rfl) (by kernel_rfl) (by kernel_rfl) hHeld (Rg.y_move (x := (Operand.tmp 1)) (Or.inl (by kernel_rfl)) (by kernel_rfl)) ?_
  refine Rg.take (ops := (Rg.opsOf Tryz.f99 8)) 3 (some 33) ((.string d)) hNS (by kernel_rfl) (by kernel_rfl) (by kernel_rfl) (by kernel_rfl) (by kernel_rfl) hHeld (Rg.y_move (x := (Operand.tmp 2)) (Or.inl (by kernel_rfl)) (by kernel_rfl)) ?_
  refine Rg.take (ops := (Rg.opsOf Tryz.f99 8)) 4 (some 34) ((.int .i64 (d.size : Int))) hNS (by kernel_rfl) (by kernel_rfl) (by kernel_rfl) (by kernel_rfl) (by kernel_rfl) hHeld (Rg.y_len (x := (Operand.tmp 33)) (ats := #[9]) (vx := (.string d)) (n := d.size) (by kernel_rfl) (by kernel_rfl) ?_) ?_
  · (intro ty w hSw; go_simp)
  refine Rg.take (ops := (Rg.opsOf Tryz.f99 8)) 5 (some 35) ((.pointer (some ⟨b, 0, none⟩))) hNS (by kernel_rfl) (by kernel_rfl) (by kernel_rfl) (by kernel_rfl) (by kernel_rfl) hHeld (Rg.y_move (x := (Operand.tmp 0)) (Or.inl (by kernel_rfl)) (by kernel_rfl)) ?_
  refine Rg.take (ops := (Rg.opsOf Tryz.f99 8)) 6 (some 36) ((.pointer (some ⟨b, 0, none⟩))) hNS (by kernel_rfl) (by kernel_rfl) (by kernel_rfl) (by kernel_rfl) (by kernel_rfl) hHeld (Rg.y_nil (x := (Operand.tmp 35)) (by kernel_rfl) (by kernel_rfl)) ?_
  refine Rg.take (ops := (Rg.opsOf Tryz.f99 8)) 7 (some 37) ((.pointer (some ⟨b, 0, none⟩))) hNS (by kernel_rfl) (by kernel_rfl) (by kernel_rfl) (by kernel_rfl) (by kernel_rfl) hHeld (Rg.y_field (T := 79) (k := 0) (x := (Operand.tmp 36)) (vx := (.pointer (some ⟨b, 0, none⟩))) (by kernel_rfl) (by kernel_rfl) ?_) ?_
  · (intro w hSw; clear hSw; go_simp)
  refine Rg.take (ops := (Rg.opsOf Tryz.f99 8)) 8 (some 38) ((.map (some bi))) hNS (by kernel_rfl) (by kernel_rfl) (by kernel_rfl) (by kernel_rfl) (by kernel_rfl) hHeld (Rg.y_load (T := 76) (x := (Operand.tmp 37)) (vx := (.pointer (some ⟨b, 0, none⟩))) (by kernel_rfl) (by kernel_rfl) ?_) ?_
  · (intro w hSw; have c0 := hSw.1.cell.1; clear hSw; go_simp)
  refine Rg.take (ops := (Rg.opsOf Tryz.f99 8)) 9 (some 39) ((.string p)) hNS (by kernel_rfl) (by kernel_rfl) (by kernel_rfl) (by kernel_rfl) (by kernel_rfl) hHeld (Rg.y_move (x := (Operand.tmp 1)) (Or.inl (by kernel_rfl)) (by kernel_rfl)) ?_
  refine Rg.take (ops := (Rg.opsOf Tryz.f99 8)) 10 (some 40) ((.agg #[.int .i64 K, .string X0, .string X1, .int .i64 X2, .int .i64 X3])) hNS (by kernel_rfl) (by kernel_rfl) (by kernel_rfl) (by kernel_rfl) (by kernel_rfl) hHeld (Rg.y_look (T := 76) (x := (Operand.tmp 38)) (y := (Operand.tmp 39)) (c := false) (vx := (.map (some bi))) (vy := (.string p)) (by kernel_rfl) (by kernel_rfl) (by kernel_rfl) ?_) ?_
  · (intro w hSw; exact hlk _ hSw.1)
  refine Rg.take (ops := (Rg.opsOf Tryz.f99 8)) 11 (some 41) ((.string X0)) hNS (by kernel_rfl) (by kernel_rfl) (by kernel_rfl) (by kernel_rfl) (by kernel_rfl) hHeld (Rg.y_fld (T := 82) (k := 1) (x := (Operand.tmp 40)) (vx := (.agg #[.int .i64 K, .string X0, .string X1, .int .i64 X2, .int .i64 X3])) (by kernel_rfl) (by kernel_rfl) ?_) ?_
  · (intro w hSw; exact fld1 _ _ _ _ _ w)
  refine Rg.take (ops := (Rg.opsOf Tryz.f99 8)) 12 (some 42) ((.int .i64 (X0.size : Int))) hNS (by kernel_rfl) (by kernel_rfl) (by kernel_rfl) (by kernel_rfl) (by kernel_rfl) hHeld (Rg.y_len (x := (Operand.tmp 41)) (ats := #[9]) (vx := (.string X0)) (n := X0.size) (by kernel_rfl) (by kernel_rfl) ?_) ?_
  · (intro ty w hSw; go_simp)
  refine Rg.take (ops := (Rg.opsOf Tryz.f99 8)) 13 (some 43) ((.int .i64 ((d.size : Int) - (X0.size : Int)))) hNS (by kernel_rfl) (by kernel_rfl) (by kernel_rfl) (by kernel_rfl) (by kernel_rfl) hHeld (Rg.y_bin (b := BinOp.sub) (T := 3) (R' := 3) (x := (Operand.tmp 34)) (y := (Operand.tmp 42)) (vx := (.int .i64 (d.size : Int))) (vy := (.int .i64 (X0.size : Int))) (by kernel_rfl) (by kernel_rfl) (by kernel_rfl) ?_) ?_
  · (intro w hSw; clear hSw; go_simp <;> exact hsub)
  refine Rg.call (ops := (Rg.opsOf Tryz.f99 8)) (fn := Tryz.f86) (xs := #[Operand.tmp 31]) (ats := #[9]) 2 (some 32) 86 #[(.string p)] (by kernel_rfl) (by kernel_rfl) (by kernel_rfl) (by kernel_rfl) (by kernel_rfl) Tryz.func86 (by kernel_rfl) (by kernel_rfl) (by kernel_rfl) ?_
  refine (cv _).mono ?_
  rintro e w5 ⟨rfl, n5, rfl⟩
  refine ⟨_, rfl, ⟨hHeld.1.below (below_drewN _ _), below_call hHeld.2 (below_drewN _ _)⟩, fun hHeld => ?_⟩
  refine Rg.call (ops := (Rg.opsOf Tryz.f99 8)) (fn := Tryz.f85) (xs := #[Operand.tmp 30, Operand.tmp 32, Operand.tmp 43]) (ats := #[23, 9, 3]) 14 (some 44) 85 #[(.pointer (some ⟨b, 0, none⟩)), (.string V), (.int .i64 ((d.size : Int) - (X0.size : Int)))] (by kernel_rfl) (by kernel_rfl) (by kernel_rfl) (by kernel_rfl) (by kernel_rfl) Tryz.func85 (by kernel_rfl) (by kernel_rfl) (by kernel_rfl) ?_
  refine (cf _ hHeld.1).mono ?_
  rintro e w6 ⟨rfl, hb6⟩
  refine ⟨_, rfl, ⟨hHeld.1.below hb6, below_call hHeld.2 hb6⟩, fun hHeld => ?_⟩
  refine Rg.take (ops := (Rg.opsOf Tryz.f99 8)) 15 (some 29) ((.bool B)) hNS (by kernel_rfl) (by kernel_rfl) (by kernel_rfl) (by kernel_rfl) (by kernel_rfl) hHeld (Rg.y_move (x := (Operand.tmp 44)) (Or.inr (by kernel_rfl)) (by kernel_rfl)) ?_
  refine Rg.done (ops := (Rg.opsOf Tryz.f99 8)) (by kernel_rfl) ?_
  exact ⟨by kernel_rfl, hHeld.2⟩

set_option maxRecDepth 100000 in
set_option maxHeartbeats 2000000 in
theorem regMayRename1 (ops : Array Oper) (hops : ops = (Rg.opsOf Tryz.f101 12)) (id : Nat) (b bi bl gf gg : Nat) (l : Int) (s : St) (t X Y V : ByteArray) (B : Bool) {u1 u3 u4 u5 u6 u7 u11 u12 u13 u14 u15 u16 u17 u18 u19 u20 u21 u22 u23 u24 u25 u26 u27 u28 u29 u30 u31 u32 u33 u34 u35 u36 u37 u38 u39 u40 u41 u42 u43 u44 u45 u46 u47 u48 u49 u50 u51 u52 u53 u54 u55 u56 u57 u58 u59 u60 u61 u62 u63 u64 u65 : Value} (w : World) (h : Ia b bi bl l w s)
    (hX : w.cell? ⟨gf, 1, none⟩ = some (.string X)) (hY : w.cell? ⟨gg, 1, none⟩ = some (.string Y))
    (hsub : IntKind.i64.wrap ((X.size : Int) - (Y.size : Int)) = (X.size : Int) - (Y.size : Int))
    (cv : ∀ W, Calls Tryz.prog 86 #[.string t] W fun e w' => e = .returned (.string V) ∧ ∃ n, w' = W.drewN n)
    (cf : ∀ W, Ia b bi bl l W s → Calls Tryz.prog 85 #[.pointer (some ⟨b, 0, none⟩), .string V, .int .i64 ((X.size : Int) - (Y.size : Int))] W fun e w' => e = .returned (.bool B) ∧ Below W.heap.size W w') :
    (Code.region id ops true).wp Tryz.prog (Rg.Only fun a' w' => a' = ⟨#[(.pointer (some ⟨b, 0, none⟩)), u1, (.string t), u3, u4, u5, u6, u7, (.pointer (some ⟨gf, 0, none⟩)), (.pointer (some ⟨gg, 0, none⟩)), (.bool true), u11, u12, u13, u14, u15, u16, u17, u18, u19, u20, u21, u22, u23, u24, u25, u26, u27, u28, u29, u30, u31, u32, u33, u34, u35, u36, u37, u38, u39, u40, u41, u42, u43, u44, u45, u46, u47, u48, u49, u50, (.bool B), (.bool true), (.bool true), (.pointer (some ⟨b, 0, none⟩)), (.string t), (.string V), (.pointer (some ⟨gf, 1, none⟩)), (.string X), (.int .i64 (X.size : Int)), (.pointer (some ⟨gg, 1, none⟩)), (.string Y), (.int .i64 (Y.size : Int)), (.int .i64 ((X.size : Int) - (Y.size : Int))), (.bool B), (.bool B)], []⟩ ∧ Below w.heap.size w w') ⟨#[(.pointer (some ⟨b, 0, none⟩)), u1, (.string t), u3, u4, u5, u6, u7, (.pointer (some ⟨gf, 0, none⟩)), (.pointer (some ⟨gg, 0, none⟩)), (.bool true), u11, u12, u13, u14, u15, u16, u17, u18, u19, u20, u21, u22, u23, u24, u25, u26, u27, u28, u29, u30, u31, u32, u33, u34, u35, u36, u37, u38, u39, u40, u41, u42, u43, u44, u45, u46, u47, u48, u49, u50, u51, u52, u53, u54, u55, u56, u57, u58, u59, u60, u61, u62, u63, u64, u65], []⟩ w := by
  subst hops
  have hNS : Region.noSelect (Rg.opsOf Tryz.f101 12) = true := by kernel_rfl
  have h0 : Ia b bi bl l w.drew s ∧ Below w.heap.size w w.drew ∧ w.drew.cell? ⟨gf, 1, none⟩ = some (.string X) ∧ w.drew.cell? ⟨gg, 1, none⟩ = some (.string Y) := ⟨h.below (Below.refl _ _).drew, (Below.refl _ _).drew, hX, hY⟩
  refine wp_region_held_drew (S := fun W => Ia b bi bl l W s ∧ Below w.heap.size w W ∧ W.cell? ⟨gf, 1, none⟩ = some (.string X) ∧ W.cell? ⟨gg, 1, none⟩ = some (.string Y)) (by kernel_rfl) h0 (fun hHeld => ?_)
  rw [show (Rg.opsOf Tryz.f101 12).size = 15 by kernel_rfl]
  refine Rg.take (ops := (Rg.opsOf Tryz.f101 12)) 0 (some 52) ((.bool true)) hNS (by kernel_rfl) (by kernel_rfl) (by kernel_rfl) (by kernel_rfl) (by kernel_rfl) hHeld (Rg.y_move (x := (Operand.tmp 10)) (Or.inl (by kernel_rfl)) (by kernel_rfl)) ?_
  refine Rg.take (ops := (Rg.opsOf Tryz.f101 12)) 1 (some 53) ((.bool true)) hNS (by kernel_rfl) (by kernel_rfl) (by kernel_rfl) (by kernel_rfl) (by kernel_rfl) hHeld (Rg.y_move (x := (Operand.tmp 52)) (Or.inl (by kernel_rfl)) (by kernel_rfl)) ?_
  refine Rg.take (ops := (Rg.opsOf Tryz.f101 12)) 2 (some 54) ((.pointer (some ⟨b, 0, none⟩))) hNS (by kernel_rfl) (by kernel_rfl) (by kernel_rfl) (by kernel_rfl) (by kernel_rfl) hHeld (Rg.y_move (x := (Operand.tmp 0)) (Or.inl (by kernel_rfl)) (by kernel_rfl)) ?_
  refine Rg.take (ops := (Rg.opsOf Tryz.f101 12)) 3 (some 55) ((.string t)) hNS (by kernel_rfl) (by kernel_rfl) (by kernel_rfl) (by kernel_rfl) (by kernel_rfl) hHeld (Rg.y_move (x := (Operand.tmp 2)) (Or.inl (by kernel_rfl)) (by kernel_rfl)) ?_
  refine Rg.take (ops := (Rg.opsOf Tryz.f101 12)) 5 (some 57) ((.pointer (some ⟨gf, 1, none⟩))) hNS (by kernel_rfl) (by kernel_rfl) (by kernel_rfl) (by kernel_rfl) (by kernel_rfl) hHeld (Rg.y_field (T := 82) (k := 1) (x := (Operand.tmp 8)) (vx := (.pointer (some ⟨gf, 0, none⟩))) (by kernel_rfl) (by kernel_rfl) ?_) ?_
  · (intro w hSw; clear hSw; go_simp)
  refine Rg.take (ops := (Rg.opsOf Tryz.f101 12)) 6 (some 58) ((.string X)) hNS (by kernel_rfl) (by kernel_rfl) (by kernel_rfl) (by kernel_rfl) (by kernel_rfl) hHeld (Rg.y_load (T := 9) (x := (Operand.tmp 57)) (vx := (.pointer (some ⟨gf, 1, none⟩))) (by kernel_rfl) (by kernel_rfl) ?_) ?_
  · (intro w hSw; obtain ⟨_, _, cx, cy⟩ := hSw; go_simp)
  refine Rg.take (ops := (Rg.opsOf Tryz.f101 12)) 7 (some 59) ((.int .i64 (X.size : Int))) hNS (by kernel_rfl) (by kernel_rfl) (by kernel_rfl) (by kernel_rfl) (by kernel_rfl) hHeld (Rg.y_len (x := (Operand.tmp 58)) (ats := #[9]) (vx := (.string X)) (n := X.size) (by kernel_rfl) (by kernel_rfl) ?_) ?_
  · (intro ty w hSw; go_simp)
  refine Rg.take (ops := (Rg.opsOf Tryz.f101 12)) 8 (some 60) ((.pointer (some ⟨gg, 1, none⟩))) hNS (by kernel_rfl) (by kernel_rfl) (by kernel_rfl) (by kernel_rfl) (by kernel_rfl) hHeld (Rg.y_field (T := 82) (k := 1) (x := (Operand.tmp 9)) (vx := (.pointer (some ⟨gg, 0, none⟩))) (by kernel_rfl) (by kernel_rfl) ?_) ?_
  · (intro w hSw; clear hSw; go_simp)
  refine Rg.take (ops := (Rg.opsOf Tryz.f101 12)) 9 (some 61) ((.string Y)) hNS (by kernel_rfl) (by kernel_rfl) (by kernel_rfl) (by kernel_rfl) (by kernel_rfl) hHeld (Rg.y_load (T := 9) (x := (Operand.tmp 60)) (vx := (.pointer (some ⟨gg, 1, none⟩))) (by kernel_rfl) (by kernel_rfl) ?_) ?_
  · (intro w hSw; obtain ⟨_, _, cx, cy⟩ := hSw; go_simp)
  refine Rg.take (ops := (Rg.opsOf Tryz.f101 12)) 10 (some 62) ((.int .i64 (Y.size : Int))) hNS (by kernel_rfl) (by kernel_rfl) (by kernel_rfl) (by kernel_rfl) (by kernel_rfl) hHeld (Rg.y_len (x := (Operand.tmp 61)) (ats := #[9]) (vx := (.string Y)) (n := Y.size) (by kernel_rfl) (by kernel_rfl) ?_) ?_
  · (intro ty w hSw; go_simp)
  refine Rg.take (ops := (Rg.opsOf Tryz.f101 12)) 11 (some 63) ((.int .i64 ((X.size : Int) - (Y.size : Int)))) hNS (by kernel_rfl) (by kernel_rfl) (by kernel_rfl) (by kernel_rfl) (by kernel_rfl) hHeld (Rg.y_bin (b := BinOp.sub) (T := 3) (R' := 3) (x := (Operand.tmp 59)) (y := (Operand.tmp 62)) (vx := (.int .i64 (X.size : Int))) (vy := (.int .i64 (Y.size : Int))) (by kernel_rfl) (by kernel_rfl) (by kernel_rfl) ?_) ?_
  · (intro w hSw; clear hSw; go_simp <;> exact hsub)
  refine Rg.call (ops := (Rg.opsOf Tryz.f101 12)) (fn := Tryz.f86) (xs := #[Operand.tmp 55]) (ats := #[9]) 4 (some 56) 86 #[(.string t)] (by kernel_rfl) (by kernel_rfl) (by kernel_rfl) (by kernel_rfl) (by kernel_rfl) Tryz.func86 (by kernel_rfl) (by kernel_rfl) (by kernel_rfl) ?_
  refine (cv _).mono ?_
  rintro e w5 ⟨rfl, n5, rfl⟩
  refine ⟨_, rfl, ⟨hHeld.1.below (below_drewN _ _), below_call hHeld.2.1 (below_drewN _ _), hHeld.2.2.1, hHeld.2.2.2⟩, fun hHeld => ?_⟩
  refine Rg.call (ops := (Rg.opsOf Tryz.f101 12)) (fn := Tryz.f85) (xs := #[Operand.tmp 54, Operand.tmp 56, Operand.tmp 63]) (ats := #[23, 9, 3]) 12 (some 64) 85 #[(.pointer (some ⟨b, 0, none⟩)), (.string V), (.int .i64 ((X.size : Int) - (Y.size : Int)))] (by kernel_rfl) (by kernel_rfl) (by kernel_rfl) (by kernel_rfl) (by kernel_rfl) Tryz.func85 (by kernel_rfl) (by kernel_rfl) (by kernel_rfl) ?_
  refine (cf _ hHeld.1).mono ?_
  rintro e w6 ⟨rfl, hb6⟩
  refine ⟨_, rfl, ⟨hHeld.1.below hb6, below_call hHeld.2.1 hb6, (hb6.cell (p := ⟨gf, 1, none⟩) (World.block_lt_of_cell? _ _ hHeld.2.2.1)).trans hHeld.2.2.1, (hb6.cell (p := ⟨gg, 1, none⟩) (World.block_lt_of_cell? _ _ hHeld.2.2.2)).trans hHeld.2.2.2⟩, fun hHeld => ?_⟩
  refine Rg.take (ops := (Rg.opsOf Tryz.f101 12)) 13 (some 65) ((.bool B)) hNS (by kernel_rfl) (by kernel_rfl) (by kernel_rfl) (by kernel_rfl) (by kernel_rfl) hHeld (Rg.y_pick (c := (Operand.tmp 53)) (x := (Operand.tmp 64)) (y := (Operand.const (Value.bool false))) (b := true) (by kernel_rfl) (by kernel_rfl) (by kernel_rfl)) ?_
  refine Rg.take (ops := (Rg.opsOf Tryz.f101 12)) 14 (some 51) ((.bool B)) hNS (by kernel_rfl) (by kernel_rfl) (by kernel_rfl) (by kernel_rfl) (by kernel_rfl) hHeld (Rg.y_move (x := (Operand.tmp 65)) (Or.inr (by kernel_rfl)) (by kernel_rfl)) ?_
  refine Rg.done (ops := (Rg.opsOf Tryz.f101 12)) (by kernel_rfl) ?_
  exact ⟨by kernel_rfl, hHeld.2.1⟩

set_option maxRecDepth 100000 in
set_option maxHeartbeats 2000000 in
theorem regMayRename0 (ops : Array Oper) (hops : ops = (Rg.opsOf Tryz.f101 12)) (id : Nat) (b bi bl gf gg : Nat) (l : Int) (s : St) (t X Y V : ByteArray) (B : Bool) {u1 u3 u4 u5 u6 u7 u11 u12 u13 u14 u15 u16 u17 u18 u19 u20 u21 u22 u23 u24 u25 u26 u27 u28 u29 u30 u31 u32 u33 u34 u35 u36 u37 u38 u39 u40 u41 u42 u43 u44 u45 u46 u47 u48 u49 u50 u51 u52 u53 u54 u55 u56 u57 u58 u59 u60 u61 u62 u63 u64 u65 : Value} (w : World) (h : Ia b bi bl l w s)
    (hX : w.cell? ⟨gf, 1, none⟩ = some (.string X)) (hY : w.cell? ⟨gg, 1, none⟩ = some (.string Y)) :
    (Code.region id ops true).wp Tryz.prog (Rg.Only fun a' w' => a' = ⟨#[(.pointer (some ⟨b, 0, none⟩)), u1, (.string t), u3, u4, u5, u6, u7, (.pointer (some ⟨gf, 0, none⟩)), (.pointer (some ⟨gg, 0, none⟩)), (.bool false), u11, u12, u13, u14, u15, u16, u17, u18, u19, u20, u21, u22, u23, u24, u25, u26, u27, u28, u29, u30, u31, u32, u33, u34, u35, u36, u37, u38, u39, u40, u41, u42, u43, u44, u45, u46, u47, u48, u49, u50, (Value.bool false), (.bool false), (.bool false), undef, undef, undef, undef, undef, undef, undef, undef, undef, undef, undef, (Value.bool false)], []⟩ ∧ Below w.heap.size w w') ⟨#[(.pointer (some ⟨b, 0, none⟩)), u1, (.string t), u3, u4, u5, u6, u7, (.pointer (some ⟨gf, 0, none⟩)), (.pointer (some ⟨gg, 0, none⟩)), (.bool false), u11, u12, u13, u14, u15, u16, u17, u18, u19, u20, u21, u22, u23, u24, u25, u26, u27, u28, u29, u30, u31, u32, u33, u34, u35, u36, u37, u38, u39, u40, u41, u42, u43, u44, u45, u46, u47, u48, u49, u50, u51, u52, u53, u54, u55, u56, u57, u58, u59, u60, u61, u62, u63, u64, u65], []⟩ w := by
  subst hops
  have hNS : Region.noSelect (Rg.opsOf Tryz.f101 12) = true := by kernel_rfl
  have h0 : Ia b bi bl l w.drew s ∧ Below w.heap.size w w.drew ∧ w.drew.cell? ⟨gf, 1, none⟩ = some (.string X) ∧ w.drew.cell? ⟨gg, 1, none⟩ = some (.string Y) := ⟨h.below (Below.refl _ _).drew, (Below.refl _ _).drew, hX, hY⟩
  refine wp_region_held_drew (S := fun W => Ia b bi bl l W s ∧ Below w.heap.size w W ∧ W.cell? ⟨gf, 1, none⟩ = some (.string X) ∧ W.cell? ⟨gg, 1, none⟩ = some (.string Y)) (by kernel_rfl) h0 (fun hHeld => ?_)
  rw [show (Rg.opsOf Tryz.f101 12).size = 15 by kernel_rfl]
  refine Rg.take (ops := (Rg.opsOf Tryz.f101 12)) 0 (some 52) ((.bool false)) hNS (by kernel_rfl) (by kernel_rfl) (by kernel_rfl) (by kernel_rfl) (by kernel_rfl) hHeld (Rg.y_move (x := (Operand.tmp 10)) (Or.inl (by kernel_rfl)) (by kernel_rfl)) ?_
  refine Rg.take (ops := (Rg.opsOf Tryz.f101 12)) 1 (some 53) ((.bool false)) hNS (by kernel_rfl) (by kernel_rfl) (by kernel_rfl) (by kernel_rfl) (by kernel_rfl) hHeld (Rg.y_move (x := (Operand.tmp 52)) (Or.inl (by kernel_rfl)) (by kernel_rfl)) ?_
  refine Rg.skip (ops := (Rg.opsOf Tryz.f101 12)) 2 (some 54) hNS (by kernel_rfl) (by kernel_rfl) (by kernel_rfl) (by kernel_rfl) (by kernel_rfl) hHeld ?_
  refine Rg.skip (ops := (Rg.opsOf Tryz.f101 12)) 3 (some 55) hNS (by kernel_rfl) (by kernel_rfl) (by kernel_rfl) (by kernel_rfl) (by kernel_rfl) hHeld ?_
  refine Rg.skip (ops := (Rg.opsOf Tryz.f101 12)) 4 (some 56) hNS (by kernel_rfl) (by kernel_rfl) (by kernel_rfl) (by kernel_rfl) (by kernel_rfl) hHeld ?_
  refine Rg.skip (ops := (Rg.opsOf Tryz.f101 12)) 5 (some 57) hNS (by kernel_rfl) (by kernel_rfl) (by kernel_rfl) (by kernel_rfl) (by kernel_rfl) hHeld ?_
  refine Rg.skip (ops := (Rg.opsOf Tryz.f101 12)) 6 (some 58) hNS (by kernel_rfl) (by kernel_rfl) (by kernel_rfl) (by kernel_rfl) (by kernel_rfl) hHeld ?_
  refine Rg.skip (ops := (Rg.opsOf Tryz.f101 12)) 7 (some 59) hNS (by kernel_rfl) (by kernel_rfl) (by kernel_rfl) (by kernel_rfl) (by kernel_rfl) hHeld ?_
  refine Rg.skip (ops := (Rg.opsOf Tryz.f101 12)) 8 (some 60) hNS (by kernel_rfl) (by kernel_rfl) (by kernel_rfl) (by kernel_rfl) (by kernel_rfl) hHeld ?_
  refine Rg.skip (ops := (Rg.opsOf Tryz.f101 12)) 9 (some 61) hNS (by kernel_rfl) (by kernel_rfl) (by kernel_rfl) (by kernel_rfl) (by kernel_rfl) hHeld ?_
  refine Rg.skip (ops := (Rg.opsOf Tryz.f101 12)) 10 (some 62) hNS (by kernel_rfl) (by kernel_rfl) (by kernel_rfl) (by kernel_rfl) (by kernel_rfl) hHeld ?_
  refine Rg.skip (ops := (Rg.opsOf Tryz.f101 12)) 11 (some 63) hNS (by kernel_rfl) (by kernel_rfl) (by kernel_rfl) (by kernel_rfl) (by kernel_rfl) hHeld ?_
  refine Rg.skip (ops := (Rg.opsOf Tryz.f101 12)) 12 (some 64) hNS (by kernel_rfl) (by kernel_rfl) (by kernel_rfl) (by kernel_rfl) (by kernel_rfl) hHeld ?_
  refine Rg.take (ops := (Rg.opsOf Tryz.f101 12)) 13 (some 65) ((Value.bool false)) hNS (by kernel_rfl) (by kernel_rfl) (by kernel_rfl) (by kernel_rfl) (by kernel_rfl) hHeld (Rg.y_pick (c := (Operand.tmp 53)) (x := (Operand.tmp 64)) (y := (Operand.const (Value.bool false))) (b := false) (by kernel_rfl) (by kernel_rfl) (by kernel_rfl)) ?_
  refine Rg.take (ops := (Rg.opsOf Tryz.f101 12)) 14 (some 51) ((Value.bool false)) hNS (by kernel_rfl) (by kernel_rfl) (by kernel_rfl) (by kernel_rfl) (by kernel_rfl) hHeld (Rg.y_move (x := (Operand.tmp 65)) (Or.inr (by kernel_rfl)) (by kernel_rfl)) ?_
  refine Rg.done (ops := (Rg.opsOf Tryz.f101 12)) (by kernel_rfl) ?_
  exact ⟨by kernel_rfl, hHeld.2.1⟩

end Go.Proofs.YtbghokdlnnaeeaaGreat.Dk

/- Why package disk's calls are refused. -/
namespace Go.Proofs.YtbghokdlnnaeeaaGreat.Dk
open Go.RowKit Tx Pm Pl Pr
set_option linter.unusedVariables false

theorem ready1 (b bi bl m : Nat) (M l : Int) (s : St) (p : ByteArray) (w : World) (h : Ia b bi bl l w s) (hm : m ≤ 1000) (hM : M = (m : Int) + 1) (hp : p.size ≤ 8000000000000) :
    Calls Tryz.prog 84 #[.pointer (some ⟨b, 0, none⟩), .int .i64 M, .slice (some ⟨w.heap.size, 0, none⟩) 1 1] (w.alloc (.cells #[.string p] 9)) fun e w' => e = .returned (.int .i64 (first s p m : Nat)) ∧ Below w.heap.size w w' := by
  have hb := (Below.refl _ w).alloc (Nat.le_refl _) (.cells #[.string p] 9)
  refine (iReady_any b bi bl w.heap.size 1 1 m M l s [p] _ (h.below hb) rfl hm hM (fun k q hk => ?_) (by simp) (fun q hq => ?_) (by omega)).mono ?_
  · rw [World.cell?_alloc_at _ _ _ _ rfl]
    match k, hk with
    | 0, hk => cases hk; rfl
  · rw [List.mem_singleton.1 hq]
    exact hp
  · rintro e w' ⟨rfl, h2⟩
    rw [rdy_one]
    exact ⟨rfl, below_call hb h2⟩
theorem ready2 (b bi bl m : Nat) (M l : Int) (s : St) (p q : ByteArray) (w : World) (h : Ia b bi bl l w s) (hm : m ≤ 1000) (hM : M = (m : Int) + 1) (hp : p.size ≤ 8000000000000) (hq : q.size ≤ 8000000000000) :
    Calls Tryz.prog 84 #[.pointer (some ⟨b, 0, none⟩), .int .i64 M, .slice (some ⟨w.heap.size, 0, none⟩) 2 2] (w.alloc (.cells #[.string p, .string q] 9)) fun e w' => e = .returned (.int .i64 ((if first s p m ≠ 0 then first s p m else first s q m : Nat) : Nat)) ∧ Below w.heap.size w w' := by
  have hb := (Below.refl _ w).alloc (Nat.le_refl _) (.cells #[.string p, .string q] 9)
  refine (iReady_any b bi bl w.heap.size 2 2 m M l s [p, q] _ (h.below hb) rfl hm hM (fun k x hk => ?_) (by simp) (fun x hx => ?_) (by omega)).mono ?_
  · rw [World.cell?_alloc_at _ _ _ _ rfl]
    match k, hk with
    | 0, hk => cases hk; rfl
    | 1, hk => cases hk; rfl
  · rcases List.mem_cons.1 hx with rfl | hx
    · exact hp
    · rw [List.mem_singleton.1 hx]
      exact hq
  · rintro e w' ⟨rfl, h2⟩
    rw [rdy_two]
    exact ⟨rfl, below_call hb h2⟩
theorem ne_eq {a : Nat} (h : a ≠ 0) : ((a : Int) == 0) = false := beq_eq_false_iff_ne.2 (by omega)

def mayMkdirS (s : St) (p : ByteArray) : Nat := if first s p 0 ≠ 0 then first s p 0 else if home s.L p = false then 11 else if kind s.L p = 2 then 12 else 0
def maySyncS (s : St) (p : ByteArray) : Nat := there s p
def mayWriteS (s : St) (p d : ByteArray) : Nat := if first s p 1 ≠ 0 then first s p 1 else if home s.L p = false then 11 else if kind s.L p = 1 then 12 else if full s (vol p) ((d.size : Int) - (old s.L p).data.size) = true then 13 else 0
def mayAppendS (s : St) (p d : ByteArray) : Nat := if there s p ≠ 0 then there s p else if full s (vol p) d.size = true then 13 else 0
def mayRenameS (s : St) (f t : ByteArray) : Nat := if first s f 1 ≠ 0 then first s f 1 else if first s t 1 ≠ 0 then first s t 1 else if kind s.L f = 0 then 11 else if home s.L t = false then 11 else if kind s.L f = 1 then 12 else if kind s.L t = 1 then 12 else
  if vol f ≠ vol t ∧ full s (vol t) (((old s.L f).data.size : Int) - (old s.L t).data.size) = true then 13 else 0

set_option maxRecDepth 100000 in
set_option maxHeartbeats 1000000 in
theorem iMayMkdir_any (b bi bl : Nat) (l : Int) (s : St) (p : ByteArray) (w : World) (h : Ia b bi bl l w s) (hp : p.size ≤ 8000000000000) :
    Calls Tryz.prog 64 #[.pointer (some ⟨b, 0, none⟩), .string p] w fun e w' => e = .returned (.int .i64 (mayMkdirS s p : Nat)) ∧ Below w.heap.size w w' := by
  have c1 := ready1 b bi bl 0 1 l s p w h (by omega) rfl hp
  have c2 := fun W (hW : Below w.heap.size w W) => iHome_any b bi bl l s p W (h.below hW) hp
  have HL := Lib.hid (fun W (hW : Below w.heap.size w W) => (h.below hW).look (maxLen_of hp))
  have HC := Lib.hid (fun W (hW : Below w.heap.size w W) => (h.below hW).cell.1)
  have f0 := fld0
  unfold mayMkdirS
  generalize first s p 0 = E at c1 ⊢
  generalize home s.L p = H at c2 ⊢
  generalize kind s.L p = K at HL ⊢
  clear h
  by_cases hE : E = 0
  · subst hE
    rw [if_neg (by decide)]
    cases H with
    | false =>
      rw [if_pos rfl]
      go_enter Tryz.func64, Tryz.ntmps64
      go_wp2_with (first | (go_at_call 84; refine c1.mono ?_; rintro e w1 ⟨rfl, hb1⟩; have l0 := HL.out _ hb1; have g0 := HC.out _ hb1) | (go_at_call 89; refine (c2 _ hb1).mono ?_; rintro e w2 ⟨rfl, hb2⟩; have hb3 := below_call hb1 hb2; have l1 := HL.out _ hb3; have g1 := HC.out _ hb3))
      go_ret
      exact ⟨rfl, hb3⟩
    | true =>
      rw [if_neg (by decide)]
      by_cases hK : K = 2
      · subst hK
        rw [if_pos rfl]
        go_enter Tryz.func64, Tryz.ntmps64
        go_wp2_with (first | (go_at_call 84; refine c1.mono ?_; rintro e w1 ⟨rfl, hb1⟩; have l0 := HL.out _ hb1; have g0 := HC.out _ hb1) | (go_at_call 89; refine (c2 _ hb1).mono ?_; rintro e w2 ⟨rfl, hb2⟩; have hb3 := below_call hb1 hb2; have l1 := HL.out _ hb3; have g1 := HC.out _ hb3))
        go_ret
        exact ⟨rfl, hb3⟩
      · rw [if_neg hK]
        have e1 : ((K : Int) == 2) = false := beq_eq_false_iff_ne.2 (by omega)
        clear hK
        go_enter Tryz.func64, Tryz.ntmps64
        go_wp2_with (first | (go_at_call 84; refine c1.mono ?_; rintro e w1 ⟨rfl, hb1⟩; have l0 := HL.out _ hb1; have g0 := HC.out _ hb1) | (go_at_call 89; refine (c2 _ hb1).mono ?_; rintro e w2 ⟨rfl, hb2⟩; have hb3 := below_call hb1 hb2; have l1 := HL.out _ hb3; have g1 := HC.out _ hb3))
        go_ret
        exact ⟨rfl, hb3⟩
  · rw [if_pos hE]
    have e1 := ne_eq hE
    clear hE
    go_enter Tryz.func64, Tryz.ntmps64
    go_wp2_with (first | (go_at_call 84; refine c1.mono ?_; rintro e w1 ⟨rfl, hb1⟩; have l0 := HL.out _ hb1; have g0 := HC.out _ hb1) | (go_at_call 89; refine (c2 _ hb1).mono ?_; rintro e w2 ⟨rfl, hb2⟩; have hb3 := below_call hb1 hb2; have l1 := HL.out _ hb3; have g1 := HC.out _ hb3))
    go_ret
    exact ⟨rfl, hb1⟩

theorem there_mbf (s : St) (p : ByteArray) : there s p = if first s p 1 ≠ 0 then first s p 1 else mbf s.L p := by
  unfold there mbf
  rfl
set_option maxRecDepth 100000 in
set_option maxHeartbeats 1000000 in
theorem iMaySync_any (b bi bl : Nat) (l : Int) (s : St) (p : ByteArray) (w : World) (h : Ia b bi bl l w s) (hp : p.size ≤ 8000000000000) :
    Calls Tryz.prog 53 #[.pointer (some ⟨b, 0, none⟩), .string p] w fun e w' => e = .returned (.int .i64 (there s p : Nat)) ∧ Below w.heap.size w w' := by
  have c1 := ready1 b bi bl 1 2 l s p w h (by omega) rfl hp
  have c2 := fun W (hW : Below w.heap.size w W) => iMbf_any b bi bl l s p W (h.below hW) hp
  rw [there_mbf]
  generalize first s p 1 = E at c1 ⊢
  generalize mbf s.L p = M at c2 ⊢
  clear h
  by_cases hE : E = 0
  · subst hE
    rw [if_neg (by decide)]
    go_enter Tryz.func53, Tryz.ntmps53
    go_wp2_with (first | (go_at_call 84; refine c1.mono ?_; rintro e w1 ⟨rfl, hb1⟩) | (go_at_call 62; refine (c2 _ hb1).mono ?_; rintro e w2 ⟨rfl, rfl⟩))
    go_ret
    exact ⟨rfl, hb1⟩
  · rw [if_pos hE]
    have e1 := ne_eq hE
    clear hE
    go_enter Tryz.func53, Tryz.ntmps53
    go_wp2_with (go_at_call 84; refine c1.mono ?_; rintro e w1 ⟨rfl, hb1⟩)
    go_ret
    exact ⟨rfl, hb1⟩

theorem old_le {s : St} (hf : Fit s) (p : ByteArray) : (old s.L p).data.size ≤ 4000000000000000000 := by
  rcases old_cases s.L p with e | ⟨hm, _⟩
  · rw [e]; show 0 ≤ _; omega
  · exact Nat.le_trans (le_whole hm) hf.2.2
theorem wrap_sub {a b : Nat} (ha : a ≤ 4000000000000000000) (hb : b ≤ 4000000000000000000) : IntKind.i64.wrap ((a : Int) - (b : Int)) = (a : Int) - (b : Int) := IntWalk.i64_in _ (by omega)
set_option maxRecDepth 100000 in
set_option maxHeartbeats 1000000 in
theorem iMayWrite_any (b bi bl : Nat) (l : Int) (s : St) (p d : ByteArray) (w : World) (h : Ia b bi bl l w s) (hR : Rises s.L) (hf : Fit s) (hp : p.size ≤ 8000000000000) (hd : d.size ≤ 1000000000000000000) :
    Calls Tryz.prog 99 #[.pointer (some ⟨b, 0, none⟩), .string p, .string d] w fun e w' => e = .returned (.int .i64 (mayWriteS s p d : Nat)) ∧ Below w.heap.size w w' := by
  have c1 := ready1 b bi bl 1 2 l s p w h (by omega) rfl hp
  have c2 := fun W (hW : Below w.heap.size w W) => iHome_any b bi bl l s p W (h.below hW) hp
  have ho := old_le hf p
  have hv := vol_le p
  have c3 := fun W (hW : Ia b bi bl l W s) => iFull_any b bi bl l s (vol p) ((d.size : Int) - (old s.L p).data.size) W hW hR hf (by omega) (by omega)
  have c4 := fun W => iVol_any p W hp
  have hsub := wrap_sub (a := d.size) (by omega) ho
  have HL := Lib.hid (fun W (hW : Below w.heap.size w W) => (h.below hW).look (maxLen_of hp))
  have hlk := fun W (hW : Ia b bi bl l W s) => hW.look (maxLen_of hp)
  have HC := Lib.hid (fun W (hW : Below w.heap.size w W) => (h.below hW).cell.1)
  have HI := Lib.hid (fun W (hW : Below w.heap.size w W) => h.below hW)
  have f0 := fld0
  unfold mayWriteS
  generalize full s (vol p) ((d.size : Int) - (old s.L p).data.size) = B at c3 ⊢
  generalize first s p 1 = E at c1 ⊢
  generalize home s.L p = H at c2 ⊢
  generalize kind s.L p = K at HL hlk ⊢
  generalize (old s.L p).data = X0 at HL hlk c3 hsub
  generalize (old s.L p).kept = X1 at HL hlk
  generalize stOf (old s.L p) = X2 at HL hlk
  generalize ((old s.L p).stamp : Int) = X3 at HL hlk
  generalize vol p = V at c3 c4
  have HLK := Lib.hid hlk
  have HS := Lib.hid hsub
  clear h hlk hsub ho hv hf hR
  by_cases hE : E = 0
  · subst hE
    rw [if_neg (by decide)]
    cases H with
    | false =>
      rw [if_pos rfl]
      go_enter Tryz.func99, Tryz.ntmps99
      go_wp2_with (first | (go_at_call 84; refine c1.mono ?_; rintro e w1 ⟨rfl, hb1⟩; have l0 := HL.out _ hb1; have g0 := HC.out _ hb1) | (go_at_call 89; refine (c2 _ hb1).mono ?_; rintro e w2 ⟨rfl, hb2⟩; have hb3 := below_call hb1 hb2; have l1 := HL.out _ hb3; have g1 := HC.out _ hb3))
      go_ret
      exact ⟨rfl, hb3⟩
    | true =>
      rw [if_neg (by decide)]
      by_cases hK : K = 1
      · subst hK
        rw [if_pos rfl]
        go_enter Tryz.func99, Tryz.ntmps99
        go_wp2_with (first | (go_at_call 84; refine c1.mono ?_; rintro e w1 ⟨rfl, hb1⟩; have l0 := HL.out _ hb1; have g0 := HC.out _ hb1) | (go_at_call 89; refine (c2 _ hb1).mono ?_; rintro e w2 ⟨rfl, hb2⟩; have hb3 := below_call hb1 hb2; have l1 := HL.out _ hb3; have g1 := HC.out _ hb3))
        go_ret
        exact ⟨rfl, hb3⟩
      · rw [if_neg hK]
        have e1 : ((K : Int) == 1) = false := beq_eq_false_iff_ne.2 (by omega)
        clear hK
        cases B with
        | true =>
          rw [if_pos rfl]
          go_enter Tryz.func99, Tryz.ntmps99
          go_wp2_with (first | (go_at_call 84; refine c1.mono ?_; rintro e w1 ⟨rfl, hb1⟩; have l0 := HL.out _ hb1; have g0 := HC.out _ hb1) | (go_at_call 89; refine (c2 _ hb1).mono ?_; rintro e w2 ⟨rfl, hb2⟩; have hb3 := below_call hb1 hb2; have l1 := HL.out _ hb3; have g1 := HC.out _ hb3))
          refine Rg.wp_only ?_ (regMayWrite _ (by kernel_rfl) _ b bi bl l s p d V X0 X1 K X2 X3 true _ (HI.out _ hb3) HLK.out HS.out c4 c3)
          rintro _ w9 ⟨rfl, hb9⟩
          have hb4 := below_call hb3 hb9
          go_wp2_with fail
          go_ret
          exact ⟨rfl, hb4⟩
        | false =>
          rw [if_neg (by decide)]
          go_enter Tryz.func99, Tryz.ntmps99
          go_wp2_with (first | (go_at_call 84; refine c1.mono ?_; rintro e w1 ⟨rfl, hb1⟩; have l0 := HL.out _ hb1; have g0 := HC.out _ hb1) | (go_at_call 89; refine (c2 _ hb1).mono ?_; rintro e w2 ⟨rfl, hb2⟩; have hb3 := below_call hb1 hb2; have l1 := HL.out _ hb3; have g1 := HC.out _ hb3))
          refine Rg.wp_only ?_ (regMayWrite _ (by kernel_rfl) _ b bi bl l s p d V X0 X1 K X2 X3 false _ (HI.out _ hb3) HLK.out HS.out c4 c3)
          rintro _ w9 ⟨rfl, hb9⟩
          have hb4 := below_call hb3 hb9
          go_wp2_with fail
          go_ret
          exact ⟨rfl, hb4⟩
  · rw [if_pos hE]
    have e1 := ne_eq hE
    clear hE
    go_enter Tryz.func99, Tryz.ntmps99
    go_wp2_with (first | (go_at_call 84; refine c1.mono ?_; rintro e w1 ⟨rfl, hb1⟩; have l0 := HL.out _ hb1; have g0 := HC.out _ hb1) | (go_at_call 89; refine (c2 _ hb1).mono ?_; rintro e w2 ⟨rfl, hb2⟩; have hb3 := below_call hb1 hb2; have l1 := HL.out _ hb3; have g1 := HC.out _ hb3))
    go_ret
    exact ⟨rfl, hb1⟩

set_option maxRecDepth 100000 in
set_option maxHeartbeats 1000000 in
theorem iMayAppend_any (b bi bl : Nat) (l : Int) (s : St) (p d : ByteArray) (w : World) (h : Ia b bi bl l w s) (hR : Rises s.L) (hf : Fit s) (hp : p.size ≤ 8000000000000) (hd : d.size ≤ 1000000000000000000) :
    Calls Tryz.prog 59 #[.pointer (some ⟨b, 0, none⟩), .string p, .string d] w fun e w' => e = .returned (.int .i64 (mayAppendS s p d : Nat)) ∧ Below w.heap.size w w' := by
  have c1 := iMaySync_any b bi bl l s p w h hp
  have hv := vol_le p
  have c3 := fun W (hW : Below w.heap.size w W) => iFull_any b bi bl l s (vol p) (d.size : Int) W (h.below hW) hR hf (by omega) (by omega)
  have c4 := fun W => iVol_any p W hp
  unfold mayAppendS
  generalize full s (vol p) (d.size : Int) = B at c3 ⊢
  generalize there s p = E at c1 ⊢
  generalize vol p = V at c3 c4
  clear h hv hf hR
  by_cases hE : E = 0
  · subst hE
    rw [if_neg (by decide)]
    cases B with
    | true =>
      rw [if_pos rfl]
      go_enter Tryz.func59, Tryz.ntmps59
      go_wp2_with (first | (go_at_call 53; refine c1.mono ?_; rintro e w1 ⟨rfl, hb1⟩) | (go_at_call 86; refine (c4 _).mono ?_; rintro e w2 ⟨rfl, n2, rfl⟩; have hb2 := below_call hb1 (below_drewN _ n2)) | (go_at_call 85; refine (c3 _ hb2).mono ?_; rintro e w3 ⟨rfl, hb3⟩))
      go_ret
      exact ⟨rfl, below_call hb2 hb3⟩
    | false =>
      rw [if_neg (by decide)]
      go_enter Tryz.func59, Tryz.ntmps59
      go_wp2_with (first | (go_at_call 53; refine c1.mono ?_; rintro e w1 ⟨rfl, hb1⟩) | (go_at_call 86; refine (c4 _).mono ?_; rintro e w2 ⟨rfl, n2, rfl⟩; have hb2 := below_call hb1 (below_drewN _ n2)) | (go_at_call 85; refine (c3 _ hb2).mono ?_; rintro e w3 ⟨rfl, hb3⟩))
      go_ret
      exact ⟨rfl, below_call hb2 hb3⟩
  · rw [if_pos hE]
    have e1 := ne_eq hE
    clear hE
    go_enter Tryz.func59, Tryz.ntmps59
    go_wp2_with (first | (go_at_call 53; refine c1.mono ?_; rintro e w1 ⟨rfl, hb1⟩) | (go_at_call 86; refine (c4 _).mono ?_; rintro e w2 ⟨rfl, n2, rfl⟩; have hb2 := below_call hb1 (below_drewN _ n2)) | (go_at_call 85; refine (c3 _ hb2).mono ?_; rintro e w3 ⟨rfl, hb3⟩))
    go_ret
    exact ⟨rfl, hb1⟩

end Go.Proofs.YtbghokdlnnaeeaaGreat.Dk

/- Why a rename is refused. -/
namespace Go.Proofs.YtbghokdlnnaeeaaGreat.Dk
open Go.RowKit Tx Pm Pl Pr
set_option linter.unusedVariables false

/-- A variable of one item. -/
structure Box5 (w : World) (g : Nat) (K : Int) (X0 X1 : ByteArray) (X2 X3 : Int) : Prop where
  lt : g < w.heap.size
  c0 : w.cell? ⟨g, 0, none⟩ = some (.int .i64 K)
  c1 : w.cell? ⟨g, 1, none⟩ = some (.string X0)
  c2 : w.cell? ⟨g, 2, none⟩ = some (.string X1)
  c3 : w.cell? ⟨g, 3, none⟩ = some (.int .i64 X2)
  c4 : w.cell? ⟨g, 4, none⟩ = some (.int .i64 X3)
theorem Box5.below {w w1 : World} {g : Nat} {K : Int} {X0 X1 : ByteArray} {X2 X3 : Int} (h : Box5 w g K X0 X1 X2 X3) (hb : Below w.heap.size w w1) : Box5 w1 g K X0 X1 X2 X3 :=
  ⟨Nat.lt_of_lt_of_le h.lt hb.size, (hb.cell (p := ⟨g, 0, none⟩) h.lt).trans h.c0, (hb.cell (p := ⟨g, 1, none⟩) h.lt).trans h.c1, (hb.cell (p := ⟨g, 2, none⟩) h.lt).trans h.c2, (hb.cell (p := ⟨g, 3, none⟩) h.lt).trans h.c3, (hb.cell (p := ⟨g, 4, none⟩) h.lt).trans h.c4⟩
theorem box5_of {w : World} {g : Nat} {K : Int} {X0 X1 : ByteArray} {X2 X3 : Int} {T : TypeId} {fz : Nat × Nat} (h : w.heap[g]? = some (.cells #[.int .i64 K, .string X0, .string X1, .int .i64 X2, .int .i64 X3] T fz)) : Box5 w g K X0 X1 X2 X3 := by
  refine ⟨(Array.getElem?_eq_some_iff.1 h).1, ?_, ?_, ?_, ?_, ?_⟩ <;> · unfold World.cell?; rw [h]; rfl
theorem two_first (w : World) (o o2 : Obj) : ((w.alloc o).alloc o2).drew.heap[w.heap.size]? = some o := by
  have h := (((Below.refl _ (w.alloc o)).alloc (Nat.le_refl _) o2).drew).block w.heap.size (by simp)
  exact h.trans (new_at w o rfl)
theorem two_second (w : World) (o o2 : Obj) : ((w.alloc o).alloc o2).drew.heap[w.heap.size + 1]? = some o2 := new_at (w.alloc o) o2 (by simp)
def firstR (s : St) (f t : ByteArray) : Nat := if first s f 1 ≠ 0 then first s f 1 else first s t 1
def mayRenS (s : St) (f t : ByteArray) : Nat := if firstR s f t ≠ 0 then firstR s f t else if kind s.L f = 0 then 11 else if home s.L t = false then 11 else if kind s.L f = 1 then 12 else if kind s.L t = 1 then 12 else
  if vol f ≠ vol t ∧ full s (vol t) (((old s.L f).data.size : Int) - (old s.L t).data.size) = true then 13 else 0
set_option maxRecDepth 100000 in
set_option maxHeartbeats 4000000 in
theorem iMayRename_any (b bi bl : Nat) (l : Int) (s : St) (f t : ByteArray) (w : World) (h : Ia b bi bl l w s) (hR : Rises s.L) (hf : Fit s) (hpf : f.size ≤ 8000000000000) (hpt : t.size ≤ 8000000000000) :
    Calls Tryz.prog 101 #[.pointer (some ⟨b, 0, none⟩), .string f, .string t] w fun e w' => e = .returned (.int .i64 (mayRenS s f t : Nat)) ∧ Below w.heap.size w w' := by
  have c1 := ready2 b bi bl 1 2 l s f t w h (by omega) rfl hpf hpt
  have c2 := fun W (hW : Below w.heap.size w W) => iHome_any b bi bl l s t W (h.below hW) hpt
  have ho1 := old_le hf f
  have ho2 := old_le hf t
  have hv := vol_le t
  have c3 := fun W (hW : Ia b bi bl l W s) => iFull_any b bi bl l s (vol t) (((old s.L f).data.size : Int) - (old s.L t).data.size) W hW hR hf (by omega) (by omega)
  have c4 := fun W => iVol_any f W hpf
  have c5 := fun W => iVol_any t W hpt
  have hsub := wrap_sub ho1 ho2
  have hb : b < w.heap.size := h.lt b (.inl rfl)
  have HL := Lib.hid (fun W (hW : Below w.heap.size w W) => (h.below hW).look (maxLen_of hpf))
  have HM := Lib.hid (fun W (hW : Below w.heap.size w W) => (h.below hW).look (maxLen_of hpt))
  have HC := Lib.hid (fun W (hW : Below w.heap.size w W) => (h.below hW).cell.1)
  have HI := Lib.hid (fun W (hW : Below w.heap.size w W) => h.below hW)
  unfold mayRenS
  rw [show (if first s f 1 ≠ 0 then first s f 1 else first s t 1) = firstR s f t from rfl] at c1
  generalize full s (vol t) (((old s.L f).data.size : Int) - (old s.L t).data.size) = B at c3 ⊢
  generalize firstR s f t = E at c1 ⊢
  generalize home s.L t = H at c2 ⊢
  generalize kind s.L f = K at HL ⊢
  generalize kind s.L t = M at HM ⊢
  generalize (old s.L f).data = X0 at HL c3 hsub
  generalize (old s.L f).kept = X1 at HL
  generalize stOf (old s.L f) = X2 at HL
  generalize ((old s.L f).stamp : Int) = X3 at HL
  generalize (old s.L t).data = Y0 at HM c3 hsub
  generalize (old s.L t).kept = Y1 at HM
  generalize stOf (old s.L t) = Y2 at HM
  generalize ((old s.L t).stamp : Int) = Y3 at HM
  generalize vol f = VF at c4 ⊢
  generalize vol t = VT at c3 c5 ⊢
  have HS := Lib.hid hsub
  obtain ⟨RES, hRES⟩ : ∃ RES, RES = if E ≠ 0 then E else if K = 0 then 11 else if H = false then 11 else if K = 1 then 12 else if M = 1 then 12 else if VF ≠ VT ∧ B = true then 13 else 0 := ⟨_, rfl⟩
  rw [← hRES]
  clear h hsub ho1 ho2 hv hf hR
  by_cases hE : E = 0
  · subst hE
    rw [if_neg (by decide)] at hRES
    have HRES := Lib.hid hRES
    clear hRES
    go_enter Tryz.func101, Tryz.ntmps101
    go_upto_region 4 with (go_at_call 84; refine c1.mono ?_; rintro e w1 ⟨rfl, hb1⟩)
    go_cut [8, 9] from 11 (fun v1 v2 wq => ∃ gf gg, v1 = .pointer (some ⟨gf, 0, none⟩) ∧ v2 = .pointer (some ⟨gg, 0, none⟩) ∧ Box5 wq gf K X0 X1 X2 X3 ∧ Box5 wq gg M Y0 Y1 Y2 Y3 ∧ Below w.heap.size w wq)
    case first =>
      have hbw : b < w1.heap.size := Nat.lt_of_lt_of_le hb hb1.size
      have B1 := Lib.hid (Below.refl w1.heap.size w1).drew
      have B2 := fun o => ((Below.refl _ w1).alloc (Nat.le_refl _) o).drew
      have B3 := fun o o2 => (((Below.refl _ w1).alloc (Nat.le_refl _) o).alloc (by simp) o2).drew
      have g0 := HC.out _ hb1
      have k1 := HL.out _ (below_call hb1 B1.out)
      have k2 := fun o => HL.out _ (below_call hb1 (B2 o))
      have k3 := fun o o2 => HL.out _ (below_call hb1 (B3 o o2))
      have m1 := HM.out _ (below_call hb1 B1.out)
      have m2 := fun o => HM.out _ (below_call hb1 (B2 o))
      have m3 := fun o o2 => HM.out _ (below_call hb1 (B3 o o2))
      have HB3 := Lib.hid (fun o o2 => below_call hb1 (B3 o o2))
      clear B2 B3 c1 c2 c3 c4 c5
      go_region
      all_goals (go_wp2_with fail; go_meet)
      · exact ⟨_, _, rfl, rfl, box5_of (two_first _ _ _), box5_of (two_second _ _ _), HB3.out _ _⟩
      · exact ⟨_, _, rfl, rfl, box5_of (two_second _ _ _), box5_of (two_first _ _ _), HB3.out _ _⟩
    case rest =>
      obtain ⟨gf, gg, rfl, rfl, hX, hY, hb2⟩ := hcut
      clear c1 hb1
      have HX := Lib.hid (fun W (hW : Below wc.heap.size wc W) => hX.below hW)
      have HY := Lib.hid (fun W (hW : Below wc.heap.size wc W) => hY.below hW)
      have c0X := hX.c0
      have c0Y := hY.c0
      have hgf := hX.lt
      have hgg := hY.lt
      clear hX hY
      have HSZ := Lib.hid hb2.size
      have hvw : ∀ n, Below wc.heap.size wc (wc.drewN n) := fun n => below_drewN wc n
      have HVW := Lib.hid hvw
      clear hvw
      have HCM := Lib.hid (fun W (hW : Below wc.heap.size wc W) => c2 W (below_call hb2 hW))
      clear c2
      have HVB := Lib.hid (fun n => below_drewN wc n)
      by_cases hV : VF = VT
      · have ev : (VF.toList == VT.toList) = true := by rw [hV]; exact beq_self_eq_true _
        have HV := Lib.hid hV
        clear hV
        clear HVW
        by_cases hK0 : K = 0
        · subst hK0
          have HR2 : Hid (RES = 11) := HRES.out.trans (if_pos rfl)
          clear HRES
          go_wp2_with (first | (go_at_call 86; first | ((with_reducible refine (c4 _).mono ?_); rintro e wv ⟨rfl, n4, rfl⟩) | ((with_reducible refine (c5 _).mono ?_); rintro e wv2 ⟨rfl, n5, rfl⟩)) | (go_at_call 89; refine (HCM.out _ (HVB.out _)).mono ?_; rintro e w3 ⟨rfl, hb3⟩; have hb4 := below_call (HVB.out _) hb3; have x0 := (HX.out _ hb4).c0; have y0 := (HY.out _ hb4).c0))
          go_ret
          exact ⟨ret_int (by rw [HR2.out]; rfl), below_call hb2 (HVB.out _)⟩
        · have HR1 := Lib.hid (HRES.out.trans (if_neg hK0))
          have k0 := ne_eq hK0
          clear hK0 HRES
          cases H with
          | false =>
            have HR2 : Hid (RES = 11) := HR1.out.trans (if_pos rfl)
            go_wp2_with (first | (go_at_call 86; first | ((with_reducible refine (c4 _).mono ?_); rintro e wv ⟨rfl, n4, rfl⟩) | ((with_reducible refine (c5 _).mono ?_); rintro e wv2 ⟨rfl, n5, rfl⟩)) | (go_at_call 89; refine (HCM.out _ (HVB.out _)).mono ?_; rintro e w3 ⟨rfl, hb3⟩; have hb4 := below_call (HVB.out _) hb3; have x0 := (HX.out _ hb4).c0; have y0 := (HY.out _ hb4).c0))
            go_ret
            exact ⟨ret_int (by rw [HR2.out]; rfl), below_call hb2 hb4⟩
          | true =>
            have HR3 := Lib.hid (HR1.out.trans (if_neg (by decide)))
            by_cases hK1 : K = 1
            · subst hK1
              have HR2 : Hid (RES = 12) := HR3.out.trans (if_pos rfl)
              clear HR1 HR3
              go_wp2_with (first | (go_at_call 86; first | ((with_reducible refine (c4 _).mono ?_); rintro e wv ⟨rfl, n4, rfl⟩) | ((with_reducible refine (c5 _).mono ?_); rintro e wv2 ⟨rfl, n5, rfl⟩)) | (go_at_call 89; refine (HCM.out _ (HVB.out _)).mono ?_; rintro e w3 ⟨rfl, hb3⟩; have hb4 := below_call (HVB.out _) hb3; have x0 := (HX.out _ hb4).c0; have y0 := (HY.out _ hb4).c0))
              go_ret
              exact ⟨ret_int (by rw [HR2.out]; rfl), below_call hb2 hb4⟩
            · have HR4 := Lib.hid (HR3.out.trans (if_neg hK1))
              have k1 : ((K : Int) == 1) = false := beq_eq_false_iff_ne.2 (by omega)
              clear hK1 HR1 HR3
              by_cases hM1 : M = 1
              · subst hM1
                have HR2 : Hid (RES = 12) := HR4.out.trans (if_pos rfl)
                clear HR4
                go_wp2_with (first | (go_at_call 86; first | ((with_reducible refine (c4 _).mono ?_); rintro e wv ⟨rfl, n4, rfl⟩) | ((with_reducible refine (c5 _).mono ?_); rintro e wv2 ⟨rfl, n5, rfl⟩)) | (go_at_call 89; refine (HCM.out _ (HVB.out _)).mono ?_; rintro e w3 ⟨rfl, hb3⟩; have hb4 := below_call (HVB.out _) hb3; have x0 := (HX.out _ hb4).c0; have y0 := (HY.out _ hb4).c0))
                go_ret
                exact ⟨ret_int (by rw [HR2.out]; rfl), below_call hb2 hb4⟩
              · have HR5 := Lib.hid (HR4.out.trans (if_neg hM1))
                have m1 : ((M : Int) == 1) = false := beq_eq_false_iff_ne.2 (by omega)
                clear hM1 HR4
                have HR2 : Hid (RES = 0) := HR5.out.trans (if_neg (fun e => e.1 HV.out))
                clear HR5
                go_upto_region 12 with (first | (go_at_call 86; first | ((with_reducible refine (c4 _).mono ?_); rintro e wv ⟨rfl, n4, rfl⟩) | ((with_reducible refine (c5 _).mono ?_); rintro e wv2 ⟨rfl, n5, rfl⟩)) | (go_at_call 89; refine (HCM.out _ (HVB.out _)).mono ?_; rintro e w3 ⟨rfl, hb3⟩; have hb4 := below_call (HVB.out _) hb3; have x0 := (HX.out _ hb4).c0; have y0 := (HY.out _ hb4).c0))
                refine Rg.wp_only ?_ (regMayRename0 _ (by kernel_rfl) _ b bi bl gf gg l s t X0 Y0 VT true _ (HI.out _ (below_call hb2 hb4)) (HX.out _ hb4).c1 (HY.out _ hb4).c1)
                rintro _ w9 ⟨rfl, hb9⟩
                go_wp2_with fail
                go_ret
                exact ⟨ret_int (by rw [HR2.out]; rfl), below_call (below_call hb2 hb4) hb9⟩
      · have ev : (VF.toList == VT.toList) = false := bytes_ne hV
        have HV := Lib.hid hV
        clear hV
        clear HVW
        by_cases hK0 : K = 0
        · subst hK0
          have HR2 : Hid (RES = 11) := HRES.out.trans (if_pos rfl)
          clear HRES
          go_wp2_with (first | (go_at_call 86; first | ((with_reducible refine (c4 _).mono ?_); rintro e wv ⟨rfl, n4, rfl⟩) | ((with_reducible refine (c5 _).mono ?_); rintro e wv2 ⟨rfl, n5, rfl⟩)) | (go_at_call 89; refine (HCM.out _ (HVB.out _)).mono ?_; rintro e w3 ⟨rfl, hb3⟩; have hb4 := below_call (HVB.out _) hb3; have x0 := (HX.out _ hb4).c0; have y0 := (HY.out _ hb4).c0))
          go_ret
          exact ⟨ret_int (by rw [HR2.out]; rfl), below_call hb2 (HVB.out _)⟩
        · have HR1 := Lib.hid (HRES.out.trans (if_neg hK0))
          have k0 := ne_eq hK0
          clear hK0 HRES
          cases H with
          | false =>
            have HR2 : Hid (RES = 11) := HR1.out.trans (if_pos rfl)
            go_wp2_with (first | (go_at_call 86; first | ((with_reducible refine (c4 _).mono ?_); rintro e wv ⟨rfl, n4, rfl⟩) | ((with_reducible refine (c5 _).mono ?_); rintro e wv2 ⟨rfl, n5, rfl⟩)) | (go_at_call 89; refine (HCM.out _ (HVB.out _)).mono ?_; rintro e w3 ⟨rfl, hb3⟩; have hb4 := below_call (HVB.out _) hb3; have x0 := (HX.out _ hb4).c0; have y0 := (HY.out _ hb4).c0))
            go_ret
            exact ⟨ret_int (by rw [HR2.out]; rfl), below_call hb2 hb4⟩
          | true =>
            have HR3 := Lib.hid (HR1.out.trans (if_neg (by decide)))
            by_cases hK1 : K = 1
            · subst hK1
              have HR2 : Hid (RES = 12) := HR3.out.trans (if_pos rfl)
              clear HR1 HR3
              go_wp2_with (first | (go_at_call 86; first | ((with_reducible refine (c4 _).mono ?_); rintro e wv ⟨rfl, n4, rfl⟩) | ((with_reducible refine (c5 _).mono ?_); rintro e wv2 ⟨rfl, n5, rfl⟩)) | (go_at_call 89; refine (HCM.out _ (HVB.out _)).mono ?_; rintro e w3 ⟨rfl, hb3⟩; have hb4 := below_call (HVB.out _) hb3; have x0 := (HX.out _ hb4).c0; have y0 := (HY.out _ hb4).c0))
              go_ret
              exact ⟨ret_int (by rw [HR2.out]; rfl), below_call hb2 hb4⟩
            · have HR4 := Lib.hid (HR3.out.trans (if_neg hK1))
              have k1 : ((K : Int) == 1) = false := beq_eq_false_iff_ne.2 (by omega)
              clear hK1 HR1 HR3
              by_cases hM1 : M = 1
              · subst hM1
                have HR2 : Hid (RES = 12) := HR4.out.trans (if_pos rfl)
                clear HR4
                go_wp2_with (first | (go_at_call 86; first | ((with_reducible refine (c4 _).mono ?_); rintro e wv ⟨rfl, n4, rfl⟩) | ((with_reducible refine (c5 _).mono ?_); rintro e wv2 ⟨rfl, n5, rfl⟩)) | (go_at_call 89; refine (HCM.out _ (HVB.out _)).mono ?_; rintro e w3 ⟨rfl, hb3⟩; have hb4 := below_call (HVB.out _) hb3; have x0 := (HX.out _ hb4).c0; have y0 := (HY.out _ hb4).c0))
                go_ret
                exact ⟨ret_int (by rw [HR2.out]; rfl), below_call hb2 hb4⟩
              · have HR5 := Lib.hid (HR4.out.trans (if_neg hM1))
                have m1 : ((M : Int) == 1) = false := beq_eq_false_iff_ne.2 (by omega)
                clear hM1 HR4
                cases B with
                | true =>
                  have HR2 : Hid (RES = 13) := HR5.out.trans (if_pos ⟨HV.out, rfl⟩)
                  clear HR5
                  go_upto_region 12 with (first | (go_at_call 86; first | ((with_reducible refine (c4 _).mono ?_); rintro e wv ⟨rfl, n4, rfl⟩) | ((with_reducible refine (c5 _).mono ?_); rintro e wv2 ⟨rfl, n5, rfl⟩)) | (go_at_call 89; refine (HCM.out _ (HVB.out _)).mono ?_; rintro e w3 ⟨rfl, hb3⟩; have hb4 := below_call (HVB.out _) hb3; have x0 := (HX.out _ hb4).c0; have y0 := (HY.out _ hb4).c0))
                  refine Rg.wp_only ?_ (regMayRename1 _ (by kernel_rfl) _ b bi bl gf gg l s t X0 Y0 VT true _ (HI.out _ (below_call hb2 hb4)) (HX.out _ hb4).c1 (HY.out _ hb4).c1 HS.out c5 c3)
                  rintro _ w9 ⟨rfl, hb9⟩
                  go_wp2_with fail
                  go_ret
                  exact ⟨ret_int (by rw [HR2.out]; rfl), below_call (below_call hb2 hb4) hb9⟩
                | false =>
                  have HR2 : Hid (RES = 0) := HR5.out.trans (if_neg (fun e => by cases e.2))
                  clear HR5
                  go_upto_region 12 with (first | (go_at_call 86; first | ((with_reducible refine (c4 _).mono ?_); rintro e wv ⟨rfl, n4, rfl⟩) | ((with_reducible refine (c5 _).mono ?_); rintro e wv2 ⟨rfl, n5, rfl⟩)) | (go_at_call 89; refine (HCM.out _ (HVB.out _)).mono ?_; rintro e w3 ⟨rfl, hb3⟩; have hb4 := below_call (HVB.out _) hb3; have x0 := (HX.out _ hb4).c0; have y0 := (HY.out _ hb4).c0))
                  refine Rg.wp_only ?_ (regMayRename1 _ (by kernel_rfl) _ b bi bl gf gg l s t X0 Y0 VT false _ (HI.out _ (below_call hb2 hb4)) (HX.out _ hb4).c1 (HY.out _ hb4).c1 HS.out c5 c3)
                  rintro _ w9 ⟨rfl, hb9⟩
                  go_wp2_with fail
                  go_ret
                  exact ⟨ret_int (by rw [HR2.out]; rfl), below_call (below_call hb2 hb4) hb9⟩
  · rw [if_pos hE] at hRES
    have e1 := ne_eq hE
    have HRES := Lib.hid hRES
    clear hE hRES
    go_enter Tryz.func101, Tryz.ntmps101
    go_wp2_with (go_at_call 84; refine c1.mono ?_; rintro e w1 ⟨rfl, hb1⟩)
    go_ret
    exact ⟨ret_int (by rw [HRES.out]), hb1⟩
end Go.Proofs.YtbghokdlnnaeeaaGreat.Dk

/- What the closures of Write, Append, Sync, Rename, Remove do. -/
namespace Go.Proofs.YtbghokdlnnaeeaaGreat.Dk
open Go.RowKit Tx Pm Pl Pr
set_option linter.unusedVariables false

theorem Mp.put {w : World} {bi : Nat} {L : List It} (h : Mp w bi L) {x : It} {p : ByteArray} {v : Value} (hx : x.path = p) (hv : iv3 x = v) (hp : p.size ≤ 8000000000000) (hn : L.length ≤ 1000000000) :
    ∃ w', (Instr.mapUpdate 76 (.map (some bi)) (.string p) v).run Tryz.prog w = .ok () w' ∧ Mp w' bi (ins L x) ∧ w.mapTurned w' bi := by
  subst hx
  subst hv
  exact h.store (maxLen_of hp) (by unfold maxLen; omega)
theorem kOf_file {x : It} (h : x.dir = false) : kOf x = 2 := by unfold kOf; rw [h]; rfl
set_option maxRecDepth 100000 in
set_option maxHeartbeats 1000000 in
theorem iWriteC_any (b bi bl bd bp bq : Nat) (l : Int) (s : St) (p d : ByteArray) (w : World) (h : Ia b bi bl l w s) (hd : Cap w bd (.pointer (some ⟨b, 0, none⟩))) (hp : Cap w bp (.string p)) (hq : Cap w bq (.string d)) (hps : p.size ≤ 8000000000000) (hn : s.L.length ≤ 1000000000) (hst : s.stamps ≤ 1000000000000)
    (ho : (old s.L p).dir = false) :
    Calls Tryz.prog 100 #[.pointer (some ⟨bd, 0, none⟩), .pointer (some ⟨bp, 0, none⟩), .pointer (some ⟨bq, 0, none⟩)] w fun e w' => e = .returned (.tuple #[]) ∧ Ip b bi bl w (putS s { old s.L p with data := d, loose := true, anew := true }) w' := by
  obtain ⟨c0, _⟩ := h.cell
  unfold Cap at hd hp hq
  have h0 := h.below (Below.refl _ w).drew
  have hl := h0.look (maxLen_of hps)
  have cs := iSet_any b bi bl l s { old s.L p with data := d, loose := true, anew := true } 0 p w.drew h0 (old_path _ _) hps hn hst
  have e1 : kOf { old s.L p with data := d, loose := true, anew := true } = 2 := kOf_file ho
  rw [e1] at cs
  have cs : Calls Tryz.prog 48 #[.pointer (some ⟨b, 0, none⟩), .string p, .agg #[.int .i64 2, .string d, .string (old s.L p).kept, .int .i64 2, .int .i64 0]] w.drew fun e w' => e = .returned (.tuple #[]) ∧ Ip b bi bl w.drew (putS s { old s.L p with data := d, loose := true, anew := true }) w' := cs
  have hf2 := fld2
  have hend : ∀ w', Ip b bi bl w.drew (putS s { old s.L p with data := d, loose := true, anew := true }) w' → Ip b bi bl w (putS s { old s.L p with data := d, loose := true, anew := true }) w' := fun w' hh => Ip.after (Below.refl _ w).drew hh
  have HE := Lib.hid hend
  generalize (putS s { old s.L p with data := d, loose := true, anew := true }) = s' at cs HE ⊢
  generalize (old s.L p).kept = X1 at cs hl
  generalize stOf (old s.L p) = X2 at hl
  clear h h0 hend e1 ho
  go_enter Tryz.func100, Tryz.ntmps100
  go_wp2
  go_still_tail 11, (by kernel_rfl)
  change wpList _ _ _ _ _ w.drew
  go_wp2_with (go_at_call 48; refine cs.mono ?_; rintro e w5 ⟨rfl, h5⟩)
  go_end0
  exact ⟨rfl, HE.out _ h5⟩
set_option maxRecDepth 100000 in
set_option maxHeartbeats 1000000 in
theorem iSyncC_any (b bi bl bd bp : Nat) (l : Int) (s : St) (p : ByteArray) (w : World) (h : Ia b bi bl l w s) (hd : Cap w bd (.pointer (some ⟨b, 0, none⟩))) (hp : Cap w bp (.string p)) (hps : p.size ≤ 8000000000000) (hn : s.L.length ≤ 1000000000)
    (ho : kind s.L p = 2) :
    Calls Tryz.prog 77 #[.pointer (some ⟨bd, 0, none⟩), .pointer (some ⟨bp, 0, none⟩)] w fun e w' => e = .returned (.tuple #[]) ∧ Ip b bi bl w { s with L := ins s.L { old s.L p with kept := (old s.L p).data, loose := false, anew := false } } w' := by
  obtain ⟨c0, _⟩ := h.cell
  unfold Cap at hd hp
  have hl := (h.below (Below.refl _ w).drew).look (maxLen_of hps)
  have hl2 := fun o => (h.below ((Below.refl _ w).alloc (Nat.le_refl _) o).drew).look (maxLen_of hps)
  rw [ho] at hl hl2
  have hod : (old s.L p).dir = false := old_dir (by omega)
  have hbd : bd < w.heap.size := World.block_lt_of_cell? w _ hd
  have hbp : bp < w.heap.size := World.block_lt_of_cell? w _ hp
  have hb : b < w.heap.size := h.lt b (.inl rfl)
  generalize hX0 : (old s.L p).data = X0 at hl hl2
  have hB2 := ((Below.refl _ w).alloc (Nat.le_refl _) (.cells #[.int .i64 2, .string X0, .string X0, .int .i64 0, .int .i64 (old s.L p).stamp] 82)).drew.drew
  have a2 := h.below hB2
  have e1 : iv3 { old s.L p with kept := X0, loose := false, anew := false } = .agg #[.int .i64 2, .string X0, .string X0, .int .i64 0, .int .i64 (old s.L p).stamp] := by
    unfold iv3
    rw [show kOf { old s.L p with kept := X0, loose := false, anew := false } = 2 from kOf_file hod, ← hX0]
    rfl
  obtain ⟨w3, hrun, hm, ht⟩ := a2.items.put (x := { old s.L p with kept := X0, loose := false, anew := false }) (old_path s.L p) e1 hps hn
  have HE := Lib.hid (show Ip b bi bl w { s with L := ins s.L { old s.L p with kept := X0, loose := false, anew := false } } w3 from ⟨l, a2.turned hm ht, (Chg.of_below hB2).then ((turned_chg ht).mono ft_i)⟩)
  generalize stOf (old s.L p) = X2 at hl hl2
  generalize ((old s.L p).stamp : Int) = X3 at hl hl2 hrun
  generalize (old s.L p).kept = X4 at hl hl2
  clear h hB2 a2 hm ht e1 hod ho hX0
  go_enter Tryz.func77, Tryz.ntmps77
  go_wp2
  go_region
  all_goals go_wp2
  all_goals go_region
  all_goals (go_end0; exact ⟨rfl, HE.out⟩)
end Go.Proofs.YtbghokdlnnaeeaaGreat.Dk

/- What the closures of Append and Rename do. -/
namespace Go.Proofs.YtbghokdlnnaeeaaGreat.Dk
open Go.RowKit Tx Pm Pl Pr
set_option linter.unusedVariables false

set_option maxRecDepth 100000 in
set_option maxHeartbeats 2000000 in
theorem iAppendC_any (b bi bl bd bp bq : Nat) (l : Int) (s : St) (p d : ByteArray) (w : World) (h : Ia b bi bl l w s) (hd : Cap w bd (.pointer (some ⟨b, 0, none⟩))) (hp : Cap w bp (.string p)) (hq : Cap w bq (.string d)) (hps : p.size ≤ 8000000000000) (hn : s.L.length ≤ 1000000000) (hst : s.stamps ≤ 1000000000000)
    (ho : kind s.L p = 2) (hca : (old s.L p).loose = false → (old s.L p).anew = false) (hsz : (old s.L p).data.size + d.size ≤ 1000000000000000000) :
    Calls Tryz.prog 60 #[.pointer (some ⟨bd, 0, none⟩), .pointer (some ⟨bp, 0, none⟩), .pointer (some ⟨bq, 0, none⟩)] w fun e w' => e = .returned (.tuple #[]) ∧ Ip b bi bl w (putS s { old s.L p with data := (old s.L p).data ++ d, loose := true }) w' := by
  obtain ⟨c0, _⟩ := h.cell
  unfold Cap at hd hp hq
  have hbd : bd < w.heap.size := World.block_lt_of_cell? w _ hd
  have hbp : bp < w.heap.size := World.block_lt_of_cell? w _ hp
  have hbq : bq < w.heap.size := World.block_lt_of_cell? w _ hq
  have hb : b < w.heap.size := h.lt b (.inl rfl)
  have hl := (h.below (Below.refl _ w).drew).look (maxLen_of hps)
  have hl2 := fun o => (h.below ((Below.refl _ w).alloc (Nat.le_refl _) o).drew).look (maxLen_of hps)
  rw [ho] at hl hl2
  have hod : (old s.L p).dir = false := old_dir (by omega)
  have hst2 : stOf { old s.L p with data := (old s.L p).data ++ d, loose := true } = if stOf (old s.L p) = 0 then 1 else stOf (old s.L p) := by
    unfold stOf
    cases hlo : (old s.L p).loose with
    | false =>
      rw [hca hlo]
      rfl
    | true => cases (old s.L p).anew <;> rfl
  have hst3 : stOf (old s.L p) = 0 ∨ stOf (old s.L p) = 1 ∨ stOf (old s.L p) = 2 := by
    unfold stOf
    cases (old s.L p).loose <;> cases (old s.L p).anew <;> simp
  have cs := fun W (hW : Below w.heap.size w W) => iSet_any b bi bl l s { old s.L p with data := (old s.L p).data ++ d, loose := true } (old s.L p).stamp p W (h.below hW) (old_path _ _) hps hn hst
  rw [show kOf { old s.L p with data := (old s.L p).data ++ d, loose := true } = 2 from kOf_file hod, hst2] at cs
  simp only at cs
  have HE := Lib.hid (fun W w' (hW : Below w.heap.size w W) (hh : Ip b bi bl W (putS s { old s.L p with data := (old s.L p).data ++ d, loose := true }) w') => Ip.after hW hh)
  generalize (putS s { old s.L p with data := (old s.L p).data ++ d, loose := true }) = s' at cs HE ⊢
  generalize (old s.L p).data = X0 at hl hl2 cs hsz
  generalize (old s.L p).kept = X1 at hl hl2 cs
  generalize ((old s.L p).stamp : Int) = X3 at hl hl2 cs
  generalize stOf (old s.L p) = X2 at hl hl2 cs hst3
  clear h ho hca hod hst2
  have hBW : ∀ o, Below w.heap.size w (w.alloc o).drew := fun o => ((Below.refl _ w).alloc (Nat.le_refl _) o).drew
  have HC := Lib.hid cs
  have HB := Lib.hid hBW
  clear cs hBW
  rcases hst3 with rfl | rfl | rfl
  · go_enter Tryz.func60, Tryz.ntmps60
    go_wp2
    go_region
    all_goals go_wp2_with (go_at_call 48; refine (HC.out _ (HB.out _)).mono ?_; rintro e w5 ⟨rfl, h5⟩)
    all_goals (go_end0; exact ⟨rfl, HE.out _ _ (HB.out _) h5⟩)
  · go_enter Tryz.func60, Tryz.ntmps60
    go_wp2
    go_region
    all_goals go_wp2_with (go_at_call 48; refine (HC.out _ (HB.out _)).mono ?_; rintro e w5 ⟨rfl, h5⟩)
    all_goals (go_end0; exact ⟨rfl, HE.out _ _ (HB.out _) h5⟩)
  · go_enter Tryz.func60, Tryz.ntmps60
    go_wp2
    go_region
    all_goals go_wp2_with (go_at_call 48; refine (HC.out _ (HB.out _)).mono ?_; rintro e w5 ⟨rfl, h5⟩)
    all_goals (go_end0; exact ⟨rfl, HE.out _ _ (HB.out _) h5⟩)
theorem turned_cell {w w' : World} {b i : Nat} (h : w.mapTurned w' b) (hi : i ≠ b) (o : Nat) : w'.cell? ⟨i, o, none⟩ = w.cell? ⟨i, o, none⟩ := by
  unfold World.cell?
  simp only [turned_block h hi]
theorem cell_ne {w : World} {bi : Nat} {L : List It} (h : Mp w bi L) {g : Nat} {o : Nat} {v : Value} (hc : w.cell? ⟨g, o, none⟩ = some v) : g ≠ bi := by
  rintro rfl
  obtain ⟨D, ⟨es, clock, hb, _⟩, _⟩ := h
  unfold World.cell? at hc
  simp [hb] at hc
set_option maxRecDepth 100000 in
set_option maxHeartbeats 2000000 in
theorem iRenameC_any (b bi bl bd bp bq : Nat) (l : Int) (s : St) (f t : ByteArray) (w : World) (h : Ia b bi bl l w s) (hR : Rises s.L) (hd : Cap w bd (.pointer (some ⟨b, 0, none⟩))) (hp : Cap w bp (.string f)) (hq : Cap w bq (.string t)) (hfs : f.size ≤ 8000000000000) (hts : t.size ≤ 8000000000000) (hn : s.L.length ≤ 1000000000) (hst : s.stamps ≤ 1000000000000)
    (ho : kind s.L f = 2) :
    Calls Tryz.prog 102 #[.pointer (some ⟨bd, 0, none⟩), .pointer (some ⟨bp, 0, none⟩), .pointer (some ⟨bq, 0, none⟩)] w fun e w' => e = .returned (.tuple #[]) ∧ Ip b bi bl w (putS { s with L := drop s.L f } { old s.L f with path := t }) w' := by
  obtain ⟨c0, _⟩ := h.cell
  unfold Cap at hd hp hq
  have hbd : bd < w.heap.size := World.block_lt_of_cell? w _ hd
  have hbp : bp < w.heap.size := World.block_lt_of_cell? w _ hp
  have hbq : bq < w.heap.size := World.block_lt_of_cell? w _ hq
  have hb : b < w.heap.size := h.lt b (.inl rfl)
  have nd := cell_ne h.items hd
  have np := cell_ne h.items hp
  have nq := cell_ne h.items hq
  have nb := h.nb.1
  have nn : w.heap.size ≠ bi := fun e => by have := h.items.lt; omega
  have hl := (h.below (Below.refl _ w).drew).look (maxLen_of hfs)
  have hl2 := fun o => (h.below ((Below.refl _ w).alloc (Nat.le_refl _) o).drew).look (maxLen_of hfs)
  rw [ho] at hl hl2
  have hod : (old s.L f).dir = false := old_dir (by omega)
  have hB2 := ((Below.refl _ w).alloc (Nat.le_refl _) (.cells #[.int .i64 2, .string (old s.L f).data, .string (old s.L f).kept, .int .i64 (stOf (old s.L f)), .int .i64 (old s.L f).stamp] 82)).drew.drew
  have a2 := h.below hB2
  obtain ⟨w3, hrun, hm, ht⟩ := a2.items.del hR (maxLen_of hfs) 0
  have a3 : Ia b bi bl l w3 { s with L := drop s.L f } := a2.turned hm ht
  have hc3 : Chg (Ft b bi bl) w w3 := (Chg.of_below hB2).then ((turned_chg ht).mono ft_i)
  have hbox : w3.cell? ⟨w.heap.size, 0, none⟩ = some (.int .i64 2) ∧ w3.cell? ⟨w.heap.size, 1, none⟩ = some (.string (old s.L f).data) ∧ w3.cell? ⟨w.heap.size, 2, none⟩ = some (.string (old s.L f).kept) ∧ w3.cell? ⟨w.heap.size, 3, none⟩ = some (.int .i64 (stOf (old s.L f))) ∧ w3.cell? ⟨w.heap.size, 4, none⟩ = some (.int .i64 (old s.L f).stamp) := by
    refine ⟨?_, ?_, ?_, ?_, ?_⟩ <;> · rw [turned_cell ht nn]; exact World.cell?_alloc_at _ _ _ _ rfl
  have g0 : w3.cell? ⟨bd, 0, none⟩ = some (.pointer (some ⟨b, 0, none⟩)) := (turned_cell ht nd 0).trans ((World.cell?_alloc_past _ _ _ hbd).trans hd)
  have g1 : w3.cell? ⟨bq, 0, none⟩ = some (.string t) := (turned_cell ht nq 0).trans ((World.cell?_alloc_past _ _ _ hbq).trans hq)
  have cs := iSet_any b bi bl l { s with L := drop s.L f } { old s.L f with path := t } (old s.L f).stamp t w3 a3 rfl hts (Nat.le_trans (drop_in s.L f).2 hn) hst
  rw [show kOf { old s.L f with path := t } = 2 from kOf_file hod] at cs
  have cs : Calls Tryz.prog 48 #[.pointer (some ⟨b, 0, none⟩), .string t, .agg #[.int .i64 2, .string (old s.L f).data, .string (old s.L f).kept, .int .i64 (stOf (old s.L f)), .int .i64 (old s.L f).stamp]] w3 fun e w' => e = .returned (.tuple #[]) ∧ Ip b bi bl w3 (putS { s with L := drop s.L f } { old s.L f with path := t }) w' := cs
  have hfin : ∀ w', Ip b bi bl w3 (putS { s with L := drop s.L f } { old s.L f with path := t }) w' → Ip b bi bl w (putS { s with L := drop s.L f } { old s.L f with path := t }) w' := fun w' ⟨l2, h1, h2⟩ => ⟨l2, h1, hc3.then h2⟩
  have HE := Lib.hid hfin
  clear h ho hod hB2 a2 a3 hm ht hc3 hfin
  generalize (putS { s with L := drop s.L f } { old s.L f with path := t }) = s' at cs HE ⊢
  generalize (old s.L f).data = X0 at hl hl2 cs hrun hbox
  generalize (old s.L f).kept = X1 at hl hl2 cs hrun hbox
  generalize ((old s.L f).stamp : Int) = X3 at hl hl2 cs hrun hbox
  generalize stOf (old s.L f) = X2 at hl hl2 cs hrun hbox
  obtain ⟨k0, k1, k2, k3, k4⟩ := hbox
  go_enter Tryz.func102, Tryz.ntmps102
  go_wp2
  go_region
  all_goals go_wp2
  all_goals go_region
  all_goals go_wp2_with (go_at_call 48; refine cs.mono ?_; rintro e w5 ⟨rfl, h5⟩)
  all_goals (go_end0; exact ⟨rfl, HE.out _ h5⟩)
end Go.Proofs.YtbghokdlnnaeeaaGreat.Dk

/- Package disk's Mkdir, Write, Append, Sync, Rename: as the document says. -/
namespace Go.Proofs.YtbghokdlnnaeeaaGreat.Dk
open Go.RowKit Tx Pm Pl Pr
set_option linter.unusedVariables false

theorem cap_chg {w w1 : World} {F : Nat → Prop} {g : Nat} {v : Value} (h : Cap w g v) (hc : Chg F w w1) (hn : ¬ F g) : Cap w1 g v := by
  have hg := World.block_lt_of_cell? w _ h
  unfold Cap World.cell? at *
  rw [hc.block g hg hn]
  exact h
theorem cap_below {w w1 : World} {g : Nat} {v : Value} (h : Cap w g v) (hb : Below w.heap.size w w1) : Cap w1 g v := cap_chg (F := fun _ => False) h ⟨hb.os, hb.tape, hb.output, hb.size, fun i hi _ => hb.block i hi⟩ id
theorem cap_new (w : World) (v : Value) (T : TypeId) : Cap (w.alloc (.cells #[v] T)) w.heap.size v := by
  unfold Cap
  rw [World.cell?_alloc_at _ _ _ _ rfl]
  rfl
theorem first_down {s : St} {p : ByteArray} {m : Nat} (h : first s p m = 0) : s.down = false := by
  unfold first at h
  cases hd : s.down with
  | false => rfl
  | true => rw [hd] at h; cases h
theorem mkdir_step (s : St) (p : ByteArray) : mkdirS s p = stepR s (mayMkdirS s p) { (done s).2 with L := ins (done s).2.L ⟨p, true, ⟨#[]⟩, ⟨#[]⟩, false, false, 0⟩ } := by
  unfold mkdirS mayMkdirS stepR
  by_cases h1 : first s p 0 ≠ 0
  · rw [if_pos h1, if_pos h1, if_pos h1]
  · rw [if_neg h1, if_neg h1]
    by_cases h2 : home s.L p = false
    · rw [if_pos h2, if_pos h2, if_pos (by decide)]
    · rw [if_neg h2, if_neg h2]
      by_cases h3 : kind s.L p = 2
      · rw [if_pos h3, if_pos h3, if_pos (by decide)]
      · rw [if_neg h3, if_neg h3]
        rfl
theorem mayMkdir_down {s : St} {p : ByteArray} (h : mayMkdirS s p = 0) : s.down = false := by
  unfold mayMkdirS at h
  split at h
  · rename_i h1; exact absurd h h1
  · rename_i h1; exact first_down (p := p) (m := 0) (by omega)
theorem write_step {s : St} (hg : Good s) (p d : ByteArray) : writeS s p d = stepR s (mayWriteS s p d) (putS (done s).2 { old s.L p with data := d, loose := true, anew := true }) := by
  unfold writeS mayWriteS stepR
  rw [fits_full hg]
  by_cases h1 : first s p 1 ≠ 0
  · rw [if_pos h1, if_pos h1, if_pos h1]
  · rw [if_neg h1, if_neg h1]
    by_cases h2 : home s.L p = false
    · rw [if_pos h2, if_pos h2, if_pos (by decide)]
    · rw [if_neg h2, if_neg h2]
      by_cases h3 : kind s.L p = 1
      · rw [if_pos h3, if_pos h3, if_pos (by decide)]
      · rw [if_neg h3, if_neg h3]
        cases full s (vol p) ((d.size : Int) - (old s.L p).data.size) with
        | true => rfl
        | false => rfl
theorem mayWrite_ok {s : St} {p d : ByteArray} (h : mayWriteS s p d = 0) : s.down = false ∧ kind s.L p ≠ 1 := by
  unfold mayWriteS at h
  split at h
  · rename_i h1; exact absurd h h1
  rename_i h1
  split at h
  · cases h
  split at h
  · cases h
  rename_i h3
  exact ⟨first_down (p := p) (m := 1) (by omega), h3⟩
theorem append_step {s : St} (hg : Good s) (p d : ByteArray) : appendS s p d = stepR s (mayAppendS s p d) (putS (done s).2 { old s.L p with data := (old s.L p).data ++ d, loose := true }) := by
  unfold appendS mayAppendS stepR
  rw [fits_full hg]
  by_cases h1 : there s p ≠ 0
  · rw [if_pos h1, if_pos h1, if_pos h1]
  · rw [if_neg h1, if_neg h1]
    cases full s (vol p) (d.size : Int) with
    | true => rfl
    | false => rfl
theorem there_kind {s : St} {p : ByteArray} (h : there s p = 0) : s.down = false ∧ kind s.L p = 2 := by
  unfold there at h
  split at h
  · rename_i h1; exact absurd h h1
  rename_i h1
  split at h
  · cases h
  split at h
  · cases h
  rename_i h2 h3
  refine ⟨first_down (p := p) (m := 1) (by omega), ?_⟩
  rcases kind_le s.L p with e | e | e
  · exact absurd e h2
  · exact absurd e h3
  · exact e
theorem mayAppend_ok {s : St} {p d : ByteArray} (h : mayAppendS s p d = 0) : s.down = false ∧ kind s.L p = 2 := by
  unfold mayAppendS at h
  split at h
  · rename_i h1; exact absurd h h1
  · rename_i h1; exact there_kind (by omega)
theorem sync_step (s : St) (p : ByteArray) : syncS s p = stepR s (there s p) { (done s).2 with L := ins (done s).2.L { old s.L p with kept := (old s.L p).data, loose := false, anew := false } } := rfl
theorem rename_step {s : St} (hg : Good s) (f t : ByteArray) : renameS s f t = stepR s (mayRenS s f t) (putS { (done s).2 with L := drop (done s).2.L f } { old s.L f with path := t }) := by
  unfold renameS mayRenS stepR firstR
  by_cases h1 : first s f 1 ≠ 0
  · rw [if_pos h1, if_pos h1, if_pos h1, if_pos h1]
  rw [if_neg h1, if_neg h1]
  by_cases h2 : first s t 1 ≠ 0
  · rw [if_pos h2, if_pos h2, if_pos h2]
  rw [if_neg h2, if_neg h2]
  by_cases h3 : kind s.L f = 0
  · rw [if_pos (.inl h3), if_pos h3, if_pos (by decide)]
  rw [if_neg h3]
  by_cases h4 : home s.L t = false
  · rw [if_pos (.inr h4), if_pos h4, if_pos (by decide)]
  rw [if_neg (by rintro (h | h) <;> contradiction), if_neg h4]
  by_cases h5 : kind s.L f = 1
  · rw [if_pos (.inl h5), if_pos h5, if_pos (by decide)]
  rw [if_neg h5]
  by_cases h6 : kind s.L t = 1
  · rw [if_pos (.inr h6), if_pos h6, if_pos (by decide)]
  rw [if_neg (by rintro (h | h) <;> contradiction), if_neg h6]
  have e : (f ≠ t ∧ fits s t (moreS s.L f t) = false) ↔ (vol f ≠ vol t ∧ full s (vol t) (((old s.L f).data.size : Int) - (old s.L t).data.size) = true) := by
    rw [fits_full hg]
    by_cases hv : vol f = vol t
    · have hm : moreS s.L f t ≤ 0 := by
        unfold moreS
        rw [if_pos hv]
        split <;> omega
      have hf : full s (vol t) (moreS s.L f t) = false := by
        unfold full
        cases roomOf s.rooms (vol t) with
        | none => rfl
        | some r => simp only; rw [decide_eq_false (by omega), Bool.false_and]
      constructor
      · rintro ⟨_, h⟩
        rw [hf] at h
        cases h
      · rintro ⟨h, _⟩
        exact absurd hv h
    · have hft : f ≠ t := fun e => hv (by rw [e])
      have hm : moreS s.L f t = ((old s.L f).data.size : Int) - (old s.L t).data.size := by
        unfold moreS
        rw [if_neg hv]
        rcases kind_le s.L t with k | k | k
        · have ho : old s.L t = mk t := by
            unfold old
            cases hx : find s.L t with
            | none => rfl
            | some x =>
              unfold kind at k
              rw [hx] at k
              unfold kindOf at k
              simp only at k
              split at k <;> cases k
          rw [if_neg (by omega), ho]
          rfl
        · exact absurd k h6
        · rw [if_pos k]
      rw [hm]
      constructor
      · rintro ⟨_, h⟩
        refine ⟨hv, ?_⟩
        cases hb : full s (vol t) (((old s.L f).data.size : Int) - (old s.L t).data.size) with
        | true => rfl
        | false => rw [hb] at h; cases h
      · rintro ⟨_, h⟩
        refine ⟨hft, ?_⟩
        rw [h]
        rfl
  by_cases h7 : f ≠ t ∧ fits s t (moreS s.L f t) = false
  · rw [if_pos h7, if_pos (e.1 h7), if_pos (by decide)]
  · rw [if_neg h7, if_neg (fun h => h7 (e.2 h))]
    rfl
theorem mayRen_ok {s : St} {f t : ByteArray} (h : mayRenS s f t = 0) : s.down = false ∧ kind s.L f = 2 := by
  unfold mayRenS at h
  split at h
  · rename_i h1; exact absurd h h1
  rename_i h1
  split at h
  · cases h
  rename_i h2
  split at h
  · cases h
  split at h
  · cases h
  rename_i h3
  have hf : first s f 1 = 0 := by
    unfold firstR at h1
    by_cases hq : first s f 1 = 0
    · exact hq
    · rw [if_pos hq] at h1
      omega
  refine ⟨first_down hf, ?_⟩
  rcases kind_le s.L f with e | e | e
  · exact absurd e h2
  · exact absurd e h3
  · exact e

set_option maxRecDepth 100000 in
set_option maxHeartbeats 2000000 in
theorem iMkdir_any (b bi bl : Nat) (l : Int) (s : St) (p : ByteArray) (w : World) (h : Ia b bi bl l w s) (hg : Good s) (ok : Ok s) (hp : p.size ≤ 8000000000000) :
    Calls Tryz.prog 32 #[.pointer (some ⟨b, 0, none⟩), .string p] w fun e w' => e = .returned (.int .i64 ((mkdirS s p).1 : Nat)) ∧ Ip b bi bl w (mkdirS s p).2 w' := by
  have hft := h.lt
  have hn := ok.fit.1
  have hst : (done s).2.stamps ≤ 1000000000000 := by rw [done_stamps]; exact ok.stamps
  have eL := done_L s
  rw [mkdir_step]
  obtain ⟨S', hS'⟩ : ∃ S', S' = { (done s).2 with L := ins (done s).2.L ⟨p, true, ⟨#[]⟩, ⟨#[]⟩, false, false, 0⟩ } := ⟨_, rfl⟩
  rw [← hS']
  have hb1 := (Below.refl w.heap.size w).alloc (Nat.le_refl _) (.cells #[.pointer (some ⟨b, 0, none⟩)] 23)
  have k1 := cap_new w (.pointer (some ⟨b, 0, none⟩)) 23
  have k2 := cap_new (w.alloc (.cells #[.pointer (some ⟨b, 0, none⟩)] 23)) (.string p) 9
  have hs1 : (w.alloc (.cells #[.pointer (some ⟨b, 0, none⟩)] 23)).heap.size = w.heap.size + 1 := by simp
  rw [hs1] at k2
  have hb2 := hb1.alloc (by simp) (.cells #[.string p] 9)
  have k1 := cap_below k1 ((Below.refl _ _).alloc (Nat.le_refl _) (.cells #[.string p] 9))
  obtain ⟨W1, hW1⟩ : ∃ W1, W1 = ((w.alloc (.cells #[.pointer (some ⟨b, 0, none⟩)] 23)).alloc (.cells #[.string p] 9)) := ⟨_, rfl⟩
  rw [← hW1] at k1 k2 hb2
  have hb3 : Below w.heap.size w W1.drew := hb2.drew
  have cm := iMayMkdir_any b bi bl l s p W1.drew (h.below hb3) hp
  have hen : ∀ W, (callFunc 65 #[.pointer (some ⟨w.heap.size, 0, none⟩), .pointer (some ⟨w.heap.size + 1, 0, none⟩)]).run Tryz.prog W = .ok (.enter 65 #[.pointer (some ⟨w.heap.size, 0, none⟩), .pointer (some ⟨w.heap.size + 1, 0, none⟩)]) W :=
    fun W => Rg.enters Tryz.func65 (by kernel_rfl) (by kernel_rfl) _ W
  have ct : ∀ W, Below W1.heap.size W1 W → Calls Tryz.prog 58 #[.pointer (some ⟨b, 0, none⟩), .int .i64 (mayMkdirS s p : Nat), .func (.func 65) #[] #[.pointer (some ⟨w.heap.size, 0, none⟩), .pointer (some ⟨w.heap.size + 1, 0, none⟩)]] W fun e w' => e = .returned (.int .i64 ((stepR s (mayMkdirS s p) S').1 : Nat)) ∧
      (Ip b bi bl w (stepR s (mayMkdirS s p) S').2 w' ∧ Cap w' w.heap.size (.pointer (some ⟨b, 0, none⟩)) ∧ Cap w' (w.heap.size + 1) (.string p)) := by
    intro W hW
    have hbW := below_call hb2 hW
    have j1 := cap_below k1 hW
    have j2 := cap_below k2 hW
    have hnf : ∀ k, ¬ Ft b bi bl (w.heap.size + k) := fun k hk => by have := hft _ hk; omega
    refine (iStep_any b bi bl l s _ _ _ S' W (h.below hbW) (fun e => mayMkdir_down e) ok.steps hen (fun l1 W2 hr _ hI hc => ?_)).mono ?_
    · have m1 := cap_chg j1 hc (fun e => by have := hft b (.inl rfl); omega)
      have m2 := cap_chg j2 hc (fun e => by have := hft b (.inl rfl); omega)
      rw [hS']
      exact iMkdirC_any b bi bl _ _ l1 _ p W2 hI m1 m2 hp (by rw [eL]; exact hn)
    · rintro e w' ⟨rfl, l5, h5, hc5⟩
      exact ⟨rfl, ⟨l5, h5, (Chg.of_below hbW).then hc5⟩, cap_chg j1 hc5 (hnf 0), cap_chg j2 hc5 (hnf 1)⟩
  generalize stepR s (mayMkdirS s p) S' = RES at ct ⊢
  generalize mayMkdirS s p = r at cm ct
  have HW1 := Lib.hid hW1
  clear h hg ok hS' hst eL hn hft hb1 hb2 hb3 hen
  go_enter Tryz.func32, Tryz.ntmps32
  go_wp2_with fail
  rw [← HW1.out]
  refine Rg.wp_only ?_ (regMkdir _ (by kernel_rfl) _ w.heap.size (w.heap.size + 1) (.pointer (some ⟨b, 0, none⟩)) p r RES.1 W1 (fun W => Below W1.heap.size W1 W) (fun W => Ip b bi bl w RES.2 W ∧ Cap W w.heap.size (.pointer (some ⟨b, 0, none⟩)) ∧ Cap W (w.heap.size + 1) (.string p)) ⟨k1, k2⟩ (cm.mono (fun e w' he => ⟨he.1, (Below.refl _ W1).drew.trans he.2⟩)) (fun W hW => ⟨cap_below k1 hW, cap_below k2 hW⟩) ct (fun W hW => hW.2))
  rintro _ w9 ⟨rfl, h9⟩
  go_wp2_with fail
  go_ret
  exact ⟨rfl, h9.1⟩

set_option maxRecDepth 100000 in
set_option maxHeartbeats 2000000 in
theorem iWrite_any (b bi bl : Nat) (l : Int) (s : St) (p q : ByteArray) (w : World) (h : Ia b bi bl l w s) (hg : Good s) (ok : Ok s) (hp : p.size ≤ 8000000000000) (hq : q.size ≤ 1000000000000000000) :
    Calls Tryz.prog 80 #[.pointer (some ⟨b, 0, none⟩), .string p, .string q] w fun e w' => e = .returned (.int .i64 ((writeS s p q).1 : Nat)) ∧ Ip b bi bl w (writeS s p q).2 w' := by
  have hft := h.lt
  have hn := ok.fit.1
  have hst : (done s).2.stamps ≤ 1000000000000 := by rw [done_stamps]; exact ok.stamps
  have eL := done_L s
  rw [write_step hg]
  obtain ⟨S', hS'⟩ : ∃ S', S' = putS (done s).2 { old s.L p with data := q, loose := true, anew := true } := ⟨_, rfl⟩
  rw [← hS']
  have hb1 := (Below.refl w.heap.size w).alloc (Nat.le_refl _) (.cells #[.pointer (some ⟨b, 0, none⟩)] 23)
  have k1 := cap_new w (.pointer (some ⟨b, 0, none⟩)) 23
  have k2 := cap_new (w.alloc (.cells #[.pointer (some ⟨b, 0, none⟩)] 23)) (.string p) 9
  have hs1 : (w.alloc (.cells #[.pointer (some ⟨b, 0, none⟩)] 23)).heap.size = w.heap.size + 1 := by simp
  rw [hs1] at k2
  have hb2 := hb1.alloc (by simp) (.cells #[.string p] 9)
  have k1 := cap_below k1 ((Below.refl _ _).alloc (Nat.le_refl _) (.cells #[.string p] 9))
  have k3 := cap_new ((w.alloc (.cells #[.pointer (some ⟨b, 0, none⟩)] 23)).alloc (.cells #[.string p] 9)) (.string q) 9
  have hs2 : ((w.alloc (.cells #[.pointer (some ⟨b, 0, none⟩)] 23)).alloc (.cells #[.string p] 9)).heap.size = w.heap.size + 1 + 1 := by simp
  rw [hs2] at k3
  have hb2 := hb2.alloc (by simp; omega) (.cells #[.string q] 9)
  have k1 := cap_below k1 ((Below.refl _ _).alloc (Nat.le_refl _) (.cells #[.string q] 9))
  have k2 := cap_below k2 ((Below.refl _ _).alloc (Nat.le_refl _) (.cells #[.string q] 9))
  obtain ⟨W1, hW1⟩ : ∃ W1, W1 = ((w.alloc (.cells #[.pointer (some ⟨b, 0, none⟩)] 23)).alloc (.cells #[.string p] 9)).alloc (.cells #[.string q] 9) := ⟨_, rfl⟩
  rw [← hW1] at k1 k2 k3 hb2
  have hb3 : Below w.heap.size w W1.drew := hb2.drew
  have cm := iMayWrite_any b bi bl l s p q W1.drew (h.below hb3) hg.rises ok.fit hp hq
  have hen : ∀ W, (callFunc 100 #[.pointer (some ⟨w.heap.size, 0, none⟩), .pointer (some ⟨w.heap.size + 1, 0, none⟩), .pointer (some ⟨w.heap.size + 1 + 1, 0, none⟩)]).run Tryz.prog W = .ok (.enter 100 #[.pointer (some ⟨w.heap.size, 0, none⟩), .pointer (some ⟨w.heap.size + 1, 0, none⟩), .pointer (some ⟨w.heap.size + 1 + 1, 0, none⟩)]) W :=
    fun W => Rg.enters Tryz.func100 (by kernel_rfl) (by kernel_rfl) _ W
  have ct : ∀ W, Below W1.heap.size W1 W → Calls Tryz.prog 58 #[.pointer (some ⟨b, 0, none⟩), .int .i64 (mayWriteS s p q : Nat), .func (.func 100) #[] #[.pointer (some ⟨w.heap.size, 0, none⟩), .pointer (some ⟨w.heap.size + 1, 0, none⟩), .pointer (some ⟨w.heap.size + 1 + 1, 0, none⟩)]] W fun e w' => e = .returned (.int .i64 ((stepR s (mayWriteS s p q) S').1 : Nat)) ∧
      (Ip b bi bl w (stepR s (mayWriteS s p q) S').2 w' ∧ Cap w' w.heap.size (.pointer (some ⟨b, 0, none⟩)) ∧ Cap w' (w.heap.size + 1) (.string p) ∧ Cap w' (w.heap.size + 1 + 1) (.string q)) := by
    intro W hW
    have hbW := below_call hb2 hW
    have j1 := cap_below k1 hW
    have j2 := cap_below k2 hW
    have j3 := cap_below k3 hW
    have hnf : ∀ k, ¬ Ft b bi bl (w.heap.size + k) := fun k hk => by have := hft _ hk; omega
    refine (iStep_any b bi bl l s _ _ _ S' W (h.below hbW) (fun e => (mayWrite_ok e).1) ok.steps hen (fun l1 W2 hr _ hI hc => ?_)).mono ?_
    · have m1 := cap_chg j1 hc (fun e => by have := hft b (.inl rfl); omega)
      have m2 := cap_chg j2 hc (fun e => by have := hft b (.inl rfl); omega)
      have m3 := cap_chg j3 hc (fun e => by have := hft b (.inl rfl); omega)
      rw [hS']
      have c9 := iWriteC_any b bi bl _ _ _ l1 _ p q W2 hI m1 m2 m3 hp (by rw [eL]; exact hn) hst (by rw [eL]; exact old_dir (mayWrite_ok hr).2)
      rw [eL] at c9
      exact c9
    · rintro e w' ⟨rfl, l5, h5, hc5⟩
      exact ⟨rfl, ⟨l5, h5, (Chg.of_below hbW).then hc5⟩, cap_chg j1 hc5 (hnf 0), cap_chg j2 hc5 (hnf 1), cap_chg j3 hc5 (hnf 2)⟩
  generalize stepR s (mayWriteS s p q) S' = RES at ct ⊢
  generalize mayWriteS s p q = r at cm ct
  have HW1 := Lib.hid hW1
  clear h hg ok hS' hst eL hn hft hb1 hb2 hb3 hen
  go_enter Tryz.func80, Tryz.ntmps80
  go_wp2_with fail
  rw [← HW1.out]
  refine Rg.wp_only ?_ (regWrite _ (by kernel_rfl) _ w.heap.size (w.heap.size + 1) (w.heap.size + 1 + 1) (.pointer (some ⟨b, 0, none⟩)) p q r RES.1 W1 (fun W => Below W1.heap.size W1 W) (fun W => Ip b bi bl w RES.2 W ∧ Cap W w.heap.size (.pointer (some ⟨b, 0, none⟩)) ∧ Cap W (w.heap.size + 1) (.string p) ∧ Cap W (w.heap.size + 1 + 1) (.string q)) ⟨k1, k2, k3⟩ (cm.mono (fun e w' he => ⟨he.1, (Below.refl _ W1).drew.trans he.2⟩)) (fun W hW => ⟨cap_below k1 hW, cap_below k2 hW, cap_below k3 hW⟩) ct (fun W hW => hW.2))
  rintro _ w9 ⟨rfl, h9⟩
  go_wp2_with fail
  go_ret
  exact ⟨rfl, h9.1⟩

set_option maxRecDepth 100000 in
set_option maxHeartbeats 2000000 in
theorem iAppend_any (b bi bl : Nat) (l : Int) (s : St) (p q : ByteArray) (w : World) (h : Ia b bi bl l w s) (hg : Good s) (ok : Ok s) (hp : p.size ≤ 8000000000000) (hq : q.size ≤ 1000000000000000000) (hsz : (old s.L p).data.size + q.size ≤ 1000000000000000000) :
    Calls Tryz.prog 21 #[.pointer (some ⟨b, 0, none⟩), .string p, .string q] w fun e w' => e = .returned (.int .i64 ((appendS s p q).1 : Nat)) ∧ Ip b bi bl w (appendS s p q).2 w' := by
  have hft := h.lt
  have hn := ok.fit.1
  have hst : (done s).2.stamps ≤ 1000000000000 := by rw [done_stamps]; exact ok.stamps
  have eL := done_L s
  rw [append_step hg]
  obtain ⟨S', hS'⟩ : ∃ S', S' = putS (done s).2 { old s.L p with data := (old s.L p).data ++ q, loose := true } := ⟨_, rfl⟩
  rw [← hS']
  have hb1 := (Below.refl w.heap.size w).alloc (Nat.le_refl _) (.cells #[.pointer (some ⟨b, 0, none⟩)] 23)
  have k1 := cap_new w (.pointer (some ⟨b, 0, none⟩)) 23
  have k2 := cap_new (w.alloc (.cells #[.pointer (some ⟨b, 0, none⟩)] 23)) (.string p) 9
  have hs1 : (w.alloc (.cells #[.pointer (some ⟨b, 0, none⟩)] 23)).heap.size = w.heap.size + 1 := by simp
  rw [hs1] at k2
  have hb2 := hb1.alloc (by simp) (.cells #[.string p] 9)
  have k1 := cap_below k1 ((Below.refl _ _).alloc (Nat.le_refl _) (.cells #[.string p] 9))
  have k3 := cap_new ((w.alloc (.cells #[.pointer (some ⟨b, 0, none⟩)] 23)).alloc (.cells #[.string p] 9)) (.string q) 9
  have hs2 : ((w.alloc (.cells #[.pointer (some ⟨b, 0, none⟩)] 23)).alloc (.cells #[.string p] 9)).heap.size = w.heap.size + 1 + 1 := by simp
  rw [hs2] at k3
  have hb2 := hb2.alloc (by simp; omega) (.cells #[.string q] 9)
  have k1 := cap_below k1 ((Below.refl _ _).alloc (Nat.le_refl _) (.cells #[.string q] 9))
  have k2 := cap_below k2 ((Below.refl _ _).alloc (Nat.le_refl _) (.cells #[.string q] 9))
  obtain ⟨W1, hW1⟩ : ∃ W1, W1 = ((w.alloc (.cells #[.pointer (some ⟨b, 0, none⟩)] 23)).alloc (.cells #[.string p] 9)).alloc (.cells #[.string q] 9) := ⟨_, rfl⟩
  rw [← hW1] at k1 k2 k3 hb2
  have hb3 : Below w.heap.size w W1.drew := hb2.drew
  have cm := iMayAppend_any b bi bl l s p q W1.drew (h.below hb3) hg.rises ok.fit hp (by omega)
  have hen : ∀ W, (callFunc 60 #[.pointer (some ⟨w.heap.size, 0, none⟩), .pointer (some ⟨w.heap.size + 1, 0, none⟩), .pointer (some ⟨w.heap.size + 1 + 1, 0, none⟩)]).run Tryz.prog W = .ok (.enter 60 #[.pointer (some ⟨w.heap.size, 0, none⟩), .pointer (some ⟨w.heap.size + 1, 0, none⟩), .pointer (some ⟨w.heap.size + 1 + 1, 0, none⟩)]) W :=
    fun W => Rg.enters Tryz.func60 (by kernel_rfl) (by kernel_rfl) _ W
  have ct : ∀ W, Below W1.heap.size W1 W → Calls Tryz.prog 58 #[.pointer (some ⟨b, 0, none⟩), .int .i64 (mayAppendS s p q : Nat), .func (.func 60) #[] #[.pointer (some ⟨w.heap.size, 0, none⟩), .pointer (some ⟨w.heap.size + 1, 0, none⟩), .pointer (some ⟨w.heap.size + 1 + 1, 0, none⟩)]] W fun e w' => e = .returned (.int .i64 ((stepR s (mayAppendS s p q) S').1 : Nat)) ∧
      (Ip b bi bl w (stepR s (mayAppendS s p q) S').2 w' ∧ Cap w' w.heap.size (.pointer (some ⟨b, 0, none⟩)) ∧ Cap w' (w.heap.size + 1) (.string p) ∧ Cap w' (w.heap.size + 1 + 1) (.string q)) := by
    intro W hW
    have hbW := below_call hb2 hW
    have j1 := cap_below k1 hW
    have j2 := cap_below k2 hW
    have j3 := cap_below k3 hW
    have hnf : ∀ k, ¬ Ft b bi bl (w.heap.size + k) := fun k hk => by have := hft _ hk; omega
    refine (iStep_any b bi bl l s _ _ _ S' W (h.below hbW) (fun e => (mayAppend_ok e).1) ok.steps hen (fun l1 W2 hr _ hI hc => ?_)).mono ?_
    · have m1 := cap_chg j1 hc (fun e => by have := hft b (.inl rfl); omega)
      have m2 := cap_chg j2 hc (fun e => by have := hft b (.inl rfl); omega)
      have m3 := cap_chg j3 hc (fun e => by have := hft b (.inl rfl); omega)
      rw [hS']
      have c9 := iAppendC_any b bi bl _ _ _ l1 _ p q W2 hI m1 m2 m3 hp (by rw [eL]; exact hn) hst (by rw [eL]; exact (mayAppend_ok hr).2) (by rw [eL]; exact calm_old hg p) (by rw [eL]; exact hsz)
      rw [eL] at c9
      exact c9
    · rintro e w' ⟨rfl, l5, h5, hc5⟩
      exact ⟨rfl, ⟨l5, h5, (Chg.of_below hbW).then hc5⟩, cap_chg j1 hc5 (hnf 0), cap_chg j2 hc5 (hnf 1), cap_chg j3 hc5 (hnf 2)⟩
  generalize stepR s (mayAppendS s p q) S' = RES at ct ⊢
  generalize mayAppendS s p q = r at cm ct
  have HW1 := Lib.hid hW1
  clear h hg ok hS' hst eL hn hft hb1 hb2 hb3 hen
  go_enter Tryz.func21, Tryz.ntmps21
  go_wp2_with fail
  rw [← HW1.out]
  refine Rg.wp_only ?_ (regAppend _ (by kernel_rfl) _ w.heap.size (w.heap.size + 1) (w.heap.size + 1 + 1) (.pointer (some ⟨b, 0, none⟩)) p q r RES.1 W1 (fun W => Below W1.heap.size W1 W) (fun W => Ip b bi bl w RES.2 W ∧ Cap W w.heap.size (.pointer (some ⟨b, 0, none⟩)) ∧ Cap W (w.heap.size + 1) (.string p) ∧ Cap W (w.heap.size + 1 + 1) (.string q)) ⟨k1, k2, k3⟩ (cm.mono (fun e w' he => ⟨he.1, (Below.refl _ W1).drew.trans he.2⟩)) (fun W hW => ⟨cap_below k1 hW, cap_below k2 hW, cap_below k3 hW⟩) ct (fun W hW => hW.2))
  rintro _ w9 ⟨rfl, h9⟩
  go_wp2_with fail
  go_ret
  exact ⟨rfl, h9.1⟩

set_option maxRecDepth 100000 in
set_option maxHeartbeats 2000000 in
theorem iSync_any (b bi bl : Nat) (l : Int) (s : St) (p : ByteArray) (w : World) (h : Ia b bi bl l w s) (hg : Good s) (ok : Ok s) (hp : p.size ≤ 8000000000000) :
    Calls Tryz.prog 42 #[.pointer (some ⟨b, 0, none⟩), .string p] w fun e w' => e = .returned (.int .i64 ((syncS s p).1 : Nat)) ∧ Ip b bi bl w (syncS s p).2 w' := by
  have hft := h.lt
  have hn := ok.fit.1
  have hst : (done s).2.stamps ≤ 1000000000000 := by rw [done_stamps]; exact ok.stamps
  have eL := done_L s
  rw [sync_step]
  obtain ⟨S', hS'⟩ : ∃ S', S' = { (done s).2 with L := ins (done s).2.L { old s.L p with kept := (old s.L p).data, loose := false, anew := false } } := ⟨_, rfl⟩
  rw [← hS']
  have hb1 := (Below.refl w.heap.size w).alloc (Nat.le_refl _) (.cells #[.pointer (some ⟨b, 0, none⟩)] 23)
  have k1 := cap_new w (.pointer (some ⟨b, 0, none⟩)) 23
  have k2 := cap_new (w.alloc (.cells #[.pointer (some ⟨b, 0, none⟩)] 23)) (.string p) 9
  have hs1 : (w.alloc (.cells #[.pointer (some ⟨b, 0, none⟩)] 23)).heap.size = w.heap.size + 1 := by simp
  rw [hs1] at k2
  have hb2 := hb1.alloc (by simp) (.cells #[.string p] 9)
  have k1 := cap_below k1 ((Below.refl _ _).alloc (Nat.le_refl _) (.cells #[.string p] 9))
  obtain ⟨W1, hW1⟩ : ∃ W1, W1 = ((w.alloc (.cells #[.pointer (some ⟨b, 0, none⟩)] 23)).alloc (.cells #[.string p] 9)) := ⟨_, rfl⟩
  rw [← hW1] at k1 k2 hb2
  have hb3 : Below w.heap.size w W1.drew := hb2.drew
  have cm := iMaySync_any b bi bl l s p W1.drew (h.below hb3) hp
  have hen : ∀ W, (callFunc 77 #[.pointer (some ⟨w.heap.size, 0, none⟩), .pointer (some ⟨w.heap.size + 1, 0, none⟩)]).run Tryz.prog W = .ok (.enter 77 #[.pointer (some ⟨w.heap.size, 0, none⟩), .pointer (some ⟨w.heap.size + 1, 0, none⟩)]) W :=
    fun W => Rg.enters Tryz.func77 (by kernel_rfl) (by kernel_rfl) _ W
  have ct : ∀ W, Below W1.heap.size W1 W → Calls Tryz.prog 58 #[.pointer (some ⟨b, 0, none⟩), .int .i64 (there s p : Nat), .func (.func 77) #[] #[.pointer (some ⟨w.heap.size, 0, none⟩), .pointer (some ⟨w.heap.size + 1, 0, none⟩)]] W fun e w' => e = .returned (.int .i64 ((stepR s (there s p) S').1 : Nat)) ∧
      (Ip b bi bl w (stepR s (there s p) S').2 w' ∧ Cap w' w.heap.size (.pointer (some ⟨b, 0, none⟩)) ∧ Cap w' (w.heap.size + 1) (.string p)) := by
    intro W hW
    have hbW := below_call hb2 hW
    have j1 := cap_below k1 hW
    have j2 := cap_below k2 hW
    have hnf : ∀ k, ¬ Ft b bi bl (w.heap.size + k) := fun k hk => by have := hft _ hk; omega
    refine (iStep_any b bi bl l s _ _ _ S' W (h.below hbW) (fun e => (there_kind e).1) ok.steps hen (fun l1 W2 hr _ hI hc => ?_)).mono ?_
    · have m1 := cap_chg j1 hc (fun e => by have := hft b (.inl rfl); omega)
      have m2 := cap_chg j2 hc (fun e => by have := hft b (.inl rfl); omega)
      rw [hS']
      have c9 := iSyncC_any b bi bl _ _ l1 _ p W2 hI m1 m2 hp (by rw [eL]; exact hn) (by rw [eL]; exact (there_kind hr).2)
      rw [eL] at c9 ⊢
      exact c9
    · rintro e w' ⟨rfl, l5, h5, hc5⟩
      exact ⟨rfl, ⟨l5, h5, (Chg.of_below hbW).then hc5⟩, cap_chg j1 hc5 (hnf 0), cap_chg j2 hc5 (hnf 1)⟩
  generalize stepR s (there s p) S' = RES at ct ⊢
  generalize there s p = r at cm ct
  have HW1 := Lib.hid hW1
  clear h hg ok hS' hst eL hn hft hb1 hb2 hb3 hen
  go_enter Tryz.func42, Tryz.ntmps42
  go_wp2_with fail
  rw [← HW1.out]
  refine Rg.wp_only ?_ (regSync _ (by kernel_rfl) _ w.heap.size (w.heap.size + 1) (.pointer (some ⟨b, 0, none⟩)) p r RES.1 W1 (fun W => Below W1.heap.size W1 W) (fun W => Ip b bi bl w RES.2 W ∧ Cap W w.heap.size (.pointer (some ⟨b, 0, none⟩)) ∧ Cap W (w.heap.size + 1) (.string p)) ⟨k1, k2⟩ (cm.mono (fun e w' he => ⟨he.1, (Below.refl _ W1).drew.trans he.2⟩)) (fun W hW => ⟨cap_below k1 hW, cap_below k2 hW⟩) ct (fun W hW => hW.2))
  rintro _ w9 ⟨rfl, h9⟩
  go_wp2_with fail
  go_ret
  exact ⟨rfl, h9.1⟩

set_option maxRecDepth 100000 in
set_option maxHeartbeats 2000000 in
theorem iRename_any (b bi bl : Nat) (l : Int) (s : St) (p q : ByteArray) (w : World) (h : Ia b bi bl l w s) (hg : Good s) (ok : Ok s) (hp : p.size ≤ 8000000000000) (hq : q.size ≤ 8000000000000) :
    Calls Tryz.prog 81 #[.pointer (some ⟨b, 0, none⟩), .string p, .string q] w fun e w' => e = .returned (.int .i64 ((renameS s p q).1 : Nat)) ∧ Ip b bi bl w (renameS s p q).2 w' := by
  have hft := h.lt
  have hn := ok.fit.1
  have hst : (done s).2.stamps ≤ 1000000000000 := by rw [done_stamps]; exact ok.stamps
  have eL := done_L s
  rw [rename_step hg]
  obtain ⟨S', hS'⟩ : ∃ S', S' = putS { (done s).2 with L := drop (done s).2.L p } { old s.L p with path := q } := ⟨_, rfl⟩
  rw [← hS']
  have hb1 := (Below.refl w.heap.size w).alloc (Nat.le_refl _) (.cells #[.pointer (some ⟨b, 0, none⟩)] 23)
  have k1 := cap_new w (.pointer (some ⟨b, 0, none⟩)) 23
  have k2 := cap_new (w.alloc (.cells #[.pointer (some ⟨b, 0, none⟩)] 23)) (.string p) 9
  have hs1 : (w.alloc (.cells #[.pointer (some ⟨b, 0, none⟩)] 23)).heap.size = w.heap.size + 1 := by simp
  rw [hs1] at k2
  have hb2 := hb1.alloc (by simp) (.cells #[.string p] 9)
  have k1 := cap_below k1 ((Below.refl _ _).alloc (Nat.le_refl _) (.cells #[.string p] 9))
  have k3 := cap_new ((w.alloc (.cells #[.pointer (some ⟨b, 0, none⟩)] 23)).alloc (.cells #[.string p] 9)) (.string q) 9
  have hs2 : ((w.alloc (.cells #[.pointer (some ⟨b, 0, none⟩)] 23)).alloc (.cells #[.string p] 9)).heap.size = w.heap.size + 1 + 1 := by simp
  rw [hs2] at k3
  have hb2 := hb2.alloc (by simp; omega) (.cells #[.string q] 9)
  have k1 := cap_below k1 ((Below.refl _ _).alloc (Nat.le_refl _) (.cells #[.string q] 9))
  have k2 := cap_below k2 ((Below.refl _ _).alloc (Nat.le_refl _) (.cells #[.string q] 9))
  obtain ⟨W1, hW1⟩ : ∃ W1, W1 = ((w.alloc (.cells #[.pointer (some ⟨b, 0, none⟩)] 23)).alloc (.cells #[.string p] 9)).alloc (.cells #[.string q] 9) := ⟨_, rfl⟩
  rw [← hW1] at k1 k2 k3 hb2
  have hb3 : Below w.heap.size w W1.drew := hb2.drew
  have cm := iMayRename_any b bi bl l s p q W1.drew (h.below hb3) hg.rises ok.fit hp hq
  have hen : ∀ W, (callFunc 102 #[.pointer (some ⟨w.heap.size, 0, none⟩), .pointer (some ⟨w.heap.size + 1, 0, none⟩), .pointer (some ⟨w.heap.size + 1 + 1, 0, none⟩)]).run Tryz.prog W = .ok (.enter 102 #[.pointer (some ⟨w.heap.size, 0, none⟩), .pointer (some ⟨w.heap.size + 1, 0, none⟩), .pointer (some ⟨w.heap.size + 1 + 1, 0, none⟩)]) W :=
    fun W => Rg.enters Tryz.func102 (by kernel_rfl) (by kernel_rfl) _ W
  have ct : ∀ W, Below W1.heap.size W1 W → Calls Tryz.prog 58 #[.pointer (some ⟨b, 0, none⟩), .int .i64 (mayRenS s p q : Nat), .func (.func 102) #[] #[.pointer (some ⟨w.heap.size, 0, none⟩), .pointer (some ⟨w.heap.size + 1, 0, none⟩), .pointer (some ⟨w.heap.size + 1 + 1, 0, none⟩)]] W fun e w' => e = .returned (.int .i64 ((stepR s (mayRenS s p q) S').1 : Nat)) ∧
      (Ip b bi bl w (stepR s (mayRenS s p q) S').2 w' ∧ Cap w' w.heap.size (.pointer (some ⟨b, 0, none⟩)) ∧ Cap w' (w.heap.size + 1) (.string p) ∧ Cap w' (w.heap.size + 1 + 1) (.string q)) := by
    intro W hW
    have hbW := below_call hb2 hW
    have j1 := cap_below k1 hW
    have j2 := cap_below k2 hW
    have j3 := cap_below k3 hW
    have hnf : ∀ k, ¬ Ft b bi bl (w.heap.size + k) := fun k hk => by have := hft _ hk; omega
    refine (iStep_any b bi bl l s _ _ _ S' W (h.below hbW) (fun e => (mayRen_ok e).1) ok.steps hen (fun l1 W2 hr _ hI hc => ?_)).mono ?_
    · have m1 := cap_chg j1 hc (fun e => by have := hft b (.inl rfl); omega)
      have m2 := cap_chg j2 hc (fun e => by have := hft b (.inl rfl); omega)
      have m3 := cap_chg j3 hc (fun e => by have := hft b (.inl rfl); omega)
      rw [hS']
      have c9 := iRenameC_any b bi bl _ _ _ l1 _ p q W2 hI (by rw [eL]; exact hg.rises) m1 m2 m3 hp hq (by rw [eL]; exact hn) hst (by rw [eL]; exact (mayRen_ok hr).2)
      rw [eL] at c9 ⊢
      exact c9
    · rintro e w' ⟨rfl, l5, h5, hc5⟩
      exact ⟨rfl, ⟨l5, h5, (Chg.of_below hbW).then hc5⟩, cap_chg j1 hc5 (hnf 0), cap_chg j2 hc5 (hnf 1), cap_chg j3 hc5 (hnf 2)⟩
  generalize stepR s (mayRenS s p q) S' = RES at ct ⊢
  generalize mayRenS s p q = r at cm ct
  have HW1 := Lib.hid hW1
  clear h hg ok hS' hst eL hn hft hb1 hb2 hb3 hen
  go_enter Tryz.func81, Tryz.ntmps81
  go_wp2_with fail
  rw [← HW1.out]
  refine Rg.wp_only ?_ (regRename _ (by kernel_rfl) _ w.heap.size (w.heap.size + 1) (w.heap.size + 1 + 1) (.pointer (some ⟨b, 0, none⟩)) p q r RES.1 W1 (fun W => Below W1.heap.size W1 W) (fun W => Ip b bi bl w RES.2 W ∧ Cap W w.heap.size (.pointer (some ⟨b, 0, none⟩)) ∧ Cap W (w.heap.size + 1) (.string p) ∧ Cap W (w.heap.size + 1 + 1) (.string q)) ⟨k1, k2, k3⟩ (cm.mono (fun e w' he => ⟨he.1, (Below.refl _ W1).drew.trans he.2⟩)) (fun W hW => ⟨cap_below k1 hW, cap_below k2 hW, cap_below k3 hW⟩) ct (fun W hW => hW.2))
  rintro _ w9 ⟨rfl, h9⟩
  go_wp2_with fail
  go_ret
  exact ⟨rfl, h9.1⟩
end Go.Proofs.YtbghokdlnnaeeaaGreat.Dk

/- The library's contracts, laid at this program (made by the kit's own commands). -/
namespace Go.Proofs
open Go.Shelf
def Tryz.sortS_ren : Go.Shelf.Ren := ⟨fun | 190 => 82 | 125 => 104 | 258 => 103 | 128 => 126 | 129 => 127 | 302 => 117 | 303 => 118 | 304 => 119 | 305 => 120 | 306 => 121 | 307 => 122 | 308 => 123 | 309 => 124 | 310 => 125 | 333 => 136 | 329 => 137 | 330 => 138 | 334 => 139 | 335 => 140 | 336 => 141 | 344 => 151 | n => n, fun | 31 => 56 | 9 => 9 | 3 => 3 | 46 => 105 | 0 => 0 | 51 => 100 | 53 => 86 | 4 => 4 | 183 => 135 | 182 => 134 | 131 => 117 | 5 => 5 | 218 => 149 | 222 => 153 | 228 => 162 | 229 => 163 | n => n, fun | n => n⟩
theorem Tryz.sortS : Go.Proofs.Lays.n190 Tryz.prog Tryz.sortS_ren := {
  mixed := by kernel_rfl
  f125 := Tryz.func104.trans (congrArg some (by kernel_rfl))
  f128 := Tryz.func126.trans (congrArg some (by kernel_rfl))
  f129 := Tryz.func127.trans (congrArg some (by kernel_rfl))
  f190 := Tryz.func82.trans (congrArg some (by kernel_rfl))
  f258 := Tryz.func103.trans (congrArg some (by kernel_rfl))
  f302 := Tryz.func117.trans (congrArg some (by kernel_rfl))
  f303 := Tryz.func118.trans (congrArg some (by kernel_rfl))
  f304 := Tryz.func119.trans (congrArg some (by kernel_rfl))
  f305 := Tryz.func120.trans (congrArg some (by kernel_rfl))
  f306 := Tryz.func121.trans (congrArg some (by kernel_rfl))
  f307 := Tryz.func122.trans (congrArg some (by kernel_rfl))
  f308 := Tryz.func123.trans (congrArg some (by kernel_rfl))
  f309 := Tryz.func124.trans (congrArg some (by kernel_rfl))
  f310 := Tryz.func125.trans (congrArg some (by kernel_rfl))
  f329 := Tryz.func137.trans (congrArg some (by kernel_rfl))
  f330 := Tryz.func138.trans (congrArg some (by kernel_rfl))
  f333 := Tryz.func136.trans (congrArg some (by kernel_rfl))
  f334 := Tryz.func139.trans (congrArg some (by kernel_rfl))
  f335 := Tryz.func140.trans (congrArg some (by kernel_rfl))
  f336 := Tryz.func141.trans (congrArg some (by kernel_rfl))
  f344 := Tryz.func151.trans (congrArg some (by kernel_rfl))
  t0 := Tryz.underlying0
  a0 := Tryz.isAgg0
  z0 := Tryz.sizeOf0
  v0 := Tryz.zeroValue0
  t3 := Tryz.underlying3
  a3 := Tryz.isAgg3
  z3 := Tryz.sizeOf3
  v3 := Tryz.zeroValue3
  t4 := Tryz.underlying4
  a4 := Tryz.isAgg4
  z4 := Tryz.sizeOf4
  v4 := Tryz.zeroValue4
  t5 := Tryz.underlying5
  a5 := Tryz.isAgg5
  z5 := Tryz.sizeOf5
  v5 := Tryz.zeroValue5
  t9 := Tryz.underlying9
  a9 := Tryz.isAgg9
  z9 := Tryz.sizeOf9
  v9 := Tryz.zeroValue9
  t31 := Tryz.underlying56
  a31 := Tryz.isAgg56
  z31 := Tryz.sizeOf56
  v31 := Tryz.zeroValue56
  t46 := Tryz.underlying105
  a46 := Tryz.isAgg105
  z46 := Tryz.sizeOf105
  v46 := Tryz.zeroValue105
  t51 := Tryz.underlying100
  a51 := Tryz.isAgg100
  z51 := Tryz.sizeOf100
  v51 := Tryz.zeroValue100
  t53 := Tryz.underlying86
  a53 := Tryz.isAgg86
  z53 := Tryz.sizeOf86
  v53 := Tryz.zeroValue86
  t131 := Tryz.underlying117
  a131 := Tryz.isAgg117
  z131 := Tryz.sizeOf117
  v131 := Tryz.zeroValue117
  t182 := Tryz.underlying134
  a182 := Tryz.isAgg134
  z182 := Tryz.sizeOf134
  v182 := Tryz.zeroValue134
  t183 := Tryz.underlying135
  a183 := Tryz.isAgg135
  z183 := Tryz.sizeOf135
  v183 := Tryz.zeroValue135
  t218 := Tryz.underlying149
  a218 := Tryz.isAgg149
  z218 := Tryz.sizeOf149
  v218 := Tryz.zeroValue149
  t222 := Tryz.underlying153
  a222 := Tryz.isAgg153
  z222 := Tryz.sizeOf153
  v222 := Tryz.zeroValue153
  t228 := Tryz.underlying162
  a228 := Tryz.isAgg162
  z228 := Tryz.sizeOf162
  v228 := Tryz.zeroValue162
  t229 := Tryz.underlying163
  a229 := Tryz.isAgg163
  z229 := Tryz.sizeOf163
  v229 := Tryz.zeroValue163 }
end Go.Proofs

/- The library's sort of texts, at this program. -/
namespace Go.Proofs.YtbghokdlnnaeeaaGreat.Dk
open Go.RowKit Tx Pm Go.Sort Go.Lib Go.Shelf
set_option linter.unusedVariables false

theorem rising_perm : ∀ {ts l : List ByteArray}, ts.Perm l → ts.Pairwise (fun a b => Op.bytesLess b.toList a.toList = false) → l.Pairwise (fun a b => Op.bytesLess a.toList b.toList = true) → ts = l
  | ts, [], hp, _, _ => hp.eq_nil
  | [], x :: l, hp, _, _ => absurd hp.symm.eq_nil (by simp)
  | y :: t, x :: l, hp, h1, h2 => by
    obtain ⟨a1, a2⟩ := List.pairwise_cons.1 h1
    obtain ⟨b1, b2⟩ := List.pairwise_cons.1 h2
    have hyx : y = x := by
      rcases List.mem_cons.1 (hp.mem_iff.1 (List.mem_cons_self : y ∈ y :: t)) with e | hy
      · exact e
      · rcases List.mem_cons.1 (hp.mem_iff.2 (List.mem_cons_self : x ∈ x :: l)) with e | hx
        · exact e.symm
        · have := a1 x hx
          rw [b1 y hy] at this
          cases this
    subst hyx
    rw [rising_perm (List.Perm.cons_inv hp) a2 b2]
theorem less_iffS (a b : ByteArray) : Op.bytesLess a.toList b.toList = decide (a.data.toList < b.data.toList) := by
  rw [bytesLess_eq, ByteArray.toList_eq, ByteArray.toList_eq]
theorem merge_sortedS (l : List (List UInt8)) : (l.mergeSort fun x y => decide (x ≤ y)).Pairwise (fun a b => ¬ b < a) := by
  have h := List.pairwise_mergeSort (le := fun x y : List UInt8 => decide (x ≤ y)) (fun a b c h1 h2 => decide_eq_true (List.le_trans (of_decide_eq_true h1) (of_decide_eq_true h2))) (fun a b => by
    rcases List.le_total a b with h | h
    · simp [h]
    · simp [h]) l
  exact h.imp (fun hab => of_decide_eq_true hab)
theorem encSS (l : List ByteArray) : (l.map (·.data.toList)).map encStr = l.map sv := by
  rw [List.map_map]
  refine List.map_congr_left (fun x _ => ?_)
  rfl
theorem encTS (l : List (List UInt8)) : l.map encStr = (l.map tb).map sv := by
  rw [List.map_map]
  rfl
theorem below_sortSS {w : World} {B g q : Nat} {d : Array (List UInt8)} {os : Array Obj} (hg : B ≤ g) (hB : B ≤ w.heap.size) : RowKit.Below B w (grow (putRow encStr (Sort.ahead w q) g 0 d) os) := by
  have h1 : RowKit.Below B w (putRow encStr (Sort.ahead w q) g 0 d) := Lib.below_putRow (RowKit.Below.refl B w) hg
  refine ⟨h1.os, h1.tape, h1.output, by simp, fun k hk => ?_⟩
  rw [heap_grow_old _ _ (by have h2 : (putRow encStr (Sort.ahead w q) g 0 d).heap.size = w.heap.size := by simp
                            omega)]
  exact h1.block k hk
set_option maxRecDepth 100000 in
set_option maxHeartbeats 1000000 in
theorem sortS_any (v : Value) (ss : List ByteArray) (w : World) (B : Nat) (hT : Texts w B v ss) (hB : B ≤ w.heap.size) (hn : ss.length ≤ 4000000000) :
    Calls Tryz.prog 82 #[v] w fun e w' => e = .returned (.tuple #[]) ∧ ∃ ts : List ByteArray, ts.Perm ss ∧ ts.Pairwise (fun a b => Op.bytesLess b.toList a.toList = false) ∧ Texts w' B v ts ∧ RowKit.Below B w w' := by
  have hT2 := hT
  obtain ⟨hlen, h2⟩ := hT2
  rcases h2 with ⟨hv, h0⟩ | ⟨g, cap, cur, hv, hb, hg, hc, hm, hs, ht⟩
  · subst hv
    obtain rfl : ss = [] := List.length_eq_zero_iff.1 h0
    have h := Any.slices_Sort_string_none Tryz.sortS none 0 w
    change Calls Tryz.prog 82 _ _ _ at h
    refine h.mono ?_
    rintro e w' ⟨rfl, rfl⟩
    exact ⟨rfl, [], List.Perm.refl _, List.Pairwise.nil, hT, RowKit.Below.refl _ _⟩
  · subst hv
    have hlt : g < w.heap.size := (Array.getElem?_eq_some_iff.1 hg).1
    obtain ⟨zs, hz⟩ : ∃ zs, zs = ss.map (·.data.toList) := ⟨_, rfl⟩
    have hzl : zs.length = ss.length := by rw [hz, List.length_map]
    have hH : Holds encStr w g 0 zs.toArray := holds_of_block hg (by
      rw [Nat.mul_one] at ht
      rw [hzl, ht, hz, encSS])
    have h := Any.slices_Sort_string Tryz.sortS g 0 cap zs w hH hlt (by omega)
    change Calls Tryz.prog 82 _ _ _ at h
    rw [hzl] at h
    refine h.mono ?_
    rintro e w' ⟨rfl, q, os, rfl⟩
    have hml : (zs.mergeSort fun x y => decide (x ≤ y)).length = zs.length := List.length_mergeSort zs
    refine ⟨rfl, (zs.mergeSort fun x y => decide (x ≤ y)).map tb, ?_, ?_, ?_, below_sortSS hb hB⟩
    · have h1 := (List.mergeSort_perm zs (fun x y => decide (x ≤ y))).map tb
      have h2 : zs.map tb = ss := by
        rw [hz, List.map_map]
        conv => rhs; rw [← List.map_id ss]
        exact List.map_congr_left (fun x _ => tb_of x)
      rwa [h2] at h1
    · rw [List.pairwise_map]
      refine (merge_sortedS zs).imp (fun hab => ?_)
      rw [less_iffS]
      exact decide_eq_false hab
    · have h1 := ownsRow_sorted (ss := zs) (ts := zs.mergeSort fun x y => decide (x ≤ y)) (n := q) (os := os) hml hb hg (by rw [hzl]; exact hc) hm hs
      unfold Texts
      rw [List.length_map, hml, ← encTS, hzl]
      rw [hzl] at h1
      exact h1
end Go.Proofs.YtbghokdlnnaeeaaGreat.Dk

/- Package disk's paths: the paths of the items that hold to a rule, rising. -/
namespace Go.Proofs.YtbghokdlnnaeeaaGreat.Dk
open Go.RowKit Tx Pm Pl Pr
set_option linter.unusedVariables false

theorem own_base {w : World} {B C n size : Nat} {e : TypeId} {v : Value} {xs : List Value} (h : w.ownsRow C e size v n xs) (hB : B ≤ C) : w.ownsRow B e size v n xs := by
  refine ⟨h.1, ?_⟩
  rcases h.2 with h0 | ⟨g, cap, cur, hv, hg, hh, r⟩
  · exact .inl h0
  · exact .inr ⟨g, cap, cur, hv, Nat.le_trans hB hg, hh, r⟩
theorem grown_below {w w1 : World} (h : Below w.heap.size w w1) : w.grownBy w1 none := ⟨h.os, h.tape, h.output, h.size, fun i hi _ => h.block i hi⟩
theorem own_belowT {w w1 : World} {B n size : Nat} {e : TypeId} {v : Value} {xs : List Value} (h : w.ownsRow B e size v n xs) (hb : Below w.heap.size w w1) : w1.ownsRow B e size v n xs := own_kept h (fun g hg => hb.block g (h.lt g hg).2)
def xv (x : It) : Value := .agg #[.int .i64 (kOf x), .string x.data, .string x.kept, .int .i64 (stOf x), .int .i64 x.stamp]
/-- The paths of those that hold to a rule. -/
def held (φ : It → Bool) (l : List It) : List ByteArray := (l.filter φ).map (·.path)
theorem held_cons (φ : It → Bool) (x : It) (l : List It) : held φ (x :: l) = (if φ x = true then [x.path] else []) ++ held φ l := by
  unfold held
  cases h : φ x <;> simp [h]
theorem held_perm {φ : It → Bool} {a b : List It} (h : a.Perm b) : (held φ a).Perm (held φ b) := (h.filter φ).map _
theorem held_rises {φ : It → Bool} {l : List It} (h : Rises l) : (held φ l).Pairwise (fun a b => Op.bytesLess a.toList b.toList = true) := by
  unfold held
  rw [List.pairwise_map]
  exact List.Pairwise.filter _ h
theorem held_len (φ : It → Bool) (l : List It) : (held φ l).length ≤ l.length := by
  unfold held
  rw [List.length_map]
  exact List.length_filter_le _ _
set_option maxRecDepth 100000 in
set_option maxHeartbeats 2000000 in
theorem iPaths_any (b bi bl : Nat) (l : Int) (s : St) (f : FuncId) (cap : Array Value) (φ : It → Bool) (w : World) (h : Ia b bi bl l w s) (hR : Rises s.L) (hn : s.L.length ≤ 1000000000) (hps : ∀ x ∈ s.L, x.path.size ≤ 8000000000000)
    (hen : ∀ a1 a2 W, (callFunc f (#[a1, a2] ++ cap)).run Tryz.prog W = .ok (.enter f (#[a1, a2] ++ cap)) W)
    (cf : ∀ W x, Below w.heap.size w W → x ∈ s.L → Calls Tryz.prog f (#[.string x.path, .agg #[.int .i64 (kOf x), .string x.data, .string x.kept, .int .i64 (stOf x), .int .i64 x.stamp]] ++ cap) W fun e w' => e = .returned (.bool (φ x)) ∧ Below W.heap.size W w') :
    Calls Tryz.prog 46 #[.pointer (some ⟨b, 0, none⟩), .func (.func f) #[] cap] w (ListTo (held φ s.L) w) := by
  obtain ⟨i0, hi, hz0, hz1, hz2⟩ := info_parts info9
  obtain ⟨c0, _⟩ := h.cell
  have hm := h.items
  go_enter Tryz.func46, Tryz.ntmps46
  go_wp2_with (at_range; refine range_items _ rfl _ rfl bi s.L rfl hm ?_; intro D w0 hD hrg0 hg0 hs0)
  go_frame
  have HD := Lib.hid hD
  have HR := Lib.hid hR
  have HP := Lib.hid hps
  have HF := Lib.hid cf
  have HH := Lib.hid (fun left => Nat.le_trans (held_len φ (came s.L left)) (List.Sublist.length_le (came_sub s.L left)))
  have hsm : w.heap.size < w0.heap.size := by omega
  have HS := Lib.hid hs0
  clear hD hR hps hs0 cf
  go_loopw [5] (fun v wr => ∃ (left : Lit → Bool) (cnt T : Nat) (out : List ByteArray), wr.ranges Tryz.prog 9 itemR bi w.heap.size s.L.length D left cnt ∧ Hid (out.Perm (held φ (came s.L left))) ∧ Hid (out.length = T) ∧ T ≤ 1000000000 ∧ wr.ownsRow (w.heap.size + 1) 9 1 v T (out.map sv) ∧ Below w.heap.size w wr ∧ w.heap.size < wr.heap.size) (fun _ wr => wr.rangeLeft bi w.heap.size)
  case atStart => exact ⟨_, _, 0, [], hrg0, by show List.Perm _ _; rw [came_start HD.out]; exact List.Perm.refl _, rfl, by omega, World.ownsRow_nil _ _ _ _, (Below.refl _ _).grown hg0 (Nat.le_refl _) (fun j hj => by cases hj), hsm⟩
  case round =>
    obtain ⟨left, cnt, T, out, hrg, hout, hlen, hT, hown, hB, hlt⟩ := hrel
    go_wp2_with (at_next; refine next_items _ rfl _ rfl bi w.heap.size s.L.length D left cnt s.L rfl hrg HD.out ?_ ?_)
    · intro hl
      have hp := hout.out
      rw [came_end s.L hl] at hp
      have hO : Texts wr w.heap.size _ out := own_toT (own_base hown (Nat.le_succ _)) hlen.out
      have hol : out.length ≤ 4000000000 := by rw [hlen.out]; omega
      have cs := sortS_any _ out wr w.heap.size hO hB.size hol
      have HPM := Lib.hid hp
      clear hl hp hO hrg h hout hlen hown hol
      go_wp2_with (go_at_call 82; refine cs.mono ?_; rintro e w5 ⟨rfl, ts, hts, hso, htx, hb5⟩)
      go_ret
      obtain rfl : ts = held φ s.L := rising_perm (hts.trans HPM.out) hso (held_rises HR.out)
      exact ⟨_, rfl, htx, hB.trans hb5⟩
    · intro x w1 cnt1 hx hlx hrg1 hlt1 hg1 hs1 hen1
      have hst := held_perm (φ := φ) (came_step hlx HR.out hx)
      rw [held_cons] at hst
      have hbd := HH.out (less left x.path)
      have hlen2 := hst.length_eq
      have hme : cnt1 < wr.rangeLeft bi w.heap.size := by rw [hrg.left_eq]; exact hlt1
      have hb1 : Below w.heap.size w w1 := below_grown hB hg1 (Nat.le_of_lt hlt) (Nat.le_refl _)
      have hs2 : w.heap.size < w1.heap.size := by omega
      have hrg2 := hrg1.alloc (.cells #[.int .i64 (kOf x), .string x.data, .string x.kept, .int .i64 (stOf x), .int .i64 x.stamp] 82)
      have hb3 := hb1.alloc (Nat.le_of_lt hs2) (.cells #[.int .i64 (kOf x), .string x.data, .string x.kept, .int .i64 (stOf x), .int .i64 x.stamp] 82)
      have cx := HF.out _ x hb3 hx
      have hown1 := hown.kept hg1 (.inr (fun e => by have := (hown.lt _ e).1; omega))
      have HME := Lib.hid hme
      have HS1 := Lib.hid hs1
      clear hs1
      cases hφ : φ x with
      | true =>
        rw [hφ] at cx
        rw [hφ, if_pos rfl, List.length_append, List.length_singleton] at hlen2
        rw [hφ, if_pos rfl] at hst
        have hT2 : T + 1 ≤ 1000000000 := by have := hout.out.length_eq; have := hlen.out; omega
        have hpm : (out ++ [x.path]).Perm (held φ (came s.L (less left x.path))) := (List.perm_append_comm.trans (hout.out.append_left [x.path])).trans hst.symm
        have HPM := Lib.hid hpm
        have HSZ := Lib.hid (show w.heap.size + 1 ≤ w1.heap.size by omega)
        have HLN := Lib.hid (show (out ++ [x.path]).length = T + 1 by rw [List.length_append, hlen.out]; rfl)
        have HB3 := Lib.hid hb3
        clear hst hlen2 hbd hlx hx hpm hout hlen hrg hrg1 hlt1 hg1 hme hown h
        go_wp2_with fail
        refine cx.mono ?_
        rintro e w5 ⟨rfl, hb5⟩
        have hown5 := own_belowT (hown1.alloc (.cells #[.int .i64 (kOf x), .string x.data, .string x.kept, .int .i64 (stOf x), .int .i64 x.stamp] 82)) hb5
        have hB5 := below_call HB3.out hb5
        have hrg5 := hrg2.kept (grown_below hb5) (by simp) (by simp)
        have hz5 : w1.heap.size + 1 ≤ w5.heap.size := by have := hb5.size; simpa using this
        have hS := HSZ.out
        go_wp2_with (at_builtin; refine wpList_append_own _ rfl _ _ 56 rfl (w.heap.size + 1) 9 i0 (.string ⟨#[]⟩) 1 16 Tryz.underlying56 hi hz0 hz1 hz2 rfl (by decide) _ _ _ rfl (hown5.alloc _) ⟨w5.heap.size, 0, none⟩ 1 1 [sv x.path] rfl rfl ?c1_2 ?c2_2 ?c3_2 ?c4_2 ?c5_2 ?_)
        case c1_2 => exact cell_one_new _ _ _
        case c2_2 => exact sv_one [x.path]
        case c3_2 => unfold maxLen; omega
        case c4_2 => omega
        case c5_2 => first | (simp; omega) | omega
        intro v' w6 hown' hgrow _
        have ho6 : w6.ownsRow (w.heap.size + 1) 9 1 v' (T + 1) ((out ++ [x.path]).map sv) := by
          rw [List.map_append]
          exact hown'
        have hB6 : Below w.heap.size w w6 := (hB5.alloc hB5.size _).grown hgrow (by have := hB5.size; simp; omega) (fun k hk => by have := (hown5.lt k hk).1; omega)
        have hlb : bi < w.heap.size := hm.lt
        have hrg6 := (hrg5.alloc (.cells #[.string x.path] 9)).kept hgrow (fun e => by have := (hown5.lt _ e.symm).1; omega) (fun e => by have := (hown5.lt _ e.symm).1; omega)
        have hle6 : w.heap.size < w6.heap.size := by have := hgrow.size; simp at this; omega
        have hme6 : w6.rangeLeft bi w.heap.size < wr.rangeLeft bi w.heap.size := by rw [hrg6.left_eq]; exact HME.out
        have HM6 := Lib.hid hme6
        have HO6 := Lib.hid ho6
        clear hown5 hrg5 hown' hgrow hme6 hown1 hrg2 ho6
        go_wp2_with fail
        go_roundw
        case rel => exact ⟨less left x.path, cnt1, T + 1, out ++ [x.path], hrg6, HPM, HLN, hT2, HO6.out, hB6, hle6⟩
        case measure => exact HM6.out
      | false =>
        rw [hφ] at cx
        rw [hφ, if_neg (by decide), List.nil_append] at hst
        have hpm : out.Perm (held φ (came s.L (less left x.path))) := hout.out.trans hst.symm
        have HPM := Lib.hid hpm
        have HB3 := Lib.hid hb3
        clear hst hlen2 hbd hlx hx hpm hout hrg hrg1 hlt1 hg1 hme hown h
        go_wp2_with fail
        refine cx.mono ?_
        rintro e w5 ⟨rfl, hb5⟩
        have hown5 := own_belowT (hown1.alloc (.cells #[.int .i64 (kOf x), .string x.data, .string x.kept, .int .i64 (stOf x), .int .i64 x.stamp] 82)) hb5
        have hB5 := below_call HB3.out hb5
        have hrg5 := hrg2.kept (grown_below hb5) (by simp) (by simp)
        have hz5 : w1.heap.size + 1 ≤ w5.heap.size := by have := hb5.size; simpa using this
        have hme5 : w5.rangeLeft bi w.heap.size < wr.rangeLeft bi w.heap.size := by rw [hrg5.left_eq]; exact HME.out
        have HM5 := Lib.hid hme5
        clear hme5 hown1 hrg2
        go_wp2_with fail
        go_roundw
        case rel => exact ⟨less left x.path, cnt1, T, out, hrg5, HPM, hlen, hT, hown5, hB5, by omega⟩
        case measure => exact HM5.out
/-- What List looks for. -/
def inP (p : ByteArray) (x : It) : Bool := decide (tb (par x.path.data.toList) = p)
theorem held_list (l : List It) (p : ByteArray) : held (inP p) l = list l p := rfl
set_option maxRecDepth 100000 in
set_option maxHeartbeats 1000000 in
theorem iParent_any (s : ByteArray) (w : World) (hs : s.size ≤ 562949953421312) :
    Calls Tryz.prog 109 #[.string s] w fun e w' => e = .returned (.string (tb (par s.data.toList))) ∧ w' = w := by
  have cl := fun W => lastStroke_any s W hs
  have hL := lastN_le s.data.toList
  rw [len_l] at hL
  rw [← par_ext]
  obtain ⟨L, hLe⟩ : ∃ L, L = lastN s.data.toList := ⟨_, rfl⟩
  rw [← hLe] at cl hL ⊢
  clear hLe
  by_cases h0 : L = 0
  · subst h0
    go_enter Tryz.func109, Tryz.ntmps109
    go_wp2_with (go_at_call 131; refine (cl _).mono ?_; rintro e w1 ⟨rfl, rfl⟩)
    go_ret
    exact ⟨by simp; exact .inl (by decide), rfl⟩
  · obtain ⟨K, rfl⟩ : ∃ K, L = K + 1 := ⟨L - 1, by omega⟩
    have e1 : ((K + 1 : Nat) : Int) - 1 = K := by omega
    rw [e1] at cl
    rw [Nat.add_sub_cancel]
    clear h0
    go_enter Tryz.func109, Tryz.ntmps109
    go_wp2_with (go_at_call 131; refine (cl _).mono ?_; rintro e w1 ⟨rfl, rfl⟩)
    go_ret
    exact ⟨rfl, rfl⟩
set_option maxRecDepth 100000 in
theorem iRestC_any (x : It) (w : World) :
    Calls Tryz.prog 47 #[.string x.path, .agg #[.int .i64 (kOf x), .string x.data, .string x.kept, .int .i64 (stOf x), .int .i64 x.stamp]] w fun e w' => e = .returned (.bool x.loose) ∧ Below w.heap.size w w' := by
  have HB := Lib.hid (fun o => (Below.refl _ w).alloc (Nat.le_refl _) o)
  have hs : (x.loose = false ∧ stOf x = 0) ∨ (x.loose = true ∧ (stOf x = 1 ∨ stOf x = 2)) := by
    unfold stOf
    cases x.loose <;> cases x.anew <;> simp
  generalize stOf x = T at hs ⊢
  rcases hs with ⟨h1, rfl⟩ | ⟨h1, rfl | rfl⟩ <;> rw [h1]
  all_goals
    clear h1
    go_enter Tryz.func47, Tryz.ntmps47
    go_wp2
    go_ret
    exact ⟨rfl, HB.out _⟩
end Go.Proofs.YtbghokdlnnaeeaaGreat.Dk

/- Package disk's mayRemove. -/
namespace Go.Proofs.YtbghokdlnnaeeaaGreat.Dk
open Go.RowKit Tx Pm Pl Pr
set_option linter.unusedVariables false

def mayRemoveS (s : St) (p : ByteArray) : Nat := if first s p 0 ≠ 0 then first s p 0 else if kind s.L p = 0 then 11 else if list s.L p ≠ [] then 12 else 0
end Go.Proofs.YtbghokdlnnaeeaaGreat.Dk

/- Package disk's Remove: as the document says. -/
namespace Go.Proofs.YtbghokdlnnaeeaaGreat.Dk
open Go.RowKit Tx Pm Pl Pr
set_option linter.unusedVariables false

theorem remove_step (s : St) (p : ByteArray) : removeS s p = stepR s (mayRemoveS s p) { (done s).2 with L := drop (done s).2.L p } := by
  unfold removeS mayRemoveS stepR
  by_cases h1 : first s p 0 ≠ 0
  · rw [if_pos h1, if_pos h1, if_pos h1]
  · rw [if_neg h1, if_neg h1]
    by_cases h2 : kind s.L p = 0
    · rw [if_pos h2, if_pos h2, if_pos (by decide)]
    · rw [if_neg h2, if_neg h2]
      by_cases h3 : list s.L p ≠ []
      · rw [if_pos h3, if_pos h3, if_pos (by decide)]
      · rw [if_neg h3, if_neg h3]
        rfl
theorem mayRemove_down {s : St} {p : ByteArray} (h : mayRemoveS s p = 0) : s.down = false := by
  unfold mayRemoveS at h
  split at h
  · rename_i h1; exact absurd h h1
  · rename_i h1; exact first_down (p := p) (m := 0) (by omega)

end Go.Proofs.YtbghokdlnnaeeaaGreat.Dk

/- Package disk's New, Limit, Arm, Read. -/
namespace Go.Proofs.YtbghokdlnnaeeaaGreat.Dk
open Go.RowKit Tx Pm Pl Pr
set_option linter.unusedVariables false

theorem read_old {s : St} (hg : Good s) (p : ByteArray) (hd : s.down = false) : readS s p = ((old s.L p).data, mbf s.L p) := by
  unfold readS mbf kind old
  rw [hd, if_neg (by decide)]
  cases hf : find s.L p with
  | none => rfl
  | some x =>
    unfold kindOf
    simp only [Option.getD_some]
    by_cases hx : x.dir = true
    · rw [(hg.dirs x (find_mem hf).1 hx).1]
      simp [hx]
    · simp [hx]
set_option maxRecDepth 100000 in
set_option maxHeartbeats 1000000 in
theorem iRead_any (b bi bl : Nat) (l : Int) (s : St) (p : ByteArray) (w : World) (h : Ia b bi bl l w s) (hg : Good s) (hp : p.size ≤ 8000000000000) :
    Calls Tryz.prog 24 #[.pointer (some ⟨b, 0, none⟩), .string p] w fun e w' => e = .returned (.tuple #[.string (readS s p).1, .int .i64 ((readS s p).2 : Nat)]) ∧ Below w.heap.size w w' := by
  have cm := fun n => iMbf_any b bi bl l s p (w.drewN n) (h.below (below_drewN _ _)) hp
  have hl := fun n => (h.below (below_drewN w n)).look (maxLen_of hp)
  obtain ⟨c0, c1, c2, c3, c4, c5⟩ := h.cell
  have hro := read_old hg p
  have hrd : s.down = true → readS s p = (⟨#[]⟩, 14) := fun e => by unfold readS; rw [if_pos e]
  have f1 := fld1
  generalize (old s.L p).data = X0 at hl hro
  generalize (old s.L p).kept = X1 at hl
  generalize stOf (old s.L p) = X2 at hl
  generalize ((old s.L p).stamp : Int) = X3 at hl
  generalize kind s.L p = K at hl
  generalize mbf s.L p = M at cm hro
  generalize readS s p = R at hro hrd ⊢
  generalize s.down = D at c5 hro hrd
  clear h hg c1 c2 c3 c4
  have HB := Lib.hid (fun n => below_drewN w n)
  cases D with
  | true =>
    rw [hrd rfl]
    clear hro hrd cm hl
    go_enter Tryz.func24, Tryz.ntmps24
    go_wp2
    go_ret2
    exact ⟨rfl, Below.refl _ _⟩
  | false =>
    rw [hro rfl]
    clear hro hrd
    go_enter Tryz.func24, Tryz.ntmps24
    go_wp2_with fail
    have hl0 := hl
    go_quiet ((go_at_call 62; exact (cm _).mono (fun _ _ ⟨he, hw⟩ => ⟨he, _, hw.symm⟩)))
    go_wp2
    go_ret2
    exact ⟨rfl, HB.out _⟩

theorem cutA_whole : ∀ l : List UInt8, 47 ∉ l → cutA l = l
  | [], _ => rfl
  | c :: r, h => by
    have hc : c ≠ 47 := fun e => h (by rw [e]; exact List.mem_cons_self)
    unfold cutA
    rw [if_neg hc, cutA_whole r (fun e => h (List.mem_cons_of_mem _ e))]
theorem chk_name (l : List UInt8) : (chk l 1 = 0 ↔ isName l = true) := by
  have hc := spl_cut l
  unfold chk isPath
  by_cases h47 : 47 ∈ l
  · have hs : hasSt l = true := by unfold hasSt; simpa using h47
    have hn : isName l = false := by
      unfold isName
      rw [Bool.and_eq_false_iff]
      right
      rw [List.all_eq_false]
      exact ⟨47, h47, by decide⟩
    rw [hs, if_pos rfl] at hc
    have hne : 1 ≤ (spl (cutB l)).length := by
      cases hb : spl (cutB l) with
      | nil =>
        have := spl_cut (cutB l)
        rw [hb] at this
        cases this
      | cons y r => simp
    rw [hc, List.length_cons, decide_eq_false (by omega), Bool.false_and, hn]
    simp
  · have hs : hasSt l = false := by unfold hasSt; simpa using h47
    have hcut := cutA_whole l h47
    rw [hs, if_neg (by decide), hcut] at hc
    rw [hc]
    simp
theorem chk_le (l : List UInt8) (d : Int) : chk l d = 0 ∨ chk l d = 10 := by unfold chk; split <;> simp
set_option maxRecDepth 100000 in
theorem iArm_any (b bi bl : Nat) (l : Int) (s : St) (m : Int) (w : World) (h : Ia b bi bl l w s) (hm : -9223372036854775808 ≤ m ∧ m ≤ 9223372036854775807) :
    Calls Tryz.prog 16 #[.pointer (some ⟨b, 0, none⟩), .int .i64 m] w fun e w' => e = .returned (.tuple #[]) ∧ Ip b bi bl w { s with armed := if m < 0 then -1 else m } w' := by
  have hc := h.cell
  have hw := h.warm
  have hlow := h.low
  obtain ⟨A, hA⟩ : ∃ A : Int, A = if m < 0 then -1 else m := ⟨_, rfl⟩
  have hAm : A = max m (-1) := by rw [hA]; split <;> omega
  rw [← hA]
  have a1 : Ia b bi bl A (w.setCell ⟨b, 2, none⟩ (.int .i64 A)) { s with armed := A } := h.poke (chg_set _) (own_cells h 2 _ rfl) rfl rfl (.inr rfl) (by omega)
  rw [hAm] at a1 ⊢
  have HE := Lib.hid (show Ip b bi bl w { s with armed := max m (-1) } (w.setCell ⟨b, 2, none⟩ (.int .i64 (max m (-1)))) from ⟨_, a1, (chg_set _).mono ft_b⟩)
  clear a1 h hA hAm
  obtain ⟨c0, c1, c2, c3, c4, c5⟩ := hc
  go_enter Tryz.func16, Tryz.ntmps16
  go_wp2
  go_end0
  exact ⟨rfl, HE.out⟩
set_option maxRecDepth 100000 in
theorem iNew_any (w : World) : Calls Tryz.prog 31 #[] w fun e w' => ∃ b bi bl, e = .returned (.pointer (some ⟨b, 0, none⟩)) ∧ Ia b bi bl (-1) w' newS ∧ (∀ i, Ft b bi bl i → w.heap.size ≤ i) ∧ Below w.heap.size w w' := by
  have hmm := @run_makeMap Tryz.prog
  have b1 := (Below.refl w.heap.size w).alloc (Nat.le_refl _) (.map #[] 0)
  have b2 := b1.alloc (by simp) (.map #[] 0)
  have b3 := b2.alloc (by simp; omega) (.cells #[.map (some w.heap.size), .map (some (w.heap.size + 1)), .int .i64 (-1), .int .i64 0, .int .i64 0, .bool false] 79)
  have hI : Ia (w.heap.size + 1 + 1) w.heap.size (w.heap.size + 1) (-1) (((w.alloc (.map #[] 0)).alloc (.map #[] 0)).alloc (.cells #[.map (some w.heap.size), .map (some (w.heap.size + 1)), .int .i64 (-1), .int .i64 0, .int .i64 0, .bool false] 79)) newS := by
    refine ⟨new_at _ _ (by simp), ?_, ?_, by omega, .inr rfl, by omega⟩
    · refine (mp_made w).kept ?_
      have := (((Below.refl _ (w.alloc (.map #[] 0))).alloc (Nat.le_refl _) (.map #[] 0)).alloc (by simp) (.cells #[.map (some w.heap.size), .map (some (w.heap.size + 1)), .int .i64 (-1), .int .i64 0, .int .i64 0, .bool false] 79)).block w.heap.size (by simp)
      exact this
    · have hl := lm_made (w.alloc (.map #[] 0))
      have e : (w.alloc (.map #[] 0)).heap.size = w.heap.size + 1 := by simp
      rw [e] at hl
      refine hl.kept ?_
      have := ((Below.refl _ ((w.alloc (.map #[] 0)).alloc (.map #[] 0))).alloc (Nat.le_refl _) (.cells #[.map (some w.heap.size), .map (some (w.heap.size + 1)), .int .i64 (-1), .int .i64 0, .int .i64 0, .bool false] 79)).block (w.heap.size + 1) (by simp)
      exact this
  have HE := Lib.hid (show ∃ b bi bl, (Ending.returned (.pointer (some ⟨w.heap.size + 1 + 1, 0, none⟩))) = .returned (.pointer (some ⟨b, 0, none⟩)) ∧ Ia b bi bl (-1) (((w.alloc (.map #[] 0)).alloc (.map #[] 0)).alloc (.cells #[.map (some w.heap.size), .map (some (w.heap.size + 1)), .int .i64 (-1), .int .i64 0, .int .i64 0, .bool false] 79)) newS ∧ (∀ i, Ft b bi bl i → w.heap.size ≤ i) ∧ Below w.heap.size w (((w.alloc (.map #[] 0)).alloc (.map #[] 0)).alloc (.cells #[.map (some w.heap.size), .map (some (w.heap.size + 1)), .int .i64 (-1), .int .i64 0, .int .i64 0, .bool false] 79)) from
    ⟨_, _, _, rfl, hI, fun i hi => by rcases hi with rfl | rfl | rfl <;> omega, b3⟩)
  clear hI b1 b2 b3
  go_enter Tryz.func31, Tryz.ntmps31
  go_wp2
  go_ret
  exact HE.out
end Go.Proofs.YtbghokdlnnaeeaaGreat.Dk

/- Package wal over package disk: fill: contract. -/
namespace Go.Proofs.YtbghokdlnnaeeaaGreat.Wl
open Go.RowKit Tx Pm Pl Pr Dk Fr
set_option linter.unusedVariables false

theorem does_of' {b bi bl : Nat} {w w' : World} {F : Nat → Prop} {r : Nat × St} {e : Ending} (hg : Dk.Good r.2) (hF : ∀ i, F i ↔ Ft b bi bl i) (h : e = .returned (.int .i64 (r.1 : Nat)) ∧ Ip b bi bl w r.2 w') : e = .returned (.int .i64 (r.1 : Nat)) ∧ Dk.Left (ImpAt b) w F r.2 w' := ⟨h.1, h.2.left hg hF⟩
section
variable {b : Nat} {F : Nat → Prop} {s : St} {w : World}
/-- A call answers a number and leaves the disk so. -/
def Dos (O : World → (Nat → Prop) → St → Prop) (w : World) (F : Nat → Prop) (k : Nat) (s : St) (e : Ending) (w' : World) : Prop := e = .returned (.int .i64 (k : Nat)) ∧ Dk.Left O w F s w'
theorem iw_write {k : Nat} {s' : St} (P Q : ByteArray) (h : ImpAt b w F s) (ok : Ok s) (hP : P.size ≤ 8000000000000) (hQ : Q.size ≤ 1000000000000000000) (hk : writeS s P Q = (k, s')) : Calls Tryz.prog 80 #[.pointer (some ⟨b, 0, none⟩), .string P, .string Q] w (Dos (ImpAt b) w F k s') := by
  obtain ⟨bi, bl, l, hI, hg, hF⟩ := h
  have c := iWrite_any b bi bl l _ P Q _ hI hg ok hP hQ
  have hg' := good_write (p := P) (d := Q) hg
  rw [hk] at c hg'
  exact c.mono fun e w' ht => does_of' (r := (k, s')) hg' hF ht
theorem iw_append {k : Nat} {s' : St} (P Q : ByteArray) (h : ImpAt b w F s) (ok : Ok s) (hP : P.size ≤ 8000000000000) (hQ : Q.size ≤ 1000000000000000000) (hsz : (old s.L P).data.size + Q.size ≤ 1000000000000000000) (hk : appendS s P Q = (k, s')) : Calls Tryz.prog 21 #[.pointer (some ⟨b, 0, none⟩), .string P, .string Q] w (Dos (ImpAt b) w F k s') := by
  obtain ⟨bi, bl, l, hI, hg, hF⟩ := h
  have c := iAppend_any b bi bl l _ P Q _ hI hg ok hP hQ hsz
  have hg' := good_append (p := P) (d := Q) hg
  rw [hk] at c hg'
  exact c.mono fun e w' ht => does_of' (r := (k, s')) hg' hF ht
theorem iw_sync {k : Nat} {s' : St} (P : ByteArray) (h : ImpAt b w F s) (ok : Ok s) (hP : P.size ≤ 8000000000000) (hk : syncS s P = (k, s')) : Calls Tryz.prog 42 #[.pointer (some ⟨b, 0, none⟩), .string P] w (Dos (ImpAt b) w F k s') := by
  obtain ⟨bi, bl, l, hI, hg, hF⟩ := h
  have c := iSync_any b bi bl l _ P _ hI hg ok hP
  have hg' := good_sync (p := P) hg
  rw [hk] at c hg'
  exact c.mono fun e w' ht => does_of' (r := (k, s')) hg' hF ht
theorem iw_rename {k : Nat} {s' : St} (P Q : ByteArray) (h : ImpAt b w F s) (ok : Ok s) (hP : P.size ≤ 8000000000000) (hQ : Q.size ≤ 8000000000000) (hk : renameS s P Q = (k, s')) : Calls Tryz.prog 81 #[.pointer (some ⟨b, 0, none⟩), .string P, .string Q] w (Dos (ImpAt b) w F k s') := by
  obtain ⟨bi, bl, l, hI, hg, hF⟩ := h
  have c := iRename_any b bi bl l _ P Q _ hI hg ok hP hQ
  have hg' := good_rename (f := P) (t := Q) hg
  rw [hk] at c hg'
  exact c.mono fun e w' ht => does_of' (r := (k, s')) hg' hF ht
theorem iw_kind (P : ByteArray) (h : ImpAt b w F s) (hP : P.size ≤ 8000000000000) : Calls Tryz.prog 69 #[.pointer (some ⟨b, 0, none⟩), .string P] w fun e w' => e = .returned (.int .i64 (kind s.L P : Nat)) ∧ w = w' := by
  obtain ⟨bi, bl, l, hI, hg, hF⟩ := h
  exact iKind_any b bi bl l _ P _ hI hP
theorem iw_read (P : ByteArray) (h : ImpAt b w F s) (hP : P.size ≤ 8000000000000) : Calls Tryz.prog 24 #[.pointer (some ⟨b, 0, none⟩), .string P] w fun e w' => e = .returned (.tuple #[.string (readS s P).1, .int .i64 ((readS s P).2 : Nat)]) ∧ Below w.heap.size w w' := by
  obtain ⟨bi, bl, l, hI, hg, hF⟩ := h
  exact iRead_any b bi bl l _ P _ hI hg hP
end

theorem cat_size (p : ByteArray) : (p ++ tT).size = p.size + 2 := ByteArray.size_append
theorem fill_1 {s s1 : St} {p d : ByteArray} {k : Nat} (h1 : writeS s (p ++ tT) d = (k, s1)) (h : k ≠ 0) : fillS s p d = (k, s1) := by
  unfold fillS; rw [h1]; exact if_pos h
theorem fill_2 {s s1 s2 : St} {p d : ByteArray} {k : Nat} (h1 : writeS s (p ++ tT) d = (0, s1)) (h2 : syncS s1 (p ++ tT) = (k, s2)) (h : k ≠ 0) : fillS s p d = (k, s2) := by
  unfold fillS; rw [h1]; simp only [h2]; rw [if_neg (fun h => h rfl), if_pos h]
theorem fill_3 {s s1 s2 : St} {p d : ByteArray} (h1 : writeS s (p ++ tT) d = (0, s1)) (h2 : syncS s1 (p ++ tT) = (0, s2)) : fillS s p d = renameS s2 (p ++ tT) p := by
  unfold fillS; rw [h1]; simp only [h2]; rw [if_neg (fun h => h rfl), if_neg (fun h => h rfl)]

/-- What is asked of a state and of the two behind it, to fill. -/
def FillOk (s : St) (p d : ByteArray) : Prop := Ok s ∧ Ok (writeS s (p ++ tT) d).2 ∧ Ok (syncS (writeS s (p ++ tT) d).2 (p ++ tT)).2
theorem eq0 : (((0 : Nat) : Int) == 0) = true := rfl
set_option maxRecDepth 100000 in
set_option maxHeartbeats 2000000 in
theorem iFill_any (b : Nat) {F : Nat → Prop} {s : St} (p d : ByteArray) (w : World) (h : ImpAt b w F s) (o : FillOk s p d) (hp : p.size ≤ 1000) (hd : d.size ≤ 1000000000000000000) :
    Calls Tryz.prog 45 #[.pointer (some ⟨b, 0, none⟩), .string p, .string d] w (Dos (ImpAt b) w F (fillS s p d).1 (fillS s p d).2) := by
  obtain ⟨o1, o2, o3⟩ := o
  have hcat := cat_size p
  obtain ⟨k1, s1, h1⟩ : ∃ k s1, writeS s (p ++ tT) d = (k, s1) := ⟨_, _, rfl⟩
  rw [h1] at o2 o3
  simp only at o2 o3
  obtain ⟨k2, s2, h2⟩ : ∃ k s2, syncS s1 (p ++ tT) = (k, s2) := ⟨_, _, rfl⟩
  rw [h2] at o3
  simp only at o3
  have c1 : Calls Tryz.prog 80 #[.pointer (some ⟨b, 0, none⟩), .string (p ++ ⟨#[95, 116]⟩), .string d] w (Dos (ImpAt b) w F k1 s1) := iw_write (p ++ tT) d h o1 (by omega) hd h1
  have c2 : ∀ {W F1}, ImpAt b W F1 s1 → Calls Tryz.prog 42 #[.pointer (some ⟨b, 0, none⟩), .string (p ++ ⟨#[95, 116]⟩)] W (Dos (ImpAt b) W F1 k2 s2) := fun {W F1} hW => iw_sync (p ++ tT) hW o2 (by omega) h2
  have c3 : ∀ {W F1}, ImpAt b W F1 s2 → Calls Tryz.prog 81 #[.pointer (some ⟨b, 0, none⟩), .string (p ++ ⟨#[95, 116]⟩), .string p] W (Dos (ImpAt b) W F1 (renameS s2 (p ++ tT) p).1 (renameS s2 (p ++ tT) p).2) := fun {W F1} hW => iw_rename (p ++ tT) p hW o3 (by omega) (by omega) rfl
  by_cases e1 : k1 ≠ 0
  · rw [fill_1 h1 e1]
    have n1 := Dk.ne_eq e1
    clear h o1 o2 o3 c2 c3 h1 h2 e1
    go_enter Tryz.func45, Tryz.ntmps45
    go_wp2_with fail
    go_at_call 80
    refine c1.mono ?_
    rintro e w1 ⟨rfl, hl1⟩
    go_wp2_with fail
    go_ret
    exact ⟨rfl, hl1⟩
  · obtain rfl : k1 = 0 := by omega
    by_cases e2 : k2 ≠ 0
    · rw [fill_2 h1 h2 e2]
      have n2 := Dk.ne_eq e2
      clear h o1 o2 o3 c3 h1 h2 e1 e2
      go_enter Tryz.func45, Tryz.ntmps45
      go_wp2_with fail
      go_at_call 80
      refine c1.mono ?_
      rintro e w1 ⟨rfl, F1, p1, q1, r1⟩
      go_wp2_with fail
      go_at_call 42
      refine (c2 p1).mono ?_
      rintro e w2 ⟨rfl, hl2⟩
      go_wp2_with fail
      go_ret
      exact ⟨rfl, left_trans q1 r1 hl2⟩
    · obtain rfl : k2 = 0 := by omega
      rw [fill_3 h1 h2]
      clear h o1 o2 o3 h1 h2 e1 e2
      go_enter Tryz.func45, Tryz.ntmps45
      go_wp2_with fail
      go_at_call 80
      refine c1.mono ?_
      rintro e w1 ⟨rfl, F1, p1, q1, r1⟩
      go_wp2_with fail
      go_at_call 42
      refine (c2 p1).mono ?_
      rintro e w2 ⟨rfl, hl2⟩
      obtain ⟨F2, p2, q2, r2⟩ := left_trans q1 r1 hl2
      go_wp2_with fail
      go_at_call 81
      refine (c3 p2).mono ?_
      rintro e w3 ⟨rfl, hl3⟩
      go_wp2_with fail
      go_ret
      exact ⟨rfl, left_trans q2 r2 hl3⟩
end Go.Proofs.YtbghokdlnnaeeaaGreat.Wl
