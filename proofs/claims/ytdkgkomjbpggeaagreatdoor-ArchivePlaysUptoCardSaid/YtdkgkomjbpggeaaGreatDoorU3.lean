/- Texts of this seat, one behind the other. -/
import Derived.Test.YtdkgkomjbpggeaaGreatDoorU2
import Derived.Deep.QuietTactic
import Derived.BigQuiet
import Derived.Maps.AppendAt
import Derived.ProofKit
import Derived.OpenShut
import Derived.ShutString
import Derived.Deep.Slices
import Derived.Deep.Fields
import Derived.ChangeSame
import Derived.Test.YtdkgkomjbpggeaaGreatDoorRows
import Derived.Shelf.Sort.Plain
import Derived.Test.YtdkgkomjbpggeaaGreatDoorProg
import Derived.Lib.OwnBridge
import Derived.Shelf.Slices.In.SortNone
import Derived.Sort.OwnSorted
import Derived.Laws.ResultCell
import Derived.RegionTactic
import Derived.BigRegion
namespace Go.Proofs.YtdkgkomjbpggeaaGreatDoor.Pr
open Go.RowKit Pm Tx Pl
set_option linter.unusedVariables false
theorem count_spl (l : List UInt8) : l.count 47 + 1 = (spl l).length := by
  induction l with
  | nil => rfl
  | cons c r ih =>
    rw [spl]
    by_cases hc : c = 47
    · rw [if_pos hc, List.length_cons, ← ih, hc, List.count_cons_self]
    · rw [if_neg hc, List.count_cons_of_ne hc]
      cases hs : spl r with
      | nil => exact absurd hs (spl_ne r)
      | cons x xs => rw [ih, hs]; rfl
theorem spl_cut (l : List UInt8) : spl l = cutA l :: (if hasSt l then spl (cutB l) else []) := by
  induction l with
  | nil => rfl
  | cons c r ih =>
    rw [spl]
    by_cases hc : c = 47
    · simp [hc, cutA, cutB, hasSt]
    · have e : hasSt (c :: r) = hasSt r := by simp [hasSt, Ne.symm hc]
      rw [if_neg hc, ih, cutA, if_neg hc, cutB, if_neg hc, e]
theorem cutB_le (l : List UInt8) : (cutB l).length ≤ l.length := by
  induction l with
  | nil => exact Nat.le_refl _
  | cons c r ih =>
    rw [cutB]
    split
    · simp
    · simp; omega
theorem cutB_lt (l : List UInt8) (h : hasSt l = true) : (cutB l).length < l.length := by
  induction l with
  | nil => simp [hasSt] at h
  | cons c r ih =>
    rw [cutB]
    by_cases hc : c = 47
    · rw [if_pos hc]; simp
    · rw [if_neg hc]
      have := ih (by simpa [hasSt, Ne.symm hc] using h)
      simp; omega
theorem cutA_le (l : List UInt8) : (cutA l).length ≤ l.length := by
  induction l with
  | nil => exact Nat.le_refl _
  | cons c r ih =>
    rw [cutA]
    split
    · simp
    · simp; omega
def okR (c : Nat) : Bool := (97 ≤ c && c ≤ 122) || (48 ≤ c && c ≤ 57) || c == 95
set_option maxRecDepth 100000 in
set_option maxHeartbeats 1000000 in
theorem inName_any (X : Nat) (w : World) (hX : X ≤ 2147483647) :
    Calls Tryz.prog 161 #[.int .i32 X] w fun e w' => e = .returned (.bool (okR X)) ∧ w = w' := by
  rcases show (X < 48) ∨ (57 < X ∧ X < 95) ∨ X = 96 ∨ 122 < X ∨ (48 ≤ X ∧ X ≤ 57) ∨ X = 95 ∨ (97 ≤ X ∧ X ≤ 122) by omega with h | h | h | h | h | h | h
  · have hb : okR X = false := by simp [okR]; omega
    have e : ((X : Int) == 95) = false := beq_eq_false_iff_ne.2 (by omega)
    rw [hb]
    go_enter Tryz.func161, Tryz.ntmps161
    go_wp2
    go_ret
    exact ⟨rfl, rfl⟩
  · have hb : okR X = false := by simp [okR]; omega
    have e : ((X : Int) == 95) = false := beq_eq_false_iff_ne.2 (by omega)
    have d57 : decide ((X : Int) ≤ 57) = false := decide_eq_false (by omega)
    rw [hb]
    go_enter Tryz.func161, Tryz.ntmps161
    go_wp2
    go_ret
    exact ⟨rfl, rfl⟩
  · have hb : okR X = false := by simp [okR]; omega
    have e : ((X : Int) == 95) = false := beq_eq_false_iff_ne.2 (by omega)
    have d57 : decide ((X : Int) ≤ 57) = false := decide_eq_false (by omega)
    rw [hb]
    go_enter Tryz.func161, Tryz.ntmps161
    go_wp2
    go_ret
    exact ⟨rfl, rfl⟩
  · have hb : okR X = false := by simp [okR]; omega
    have e : ((X : Int) == 95) = false := beq_eq_false_iff_ne.2 (by omega)
    have d57 : decide ((X : Int) ≤ 57) = false := decide_eq_false (by omega)
    have d122 : decide ((X : Int) ≤ 122) = false := decide_eq_false (by omega)
    rw [hb]
    go_enter Tryz.func161, Tryz.ntmps161
    go_wp2
    go_ret
    exact ⟨rfl, rfl⟩
  · have hb : okR X = true := by simp [okR]; omega
    have e : ((X : Int) == 95) = false := beq_eq_false_iff_ne.2 (by omega)
    rw [hb]
    go_enter Tryz.func161, Tryz.ntmps161
    go_wp2
    go_ret
    exact ⟨rfl, rfl⟩
  · have hb : okR X = true := by simp [okR]; omega
    have e : ((X : Int) == 95) = true := by simp [h]
    rw [hb]
    go_enter Tryz.func161, Tryz.ntmps161
    go_wp2
    go_ret
    exact ⟨rfl, rfl⟩
  · have hb : okR X = true := by simp [okR]; omega
    have e : ((X : Int) == 95) = false := beq_eq_false_iff_ne.2 (by omega)
    rw [hb]
    go_enter Tryz.func161, Tryz.ntmps161
    go_wp2
    go_ret
    exact ⟨rfl, rfl⟩
theorem below_iter (w : World) (s : ByteArray) (pos : Nat) : Below w.heap.size w (w.iter s pos) := by
  have := (Below.refl w.heap.size w).alloc (Nat.le_refl _) (.stringIter s pos)
  exact this
set_option maxRecDepth 100000 in
set_option maxHeartbeats 1000000 in
theorem pName_any (s : ByteArray) (w : World) (hs : s.size ≤ 562949953421312) :
    Calls Tryz.prog 138 #[.string s] w fun e w' => e = .returned (.bool (isName s.data.toList)) ∧ Below w.heap.size w w' := by
  by_cases h0 : s = ⟨#[]⟩
  · have hn : isName s.data.toList = false := by rw [list_nil h0]; rfl
    have e1 := is_empty h0
    rw [hn]
    clear hn h0
    go_enter Tryz.func138, Tryz.ntmps138
    go_wp2
    go_ret
    exact ⟨rfl, Below.refl _ _⟩
  have hpos : 1 ≤ s.size := by
    rcases Nat.eq_zero_or_pos s.size with h | h
    · exact absurd (size_zero.1 h) h0
    · exact h
  have e1 := not_empty h0
  clear h0
  by_cases h12 : s.size ≤ 12
  · go_enter Tryz.func138, Tryz.ntmps138
    go_wp2
    go_loopw [] (fun wr => ∃ k : Nat, k ≤ s.size ∧ wr = w.iter s k ∧ Hid ((s.data.toList.take k).all okC = true)) (fun wr => s.size - wr.iterPos w.heap.size)
    case atStart => exact ⟨0, Nat.zero_le _, rfl, rfl⟩
    case round =>
      obtain ⟨k, hk, rfl, hall⟩ := hrel
      by_cases hlt : k < s.size
      · have hnx : ∀ ty, (Instr.next (.pointer (some ⟨w.heap.size, 0, none⟩)) true ty).run Tryz.prog (w.iter s k) = _ := fun ty => run_next_any w s k ty hlt
        have hd1 := decode_le s k
        by_cases ha : s[k].toNat < 128
        · rw [decode_ascii s k hlt ha] at hnx
          have hgood := fun h => Lib.hid (all_at s k hlt hall.out h)
          have hbad := fun h => Lib.hid (all_not s k hlt h)
          obtain ⟨X, hXe⟩ : ∃ X, X = s[k].toNat := ⟨_, rfl⟩
          have hok : okC s[k] = okR X := by rw [hXe]; rfl
          rw [hok] at hgood hbad
          rw [← hXe] at hnx ha
          clear hok hXe hall hd1
          cases hx : okR X with
          | true =>
            have hb := hgood hx
            clear hgood hbad
            go_wp2_with (go_at_call 161; refine (inName_any X _ (by omega)).mono ?_; rintro e w' ⟨rfl, rfl⟩; rw [hx])
            go_roundw
            case rel => exact ⟨k + 1, by omega, rfl, hb.out⟩
            case measure => simp; omega
          | false =>
            have hb := hbad hx
            clear hgood hbad
            go_wp2_with (go_at_call 161; refine (inName_any X _ (by omega)).mono ?_; rintro e w' ⟨rfl, rfl⟩; rw [hx])
            go_ret
            exact ⟨by rw [hb.out]; rfl, below_iter _ _ _⟩
        · have hdh := (decode_high s k hlt (by omega)).1
          have hb := Lib.hid (all_not s k hlt (by simp [okC]; omega))
          obtain ⟨X, hXe⟩ : ∃ X, X = (Utf8.decode s k).1 := ⟨_, rfl⟩
          rw [← hXe] at hnx hdh hd1
          have hx : okR X = false := by simp [okR]; omega
          clear hXe hall
          go_wp2_with (go_at_call 161; refine (inName_any X _ (by omega)).mono ?_; rintro e w' ⟨rfl, rfl⟩; rw [hx])
          go_ret
          exact ⟨by rw [hb.out]; rfl, below_iter _ _ _⟩
      · have hnx : ∀ ty, (Instr.next (.pointer (some ⟨w.heap.size, 0, none⟩)) true ty).run Tryz.prog (w.iter s k) = _ := fun ty => run_next_end w s k ty hlt
        obtain rfl : k = s.size := by omega
        have hn : isName s.data.toList = true := by
          have h := hall.out
          rw [take_all] at h
          rw [isName, h, len_l]
          simp [hpos, h12]
        have HN := Lib.hid hn
        clear hn hall
        go_wp2
        go_ret
        exact ⟨by rw [HN.out]; rfl, below_iter _ _ _⟩
  · have hn : isName s.data.toList = false := by
      rw [isName, len_l]
      simp [h12]
    rw [hn]
    go_enter Tryz.func138, Tryz.ntmps138
    go_wp2
    go_ret
    exact ⟨rfl, Below.refl _ _⟩
set_option maxRecDepth 100000 in
set_option maxHeartbeats 1000000 in
theorem lastStroke_any (s : ByteArray) (w : World) (hs : s.size ≤ 562949953421312) :
    Calls Tryz.prog 158 #[.string s] w fun e w' => e = .returned (.int .i64 ((lastN s.data.toList : Nat) - 1)) ∧ w = w' := by
  go_enter Tryz.func158, Tryz.ntmps158
  go_wp2_with (go_at_call 175; refine (last_any _ _ hs).mono ?_; rintro e w' ⟨rfl, rfl⟩)
  go_ret
  exact ⟨rfl, rfl⟩
set_option maxRecDepth 100000 in
set_option maxHeartbeats 1000000 in
theorem pParent_any (s : ByteArray) (w : World) (hs : s.size ≤ 562949953421312) :
    Calls Tryz.prog 132 #[.string s] w fun e w' => e = .returned (.string (tb (par s.data.toList))) ∧ Below w.heap.size w w' := by
  have cl := fun W => lastStroke_any s W hs
  have hL := lastN_le s.data.toList
  rw [len_l] at hL
  rw [← par_ext]
  obtain ⟨L, hLe⟩ : ∃ L, L = lastN s.data.toList := ⟨_, rfl⟩
  rw [← hLe] at cl hL ⊢
  clear hLe
  by_cases h0 : L = 0
  · subst h0
    go_enter Tryz.func132, Tryz.ntmps132
    go_wp2_with (go_at_call 158; refine (cl _).mono ?_; rintro e w1 ⟨rfl, rfl⟩)
    go_ret
    exact ⟨by first | (simp; done) | (simp; exact Or.inl (by decide)), Below.refl _ _⟩
  · obtain ⟨K, rfl⟩ : ∃ K, L = K + 1 := ⟨L - 1, by omega⟩
    have e1 : ((K + 1 : Nat) : Int) - 1 = K := by omega
    rw [e1] at cl
    rw [Nat.add_sub_cancel]
    clear h0
    go_enter Tryz.func132, Tryz.ntmps132
    go_wp2_with (go_at_call 158; refine (cl _).mono ?_; rintro e w1 ⟨rfl, rfl⟩)
    go_ret
    exact ⟨rfl, Below.refl _ _⟩
set_option maxRecDepth 100000 in
set_option maxHeartbeats 1000000 in
theorem pJoin_any (a b : ByteArray) (w : World) (hs : a.size + b.size ≤ 562949953421312) :
    Calls Tryz.prog 26 #[.string a, .string b] w fun e w' => e = .returned (.string (tb (joi a.data.toList b.data.toList))) ∧ Below w.heap.size w w' := by
  by_cases h1 : a = ⟨#[]⟩
  · have e1 := is_empty h1
    have HR : tb (joi a.data.toList b.data.toList) = b := by
      rw [joi, if_neg (fun h => h.1 (list_nil h1)), list_nil h1]
      exact tb_of b
    rw [HR]
    clear HR h1
    go_enter Tryz.func26, Tryz.ntmps26
    go_wp2
    go_ret
    exact ⟨rfl, Below.refl _ _⟩
  · by_cases h2 : b = ⟨#[]⟩
    · have e1 := not_empty h1
      have e2 := is_empty h2
      have HR : tb (joi a.data.toList b.data.toList) = a := by
        rw [joi, if_neg (fun h => h.2 (list_nil h2)), list_nil h2, List.append_nil]
        exact tb_of a
      rw [HR]
      clear HR h1 h2
      go_enter Tryz.func26, Tryz.ntmps26
      go_wp2
      go_ret
      exact ⟨rfl, Below.refl _ _⟩
    · have e1 := not_empty h1
      have e2 := not_empty h2
      have HR : tb (joi a.data.toList b.data.toList) = a ++ ⟨#[47]⟩ ++ b := by
        rw [joi, if_pos ⟨list_ne h1, list_ne h2⟩]
        apply ByteArray.ext
        apply Array.toList_inj.1
        simp [tb]
      rw [HR]
      clear HR h1 h2
      go_enter Tryz.func26, Tryz.ntmps26
      go_wp2
      go_ret
      exact ⟨rfl, Below.refl _ _⟩
set_option maxRecDepth 100000 in
set_option maxHeartbeats 1000000 in
theorem pDeep_any (p : ByteArray) (w : World) (hs : p.size ≤ 562949953421312) :
    Calls Tryz.prog 131 #[.string p] w fun e w' => e = .returned (.int .i64 (dep p.data.toList : Nat)) ∧ Below w.heap.size w w' := by
  by_cases h1 : p = ⟨#[]⟩
  · have e1 := is_empty h1
    have e2 : dep p.data.toList = 0 := by rw [dep, if_pos (list_nil h1)]
    rw [e2]
    clear h1 e2
    go_enter Tryz.func131, Tryz.ntmps131
    go_wp2
    go_ret
    exact ⟨rfl, Below.refl _ _⟩
  · have e1 := not_empty h1
    have e2 : dep p.data.toList = p.data.toList.count 47 + 1 := by rw [dep, if_neg (list_ne h1), count_spl]
    rw [e2]
    have cs := fun W => count_any p W
    have hc : p.data.toList.count 47 ≤ p.size := by rw [← len_l]; exact List.count_le_length
    obtain ⟨C, hC⟩ : ∃ C, C = p.data.toList.count 47 := ⟨_, rfl⟩
    rw [← hC] at cs hc ⊢
    clear h1 e2 hC
    go_enter Tryz.func131, Tryz.ntmps131
    go_wp2_with (go_at_call 157; refine (cs _).mono ?_; rintro e w1 ⟨rfl, rfl⟩)
    go_ret
    exact ⟨by first | rfl | go_num, Below.refl _ _⟩
theorem names_cut (l : List UInt8) : (spl l).all isName = (isName (cutA l) && (if hasSt l then (spl (cutB l)).all isName else true)) := by
  rw [spl_cut, List.all_cons]
  cases hasSt l <;> rfl
def strLen : Value → Nat
  | .string s => s.size
  | _ => 0
set_option maxRecDepth 100000 in
set_option maxHeartbeats 1000000 in
theorem pCheck_any (p : ByteArray) (d : Int) (w : World) (hs : p.size ≤ 562949953421312) (h1 : -9223372036854775808 ≤ d) (h2 : d ≤ 9223372036854775807) :
    Calls Tryz.prog 101 #[.string p, .int .i64 d] w fun e w' => e = .returned (.int .i64 (chk p.data.toList d : Nat)) ∧ Below w.heap.size w w' := by
  have cd := fun W => pDeep_any p W hs
  by_cases hd : (dep p.data.toList : Int) > d
  · have hr : chk p.data.toList d = 10 := by
      rw [chk, isPath, if_neg]
      intro h
      rw [Bool.and_eq_true] at h
      have := of_decide_eq_true h.1
      rw [dep] at hd
      split at hd
      · rename_i h0
        rw [h0] at h
        have := h.2
        revert this
        decide
      · omega
    rw [hr]
    have hdl : dep p.data.toList ≤ p.size + 1 := by
      have := spl_len p.data.toList
      rw [len_l] at this
      rw [dep]
      split <;> omega
    obtain ⟨D, hD⟩ : ∃ D, D = dep p.data.toList := ⟨_, rfl⟩
    rw [← hD] at cd hd hdl
    clear hr hD
    go_enter Tryz.func101, Tryz.ntmps101
    go_wp2_with (go_at_call 131; refine (cd _).mono ?_; rintro e w1 ⟨rfl, hb1⟩)
    go_ret
    exact ⟨rfl, hb1⟩
  · have hr : chk p.data.toList d = if (spl p.data.toList).all isName then 0 else 10 := by
      rw [chk, isPath]
      rw [dep] at hd
      split at hd
      · rename_i h0
        rw [h0]
        have e : (spl []).all isName = false := by decide
        rw [e, Bool.and_false]
      · rw [decide_eq_true (by omega), Bool.true_and]
    have HR := Lib.hid hr
    have hdl : dep p.data.toList ≤ p.size + 1 := by
      have := spl_len p.data.toList
      rw [len_l] at this
      rw [dep]
      split <;> omega
    obtain ⟨D, hD⟩ : ∃ D, D = dep p.data.toList := ⟨_, rfl⟩
    rw [← hD] at cd hd hdl
    clear hr hD
    go_enter Tryz.func101, Tryz.ntmps101
    go_wp2_with (go_at_call 131; refine (cd _).mono ?_; rintro e w1 ⟨rfl, hb1⟩)
    go_loopw [0, 5, 6, 7] (fun q a b m wr => ∃ l : List UInt8, q = .string (tb l) ∧ l.length ≤ p.size ∧ Hid ((spl p.data.toList).all isName = (spl l).all isName) ∧ Below w.heap.size w wr) (fun q _ _ _ _ => strLen q)
    case atStart => exact ⟨p.data.toList, by rw [tb_of], by rw [len_l]; exact Nat.le_refl _, rfl, hb1⟩
    case round =>
      obtain ⟨l, rfl, hl, hinv, hb⟩ := hrel
      have cc := fun W => cut_any (tb l) W (by rw [tb_size]; omega)
      have hA := cutA_le l
      have hB := cutB_le l
      have hB2 := cutB_lt l
      have cn := fun W => pName_any (tb (cutA l)) W (by rw [tb_size]; omega)
      rw [tb_list] at cc cn
      have hcut := names_cut l
      cases hn : isName (cutA l) with
      | false =>
        have hno : (spl p.data.toList).all isName = false := by rw [hinv.out, hcut, hn]; rfl
        have hr := Lib.hid (show chk p.data.toList d = 10 by rw [HR.out, hno]; rfl)
        rw [hn] at cn
        clear hinv HR hcut hno hn hB2
        go_wp2_with (first | (go_at_call 137; refine (cc _).mono ?_; rintro e w1 ⟨rfl, n1, rfl⟩) | (go_at_call 138; refine (cn _).mono ?_; rintro e w2 ⟨rfl, hb2⟩))
        go_ret
        exact ⟨by rw [hr.out]; rfl, below_call (below_drewN hb n1) hb2⟩
      | true =>
        rw [hn] at cn
        cases hst : hasSt l with
        | false =>
          have hyes : (spl p.data.toList).all isName = true := by rw [hinv.out, hcut, hn, hst]; rfl
          have hr := Lib.hid (show chk p.data.toList d = 0 by rw [HR.out, hyes]; rfl)
          rw [hst] at cc
          clear hinv HR hcut hyes hn hB2 hst
          go_wp2_with (first | (go_at_call 137; refine (cc _).mono ?_; rintro e w1 ⟨rfl, n1, rfl⟩) | (go_at_call 138; refine (cn _).mono ?_; rintro e w2 ⟨rfl, hb2⟩))
          go_ret
          exact ⟨by rw [hr.out]; rfl, below_call (below_drewN hb n1) hb2⟩
        | true =>
          have hnext : Hid ((spl p.data.toList).all isName = (spl (cutB l)).all isName) := Lib.hid (by rw [hinv.out, hcut, hn, hst]; rfl)
          have hlt := hB2 hst
          rw [hst] at cc
          clear hinv HR hcut hn hB2 hst
          go_wp2_with (first | (go_at_call 137; refine (cc _).mono ?_; rintro e w1 ⟨rfl, n1, rfl⟩) | (go_at_call 138; refine (cn _).mono ?_; rintro e w2 ⟨rfl, hb2⟩))
          go_roundw
          case rel => exact ⟨cutB l, rfl, by omega, hnext, below_call (below_drewN hb n1) hb2⟩
          case measure => simp [strLen, tb_size]; omega
end Go.Proofs.YtdkgkomjbpggeaaGreatDoor.Pr

namespace Go.Proofs.YtdkgkomjbpggeaaGreatDoor.Dk
open Go.RowKit Tx Pm Pl Pr
set_option linter.unusedVariables false
theorem vol_cut (p : ByteArray) : vol p = tb (cutA p.data.toList) := by
  unfold vol
  rw [spl_cut]
  rfl
theorem below_drewN (w : World) (n : Nat) : Below w.heap.size w (w.drewN n) := by
  induction n with
  | zero => exact Below.refl _ _
  | succ n ih => exact ih.drew
set_option maxRecDepth 100000 in
theorem iVol_any (p : ByteArray) (w : World) (hp : p.size ≤ 8000000000000) :
    Calls Tryz.prog 146 #[.string p] w fun e w' => e = .returned (.string (vol p)) ∧ ∃ n, w' = w.drewN n := by
  have c1 := fun W => cut_any p W (by omega)
  rw [vol_cut]
  go_enter Tryz.func146, Tryz.ntmps146
  go_wp2_with (go_at_call 137; refine (c1 _).mono ?_; rintro e w' ⟨rfl, n, rfl⟩)
  go_ret
  exact ⟨rfl, _, rfl⟩
def mbf (L : List It) (p : ByteArray) : Nat := if kind L p = 0 then 11 else if kind L p = 1 then 12 else 0
theorem fld0 (k : Int) (s t : ByteArray) (st n : Int) (w : World) : (Instr.field 112 (.agg #[.int .i64 k, .string s, .string t, .int .i64 st, .int .i64 n]) 0).run Tryz.prog w = .ok (.int .i64 k) w := by kernel_rfl
theorem fld1 (k : Int) (s t : ByteArray) (st n : Int) (w : World) : (Instr.field 112 (.agg #[.int .i64 k, .string s, .string t, .int .i64 st, .int .i64 n]) 1).run Tryz.prog w = .ok (.string s) w := by kernel_rfl
theorem fld2 (k : Int) (s t : ByteArray) (st n : Int) (w : World) : (Instr.field 112 (.agg #[.int .i64 k, .string s, .string t, .int .i64 st, .int .i64 n]) 2).run Tryz.prog w = .ok (.string t) w := by kernel_rfl
set_option maxRecDepth 100000 in
theorem iMbf_any (b bi bl : Nat) (l : Int) (s : St) (p : ByteArray) (w : World) (h : Ia b bi bl l w s) (hp : p.size ≤ 8000000000000) :
    Calls Tryz.prog 95 #[.pointer (some ⟨b, 0, none⟩), .string p] w fun e w' => e = .returned (.int .i64 (mbf s.L p : Nat)) ∧ w = w' := by
  have hl := h.look (maxLen_of hp)
  obtain ⟨c0, c1, c2, c3, c4, c5⟩ := h.cell
  have f0 := fld0
  unfold mbf
  generalize kind s.L p = K at hl ⊢
  clear h c1 c2 c3 c4 c5
  by_cases h0 : K = 0
  · subst h0
    rw [if_pos rfl]
    go_enter Tryz.func95, Tryz.ntmps95
    go_wp2
    go_ret
    exact ⟨rfl, rfl⟩
  · rw [if_neg h0]
    by_cases h1 : K = 1
    · subst h1
      rw [if_pos rfl]
      go_enter Tryz.func95, Tryz.ntmps95
      go_wp2
      go_ret
      exact ⟨rfl, rfl⟩
    · rw [if_neg h1]
      have e0 : ((K : Int) == 0) = false := beq_eq_false_iff_ne.2 (by omega)
      have e1 : ((K : Int) == 1) = false := beq_eq_false_iff_ne.2 (by omega)
      clear h0 h1
      go_enter Tryz.func95, Tryz.ntmps95
      go_wp2
      go_ret
      exact ⟨rfl, rfl⟩
set_option maxRecDepth 100000 in
theorem iKind_any (b bi bl : Nat) (l : Int) (s : St) (p : ByteArray) (w : World) (h : Ia b bi bl l w s) (hp : p.size ≤ 8000000000000) :
    Calls Tryz.prog 24 #[.pointer (some ⟨b, 0, none⟩), .string p] w fun e w' => e = .returned (.int .i64 (kind s.L p : Nat)) ∧ w = w' := by
  have hl := h.look (maxLen_of hp)
  obtain ⟨c0, c1, c2, c3, c4, c5⟩ := h.cell
  have f0 := fld0
  generalize kind s.L p = K at hl ⊢
  clear h c1 c2 c3 c4 c5
  go_enter Tryz.func24, Tryz.ntmps24
  go_wp2
  go_ret
  exact ⟨rfl, rfl⟩
theorem tb_nil {l : List UInt8} (h : l = []) : tb l = ⟨#[]⟩ := by rw [h]; rfl
theorem tb_ne {l : List UInt8} (h : l ≠ []) : tb l ≠ ⟨#[]⟩ := fun e => h (by
  have := congrArg (fun x : ByteArray => x.data.toList) e
  simpa [tb] using this)
theorem par_len (l : List UInt8) : (tb (par l)).size ≤ l.length := by
  unfold par
  simp [tb, ByteArray.size]
  exact Nat.min_le_right _ _
set_option maxRecDepth 100000 in
theorem iHome_any (b bi bl : Nat) (l : Int) (s : St) (p : ByteArray) (w : World) (h : Ia b bi bl l w s) (hp : p.size ≤ 8000000000000) :
    Calls Tryz.prog 94 #[.pointer (some ⟨b, 0, none⟩), .string p] w fun e w' => e = .returned (.bool (home s.L p)) ∧ Below w.heap.size w w' := by
  have cp := pParent_any p w (by omega)
  have hq := par_len p.data.toList
  rw [len_l] at hq
  have hl := fun W (hW : Below w.heap.size w W) => (h.below hW).look (p := tb (par p.data.toList)) (maxLen_of (by omega))
  have hc := fun W (hW : Below w.heap.size w W) => (h.below hW).cell.1
  have f0 := fld0
  unfold home
  by_cases h0 : par p.data.toList = []
  · have e0 : (tb (par p.data.toList)).toList.isEmpty = true := is_empty (tb_nil h0)
    rw [tb_nil h0] at cp
    have e1 : (decide (par p.data.toList = []) || decide (kind s.L (tb (par p.data.toList)) = 1)) = true := by simp [h0]
    rw [e1]
    clear hl hc h e0 e1 h0 hq
    go_enter Tryz.func94, Tryz.ntmps94
    go_wp2_with (go_at_call 132; refine cp.mono ?_; rintro e w1 ⟨rfl, hb⟩)
    go_ret
    exact ⟨rfl, hb⟩
  · have e0 : (tb (par p.data.toList)).toList.isEmpty = false := not_empty (tb_ne h0)
    have e1 : (decide (par p.data.toList = []) || decide (kind s.L (tb (par p.data.toList)) = 1)) = decide (kind s.L (tb (par p.data.toList)) = 1) := by simp [h0]
    rw [e1]
    clear e1 h0 hq h
    generalize tb (par p.data.toList) = q at hl hc cp e0 ⊢
    generalize kind s.L q = K at hl ⊢
    have HL := Lib.hid hl
    have HC := Lib.hid hc
    clear hl hc
    by_cases h1 : K = 1
    · subst h1
      go_enter Tryz.func94, Tryz.ntmps94
      go_wp2_with (go_at_call 132; refine cp.mono ?_; rintro e w1 ⟨rfl, hb⟩; have c0 := HC.out _ hb; have l0 := HL.out _ hb)
      go_ret
      exact ⟨rfl, hb⟩
    · have e2 : ((K : Int) == 1) = false := beq_eq_false_iff_ne.2 (by omega)
      have e3 : decide (K = 1) = false := decide_eq_false h1
      rw [e3]
      clear h1 e3
      go_enter Tryz.func94, Tryz.ntmps94
      go_wp2_with (go_at_call 132; refine cp.mono ?_; rintro e w1 ⟨rfl, hb⟩; have c0 := HC.out _ hb; have l0 := HL.out _ hb)
      go_ret
      exact ⟨rfl, hb⟩
end Go.Proofs.YtdkgkomjbpggeaaGreatDoor.Dk

namespace Go.Proofs.YtdkgkomjbpggeaaGreatDoor.Dk
open Go.RowKit Tx Pm
set_option linter.unusedVariables false
def came (L : List It) (left : Lit → Bool) : List It := L.filter (fun y => !left (kL y.path))
def less (left : Lit → Bool) (p : ByteArray) : Lit → Bool := fun z => left z && !z.sameKey (kL p)
theorem less_same (left : Lit → Bool) (p : ByteArray) : less left p (kL p) = false := by
  unfold less
  rw [WideAt.sameKey_self (kL_key p)]
  simp
theorem less_other (left : Lit → Bool) {p q : ByteArray} (h : q ≠ p) : less left p (kL q) = left (kL q) := by
  unfold less
  rw [Go.Maps.sameKey_ne (fun e => h (kL_inj e))]
  simp
theorem came_step {left : Lit → Bool} {x : It} (hl : left (kL x.path) = true) : ∀ {L : List It}, Rises L → x ∈ L → (came L (less left x.path)).Perm (x :: came L left)
  | [], _, hx => by cases hx
  | y :: L, hr, hx => by
    obtain ⟨h1, h2⟩ := List.pairwise_cons.1 hr
    by_cases he : y.path = x.path
    · have hyx : x = y := by
        rcases List.mem_cons.1 hx with h | h
        · exact h
        · have := h1 x h
          rw [he, less_irrefl] at this
          cases this
      subst hyx
      have e1 : came L (less left x.path) = came L left := by
        unfold came
        refine List.filter_congr (fun z hz => ?_)
        rw [less_other left (fun e => by have := h1 z hz; rw [e, less_irrefl] at this; cases this)]
      have e2 : came (x :: L) (less left x.path) = x :: came L (less left x.path) := by
        unfold came
        rw [List.filter_cons_of_pos (by rw [less_same]; rfl)]
      have e3 : came (x :: L) left = came L left := by
        unfold came
        rw [List.filter_cons_of_neg (by rw [hl]; simp)]
      rw [e2, e3, e1]
    · have hxL : x ∈ L := by
        rcases List.mem_cons.1 hx with h | h
        · exact absurd (by rw [h]) he
        · exact h
      have ih := came_step hl h2 hxL
      cases hy : left (kL y.path) with
      | true =>
        have e2 : came (y :: L) (less left x.path) = came L (less left x.path) := by
          unfold came
          rw [List.filter_cons_of_neg (by rw [less_other left he, hy]; simp)]
        have e3 : came (y :: L) left = came L left := by
          unfold came
          rw [List.filter_cons_of_neg (by rw [hy]; simp)]
        rw [e2, e3]
        exact ih
      | false =>
        have e2 : came (y :: L) (less left x.path) = y :: came L (less left x.path) := by
          unfold came
          rw [List.filter_cons_of_pos (by rw [less_other left he, hy]; rfl)]
        have e3 : came (y :: L) left = y :: came L left := by
          unfold came
          rw [List.filter_cons_of_pos (by rw [hy]; rfl)]
        rw [e2, e3]
        exact (ih.cons y).trans (List.Perm.swap x y _)
theorem came_start {D : DataW Unit} {L : List It} (h : ReadsI D L) : came L (Go.Maps.has D) = [] := by
  unfold came
  refine List.filter_eq_nil_iff.2 (fun y hy => ?_)
  rw [readsI_has h]
  have : (find L y.path).isSome = true := List.find?_isSome.2 ⟨y, hy, by simp⟩
  rw [this]
  simp
theorem came_end {left : Lit → Bool} (L : List It) (h : ∀ z, left z = false) : came L left = L := by
  unfold came
  exact List.filter_eq_self.2 (fun y hy => by rw [h]; rfl)
theorem came_sub (L : List It) (left : Lit → Bool) : (came L left).Sublist L := List.filter_sublist
theorem key_is {v : ByteArray} {kl : Lit} (h : keyOf Tryz.prog 9 (.string v) = some kl) : kl = kL v ∧ v.size ≤ maxLen := by
  obtain ⟨s, h1, h2, h3⟩ := Go.WideMaps.string_of_keyOf Tryz.underlying9 h
  cases h1
  exact ⟨h2, h3⟩
theorem key_string {key : Value} {kl : Lit} (h : keyOf Tryz.prog 9 key = some kl) : ∃ x : ByteArray, key = .string x := by
  obtain ⟨s, h1, _⟩ := Go.WideMaps.string_of_keyOf Tryz.underlying9 h
  exact ⟨s, h1⟩
theorem next_items (w : World) {ops : Array Oper} {rest : List Oper} {o : Oper} {a : Act} {Q : Exit → Act → World → Prop} (hg : o.guard = none) (it : Operand) (hop : o.op = Op.next it false) (b r n : Nat) (D : DataW Unit) (left : Lit → Bool) (cnt : Nat) (L : List It)
    (hit : a.eval it = .pointer (some ⟨r, 0, none⟩)) (h : w.ranges Tryz.prog 9 itemR b r n D left cnt) (hD : ReadsI D L)
    (hDone : (∀ z, left z = false) → wpList Tryz.prog ops Q rest (a.put o.dst (.tuple #[.bool false])) w)
    (hMore : ∀ (x : It) (w' : World) (cnt' : Nat), x ∈ L → left (kL x.path) = true → w'.ranges Tryz.prog 9 itemR b r n D (less left x.path) cnt' → cnt' < cnt → w.grownBy w' (some r) → w'.heap.size = w.heap.size →
      (Instr.entry (.pointer (some ⟨r, 0, none⟩))).run Tryz.prog w' = .ok (.tuple #[.string x.path, .agg #[.int .i64 (kOf x), .string x.data, .string x.kept, .int .i64 (stOf x), .int .i64 x.stamp]]) w' →
      wpList Tryz.prog ops Q rest (a.put o.dst (.tuple #[.bool true, .string x.path, .agg #[.int .i64 (kOf x), .string x.data, .string x.kept, .int .i64 (stOf x), .int .i64 x.stamp]])) w') :
    wpList Tryz.prog ops Q (o :: rest) a w := by
  refine wpList_next_ranges w hg it hop 9 strK itemR (Value.string) (fun c : Int × ByteArray × ByteArray × Int × Int => mv c.1 c.2.1 c.2.2.1 c.2.2.2.1 c.2.2.2.2)
    (fun key kl hk => key_string hk) (fun v y hv => by obtain ⟨k, s, t, st, m, rfl, _⟩ := itemR_inv hv; exact ⟨(k, s, t, st, m), rfl⟩)
    b r n D left cnt hit h (fun _ hl => hDone hl) (fun p c kl y w' cnt' hkey hlk hv hat hrg hlt hgr hsz hen => ?_)
  obtain ⟨k, s, t, st, m⟩ := c
  obtain ⟨rfl, hps⟩ := key_is hkey
  have hv : itemR (mv k s t st m) = some y := hv
  rw [itemR_mv] at hv
  injection hv with hv
  subst hv
  have hat : ∀ zd, D.atKey (kL p) zd = dv3 k s t st m := hat
  cases hf : find L p with
  | none =>
    have h1 := hat .nil
    rw [hD p, hf] at h1
    cases h1
  | some x =>
    have h1 := hat .nil
    rw [hD p, hf] at h1
    obtain ⟨rfl, rfl, rfl, rfl, rfl⟩ := dv3_inj h1
    obtain ⟨hm, rfl⟩ := find_mem hf
    exact hMore x w' cnt' hm hlk hrg hlt hgr hsz hen
theorem range_items (w : World) {ops : Array Oper} {rest : List Oper} {o : Oper} {a : Act} {Q : Exit → Act → World → Prop} (hg : o.guard = none) (m : Operand) (hop : o.op = Op.range 59 m) (b : Nat) (L : List It)
    (hm : a.eval m = .map (some b)) (h : Mp w b L)
    (hK : ∀ (D : DataW Unit) (w' : World), ReadsI D L → w'.ranges Tryz.prog 9 itemR b w.heap.size L.length D (Go.Maps.has D) (Go.Maps.size D) → w.grownBy w' none → w'.heap.size = w.heap.size + 1 → wpList Tryz.prog ops Q rest (a.put o.dst (.pointer (some ⟨w.heap.size, 0, none⟩))) w') :
    wpList Tryz.prog ops Q (o :: rest) a w := by
  obtain ⟨D, ho, hr, _⟩ := h
  exact wpList_range_own w hg m _ hop 9 112 strK Tryz.underlying59 itemR b L.length D hm ho (fun w' h1 h2 h3 => hK D w' hr h1 h2 h3)
theorem below_grown {W w w' : World} {B r : Nat} (h : Below B W w) (hg : w.grownBy w' (some r)) (hB : B ≤ w.heap.size) (hr : B ≤ r) : Below B W w' := h.grown hg hB (fun j hj => by cases hj; exact hr)
end Go.Proofs.YtdkgkomjbpggeaaGreatDoor.Dk

namespace Go.Proofs.YtdkgkomjbpggeaaGreatDoor.Tb
open Go.RowKit Tx Pm Dk Wm Wr
set_option linter.unusedVariables false
set_option linter.unusedSimpArgs false
set_option linter.unnecessarySimpa false
structure Ch where
  key : ByteArray
  val : ByteArray
  gone : Bool
def ch0 : Ch := ⟨⟨#[]⟩, ⟨#[]⟩, false⟩
def norm (c : Ch) : Ch := if c.gone then ⟨c.key, ⟨#[]⟩, true⟩ else c
def parts (c : Ch) : List ByteArray := if c.gone then [vs 0, ts c.key] else [vs 1, ts c.key, ts c.val]
def recP (l : List Ch) : List ByteArray := vs l.length :: l.flatMap parts
def rec7 (l : List Ch) : ByteArray := cat (recP l)
def tl (t : ByteArray) : List UInt8 := vb t.size ++ t.data.toList
def pl (c : Ch) : List UInt8 := if c.gone then vb 0 ++ tl c.key else vb 1 ++ (tl c.key ++ tl c.val)
def recl (l : List Ch) : List UInt8 := vb l.length ++ l.flatMap pl
theorem ts_tl (t : ByteArray) : (ts t).data.toList = tl t := by rw [ts, ByteArray.data_append, Array.toList_append, vs_list]; rfl
theorem parts_pl (c : Ch) : ((parts c).map (·.data.toList)).flatten = pl c := by
  unfold parts pl
  split
  · simp only [List.map_cons, List.map_nil, List.flatten_cons, List.flatten_nil, List.append_nil, ts_tl, vs_list]
  · simp only [List.map_cons, List.map_nil, List.flatten_cons, List.flatten_nil, List.append_nil, ts_tl, vs_list]
theorem all_pl : ∀ l : List Ch, ((l.flatMap parts).map (·.data.toList)).flatten = l.flatMap pl
  | [] => rfl
  | c :: l => by rw [List.flatMap_cons, List.flatMap_cons, List.map_append, List.flatten_append, parts_pl, all_pl l]
theorem rec7_is (l : List Ch) : rec7 l = ⟨(recl l).toArray⟩ := by
  unfold rec7 cat recP recl
  rw [List.map_cons, List.flatten_cons, all_pl, vs_list]
theorem rec7_list (l : List Ch) : (rec7 l).data.toList = recl l := by rw [rec7_is]
theorem rec7_size (l : List Ch) : (rec7 l).size = (recl l).length := by rw [← Wm.len_l, rec7_list]
theorem tl_len {t : ByteArray} (h : t.size ≤ 9223372036854775807) : (tl t).length ≤ t.size + 10 := by
  have := vb_len (x := t.size) (by omega)
  rw [tl, List.length_append, Wm.len_l]
  omega
theorem pl_len {c : Ch} (hk : c.key.size ≤ 9223372036854775807) (hv : c.val.size ≤ 9223372036854775807) : (pl c).length ≤ c.key.size + c.val.size + 40 := by
  have h1 := tl_len hk
  have h2 := tl_len hv
  have h3 := vb_len (x := 0) (by omega)
  have h4 := vb_len (x := 1) (by omega)
  unfold pl
  split <;> simp only [List.length_append] <;> omega
def wt (l : List Ch) : Nat := (l.map fun c => c.key.size + c.val.size + 40).sum
theorem wt_cons (c : Ch) (l : List Ch) : wt (c :: l) = c.key.size + c.val.size + 40 + wt l := by unfold wt; rw [List.map_cons, List.sum_cons]
theorem wt_mem {l : List Ch} {c : Ch} (h : c ∈ l) : c.key.size + c.val.size + 40 ≤ wt l := by
  induction l with
  | nil => cases h
  | cons x l ih =>
    rw [wt_cons]
    rcases List.mem_cons.1 h with rfl | h
    · omega
    · have := ih h; omega
theorem wt_len (l : List Ch) : l.length * 40 ≤ wt l := by
  induction l with
  | nil => exact Nat.zero_le _
  | cons x l ih => rw [wt_cons, List.length_cons]; omega
theorem all_len : ∀ {l : List Ch}, wt l ≤ 9223372036854775807 → (l.flatMap pl).length ≤ wt l
  | [], _ => Nat.zero_le _
  | c :: l, h => by
    rw [wt_cons] at h ⊢
    have h1 := pl_len (c := c) (by omega) (by omega)
    have h2 := all_len (l := l) (by omega)
    rw [List.flatMap_cons, List.length_append]
    omega
theorem rec7_le {l : List Ch} (h : wt l ≤ 9223372036854775807) : (rec7 l).size ≤ wt l + 10 := by
  have h1 := wt_len l
  have h2 := vb_len (x := l.length) (by omega)
  have h3 := all_len h
  rw [rec7_size, recl, List.length_append]
  omega
def rdOp (s : ByteArray) : Ch × Nat × Nat :=
  if (rdU s.data.toList).2.2 ≠ 0 then (ch0, 0, (rdU s.data.toList).2.2) else
  if 1 < (rdU s.data.toList).1 then (ch0, 0, 3) else
  if (rdT (s.extract (rdU s.data.toList).2.1 s.size)).2.2 ≠ 0 then (ch0, 0, (rdT (s.extract (rdU s.data.toList).2.1 s.size)).2.2) else
  if (rdU s.data.toList).1 = 0 then (⟨(rdT (s.extract (rdU s.data.toList).2.1 s.size)).1, ⟨#[]⟩, true⟩, (rdU s.data.toList).2.1 + (rdT (s.extract (rdU s.data.toList).2.1 s.size)).2.1, 0) else
  if (rdT (s.extract ((rdU s.data.toList).2.1 + (rdT (s.extract (rdU s.data.toList).2.1 s.size)).2.1) s.size)).2.2 ≠ 0 then (ch0, 0, (rdT (s.extract ((rdU s.data.toList).2.1 + (rdT (s.extract (rdU s.data.toList).2.1 s.size)).2.1) s.size)).2.2) else
  (⟨(rdT (s.extract (rdU s.data.toList).2.1 s.size)).1, (rdT (s.extract ((rdU s.data.toList).2.1 + (rdT (s.extract (rdU s.data.toList).2.1 s.size)).2.1) s.size)).1, false⟩,
    (rdU s.data.toList).2.1 + (rdT (s.extract (rdU s.data.toList).2.1 s.size)).2.1 + (rdT (s.extract ((rdU s.data.toList).2.1 + (rdT (s.extract (rdU s.data.toList).2.1 s.size)).2.1) s.size)).2.1, 0)
section
variable {s : ByteArray} {k m n n2 e : Nat} {t t2 : ByteArray}
theorem rdOp_1 (h : rdU s.data.toList = (k, m, e)) (he : e ≠ 0) : rdOp s = (ch0, 0, e) := by unfold rdOp; rw [h]; exact if_pos he
theorem rdOp_2 (h : rdU s.data.toList = (k, m, 0)) (hk : 1 < k) : rdOp s = (ch0, 0, 3) := by
  unfold rdOp; rw [h, if_neg (fun hh => hh rfl)]; exact if_pos hk
theorem rdOp_3 (h : rdU s.data.toList = (k, m, 0)) (hk : k ≤ 1) (h1 : rdT (s.extract m s.size) = (t, n, e)) (he : e ≠ 0) : rdOp s = (ch0, 0, e) := by
  unfold rdOp; rw [h, if_neg (fun hh => hh rfl), if_neg (by show ¬ 1 < k; omega)]
  simp only [h1]
  exact if_pos he
theorem rdOp_4 (h : rdU s.data.toList = (0, m, 0)) (h1 : rdT (s.extract m s.size) = (t, n, 0)) : rdOp s = (⟨t, ⟨#[]⟩, true⟩, m + n, 0) := by
  unfold rdOp; rw [h, if_neg (fun hh => hh rfl), if_neg (by show ¬ 1 < 0; omega)]
  simp only [h1]
  rfl
theorem rdOp_5 (h : rdU s.data.toList = (1, m, 0)) (h1 : rdT (s.extract m s.size) = (t, n, 0)) (h2 : rdT (s.extract (m + n) s.size) = (t2, n2, e)) (he : e ≠ 0) : rdOp s = (ch0, 0, e) := by
  unfold rdOp; rw [h, if_neg (fun hh => hh rfl), if_neg (by show ¬ 1 < 1; omega)]
  simp only [h1, h2]
  rw [if_neg (fun hh => hh rfl), if_neg (by decide)]
  exact if_pos he
theorem rdOp_6 (h : rdU s.data.toList = (1, m, 0)) (h1 : rdT (s.extract m s.size) = (t, n, 0)) (h2 : rdT (s.extract (m + n) s.size) = (t2, n2, 0)) : rdOp s = (⟨t, t2, false⟩, m + n + n2, 0) := by
  unfold rdOp; rw [h, if_neg (fun hh => hh rfl), if_neg (by show ¬ 1 < 1; omega)]
  simp only [h1, h2]
  rfl
end
theorem rdOp_cases (s : ByteArray) :
    (∃ k m e, rdU s.data.toList = (k, m, e) ∧ e ≠ 0 ∧ rdOp s = (ch0, 0, e)) ∨
    (∃ k m, rdU s.data.toList = (k, m, 0) ∧ 1 < k ∧ rdOp s = (ch0, 0, 3)) ∨
    (∃ k m t n e, rdU s.data.toList = (k, m, 0) ∧ k ≤ 1 ∧ rdT (s.extract m s.size) = (t, n, e) ∧ e ≠ 0 ∧ rdOp s = (ch0, 0, e)) ∨
    (∃ m t n, rdU s.data.toList = (0, m, 0) ∧ rdT (s.extract m s.size) = (t, n, 0) ∧ rdOp s = (⟨t, ⟨#[]⟩, true⟩, m + n, 0)) ∨
    (∃ m t n t2 n2 e, rdU s.data.toList = (1, m, 0) ∧ rdT (s.extract m s.size) = (t, n, 0) ∧ rdT (s.extract (m + n) s.size) = (t2, n2, e) ∧ e ≠ 0 ∧ rdOp s = (ch0, 0, e)) ∨
    (∃ m t n t2 n2, rdU s.data.toList = (1, m, 0) ∧ rdT (s.extract m s.size) = (t, n, 0) ∧ rdT (s.extract (m + n) s.size) = (t2, n2, 0) ∧ rdOp s = (⟨t, t2, false⟩, m + n + n2, 0)) := by
  obtain ⟨k, m, e, h⟩ := Fm.trip (rdU s.data.toList)
  by_cases he : e = 0
  · subst he
    by_cases hk : 1 < k
    · exact .inr (.inl ⟨k, m, h, hk, rdOp_2 h hk⟩)
    · obtain ⟨t, n, e, h1⟩ := Fm.trip (rdT (s.extract m s.size))
      by_cases he : e = 0
      · subst he
        rcases (show k = 0 ∨ k = 1 by omega) with rfl | rfl
        · exact .inr (.inr (.inr (.inl ⟨m, t, n, h, h1, rdOp_4 h h1⟩)))
        · obtain ⟨t2, n2, e, h2⟩ := Fm.trip (rdT (s.extract (m + n) s.size))
          by_cases he : e = 0
          · subst he
            exact .inr (.inr (.inr (.inr (.inr ⟨m, t, n, t2, n2, h, h1, h2, rdOp_6 h h1 h2⟩))))
          · exact .inr (.inr (.inr (.inr (.inl ⟨m, t, n, t2, n2, e, h, h1, h2, he, rdOp_5 h h1 h2 he⟩))))
      · exact .inr (.inr (.inl ⟨k, m, t, n, e, h, by omega, h1, he, rdOp_3 h (by omega) h1 he⟩))
  · exact .inl ⟨k, m, e, h, he, rdOp_1 h he⟩
def rdN (s : ByteArray) : Nat → Nat → List Ch × Nat × Nat
  | 0, a => ([], a, 0)
  | n + 1, a => if (rdOp (s.extract a s.size)).2.2 ≠ 0 then ([], a, (rdOp (s.extract a s.size)).2.2) else
    ((rdOp (s.extract a s.size)).1 :: (rdN s n (a + (rdOp (s.extract a s.size)).2.1)).1, (rdN s n (a + (rdOp (s.extract a s.size)).2.1)).2.1, (rdN s n (a + (rdOp (s.extract a s.size)).2.1)).2.2)
theorem rdN_bad {s : ByteArray} {n a m e : Nat} {c : Ch} (h : rdOp (s.extract a s.size) = (c, m, e)) (he : e ≠ 0) : rdN s (n + 1) a = ([], a, e) := by rw [rdN, h]; exact if_pos he
theorem rdN_one {s : ByteArray} {n a m : Nat} {c : Ch} (h : rdOp (s.extract a s.size) = (c, m, 0)) : rdN s (n + 1) a = (c :: (rdN s n (a + m)).1, (rdN s n (a + m)).2.1, (rdN s n (a + m)).2.2) := by rw [rdN, h]; exact if_neg (fun hh => hh rfl)
def opsS (s : ByteArray) : List Ch × Nat :=
  if (rdU s.data.toList).2.2 ≠ 0 then ([], (rdU s.data.toList).2.2) else
  if (rdN s (rdU s.data.toList).1 (rdU s.data.toList).2.1).2.2 ≠ 0 then ([], (rdN s (rdU s.data.toList).1 (rdU s.data.toList).2.1).2.2) else
  if (rdN s (rdU s.data.toList).1 (rdU s.data.toList).2.1).2.1 < s.size then ([], 5) else ((rdN s (rdU s.data.toList).1 (rdU s.data.toList).2.1).1, 0)
section
variable {s : ByteArray} {k m a e : Nat} {l : List Ch}
theorem opsS_1 (h : rdU s.data.toList = (k, m, e)) (he : e ≠ 0) : opsS s = ([], e) := by unfold opsS; rw [h]; exact if_pos he
theorem opsS_2 (h : rdU s.data.toList = (k, m, 0)) (h1 : rdN s k m = (l, a, e)) (he : e ≠ 0) : opsS s = ([], e) := by
  unfold opsS; rw [h, if_neg (fun hh => hh rfl)]; simp only [h1]; exact if_pos he
theorem opsS_3 (h : rdU s.data.toList = (k, m, 0)) (h1 : rdN s k m = (l, a, 0)) (ha : a < s.size) : opsS s = ([], 5) := by
  unfold opsS; rw [h, if_neg (fun hh => hh rfl)]; simp only [h1]; rw [if_neg (fun hh => hh rfl)]; exact if_pos ha
theorem opsS_4 (h : rdU s.data.toList = (k, m, 0)) (h1 : rdN s k m = (l, a, 0)) (ha : ¬ a < s.size) : opsS s = (l, 0) := by
  unfold opsS; rw [h, if_neg (fun hh => hh rfl)]; simp only [h1]; rw [if_neg (fun hh => hh rfl)]; exact if_neg ha
end
theorem rdT_back (t : ByteArray) (m : List UInt8) (h : t.size ≤ 9223372036854775807) : rdT ⟨(tl t ++ m).toArray⟩ = (t, (tl t).length, 0) := by
  have := Fr.rdT_front t m h
  rw [tl, List.append_assoc, this, List.length_append, Wm.len_l]
theorem rdU_back (x : Nat) (r : List UInt8) (h : x ≤ 9223372036854775807) : rdU (vb x ++ r) = (x, (vb x).length, 0) := by
  unfold rdU
  rw [rd_vb x r (by omega), if_neg (by show ¬ (0 = 0 ∧ 9223372036854775807 < x); omega)]
theorem ext_at (p r : List UInt8) : (⟨(p ++ r).toArray⟩ : ByteArray).extract p.length (⟨(p ++ r).toArray⟩ : ByteArray).size = ⟨r.toArray⟩ := by
  apply ByteArray.ext
  rw [ByteArray.data_extract]
  apply Array.toList_inj.1
  simp [ByteArray.size]
theorem rdOp_back (c : Ch) (r : List UInt8) (hk : c.key.size ≤ 9223372036854775807) (hv : c.val.size ≤ 9223372036854775807) : rdOp ⟨(pl c ++ r).toArray⟩ = (norm c, (pl c).length, 0) := by
  obtain ⟨key, val, gone⟩ := c
  cases gone with
  | true =>
    have e : pl ⟨key, val, true⟩ ++ r = vb 0 ++ (tl key ++ r) := by unfold pl; simp
    have e1 : pl ⟨key, val, true⟩ = vb 0 ++ tl key := rfl
    rw [e, e1]
    have h0 : rdU (⟨(vb 0 ++ (tl key ++ r)).toArray⟩ : ByteArray).data.toList = (0, (vb 0).length, 0) := rdU_back 0 _ (by omega)
    have h1 : rdT ((⟨(vb 0 ++ (tl key ++ r)).toArray⟩ : ByteArray).extract (vb 0).length (⟨(vb 0 ++ (tl key ++ r)).toArray⟩ : ByteArray).size) = (key, (tl key).length, 0) := by rw [ext_at]; exact rdT_back key r hk
    rw [rdOp_4 h0 h1, List.length_append]
    rfl
  | false =>
    have e : pl ⟨key, val, false⟩ ++ r = vb 1 ++ (tl key ++ (tl val ++ r)) := by unfold pl; simp
    have e1 : pl ⟨key, val, false⟩ = vb 1 ++ (tl key ++ tl val) := rfl
    rw [e, e1]
    have h0 : rdU (⟨(vb 1 ++ (tl key ++ (tl val ++ r))).toArray⟩ : ByteArray).data.toList = (1, (vb 1).length, 0) := rdU_back 1 _ (by omega)
    have h1 : rdT ((⟨(vb 1 ++ (tl key ++ (tl val ++ r))).toArray⟩ : ByteArray).extract (vb 1).length (⟨(vb 1 ++ (tl key ++ (tl val ++ r))).toArray⟩ : ByteArray).size) = (key, (tl key).length, 0) := by rw [ext_at]; exact rdT_back key _ hk
    have h2 : rdT ((⟨(vb 1 ++ (tl key ++ (tl val ++ r))).toArray⟩ : ByteArray).extract ((vb 1).length + (tl key).length) (⟨(vb 1 ++ (tl key ++ (tl val ++ r))).toArray⟩ : ByteArray).size) = (val, (tl val).length, 0) := by
      rw [← List.append_assoc, ← List.length_append, ext_at]; exact rdT_back val r hv
    rw [rdOp_6 h0 h1 h2, List.length_append, List.length_append, Nat.add_assoc]
    rfl
theorem rdN_back : ∀ (l : List Ch) (p : List UInt8), (∀ c ∈ l, c.key.size ≤ 9223372036854775807 ∧ c.val.size ≤ 9223372036854775807) → rdN ⟨(p ++ l.flatMap pl).toArray⟩ l.length p.length = (l.map norm, (p ++ l.flatMap pl).length, 0)
  | [], p, _ => by
    rw [List.flatMap_nil, List.append_nil]
    rfl
  | c :: l, p, h => by
    have h1 := h c List.mem_cons_self
    have hb := rdOp_back c (l.flatMap pl) h1.1 h1.2
    have h2 : rdOp ((⟨(p ++ (c :: l).flatMap pl).toArray⟩ : ByteArray).extract p.length (⟨(p ++ (c :: l).flatMap pl).toArray⟩ : ByteArray).size) = (norm c, (pl c).length, 0) := by
      rw [ext_at, List.flatMap_cons]
      exact hb
    have ih := rdN_back l (p ++ pl c) (fun x hx => h x (List.mem_cons_of_mem _ hx))
    have e : p ++ (c :: l).flatMap pl = (p ++ pl c) ++ l.flatMap pl := by rw [List.flatMap_cons, List.append_assoc]
    rw [List.length_cons, rdN_one h2, e, ← List.length_append, ih]
    rfl
theorem ops_back {l : List Ch} (h : wt l ≤ 9223372036854775807) : opsS (rec7 l) = (l.map norm, 0) := by
  have hl := wt_len l
  have h0 : rdU (rec7 l).data.toList = (l.length, (vb l.length).length, 0) := by
    rw [rec7_list, recl]
    exact rdU_back _ _ (by omega)
  have h1 := rdN_back l (vb l.length) (fun c hc => by have := wt_mem hc; omega)
  have e : (⟨(vb l.length ++ l.flatMap pl).toArray⟩ : ByteArray) = rec7 l := (rec7_is l).symm
  rw [e] at h1
  exact opsS_4 h0 h1 (by rw [rec7_size]; exact Nat.lt_irrefl _)
theorem ext_list (s : ByteArray) (a : Nat) : (s.extract a s.size).data.toList = s.data.toList.drop a := by
  rw [ByteArray.data_extract, Array.toList_extract, List.extract_eq_take_drop, List.take_of_length_le]
  rw [List.length_drop, Wm.len_l]
  omega
theorem pl_gone (k v : ByteArray) : pl ⟨k, v, true⟩ = vb 0 ++ tl k := by unfold pl; exact if_pos rfl
theorem pl_give (k v : ByteArray) : pl ⟨k, v, false⟩ = vb 1 ++ (tl k ++ tl v) := by unfold pl; exact if_neg (fun h => by cases h)
theorem rdT_ok {s t : ByteArray} {n : Nat} (h : rdT s = (t, n, 0)) : n ≤ s.size ∧ s.data.toList.take n = tl t ∧ 0 < n := by
  have hle : n ≤ s.size ∧ 0 < n := by
    rcases rdT_cases s with ⟨e, he, _, _, h3⟩ | ⟨x, m, _, _, _, _, h3⟩ | ⟨x, m, hu, hn, hx, h3⟩
    · rw [h3] at h
      simp only [Prod.mk.injEq] at h
      exact absurd h.2.2 he
    · rw [h3] at h
      simp at h
    · rw [h3] at h
      simp only [Prod.mk.injEq] at h
      have := (rdU_ok hu).2.2.1
      omega
  refine ⟨hle.1, ?_, hle.2⟩
  have h1 := congrArg (fun x : ByteArray => x.data.toList) (Fr.ts_front h)
  simp only [ts_tl] at h1
  rw [← h1, ByteArray.data_extract, Array.toList_extract]
  simp [List.extract_eq_take_drop]
theorem rdOp_ok {s : ByteArray} {c : Ch} {n : Nat} (h : rdOp s = (c, n, 0)) : n ≤ s.size ∧ s.data.toList.take n = pl c ∧ 1 < n ∧ norm c = c := by
  rcases rdOp_cases s with ⟨k, m, e, _, he, h2⟩ | ⟨k, m, _, _, h2⟩ | ⟨k, m, t, n1, e, _, _, _, he, h2⟩ | ⟨m, t, n1, h0, h1, h2⟩ | ⟨m, t, n1, t2, n2, e, _, _, _, he, h2⟩ | ⟨m, t, n1, t2, n2, h0, h1, h3, h2⟩
  · rw [h2] at h; simp only [Prod.mk.injEq] at h; exact absurd h.2.2 he
  · rw [h2] at h; simp at h
  · rw [h2] at h; simp only [Prod.mk.injEq] at h; exact absurd h.2.2 he
  · rw [h2] at h
    simp only [Prod.mk.injEq] at h
    obtain ⟨rfl, rfl, _⟩ := h
    obtain ⟨a1, a2, a3, _⟩ := rdU_ok h0
    obtain ⟨b1, b2, b3⟩ := rdT_ok h1
    rw [Wm.len_l] at a1
    have hs : (s.extract m s.size).size = s.size - m := by simp
    rw [hs] at b1
    rw [ext_list] at b2
    refine ⟨by omega, ?_, by omega, rfl⟩
    rw [List.take_add, b2, ← a2, pl_gone]
  · rw [h2] at h; simp only [Prod.mk.injEq] at h; exact absurd h.2.2 he
  · rw [h2] at h
    simp only [Prod.mk.injEq] at h
    obtain ⟨rfl, rfl, _⟩ := h
    obtain ⟨a1, a2, a3, _⟩ := rdU_ok h0
    obtain ⟨b1, b2, b3⟩ := rdT_ok h1
    obtain ⟨c1, c2, c3⟩ := rdT_ok h3
    rw [Wm.len_l] at a1
    have hs : (s.extract m s.size).size = s.size - m := by simp
    have hs2 : (s.extract (m + n1) s.size).size = s.size - (m + n1) := by simp
    rw [hs] at b1
    rw [hs2] at c1
    rw [ext_list] at b2 c2
    refine ⟨by omega, ?_, by omega, rfl⟩
    rw [List.take_add, c2, List.take_add, b2, ← a2, List.append_assoc, pl_give]
theorem rdN_ok (s : ByteArray) (n : Nat) : ∀ (a : Nat) (l : List Ch) (b : Nat), rdN s n a = (l, b, 0) → a ≤ s.size → a ≤ b ∧ b ≤ s.size ∧ s.data.toList.take b = s.data.toList.take a ++ l.flatMap pl ∧ l.length = n ∧ l.map norm = l ∧ 2 * n ≤ b - a := by
  induction n with
  | zero =>
    intro a l b h ha
    rw [rdN] at h
    simp only [Prod.mk.injEq] at h
    obtain ⟨rfl, rfl, _⟩ := h
    exact ⟨Nat.le_refl _, ha, by simp, rfl, rfl, by omega⟩
  | succ n ih =>
    intro a l b h ha
    obtain ⟨c, m, e, h1⟩ := Fm.trip (rdOp (s.extract a s.size))
    by_cases he : e = 0
    · subst he
      obtain ⟨l2, b2, e2, h2⟩ := Fm.trip (rdN s n (a + m))
      rw [rdN_one h1, h2] at h
      simp only [Prod.mk.injEq] at h
      obtain ⟨rfl, rfl, rfl⟩ := h
      obtain ⟨c1, c2, c3, c4⟩ := rdOp_ok h1
      have hs : (s.extract a s.size).size = s.size - a := by simp
      rw [hs] at c1
      rw [ext_list] at c2
      obtain ⟨d1, d2, d3, d4, d5, d6⟩ := ih (a + m) l2 b2 h2 (by omega)
      refine ⟨by omega, d2, ?_, by rw [List.length_cons, d4], by rw [List.map_cons, c4, d5], by omega⟩
      rw [d3, List.take_add, c2, List.flatMap_cons, List.append_assoc]
    · rw [rdN_bad h1 he] at h
      simp only [Prod.mk.injEq] at h
      exact absurd h.2.2 he
theorem opsS_ok {s : ByteArray} {l : List Ch} (h : opsS s = (l, 0)) : rec7 l = s ∧ l.map norm = l ∧ 2 * l.length ≤ s.size := by
  obtain ⟨k, m, e, h0⟩ := Fm.trip (rdU s.data.toList)
  by_cases he : e = 0
  · subst he
    obtain ⟨l2, b, e, h1⟩ := Fm.trip (rdN s k m)
    by_cases he : e = 0
    · subst he
      by_cases hb : b < s.size
      · rw [opsS_3 h0 h1 hb] at h
        simp at h
      · rw [opsS_4 h0 h1 hb] at h
        simp only [Prod.mk.injEq] at h
        obtain ⟨rfl, _⟩ := h
        obtain ⟨a1, a2, a3, _⟩ := rdU_ok h0
        rw [Wm.len_l] at a1
        obtain ⟨d1, d2, d3, d4, d5, d6⟩ := rdN_ok s k m l2 b h1 a1
        refine ⟨?_, d5, by omega⟩
        have hbs : b = s.size := by omega
        apply ByteArray.ext
        apply Array.toList_inj.1
        rw [rec7_list, recl, d4, a2, ← d3, hbs, ← Wm.len_l, List.take_length]
    · rw [opsS_2 h0 h1 he] at h
      simp only [Prod.mk.injEq] at h
      exact absurd h.2 he
  · rw [opsS_1 h0 he] at h
    simp only [Prod.mk.injEq] at h
    exact absurd h.2 he
end Go.Proofs.YtdkgkomjbpggeaaGreatDoor.Tb

namespace Go.Proofs.YtdkgkomjbpggeaaGreatDoor.Wl
open Go.RowKit Tx Pm Dk Fr
set_option linter.unusedVariables false
def tT : ByteArray := ⟨#[95, 116]⟩
structure Jst where
  s : St
  R : List ByteArray
  dm : Bool
def fillS (s : St) (p d : ByteArray) : Nat × St :=
  if (writeS s (p ++ tT) d).1 ≠ 0 then writeS s (p ++ tT) d else
  if (syncS (writeS s (p ++ tT) d).2 (p ++ tT)).1 ≠ 0 then syncS (writeS s (p ++ tT) d).2 (p ++ tT) else
  renameS (syncS (writeS s (p ++ tT) d).2 (p ++ tT)).2 (p ++ tT) p
def addS (x : Jst) (p r : ByteArray) : Nat × Jst :=
  if (appendS x.s p (Fm.pk r)).1 ≠ 0 then ((appendS x.s p (Fm.pk r)).1, ⟨(appendS x.s p (Fm.pk r)).2, x.R, x.dm⟩) else
  if (syncS (appendS x.s p (Fm.pk r)).2 p).1 ≠ 0 then ((syncS (appendS x.s p (Fm.pk r)).2 p).1, ⟨(syncS (appendS x.s p (Fm.pk r)).2 p).2, x.R, x.dm⟩) else
  (0, ⟨(syncS (appendS x.s p (Fm.pk r)).2 p).2, x.R ++ [r], x.dm⟩)
def resetS (x : Jst) (p : ByteArray) : Nat × Jst :=
  if (fillS x.s p ⟨#[]⟩).1 ≠ 0 then ((fillS x.s p ⟨#[]⟩).1, ⟨(fillS x.s p ⟨#[]⟩).2, x.R, x.dm⟩) else (0, ⟨(fillS x.s p ⟨#[]⟩).2, [], x.dm⟩)
def bad (e : Nat) : Bool := decide (e = 6) || decide (e = 3)
def openS (s : St) (p : ByteArray) : Nat × Jst :=
  if kind s.L p = 0 then ((fillS s p ⟨#[]⟩).1, ⟨(fillS s p ⟨#[]⟩).2, [], false⟩) else
  if (readS s p).2 ≠ 0 then ((readS s p).2, ⟨s, [], false⟩) else
  if (Fm.sc (readS s p).1 0).2.2 = 0 then (0, ⟨s, (Fm.sc (readS s p).1 0).1, bad (Fm.sc (readS s p).1 0).2.2⟩) else
  ((fillS s p ((readS s p).1.extract 0 (Fm.sc (readS s p).1 0).2.1)).1, ⟨(fillS s p ((readS s p).1.extract 0 (Fm.sc (readS s p).1 0).2.1)).2, (Fm.sc (readS s p).1 0).1, bad (Fm.sc (readS s p).1 0).2.2⟩)
def LeftA {α : Type} (Obj : World → (Nat → Prop) → α → Prop) (w : World) (F : Nat → Prop) (x : α) (w' : World) : Prop := ∃ F', Obj w' F' x ∧ Chg F w w' ∧ ∀ g, F' g → F g ∨ w.heap.size ≤ g
structure JAt (O : World → (Nat → Prop) → St → Prop) (T : TypeId) (b j : Nat) (p : ByteArray) (v : Value) (Fd : Nat → Prop) (w : World) (F : Nat → Prop) (x : Jst) : Prop where
  dsk : O w Fd x.s
  blk : w.heap[j]? = some (.cells #[.pointer (some ⟨b, 0, none⟩), .string p, v, .bool x.dm] T (0, 0))
  row : Fr.Texts w 0 v x.R
  ne : v.ownBlock ≠ some j
  off : ∀ i, Fd i → i ≠ j ∧ v.ownBlock ≠ some i
  foot : ∀ i, F i ↔ Fd i ∨ i = j ∨ v.ownBlock = some i
def Jn (O : World → (Nat → Prop) → St → Prop) (T : TypeId) (b j : Nat) (p : ByteArray) (w : World) (F : Nat → Prop) (x : Jst) : Prop := ∃ v Fd, JAt O T b j p v Fd w F x
theorem JAt.lt {O : World → (Nat → Prop) → St → Prop} (k : Dk.Kind O) {T : TypeId} {b j : Nat} {p : ByteArray} {v : Value} {Fd : Nat → Prop} {w : World} {F : Nat → Prop} {x : Jst} (h : JAt O T b j p v Fd w F x) : ∀ i, F i → i < w.heap.size := fun i hi => by
  rcases (h.foot i).1 hi with h1 | rfl | h1
  · exact k.lt h.dsk i h1
  · exact (Array.getElem?_eq_some_iff.1 h.blk).1
  · exact (h.row.lt i h1).2
theorem JAt.kept {O : World → (Nat → Prop) → St → Prop} (k : Dk.Kind O) {T : TypeId} {b j : Nat} {p : ByteArray} {v : Value} {Fd : Nat → Prop} {w w1 : World} {F : Nat → Prop} {x : Jst} (h : JAt O T b j p v Fd w F x) (hk : ∀ i, F i → w1.heap[i]? = w.heap[i]?) : JAt O T b j p v Fd w1 F x :=
  ⟨k.kept h.dsk (fun i hi => hk i ((h.foot i).2 (.inl hi))), (hk j ((h.foot j).2 (.inr (.inl rfl)))).trans h.blk, own_kept h.row (fun g hg => hk g ((h.foot g).2 (.inr (.inr hg)))), h.ne, h.off, h.foot⟩
theorem JAt.below {O : World → (Nat → Prop) → St → Prop} (k : Dk.Kind O) {T : TypeId} {b j : Nat} {p : ByteArray} {v : Value} {Fd : Nat → Prop} {w w1 : World} {F : Nat → Prop} {x : Jst} (h : JAt O T b j p v Fd w F x) (hb : Below w.heap.size w w1) : JAt O T b j p v Fd w1 F x := h.kept k (fun i hi => hb.block i (h.lt k i hi))
theorem JAt.cell {O : World → (Nat → Prop) → St → Prop} {T : TypeId} {b j : Nat} {p : ByteArray} {v : Value} {Fd : Nat → Prop} {w : World} {F : Nat → Prop} {x : Jst} (h : JAt O T b j p v Fd w F x) :
    w.cell? ⟨j, 0, none⟩ = some (.pointer (some ⟨b, 0, none⟩)) ∧ w.cell? ⟨j, 1, none⟩ = some (.string p) ∧ w.cell? ⟨j, 2, none⟩ = some v ∧ w.cell? ⟨j, 3, none⟩ = some (.bool x.dm) := by
  have hb := h.blk
  refine ⟨?_, ?_, ?_, ?_⟩ <;> · unfold World.cell?; rw [hb]; rfl
theorem JAt.warm {O : World → (Nat → Prop) → St → Prop} {T : TypeId} {b j : Nat} {p : ByteArray} {v : Value} {Fd : Nat → Prop} {w : World} {F : Nat → Prop} {x : Jst} (h : JAt O T b j p v Fd w F x) (q : Nat) : w.frozen? ⟨j, q, none⟩ = false := by
  unfold World.frozen?
  rw [h.blk]
  simp
theorem JAt.disk_left {O : World → (Nat → Prop) → St → Prop} (k : Dk.Kind O) {T : TypeId} {b j : Nat} {p : ByteArray} {v : Value} {Fd : Nat → Prop} {w w1 : World} {F : Nat → Prop} {x : Jst} {s' : St} (h : JAt O T b j p v Fd w F x) (hl : Dk.Left O w Fd s' w1) :
    ∃ Fd' F', JAt O T b j p v Fd' w1 F' ⟨s', x.R, x.dm⟩ ∧ Chg F w w1 ∧ ∀ g, F' g → F g ∨ w.heap.size ≤ g := by
  obtain ⟨Fd', h1, h2, h3⟩ := hl
  have hj : j < w.heap.size := (Array.getElem?_eq_some_iff.1 h.blk).1
  have hvl := h.row.lt
  refine ⟨Fd', fun i => Fd' i ∨ i = j ∨ v.ownBlock = some i, ⟨h1, (h2.block j hj (fun hh => (h.off j hh).1 rfl)).trans h.blk, own_kept h.row (fun g hg => h2.block g (hvl g hg).2 (fun hh => (h.off g hh).2 hg)), h.ne, fun i hi => ?_, fun i => Iff.rfl⟩, h2.mono (fun i hi => (h.foot i).2 (.inl hi)), fun g hg => ?_⟩
  · rcases h3 i hi with hh | hh
    · exact h.off i hh
    · exact ⟨by omega, fun e => by have := (hvl i e).2; omega⟩
  · rcases hg with hg | hg
    · exact (h3 g hg).imp (fun hh => (h.foot g).2 (.inl hh)) id
    · exact .inl ((h.foot g).2 (.inr hg))
theorem jn_kind {O : World → (Nat → Prop) → St → Prop} (k : Dk.Kind O) (T : TypeId) (b j : Nat) (p : ByteArray) : (∀ {w F x}, Jn O T b j p w F x → ∀ i, F i → i < w.heap.size) ∧ (∀ {w w1 F x}, Jn O T b j p w F x → (∀ i, F i → w1.heap[i]? = w.heap[i]?) → Jn O T b j p w1 F x) :=
  ⟨fun ⟨v, Fd, h⟩ => h.lt k, fun ⟨v, Fd, h⟩ hk => ⟨v, Fd, h.kept k hk⟩⟩
theorem LeftA.trans {α : Type} {Obj : World → (Nat → Prop) → α → Prop} {w w1 w2 : World} {F F1 : Nat → Prop} {y : α} (hc : Chg F w w1) (hn : ∀ g, F1 g → F g ∨ w.heap.size ≤ g) (h : LeftA Obj w1 F1 y w2) : LeftA Obj w F y w2 := by
  obtain ⟨F2, h1, h2, h3⟩ := h
  have hs := hc.size
  exact ⟨F2, h1, hc.trans h2 hn, fun g hg => (h3 g hg).elim (fun hh => hn g hh) (fun hh => .inr (by omega))⟩
theorem left_trans {O : World → (Nat → Prop) → St → Prop} {w w1 w2 : World} {F F1 : Nat → Prop} {s : St} (hc : Chg F w w1) (hn : ∀ g, F1 g → F g ∨ w.heap.size ≤ g) (h : Dk.Left O w1 F1 s w2) : Dk.Left O w F s w2 := by
  obtain ⟨F2, h1, h2, h3⟩ := h
  have hs := hc.size
  exact ⟨F2, h1, hc.trans h2 hn, fun g hg => (h3 g hg).elim (fun hh => hn g hh) (fun hh => .inr (by omega))⟩
def Mid (O : World → (Nat → Prop) → St → Prop) (T : TypeId) (b j : Nat) (p : ByteArray) (v : Value) (w : World) (F : Nat → Prop) (x : Jst) (W : World) : Prop := ∃ Fd' F', JAt O T b j p v Fd' W F' x ∧ Chg F w W ∧ ∀ g, F' g → F g ∨ w.heap.size ≤ g
theorem Mid.left {O : World → (Nat → Prop) → St → Prop} {T : TypeId} {b j : Nat} {p : ByteArray} {v : Value} {w W : World} {F : Nat → Prop} {x : Jst} (h : Mid O T b j p v w F x W) : LeftA (Jn O T b j p) w F x W := by
  obtain ⟨Fd, F', q, h1, h2⟩ := h
  exact ⟨F', ⟨v, Fd, q⟩, h1, h2⟩
theorem Mid.of {O : World → (Nat → Prop) → St → Prop} (k : Dk.Kind O) {T : TypeId} {b j : Nat} {p : ByteArray} {v : Value} {w W : World} {F Fd : Nat → Prop} {x : Jst} (h : JAt O T b j p v Fd w F x) (hb : Below w.heap.size w W) : Mid O T b j p v w F x W := ⟨Fd, F, h.below k hb, Chg.of_below hb, fun g hg => .inl hg⟩
theorem Mid.trans {O : World → (Nat → Prop) → St → Prop} {T : TypeId} {b j : Nat} {p : ByteArray} {v : Value} {w W W2 : World} {F F1 : Nat → Prop} {x : Jst} (hc : Chg F w W) (hn : ∀ g, F1 g → F g ∨ w.heap.size ≤ g) (h : Mid O T b j p v W F1 x W2) : Mid O T b j p v w F x W2 := by
  obtain ⟨Fd, F2, q, h1, h2⟩ := h
  have hs := hc.size
  exact ⟨Fd, F2, q, hc.trans h1 hn, fun g hg => (h2 g hg).elim (fun hh => hn g hh) (fun hh => .inr (by omega))⟩
theorem Mid.below {O : World → (Nat → Prop) → St → Prop} (k : Dk.Kind O) {T : TypeId} {b j : Nat} {p : ByteArray} {v : Value} {w W W2 : World} {F : Nat → Prop} {x : Jst} (h : Mid O T b j p v w F x W) (hb : Below W.heap.size W W2) : Mid O T b j p v w F x W2 := by
  obtain ⟨Fd, F', q, h1, h2⟩ := h
  exact Mid.trans h1 h2 (Mid.of k q hb)
theorem JAt.poke {O : World → (Nat → Prop) → St → Prop} (k : Dk.Kind O) {T : TypeId} {b j : Nat} {p : ByteArray} {v v' : Value} {Fd : Nat → Prop} {w w1 : World} {F : Nat → Prop} {x : Jst} {R : List ByteArray} {dm : Bool} (h : JAt O T b j p v Fd w F x) (hc : Chg (fun i => i = j ∨ v.ownBlock = some i) w w1)
    (hb : w1.heap[j]? = some (.cells #[.pointer (some ⟨b, 0, none⟩), .string p, v', .bool dm] T (0, 0))) (hr : Fr.Texts w1 0 v' R) (hv : ∀ i, v'.ownBlock = some i → v.ownBlock = some i ∨ w.heap.size ≤ i) :
    Mid O T b j p v' w F ⟨x.s, R, dm⟩ w1 := by
  have hvl := h.row.lt
  refine ⟨Fd, fun i => Fd i ∨ i = j ∨ v'.ownBlock = some i, ⟨k.kept h.dsk (fun i hi => hc.block i (k.lt h.dsk i hi) (fun hh => by rcases hh with hh | hh; exact (h.off i hi).1 hh; exact (h.off i hi).2 hh)), hb, hr, fun e => by rcases hv j e with hh | hh; exact h.ne hh; have := (Array.getElem?_eq_some_iff.1 h.blk).1; omega, fun i hi => ⟨(h.off i hi).1, fun e => ?_⟩, fun i => Iff.rfl⟩, hc.mono (fun i hi => (h.foot i).2 (.inr hi)), fun g hg => ?_⟩
  · rcases hv i e with hh | hh
    · exact (h.off i hi).2 hh
    · have := k.lt h.dsk i hi; omega
  · rcases hg with hg | hg | hg
    · exact .inl ((h.foot g).2 (.inl hg))
    · exact .inl ((h.foot g).2 (.inr (.inl hg)))
    · exact (hv g hg).imp (fun hh => (h.foot g).2 (.inr (.inr hh))) id
end Go.Proofs.YtdkgkomjbpggeaaGreatDoor.Wl

namespace Go.Proofs.YtdkgkomjbpggeaaGreatDoor.Dk
open Go.RowKit Tx Pm
set_option linter.unusedVariables false
end Go.Proofs.YtdkgkomjbpggeaaGreatDoor.Dk



namespace Go.Proofs.YtdkgkomjbpggeaaGreatDoor.Tx
open Go.RowKit
set_option linter.unusedVariables false
end Go.Proofs.YtdkgkomjbpggeaaGreatDoor.Tx

namespace Go.Proofs.YtdkgkomjbpggeaaGreatDoor.Aq
open Go.RowKit Tx
set_option linter.unusedVariables false
section
variable {P : Program}
end
theorem own_kept {w w1 : World} {base n : Nat} {e : TypeId} {v : Value} {xs : List Value} {row : Option Nat} (h : w.ownsRow base e 1 v n xs) (hg : w.grownBy w1 row) (hne : v.ownBlock ≠ row ∨ row = none) : w1.ownsRow base e 1 v n xs := by
  rcases hne with hne | rfl
  · exact h.kept hg (.inr hne)
  · refine h.kept hg ?_
    cases hv : v.ownBlock
    · exact .inl rfl
    · exact .inr (by simp)
end Go.Proofs.YtdkgkomjbpggeaaGreatDoor.Aq

namespace Go.Proofs.YtdkgkomjbpggeaaGreatDoor.Aq
open Go.RowKit Tx
set_option linter.unusedVariables false
def MK : ByteArray := ⟨#[97, 98, 99, 100, 101, 102, 103, 104, 105, 106, 107, 108, 109, 110, 111, 112, 113, 114, 115, 116, 117, 118, 119, 120, 121, 122]⟩
def was (j : Nat) : ByteArray := ⟨#[119, 97, 115]⟩ ++ MK.extract (j % 26) (j % 26 + 1)
def new (j : Nat) : ByteArray := ⟨#[110, 101, 119]⟩ ++ MK.extract (j % 26) (j % 26 + 1)
structure Ls where
  m : Nat
  A : Nat → Option Addr
  N : Nat → Nat
  C : Nat → Nat
  bo : Nat
  B : Nat
namespace Ls
variable (L : Ls)
def val (j : Nat) : Value := .slice (L.A j) (L.N j) (L.C j)
def cells (w : World) : Prop := ∀ j, j < L.m → w.cell? ⟨L.bo, j, none⟩ = some (.slice (L.A j) (L.N j) (L.C j))
end Ls
def sw (j : Nat) : Value := .string (was j)
def sn (j : Nat) : Value := .string (new j)
def row (L : Ls) (j k : Nat) : List Value := List.replicate (L.N j) (sw j) ++ List.replicate k (sn j)
theorem row_zero (L : Ls) (j : Nat) : row L j 0 = List.replicate (L.N j) (sw j) := by simp [row]
theorem row_step (L : Ls) (j k : Nat) : row L j k ++ [sn j] = row L j (k + 1) := by
  rw [row, row, List.append_assoc, List.replicate_succ']
structure Inv (L : Ls) (w0 : World) (H i r : Nat) (w : World) (v6 : Value) (vs : List Value) (b c : Nat → Nat) : Prop where
  cells : L.cells w
  held : ∀ j, j < L.m → ∀ l, l < L.N j → ∃ g, L.A j = some ⟨g, 0, none⟩ ∧ w.cell? ⟨g, l, none⟩ = some (sw j)
  rows : ∀ j, r ≤ j → j < L.m → w.ownsRow L.B 9 1 (.slice (L.A j) (L.N j) (L.C j)) (L.N j) (row L j 0)
  outer : w.ownsRow L.B 52 1 v6 i vs
  high : ∀ g, v6.ownBlock = some g → H ≤ g
  long : ∀ j, j < i → vs[j]? = some (.slice (some ⟨b j, 0, none⟩) (L.N j + 20) (c j)) ∧ w.ownsRow L.B 9 1 (.slice (some ⟨b j, 0, none⟩) (L.N j + 20) (c j)) (L.N j + 20) (row L j 20) ∧ (L.A j = some ⟨b j, 0, none⟩ ∨ H ≤ b j)
  apart : ∀ j k, j < i → k < i → j ≠ k → b j ≠ b k
  low : ∀ j, j < L.m → ∀ g, L.A j = some ⟨g, 0, none⟩ → g < H
  bo : L.bo < H
  size : H ≤ w.heap.size
  below : Below L.B w0 w
  base : L.B ≤ H
end Go.Proofs.YtdkgkomjbpggeaaGreatDoor.Aq

namespace Go.Proofs.YtdkgkomjbpggeaaGreatDoor.Aq
open Go.RowKit Tx
set_option linter.unusedVariables false
end Go.Proofs.YtdkgkomjbpggeaaGreatDoor.Aq

namespace Go.Proofs.YtdkgkomjbpggeaaGreatDoor.Aq
open Go.RowKit Tx
set_option linter.unusedVariables false
end Go.Proofs.YtdkgkomjbpggeaaGreatDoor.Aq

namespace Go.Proofs.YtdkgkomjbpggeaaGreatDoor.Dk
open Go.RowKit Tx Pm
set_option linter.unusedVariables false
end Go.Proofs.YtdkgkomjbpggeaaGreatDoor.Dk

namespace Go.Proofs.YtdkgkomjbpggeaaGreatDoor.Dk
open Go.ChangeMaps (open_string shut_string)
open Go.ChangeShapes Go.WideShapes Go.ChangeAt Go.RowKit Tx
set_option linter.unusedVariables false
def int64 (k : Int) : Prop := -9223372036854775808 ≤ k ∧ k ≤ 9223372036854775807
theorem cells9 : Tryz.prog.cellsOf 9 = 1 := by kernel_rfl
theorem cells3 : Tryz.prog.cellsOf 3 = 1 := by kernel_rfl
end Go.Proofs.YtdkgkomjbpggeaaGreatDoor.Dk

namespace Go.Proofs.YtdkgkomjbpggeaaGreatDoor.Dk
open Go.RowKit Tx Pm
set_option linter.unusedVariables false
def pV : ByteArray := ⟨#[118]⟩
end Go.Proofs.YtdkgkomjbpggeaaGreatDoor.Dk

namespace Go.Proofs.YtdkgkomjbpggeaaGreatDoor.Dk
open Go.RowKit Tx Pm
set_option linter.unusedVariables false
theorem fits_none {s : St} (h : s.rooms = []) (p : ByteArray) (m : Int) : fits s p m = true := by
  unfold fits
  rw [h, List.all_nil, Bool.or_true]
def dirV : It := ⟨pV, true, ⟨#[]⟩, ⟨#[]⟩, false, false, 0⟩
end Go.Proofs.YtdkgkomjbpggeaaGreatDoor.Dk

namespace Go.Proofs.YtdkgkomjbpggeaaGreatDoor.Dk
open Go.RowKit Tx Pm
set_option linter.unusedVariables false
def syn (p x : ByteArray) (n : Nat) : It := ⟨p, false, x, x, false, false, n⟩
def raw (p x : ByteArray) (n : Nat) : It := ⟨p, false, x, ⟨#[]⟩, true, true, n⟩
end Go.Proofs.YtdkgkomjbpggeaaGreatDoor.Dk

namespace Go.Proofs.YtdkgkomjbpggeaaGreatDoor.Fr
open Go.RowKit Wm Wr Fm
set_option linter.unusedVariables false
def PKl (l : List ByteArray) : List UInt8 := (l.map fun t => (pk t).data.toList).flatten
theorem PKl_cons (t : ByteArray) (l : List ByteArray) : PKl (t :: l) = (pk t).data.toList ++ PKl l := by simp [PKl]
theorem PKl_snoc (l : List ByteArray) (t : ByteArray) : PKl (l ++ [t]) = PKl l ++ (pk t).data.toList := by simp [PKl]
def cnt : List ByteArray → Nat → Nat
  | [], _ => 0
  | t :: l, b => if (pk t).size ≤ b then cnt l (b - (pk t).size) + 1 else 0
theorem cnt_all : ∀ (l : List ByteArray) (b : Nat), (PKl l).length ≤ b → cnt l b = l.length
  | [], _, _ => rfl
  | t :: l, b, h => by
    rw [PKl_cons, List.length_append, len_l] at h
    rw [cnt, if_pos (by omega), cnt_all l _ (by omega)]
    rfl
theorem cnt_snoc : ∀ (l : List ByteArray) (t : ByteArray) (b : Nat), cnt (l ++ [t]) b = if (PKl (l ++ [t])).length ≤ b then l.length + 1 else cnt l b
  | [], t, b => by
    rw [List.nil_append, cnt, PKl_cons, List.length_append, len_l]
    have : (PKl []).length = 0 := rfl
    simp only [this, Nat.add_zero, cnt, List.length_nil]
  | s :: l, t, b => by
    have ih := cnt_snoc l t (b - (pk s).size)
    rw [List.cons_append, cnt, cnt, PKl_cons, List.length_append, len_l, ih]
    by_cases h : (pk s).size ≤ b
    · rw [if_pos h, if_pos h]
      by_cases h2 : (PKl (l ++ [t])).length ≤ b - (pk s).size
      · rw [if_pos h2, if_pos (by omega)]; rfl
      · rw [if_neg h2, if_neg (by omega)]
    · rw [if_neg h, if_neg h, if_neg (by omega)]
theorem lead_cut : ∀ (f x k : Nat), k < (vb x).length → k ≤ f → lead ((vb x).take k) f = k
  | f, x, 0, _, _ => by cases f <;> simp [lead]
  | 0, x, k + 1, _, h => absurd h (by omega)
  | f + 1, x, k + 1, h, hf => by
    by_cases hx : x < 128
    · rw [vb_lo hx] at h; simp at h
    · rw [vb_hi (by omega)] at h ⊢
      have e : (UInt8.ofNat (128 + x % 128)).toNat = 128 + x % 128 := by simp; omega
      rw [List.take_succ_cons, lead, if_pos (by omega), lead_cut f (x / 128) k (by simpa using h) (by omega)]
theorem rd_cut (x k : Nat) (h : k < (vb x).length) (hx : x < 18446744073709551616) : rd ((vb x).take k) = (0, 0, 2) := by
  have hl := vb_len hx
  have e := lead_cut 9 x k h (by omega)
  have e2 : ((vb x).take k).length = k := by rw [List.length_take]; omega
  unfold rd
  simp only [e, e2]
  exact if_pos trivial
theorem fr_cut (t : ByteArray) (k : Nat) (h : k < (pk t).size) (ht : t.size ≤ 9223372036854775807) : (fr ⟨((pk t).data.toList.take k).toArray⟩).2.2 = 2 := by
  have hp := pk_size t
  have hlen : (⟨((pk t).data.toList.take k).toArray⟩ : ByteArray).size = k := by
    rw [ByteArray.size, List.size_toArray, List.length_take, len_l]; omega
  rw [pk_list] at hlen ⊢
  by_cases h1 : k < (vb t.size).length
  · have e : (vb t.size ++ (t.data.toList ++ le4 (fsum t.data.toList))).take k = (vb t.size).take k := List.take_append_of_le_length (by omega)
    have r : rdU (⟨((vb t.size ++ (t.data.toList ++ le4 (fsum t.data.toList))).take k).toArray⟩ : ByteArray).data.toList = (0, 0, 2) := by
      show rdU ((vb t.size ++ (t.data.toList ++ le4 (fsum t.data.toList))).take k) = _
      rw [e, rdU, rd_cut t.size k h1 (by omega), if_neg (by simp)]
    rw [fr, rdT, r, if_pos (by simp), if_pos (by simp)]
  · obtain ⟨m, rfl⟩ : ∃ m, k = (vb t.size).length + m := ⟨k - (vb t.size).length, by omega⟩
    have e : (vb t.size ++ (t.data.toList ++ le4 (fsum t.data.toList))).take ((vb t.size).length + m) = vb t.size ++ (t.data.toList ++ le4 (fsum t.data.toList)).take m := by
      rw [List.take_append, List.take_of_length_le (by omega), Nat.add_sub_cancel_left]
    rw [e] at hlen ⊢
    by_cases h2 : m < t.size
    · have r : rdU (⟨(vb t.size ++ (t.data.toList ++ le4 (fsum t.data.toList)).take m).toArray⟩ : ByteArray).data.toList = (t.size, (vb t.size).length, 0) := by
        show rdU (vb t.size ++ _) = _
        rw [rdU, rd_vb t.size _ (by omega), if_neg]
        rintro ⟨_, h3⟩
        simp only at h3
        omega
      have r2 : rdT ⟨(vb t.size ++ (t.data.toList ++ le4 (fsum t.data.toList)).take m).toArray⟩ = (ByteArray.empty, 0, 2) := by
        rw [rdT, r, if_neg (fun h => h rfl), if_pos (by rw [hlen]; show (vb t.size).length + m < (vb t.size).length + t.size; omega)]
      rw [fr, r2, if_pos (by simp)]
    · have e2 : (t.data.toList ++ le4 (fsum t.data.toList)).take m = t.data.toList ++ (le4 (fsum t.data.toList)).take (m - t.size) := by
        rw [List.take_append, List.take_of_length_le (by rw [len_l]; omega), len_l]
      rw [e2] at hlen ⊢
      rw [fr, rdT_front t _ ht, if_neg (fun h => h rfl), if_pos (by rw [hlen]; show (vb t.size).length + m - ((vb t.size).length + t.size) < 4; omega)]
theorem fr_pk (t : ByteArray) (r : List UInt8) (ht : t.size ≤ 9223372036854775807) : fr ⟨((pk t).data.toList ++ r).toArray⟩ = (t, (pk t).size, 0) := by
  have e : (pk t).data.toList ++ r = vb t.size ++ (t.data.toList ++ (le4 (fsum t.data.toList) ++ r)) := by rw [pk_list]; simp
  rw [e, fr_front t _ r ht rfl, if_pos rfl, pk_size]
theorem mk_len (l : List UInt8) : (⟨l.toArray⟩ : ByteArray).size = l.length := by rw [ByteArray.size, List.size_toArray]
theorem from_at (p r : List UInt8) : (⟨(p ++ r).toArray⟩ : ByteArray).extract p.length (⟨(p ++ r).toArray⟩ : ByteArray).size = ⟨r.toArray⟩ := by
  apply ByteArray.ext
  rw [ByteArray.data_extract]
  apply Array.toList_inj.1
  rw [mk_len]
  simp
theorem scan_cut : ∀ (l : List ByteArray) (pre : List UInt8) (b : Nat), (∀ t ∈ l, t.size ≤ 9223372036854775807) →
    sc ⟨(pre ++ (PKl l).take b).toArray⟩ pre.length = (l.take (cnt l b), pre.length + (PKl (l.take (cnt l b))).length, if (PKl (l.take (cnt l b))).length = min b (PKl l).length then 0 else 2)
  | [], pre, b, _ => by
    have e : (PKl []).take b = [] := by simp [PKl]
    rw [e, List.append_nil, sc_end (by rw [mk_len]; omega)]
    simp [cnt, PKl]
  | t :: l, pre, b, ht => by
    have h0 := ht t (by simp)
    have hk : 0 < (pk t).size := by rw [pk_size]; omega
    rw [PKl_cons]
    by_cases hb : (pk t).size ≤ b
    · have e : ((pk t).data.toList ++ PKl l).take b = (pk t).data.toList ++ (PKl l).take (b - (pk t).size) := by
        rw [List.take_append, List.take_of_length_le (by rw [len_l]; omega), len_l]
      rw [e, sc_one (n := (pk t).size) (t := t) (by rw [mk_len, List.length_append, List.length_append, len_l]; omega) (by rw [from_at, fr_pk t _ h0])]
      have ih := scan_cut l (pre ++ (pk t).data.toList) (b - (pk t).size) (fun s hs => ht s (by simp [hs]))
      rw [List.append_assoc, List.length_append, len_l] at ih
      rw [ih, cnt, if_pos hb, List.take_succ_cons, PKl_cons, List.length_append, List.length_append, len_l]
      simp only [Prod.mk.injEq, true_and]
      refine ⟨by omega, ?_⟩
      by_cases hq : (PKl (l.take (cnt l (b - (pk t).size)))).length = min (b - (pk t).size) (PKl l).length
      · rw [if_pos hq, if_pos (by omega)]
      · rw [if_neg hq, if_neg (by omega)]
    · have e : ((pk t).data.toList ++ PKl l).take b = (pk t).data.toList.take b := List.take_append_of_le_length (by rw [len_l]; omega)
      have ez : PKl [] = [] := rfl
      rw [e, cnt, if_neg hb, List.take_zero, ez, List.length_nil, List.length_append, len_l]
      by_cases h1 : b = 0
      · subst h1
        rw [List.take_zero, List.append_nil, sc_end (by rw [mk_len]; omega)]
        simp
      · have hc := fr_cut t b (by omega) h0
        obtain ⟨x, n, e2, h2⟩ := trip (fr ⟨((pk t).data.toList.take b).toArray⟩)
        rw [h2] at hc
        have hc' : e2 = 2 := hc
        subst hc'
        rw [sc_bad (t := x) (n := n) (e := 2) (by rw [mk_len, List.length_append, List.length_take, len_l]; omega) (by rw [from_at, h2]) (by omega), if_neg (by omega)]
        rfl
end Go.Proofs.YtdkgkomjbpggeaaGreatDoor.Fr

namespace Go.Proofs.YtdkgkomjbpggeaaGreatDoor.Wl
open Go.RowKit Tx Pm Dk Fr
set_option linter.unusedVariables false
def pL : ByteArray := ⟨#[118, 47, 108, 111, 103]⟩
def pT : ByteArray := ⟨#[118, 47, 108, 111, 103, 95, 116]⟩
def PK (l : List ByteArray) : ByteArray := ⟨(PKl l).toArray⟩
theorem PK_snoc (l : List ByteArray) (r : ByteArray) : PK (l ++ [r]) = PK l ++ Fm.pk r := by
  apply ByteArray.ext
  apply Array.toList_inj.1
  rw [ByteArray.data_append, Array.toList_append]
  show PKl (l ++ [r]) = _
  rw [PKl_snoc]
  rfl
theorem PK_ext (l : List ByteArray) (k : Nat) : (PK l).extract 0 k = ⟨((PKl l).take k).toArray⟩ := by
  apply ByteArray.ext
  apply Array.toList_inj.1
  rw [ByteArray.data_extract, Array.toList_extract]
  simp [PK, List.extract_eq_take_drop]
def dec (a : Int) : Int := if a > 0 then a - 1 else a
theorem dec_in {a : Int} (h : -1 ≤ a ∧ a ≤ 9223372036854775807) : -1 ≤ dec a ∧ dec a ≤ 9223372036854775807 := by unfold dec; split <;> omega
theorem dec_neg : dec (-1) = -1 := rfl
def W1 (t d : ByteArray) (sn tn st sm : Nat) (a : Int) (dn : Bool) : St := ⟨[dirV, syn pL t sn, raw pT d tn], [], st, sm, a, dn⟩
theorem done_open {l : List It} {R : List Rm} {st sm : Nat} {a : Int} {dn : Bool} (h : a ≠ 0) : done ⟨l, R, st, sm, a, dn⟩ = (0, ⟨l, R, st + 1, sm, dec a, dn⟩) := by
  unfold done
  rw [if_neg (by exact h)]
  rfl
theorem scan_PK (l : List ByteArray) (b : Nat) (h : ∀ r ∈ l, r.size ≤ 140737488351232) : Fm.sc ((PK l).extract 0 b) 0 = (l.take (cnt l b), (PKl (l.take (cnt l b))).length, if (PKl (l.take (cnt l b))).length = min b (PKl l).length then 0 else 2) := by
  have := scan_cut l [] b (fun t ht => by have := h t ht; omega)
  simp only [List.nil_append, List.length_nil, Nat.zero_add] at this
  rw [PK_ext]
  exact this
theorem scan_all (l : List ByteArray) (h : ∀ r ∈ l, r.size ≤ 140737488351232) : Fm.sc (PK l) 0 = (l, (PKl l).length, 0) := by
  have h1 := scan_PK l (PKl l).length h
  have e : (PK l).extract 0 (PKl l).length = PK l := by
    rw [PK_ext, List.take_length]
    rfl
  rw [e, cnt_all l _ (Nat.le_refl _), List.take_length, if_pos (by omega)] at h1
  exact h1
end Go.Proofs.YtdkgkomjbpggeaaGreatDoor.Wl

namespace Go.Proofs.YtdkgkomjbpggeaaGreatDoor.Tb
open Go.RowKit Tx Pm Dk Wm Wr Wl
set_option linter.unusedVariables false
set_option linter.unusedSimpArgs false
set_option linter.unnecessarySimpa false
def rw7 (k v : ByteArray) : It := { mk k with data := v }
def app (L : List It) (c : Ch) : List It := if c.gone then drop L c.key else ins L (rw7 c.key c.val)
def all7 (L : List It) (l : List Ch) : List It := l.foldl app L
theorem all7_cons (L : List It) (c : Ch) (l : List Ch) : all7 L (c :: l) = all7 (app L c) l := rfl
theorem all7_append (L : List It) (a b : List Ch) : all7 L (a ++ b) = all7 (all7 L a) b := by unfold all7; rw [List.foldl_append]
theorem all7_snoc (L : List It) (a : List Ch) (c : Ch) : all7 L (a ++ [c]) = app (all7 L a) c := by rw [all7_append]; rfl
theorem find_app7 (L : List It) (c : Ch) (p : ByteArray) : find (app L c) p = if c.key = p then (if c.gone then none else some (rw7 c.key c.val)) else find L p := by
  unfold app
  cases hg : c.gone with
  | true =>
    by_cases h : c.key = p
    · subst h; rw [if_pos rfl, if_pos rfl]; exact find_drop_same L _
    · rw [if_pos rfl, if_neg h]; exact find_drop L h
  | false =>
    by_cases h : c.key = p
    · subst h; rw [if_neg (by decide), if_pos rfl]; exact find_ins_same L rfl
    · rw [if_neg (by decide), if_neg h]; exact find_ins L (x := rw7 c.key c.val) h
theorem rises_app {L : List It} (h : Rises L) (c : Ch) : Rises (app L c) := by
  unfold app
  split
  · exact rises_drop _ h
  · exact rises_ins h
theorem rises_all {L : List It} (h : Rises L) (l : List Ch) : Rises (all7 L l) := by
  induction l generalizing L with
  | nil => exact h
  | cons c l ih => exact ih (rises_app h c)
def Plain (L : List It) : Prop := ∀ x ∈ L, x = rw7 x.path x.data
theorem plain_app {L : List It} (h : Plain L) (c : Ch) : Plain (app L c) := by
  intro x hx
  unfold app at hx
  split at hx
  · exact h x ((drop_in L c.key).1 x hx)
  · rcases mem_ins hx with rfl | hx
    · rfl
    · exact h x hx
theorem plain_all {L : List It} (h : Plain L) (l : List Ch) : Plain (all7 L l) := by
  induction l generalizing L with
  | nil => exact h
  | cons c l ih => exact ih (plain_app h c)
theorem len_app (L : List It) (c : Ch) : (app L c).length ≤ L.length + 1 := by
  unfold app
  split
  · have := (drop_in L c.key).2; omega
  · exact len_ins L _
theorem len_all (L : List It) (l : List Ch) : (all7 L l).length ≤ L.length + l.length := by
  induction l generalizing L with
  | nil => exact Nat.le_refl _
  | cons c l ih =>
    have h1 := ih (app L c)
    have h2 := len_app L c
    rw [all7_cons, List.length_cons]
    omega
theorem mem_app {L : List It} {c : Ch} {x : It} (h : x ∈ app L c) : x = rw7 c.key c.val ∨ x ∈ L := by
  unfold app at h
  split at h
  · exact .inr ((drop_in L c.key).1 x h)
  · exact mem_ins h
theorem mem_all {L : List It} {l : List Ch} {x : It} (h : x ∈ all7 L l) : (∃ c ∈ l, x = rw7 c.key c.val) ∨ x ∈ L := by
  induction l generalizing L with
  | nil => exact .inr h
  | cons c l ih =>
    rcases ih h with ⟨d, hd, rfl⟩ | h
    · exact .inl ⟨d, List.mem_cons_of_mem _ hd, rfl⟩
    · rcases mem_app h with rfl | h
      · exact .inl ⟨c, List.mem_cons_self, rfl⟩
      · exact .inr h
theorem rises_ext {L L' : List It} (h : Rises L) (h' : Rises L') (hf : ∀ p, find L p = find L' p) : L = L' := by
  induction L generalizing L' with
  | nil =>
    cases L' with
    | nil => rfl
    | cons y L' =>
      have := hf y.path
      rw [find_paths h' List.mem_cons_self] at this
      cases this
  | cons x L ih =>
    cases L' with
    | nil =>
      have := hf x.path
      rw [find_paths h List.mem_cons_self] at this
      cases this
    | cons y L' =>
      obtain ⟨h1, h2⟩ := List.pairwise_cons.1 h
      obtain ⟨h1', h2'⟩ := List.pairwise_cons.1 h'
      have hx := hf x.path
      have hy := hf y.path
      rw [find_paths h List.mem_cons_self] at hx
      rw [find_paths h' List.mem_cons_self] at hy
      have hxy : x = y := by
        obtain ⟨m1, _⟩ := find_mem hx.symm
        obtain ⟨m2, _⟩ := find_mem hy
        rcases List.mem_cons.1 m1 with e | m1
        · exact e
        · rcases List.mem_cons.1 m2 with e | m2
          · exact e.symm
          · have a1 := h1' x m1
            have a2 := h1 y m2
            have := Od.less_trans _ _ _ a1 a2
            rw [less_irrefl] at this
            cases this
      subst hxy
      congr 1
      refine ih h2 h2' (fun p => ?_)
      by_cases hp : x.path = p
      · have n1 : find L p = none := by
          refine List.find?_eq_none.2 (fun z hz he => ?_)
          have he := of_decide_eq_true he
          have := h1 z hz
          rw [he, ← hp, less_irrefl] at this
          cases this
        have n2 : find L' p = none := by
          refine List.find?_eq_none.2 (fun z hz he => ?_)
          have he := of_decide_eq_true he
          have := h1' z hz
          rw [he, ← hp, less_irrefl] at this
          cases this
        rw [n1, n2]
      · have := hf p
        rwa [find_one x L hp, find_one x L' hp] at this
def lastOf (l : List Ch) (p : ByteArray) : Option Ch := l.reverse.find? (fun c => decide (c.key = p))
theorem lastOf_snoc (l : List Ch) (c : Ch) (p : ByteArray) : lastOf (l ++ [c]) p = if c.key = p then some c else lastOf l p := by
  unfold lastOf
  rw [List.reverse_append, List.reverse_singleton, List.singleton_append]
  by_cases h : c.key = p
  · rw [if_pos h, List.find?_cons_of_pos (by simpa using h)]
  · rw [if_neg h, List.find?_cons_of_neg (by simpa using h)]
def after (o : Option It) (c : Option Ch) : Option It := match c with
  | none => o
  | some c => if c.gone then none else some (rw7 c.key c.val)
theorem snoc_ind {α : Type} {P : List α → Prop} (h0 : P []) (h1 : ∀ l x, P l → P (l ++ [x])) (l : List α) : P l := by
  have : ∀ r : List α, P r.reverse := fun r => by
    induction r with
    | nil => exact h0
    | cons x r ih => rw [List.reverse_cons]; exact h1 _ _ ih
  have h := this l.reverse
  rwa [List.reverse_reverse] at h
theorem find_all (L : List It) (l : List Ch) (p : ByteArray) : find (all7 L l) p = after (find L p) (lastOf l p) := by
  induction l using snoc_ind with
  | h0 => rfl
  | h1 l c ih =>
    rw [all7_snoc, find_app7, lastOf_snoc, ih]
    by_cases h : c.key = p
    · rw [if_pos h, if_pos h]; rfl
    · rw [if_neg h, if_neg h]
def bat (l : List Ch) (c : Ch) : List Ch := if l.any (fun x => decide (x.key = c.key)) then l.map (fun x => if x.key = c.key then c else x) else l ++ [c]
def Once (l : List Ch) : Prop := l.Pairwise (fun a b => a.key ≠ b.key)
theorem bat_mem {l : List Ch} {c x : Ch} (h : x ∈ bat l c) : x = c ∨ x ∈ l := by
  unfold bat at h
  split at h
  · obtain ⟨y, hy, rfl⟩ := List.mem_map.1 h
    split
    · exact .inl rfl
    · exact .inr hy
  · rcases List.mem_append.1 h with h | h
    · exact .inr h
    · exact .inl (List.mem_singleton.1 h)
theorem bat_keys (l : List Ch) (c : Ch) : (bat l c).map (·.key) = if l.any (fun x => decide (x.key = c.key)) then l.map (·.key) else l.map (·.key) ++ [c.key] := by
  unfold bat
  split
  · rw [List.map_map]
    refine List.map_congr_left (fun x _ => ?_)
    show (if x.key = c.key then c else x).key = x.key
    split
    · rename_i h; exact h.symm
    · rfl
  · rw [List.map_append]; rfl
theorem once_keys {l : List Ch} : Once l ↔ (l.map (·.key)).Nodup := by
  unfold Once List.Nodup
  rw [List.pairwise_map]
theorem once_bat {l : List Ch} (h : Once l) (c : Ch) : Once (bat l c) := by
  rw [once_keys] at h ⊢
  rw [bat_keys]
  split
  · exact h
  · rename_i hn
    rw [List.nodup_append]
    refine ⟨h, List.nodup_cons.2 ⟨List.not_mem_nil, List.nodup_nil⟩, fun a ha b hb => ?_⟩
    rw [List.mem_singleton.1 hb]
    obtain ⟨x, hx, rfl⟩ := List.mem_map.1 ha
    intro e
    exact hn (List.any_eq_true.2 ⟨x, hx, by simpa using e⟩)
def at7 (l : List Ch) (p : ByteArray) : Option Nat := l.findIdx? (fun c => decide (c.key = p))
theorem at7_lt {l : List Ch} {p : ByteArray} {i : Nat} (h : at7 l p = some i) : ∃ c, l[i]? = some c ∧ c.key = p ∧ i < l.length := by
  obtain ⟨h1, h2, _⟩ := List.findIdx?_eq_some_iff_getElem.1 h
  exact ⟨l[i], List.getElem?_eq_getElem h1, by simpa using h2, h1⟩
theorem at7_none {l : List Ch} {p : ByteArray} (h : at7 l p = none) : l.any (fun x => decide (x.key = p)) = false := by
  have := List.findIdx?_eq_none_iff.1 h
  exact List.any_eq_false.2 (fun x hx => by simpa using this x hx)
theorem at7_some {l : List Ch} {p : ByteArray} {i : Nat} (h : at7 l p = some i) : l.any (fun x => decide (x.key = p)) = true := by
  obtain ⟨c, hc, hk, _⟩ := at7_lt h
  exact List.any_eq_true.2 ⟨c, List.mem_of_getElem? hc, by simpa using hk⟩
theorem once_at {l : List Ch} (h : Once l) {i : Nat} {c : Ch} (hi : l[i]? = some c) : at7 l c.key = some i := by
  obtain ⟨hlt, he⟩ := List.getElem?_eq_some_iff.1 hi
  refine List.findIdx?_eq_some_iff_getElem.2 ⟨hlt, by simpa [he], fun j hj => ?_⟩
  have := List.pairwise_iff_getElem.1 h j i (by omega) hlt hj
  rw [he] at this
  simpa using this
theorem bat_set {l : List Ch} (h : Once l) {c : Ch} {i : Nat} (hi : at7 l c.key = some i) : bat l c = l.set i c := by
  unfold bat
  rw [if_pos (at7_some hi)]
  obtain ⟨d, hd, hk, hlt⟩ := at7_lt hi
  apply List.ext_getElem?
  intro j
  rw [List.getElem?_map, List.getElem?_set]
  by_cases hj : i = j
  · subst hj
    rw [if_pos rfl, if_pos hlt, hd]
    show some (if d.key = c.key then c else d) = some c
    rw [if_pos hk]
  · rw [if_neg hj]
    cases hx : l[j]? with
    | none => rfl
    | some x =>
      show some (if x.key = c.key then c else x) = some x
      rw [if_neg]
      intro e
      have h1 := once_at h hx
      rw [e, hi] at h1
      injection h1 with h1
      exact hj h1
theorem bat_new {l : List Ch} {c : Ch} (h : at7 l c.key = none) : bat l c = l ++ [c] := by
  unfold bat
  rw [if_neg (by rw [at7_none h]; decide)]
theorem at7_bat {l : List Ch} (h : Once l) (c : Ch) (p : ByteArray) : at7 (bat l c) p = if at7 l c.key = none ∧ p = c.key then some l.length else at7 l p := by
  cases hi : at7 l c.key with
  | none =>
    rw [bat_new hi]
    unfold at7
    rw [List.findIdx?_append]
    by_cases hp : p = c.key
    · subst hp
      have hi : List.findIdx? (fun d => decide (d.key = c.key)) l = none := hi
      rw [hi, if_pos ⟨rfl, rfl⟩]
      simp
    · rw [if_neg (fun hh => hp hh.2)]
      have : List.findIdx? (fun d : Ch => decide (d.key = p)) [c] = none := by
        rw [List.findIdx?_cons]
        have hq : ¬ c.key = p := fun e => hp e.symm
        simp [hq]
      rw [this]
      cases List.findIdx? (fun d => decide (d.key = p)) l <;> rfl
  | some i =>
    rw [if_neg (fun hh => by cases hh.1)]
    have hkeys : (bat l c).map (·.key) = l.map (·.key) := by rw [bat_keys, if_pos (at7_some hi)]
    have e : ∀ m : List Ch, at7 m p = (m.map (·.key)).findIdx? (fun k => decide (k = p)) := fun m => by
      unfold at7; rw [List.findIdx?_map]; rfl
    rw [e, e, hkeys]
theorem key_eq {m : List Ch} {q : ByteArray} {x : Ch} (h : m.find? (fun d => decide (d.key = q)) = some x) : x.key = q := by
  have := List.find?_some h
  simpa using this
theorem lastOf_bat {l : List Ch} (h : Once l) (c : Ch) (p : ByteArray) : lastOf (bat l c) p = if c.key = p then some c else lastOf l p := by
  have hu : ∀ {m : List Ch}, Once m → ∀ q, lastOf m q = m.find? (fun d => decide (d.key = q)) := fun {m} hm q => by
    unfold lastOf
    cases hf : m.find? (fun d => decide (d.key = q)) with
    | none =>
      refine List.find?_eq_none.2 (fun x hx => ?_)
      exact List.find?_eq_none.1 hf x (List.mem_reverse.1 hx)
    | some x =>
      have hx := List.mem_of_find?_eq_some hf
      have hk := key_eq hf
      cases hg : m.reverse.find? (fun d => decide (d.key = q)) with
      | none => exact absurd (by simpa using hk) (List.find?_eq_none.1 hg x (List.mem_reverse.2 hx))
      | some y =>
        have hy := List.mem_reverse.1 (List.mem_of_find?_eq_some hg)
        have hky := key_eq hg
        obtain ⟨i, hi⟩ := List.getElem?_of_mem hx
        obtain ⟨j, hj⟩ := List.getElem?_of_mem hy
        have a1 := once_at hm hi
        have a2 := once_at hm hj
        rw [hk] at a1
        rw [hky, a1] at a2
        injection a2 with a2
        subst a2
        rw [hi] at hj
        exact hj.symm
  rw [hu (once_bat h c), hu h]
  unfold bat
  split
  · rename_i ha
    rw [List.find?_map]
    by_cases hp : c.key = p
    · rw [if_pos hp]
      obtain ⟨x, hx, hk⟩ := List.any_eq_true.1 ha
      have hk := of_decide_eq_true hk
      have e : (fun d : Ch => decide (d.key = p)) ∘ (fun x => if x.key = c.key then c else x) = fun d => decide (d.key = p) := by
        funext d
        show decide ((if d.key = c.key then c else d).key = p) = decide (d.key = p)
        split
        · rename_i hd; rw [hd]
        · rfl
      rw [e]
      cases hf : l.find? (fun d => decide (d.key = p)) with
      | none => exact absurd (by simpa [hk] using hp) (List.find?_eq_none.1 hf x hx)
      | some y =>
        have hky := key_eq hf
        show some (if y.key = c.key then c else y) = some c
        rw [if_pos (hky.trans hp.symm)]
    · rw [if_neg hp]
      have e : (fun d : Ch => decide (d.key = p)) ∘ (fun x => if x.key = c.key then c else x) = fun d => decide (d.key = p) := by
        funext d
        show decide ((if d.key = c.key then c else d).key = p) = decide (d.key = p)
        split
        · rename_i hd; rw [hd]
        · rfl
      rw [e]
      cases hf : l.find? (fun d => decide (d.key = p)) with
      | none => rfl
      | some y =>
        have hky := key_eq hf
        show some (if y.key = c.key then c else y) = some y
        rw [if_neg (fun e => hp (e.symm.trans hky))]
  · rename_i ha
    rw [List.find?_append]
    by_cases hp : c.key = p
    · rw [if_pos hp]
      have : l.find? (fun d => decide (d.key = p)) = none := List.find?_eq_none.2 (fun x hx he => ha (List.any_eq_true.2 ⟨x, hx, by rw [hp]; exact he⟩))
      rw [this, Option.none_or, List.find?_cons_of_pos (by simpa using hp)]
    · rw [if_neg hp]
      have : [c].find? (fun d => decide (d.key = p)) = none := List.find?_eq_none.2 (fun x hx he => hp (by rw [← List.mem_singleton.1 hx]; exact of_decide_eq_true he))
      rw [this, Option.or_none]
theorem all_bat {L : List It} (hr : Rises L) {l : List Ch} (h : Once l) (c : Ch) : all7 L (bat l c) = app (all7 L l) c := by
  refine rises_ext (rises_all hr _) (rises_app (rises_all hr _) _) (fun p => ?_)
  rw [find_all, find_app7, lastOf_bat h, find_all]
  by_cases hp : c.key = p
  · rw [if_pos hp, if_pos hp]; rfl
  · rw [if_neg hp, if_neg hp]
theorem all_norm (L : List It) (l : List Ch) : all7 L (l.map norm) = all7 L l := by
  induction l generalizing L with
  | nil => rfl
  | cons c l ih =>
    rw [List.map_cons, all7_cons, all7_cons, ih]
    congr 1
    unfold app norm
    cases hg : c.gone <;> simp [hg]
def whole7 (L : List It) : List Ch := L.map (fun x => ⟨x.path, x.data, false⟩)
structure Tst where
  j : Jst
  L : List It
def packS (x : Tst) (p q : ByteArray) : Nat × Tst :=
  if (fillS x.j.s p (Fm.pk (rec7 (whole7 x.L)))).1 ≠ 0 then ((fillS x.j.s p (Fm.pk (rec7 (whole7 x.L)))).1, ⟨⟨(fillS x.j.s p (Fm.pk (rec7 (whole7 x.L)))).2, x.j.R, x.j.dm⟩, x.L⟩) else
  ((resetS ⟨(fillS x.j.s p (Fm.pk (rec7 (whole7 x.L)))).2, x.j.R, x.j.dm⟩ q).1, ⟨(resetS ⟨(fillS x.j.s p (Fm.pk (rec7 (whole7 x.L)))).2, x.j.R, x.j.dm⟩ q).2, x.L⟩)
def commitS (x : Tst) (l : List Ch) (p q : ByteArray) : Nat × Tst :=
  if l = [] then (0, x) else
  if (addS x.j q (rec7 l)).1 ≠ 0 then ((addS x.j q (rec7 l)).1, ⟨(addS x.j q (rec7 l)).2, x.L⟩) else
  if 16 ≤ (addS x.j q (rec7 l)).2.R.length then packS ⟨(addS x.j q (rec7 l)).2, all7 x.L l⟩ p q else (0, ⟨(addS x.j q (rec7 l)).2, all7 x.L l⟩)
def baseS (t : ByteArray) : List It × Nat :=
  if (Fm.fr t).2.2 ≠ 0 then ([], (Fm.fr t).2.2) else if (Fm.fr t).2.1 < t.size then ([], 5) else
  if (opsS (Fm.fr t).1).2 ≠ 0 then ([], (opsS (Fm.fr t).1).2) else (all7 [] (opsS (Fm.fr t).1).1, 0)
def rows7 (L : List It) (R : List ByteArray) : List It := R.foldl (fun L r => all7 L (opsS r).1) L
theorem rows7_snoc (L : List It) (R : List ByteArray) (r : ByteArray) : rows7 L (R ++ [r]) = all7 (rows7 L R) (opsS r).1 := by unfold rows7; rw [List.foldl_append]; rfl
theorem rows7_cons (L : List It) (R : List ByteArray) (r : ByteArray) : rows7 L (r :: R) = rows7 (all7 L (opsS r).1) R := rfl
theorem rises_rows {L : List It} (h : Rises L) (R : List ByteArray) : Rises (rows7 L R) := by
  induction R generalizing L with
  | nil => exact h
  | cons r R ih => exact ih (rises_all h _)
theorem plain_rows {L : List It} (h : Plain L) (R : List ByteArray) : Plain (rows7 L R) := by
  induction R generalizing L with
  | nil => exact h
  | cons r R ih => exact ih (plain_all h _)
theorem opsS_len (r : ByteArray) : (opsS r).1.length ≤ r.size := by
  obtain ⟨l, e, h⟩ : ∃ l e, opsS r = (l, e) := ⟨_, _, rfl⟩
  rw [h]
  by_cases he : e = 0
  · subst he
    have := (opsS_ok h).2.2
    show l.length ≤ _
    omega
  · have : l = [] := by
      unfold opsS at h
      split at h
      · simp only [Prod.mk.injEq] at h; exact h.1.symm
      · split at h
        · simp only [Prod.mk.injEq] at h; exact h.1.symm
        · split at h
          · simp only [Prod.mk.injEq] at h; exact h.1.symm
          · simp only [Prod.mk.injEq] at h; exact absurd h.2.symm he
    rw [this]
    exact Nat.zero_le _
theorem len_rows (L : List It) (R : List ByteArray) : (rows7 L R).length ≤ L.length + (R.map (·.size)).sum := by
  induction R generalizing L with
  | nil => exact Nat.le_refl _
  | cons r R ih =>
    have h1 := ih (all7 L (opsS r).1)
    have h2 := len_all L (opsS r).1
    have h3 := opsS_len r
    rw [rows7_cons, List.map_cons, List.sum_cons]
    omega
def base0 (s : St) (p : ByteArray) : List It × Nat :=
  if kind s.L p = 0 then ([], 0) else if (readS s p).2 ≠ 0 then ([], (readS s p).2) else baseS (readS s p).1
def open1 (s : St) (p q : ByteArray) : Nat × Tst :=
  if (base0 s p).2 ≠ 0 then ((base0 s p).2, ⟨⟨s, [], false⟩, []⟩) else
  if (openS s q).1 ≠ 0 then ((openS s q).1, ⟨(openS s q).2, []⟩) else
  (0, ⟨(openS s q).2, rows7 (base0 s p).1 (openS s q).2.R⟩)
def opened (s : St) (f : ByteArray) : Nat × St := if kind s.L f = 0 then mkdirS s f else (0, s)
def open7 (s : St) (f p q : ByteArray) : Nat × Tst := if (opened s f).1 ≠ 0 then ((opened s f).1, ⟨⟨(opened s f).2, [], false⟩, []⟩) else open1 (opened s f).2 p q
end Go.Proofs.YtdkgkomjbpggeaaGreatDoor.Tb

namespace Go.Proofs.YtdkgkomjbpggeaaGreatDoor.Tb
open Go.RowKit Tx Pm Dk Wm Wr
set_option linter.unusedVariables false
set_option linter.unusedSimpArgs false
set_option linter.unnecessarySimpa false
def cellsC (c : Ch) : List Value := [.string c.key, .string c.val, .bool c.gone]
def ov (c : Ch) : Value := .agg #[.string c.key, .string c.val, .bool c.gone]
def od (c : Ch) : DataW Unit := .agg [.lit (.string c.key.data.toList), .lit (.string c.val.data.toList), .lit (.bool c.gone)]
theorem infoC : (Tryz.prog.info? 105).map (fun i => (i.zero, i.size, i.bytes)) = some (some (ov ch0), 3, 40) := by kernel_rfl
def Opl (w : World) (a : Option Addr) (n : Nat) (l : List Ch) : Prop := l.length = n ∧ (n = 0 ∨ ∃ g off, a = some ⟨g, off, none⟩ ∧ g < w.heap.size ∧ ∀ k x, l[k]? = some x →
  w.cell? ⟨g, off + k * 3, none⟩ = some (.string x.key) ∧ w.cell? ⟨g, off + k * 3 + 1, none⟩ = some (.string x.val) ∧ w.cell? ⟨g, off + k * 3 + 1 + 1, none⟩ = some (.bool x.gone))
theorem Opl.below {w w1 : World} {a : Option Addr} {n : Nat} {l : List Ch} (h : Opl w a n l) (hb : Below w.heap.size w w1) : Opl w1 a n l := by
  refine ⟨h.1, ?_⟩
  rcases h.2 with h0 | ⟨g, off, ha, hlt, hc⟩
  · exact .inl h0
  · refine .inr ⟨g, off, ha, Nat.lt_of_lt_of_le hlt hb.size, fun k x hx => ?_⟩
    obtain ⟨h1, h2, h3⟩ := hc k x hx
    exact ⟨(hb.cell (p := ⟨g, _, none⟩) hlt).trans h1, (hb.cell (p := ⟨g, _, none⟩) hlt).trans h2, (hb.cell (p := ⟨g, _, none⟩) hlt).trans h3⟩
theorem Opl.nth {w : World} {a : Option Addr} {n : Nat} {l : List Ch} (h : Opl w a n l) {k : Nat} {x : Ch} (hx : l[k]? = some x) : ∃ g off, a = some ⟨g, off, none⟩ ∧ g < w.heap.size ∧ w.cell? ⟨g, off + k * 3, none⟩ = some (.string x.key) ∧ w.cell? ⟨g, off + k * 3 + 1, none⟩ = some (.string x.val) ∧ w.cell? ⟨g, off + k * 3 + 1 + 1, none⟩ = some (.bool x.gone) := by
  have hk := (List.getElem?_eq_some_iff.1 hx).1
  rcases h.2 with h0 | ⟨g, off, ha, hlt, hc⟩
  · rw [h.1] at hk; omega
  · exact ⟨g, off, ha, hlt, hc k x hx⟩
def OwnC (w : World) (B : Nat) (v : Value) (l : List Ch) : Prop := w.ownsRow B 105 3 v l.length (l.flatMap cellsC)
theorem OwnC.form {w : World} {B : Nat} {v : Value} {l : List Ch} (h : OwnC w B v l) : ∃ a c, v = .slice a l.length c ∧ Opl w a l.length l ∧ l.length ≤ c ∧ c ≤ maxLen := by
  have hh := h
  rcases h.2 with ⟨rfl, h0⟩ | ⟨g, cap, cur, rfl, hg, hh2, hn, hc, _⟩
  · exact ⟨none, 0, by rw [h0], ⟨rfl, .inl h0⟩, by omega, Nat.zero_le _⟩
  · refine ⟨some ⟨g, 0, none⟩, cap, rfl, ⟨rfl, .inr ⟨g, 0, rfl, (Array.getElem?_eq_some_iff.1 hh2).1, fun k x hx => ?_⟩⟩, hn, hc⟩
    have hc : ∀ j u, j < 3 → (cellsC x)[j]? = some u → w.cell? ⟨g, 0 + k * 3 + j, none⟩ = some u := by
      intro j u hj hu
      have := hh.cells (g := g) rfl (k * 3 + j) u ((flat_at cellsC 3 (fun _ => rfl) l k x j hx hj).trans hu)
      rw [WideShapes.add_plain, Nat.zero_add] at this
      rw [Nat.zero_add]
      exact this
    exact ⟨hc 0 _ (by omega) rfl, hc 1 _ (by omega) rfl, hc 2 _ (by omega) rfl⟩
end Go.Proofs.YtdkgkomjbpggeaaGreatDoor.Tb

namespace Go.Proofs.YtdkgkomjbpggeaaGreatDoor.Tb
open Go.RowKit Tx Pm Dk Wm Wr Wl
set_option linter.unusedVariables false
set_option linter.unusedSimpArgs false
set_option linter.unnecessarySimpa false
def opR : Value → Option (DataW Unit × List MemPlace)
  | .agg ⟨[.string k, .string v, .bool g]⟩ => some (od ⟨k, v, g⟩, [])
  | _ => none
theorem opR_ov (c : Ch) : opR (ov c) = some (od c, []) := rfl
theorem opR_inv {v : Value} {z : DataW Unit × List MemPlace} (h : opR v = some z) : ∃ c, v = ov c ∧ z = (od c, []) := by
  unfold opR at h
  split at h
  · cases h
    exact ⟨⟨_, _, _⟩, rfl, rfl⟩
  · cases h
theorem od_inj {c d : Ch} (h : od c = od d) : c = d := by
  obtain ⟨k, v, g⟩ := c
  obtain ⟨k', v', g'⟩ := d
  unfold od at h
  simp only [DataW.agg.injEq, List.cons.injEq, DataW.lit.injEq, Lit.string.injEq, Lit.bool.injEq, and_true] at h
  obtain ⟨h1, h2, h3⟩ := h
  rw [ByteArray.ext (Array.toList_inj.1 h1), ByteArray.ext (Array.toList_inj.1 h2), h3]
def chOf (x : It) : Ch := ⟨x.path, x.data, false⟩
theorem zeroC (w : World) : (zeroValue 105).run Tryz.prog w = .ok (ov ch0) w := by kernel_rfl
def ReadsO (D : DataW Unit) (L : List It) : Prop := ∀ p z, D.atKey (kL p) z = match find L p with
  | some x => od (chOf x)
  | none => z
def Mo (w : World) (bm : Nat) (L : List It) : Prop := ∃ D : DataW Unit, w.ownsMap Tryz.prog 9 opR bm L.length D ∧ ReadsO D L ∧ Go.Maps.size D ≤ L.length
theorem Mo.lt {w : World} {bm : Nat} {L : List It} (h : Mo w bm L) : bm < w.heap.size := by
  obtain ⟨D, h, _⟩ := h
  exact h.lt
theorem Mo.kept {w w1 : World} {bm : Nat} {L : List It} (h : Mo w bm L) (he : w1.heap[bm]? = w.heap[bm]?) : Mo w1 bm L := by
  obtain ⟨D, h, r⟩ := h
  exact ⟨D, Dk.ownsMap_at h he, r⟩
theorem Mo.nb {w : World} {bm : Nat} {L : List It} (h : Mo w bm L) {cs : Array Value} {T : TypeId} {fz : Nat × Nat} : w.heap[bm]? ≠ some (.cells cs T fz) := by
  obtain ⟨D, h, _⟩ := h
  exact map_block h
theorem readsO_has {D : DataW Unit} {L : List It} (h : ReadsO D L) (p : ByteArray) : Go.Maps.has D (kL p) = (find L p).isSome := by
  cases hf : find L p with
  | none =>
    refine (Go.Maps.has_false_of_atKey fun z => ?_).trans rfl
    rw [h p z, hf]
  | some x =>
    refine (Go.Maps.has_true_of_atKey (y := od (chOf x)) fun z => ?_).trans rfl
    rw [h p z, hf]
def lookC (L : List It) (p : ByteArray) : Ch := match find L p with
  | some x => chOf x
  | none => ch0
theorem Mo.look {w : World} {bm : Nat} {L : List It} (h : Mo w bm L) {p : ByteArray} (hp : p.size ≤ maxLen) :
    (Instr.lookup 66 (.map (some bm)) (.string p) false).run Tryz.prog w = .ok (ov (lookC L p)) w := by
  obtain ⟨D, ho, hr, _⟩ := h
  obtain ⟨v, ps, hrun, hv⟩ := ho.lookup strK Tryz.underlying66 (zeroC w) (opR_ov _) (keyP hp)
  rw [hrun]
  obtain ⟨c, rfl, hz⟩ := opR_inv hv
  have hz := congrArg Prod.fst hz
  simp only [hr p] at hz
  unfold lookC
  cases hf : find L p with
  | none =>
    rw [hf] at hz
    have e : ch0 = c := od_inj hz
    subst e
    rfl
  | some x =>
    rw [hf] at hz
    have e : chOf x = c := od_inj hz
    subst e
    rfl
theorem Mo.look_ok {w : World} {bm : Nat} {L : List It} (h : Mo w bm L) {p : ByteArray} (hp : p.size ≤ maxLen) :
    (Instr.lookup 66 (.map (some bm)) (.string p) true).run Tryz.prog w = .ok (.tuple #[ov (lookC L p), .bool (find L p).isSome]) w := by
  obtain ⟨D, ho, hr, _⟩ := h
  obtain ⟨v, ps, hrun, hv⟩ := ho.look_ok strK Tryz.underlying66 (zeroC w) (opR_ov _) (keyP hp)
  rw [hrun, readsO_has hr]
  obtain ⟨c, rfl, hz⟩ := opR_inv hv
  have hz := congrArg Prod.fst hz
  simp only [hr p] at hz
  unfold lookC
  cases hf : find L p with
  | none =>
    rw [hf] at hz
    have e : ch0 = c := od_inj hz
    subst e
    rfl
  | some x =>
    rw [hf] at hz
    have e : chOf x = c := od_inj hz
    subst e
    rfl
theorem Mo.store {w : World} {bm : Nat} {L : List It} (h : Mo w bm L) {c : Ch} (hg : c.gone = false) (hp : c.key.size ≤ maxLen) (hn : L.length < maxLen) :
    ∃ w', (Instr.mapUpdate 66 (.map (some bm)) (.string c.key) (ov c)).run Tryz.prog w = .ok () w' ∧ Mo w' bm (app L c) ∧ w.mapTurned w' bm := by
  obtain ⟨D, ho, hr, hs⟩ := h
  obtain ⟨w', hrun, ho', ht⟩ := ho.store strK Tryz.underlying66 hn (keyP hp) (opR_ov c)
  have ha : app L c = ins L (rw7 c.key c.val) := by unfold app; rw [hg]; rfl
  have hc : chOf (rw7 c.key c.val) = c := by
    obtain ⟨k, v, g⟩ := c
    simp only at hg
    subst hg
    rfl
  rw [ha]
  have hsz : Go.Maps.size (D.put (kL c.key) (od c)) ≤ (ins L (rw7 c.key c.val)).length := by
    have h1 := Go.Maps.size_put (ho.tidy strK) (k := kL c.key) (od c)
    rw [readsO_has hr] at h1
    have h2 := len_ins_more (l := L) (rw7 c.key c.val)
    have h3 : (rw7 c.key c.val).path = c.key := rfl
    rw [h3] at h2
    rw [h1]
    split at h2 <;> split <;> first | omega | simp_all
  refine ⟨w', hrun, ⟨_, own_len ho' hsz, fun p z => ?_, hsz⟩, ht⟩
  by_cases he : p = c.key
  · subst he
    have hfi : find (ins L (rw7 c.key c.val)) c.key = some (rw7 c.key c.val) := find_ins_same L rfl
    rw [Go.Maps.atKey_put_same ho.isMap (kL_key _), hfi]
    show od c = od (chOf (rw7 c.key c.val))
    rw [hc]
  · rw [Go.Maps.atKey_put_other (fun e => he (kL_inj e)), find_ins L (x := rw7 c.key c.val) (fun e => he e.symm)]
    exact hr p z
theorem Mo.del {w : World} {bm : Nat} {L : List It} (h : Mo w bm L) (hR : Rises L) {c : Ch} (hg : c.gone = true) (hp : c.key.size ≤ maxLen) (ty : TypeId) :
    ∃ w', (Builtin.delete_ #[66, 9] ty #[.map (some bm), .string c.key]).run Tryz.prog w = .ok (.tuple #[]) w' ∧ Mo w' bm (app L c) ∧ w.mapTurned w' bm := by
  obtain ⟨D, ho, hr, hs⟩ := h
  obtain ⟨w', hrun, ho', ht⟩ := ho.drop strK Tryz.underlying66 (keyP hp) ty
  have ha : app L c = drop L c.key := by unfold app; rw [hg]; rfl
  rw [ha]
  have hsz : Go.Maps.size (D.del (kL c.key)) ≤ (drop L c.key).length := by
    have h1 := Go.Maps.size_del (ho.tidy strK) (k := kL c.key)
    rw [readsO_has hr] at h1
    have h2 := len_drop hR c.key
    omega
  refine ⟨w', hrun, ⟨_, own_len ho' hsz, fun q z => ?_, hsz⟩, ht⟩
  by_cases he : q = c.key
  · subst he
    rw [Go.Maps.atKey_del_same, find_drop_same]
  · rw [Go.Maps.atKey_del_other (fun e => he (kL_inj e)), find_drop L (fun e => he e.symm)]
    exact hr q z
theorem mo_made (w : World) : Mo (w.alloc (.map #[] 0)) w.heap.size [] := ⟨_, World.ownsMap_made w _ _ _, fun p z => rfl, Nat.le_refl _⟩
theorem came_startO {D : DataW Unit} {L : List It} (h : ReadsO D L) : came L (Go.Maps.has D) = [] := by
  unfold came
  refine List.filter_eq_nil_iff.2 (fun y hy => ?_)
  rw [readsO_has h]
  have : (find L y.path).isSome = true := List.find?_isSome.2 ⟨y, hy, by simp⟩
  rw [this]
  simp
theorem next_rows (w : World) {ops : Array Oper} {rest : List Oper} {o : Oper} {a : Act} {Q : Exit → Act → World → Prop} (hg : o.guard = none) (it : Operand) (hop : o.op = Op.next it false) (b r n : Nat) (D : DataW Unit) (left : Lit → Bool) (cnt : Nat) (L : List It)
    (hit : a.eval it = .pointer (some ⟨r, 0, none⟩)) (h : w.ranges Tryz.prog 9 opR b r n D left cnt) (hD : ReadsO D L)
    (hDone : (∀ z, left z = false) → wpList Tryz.prog ops Q rest (a.put o.dst (.tuple #[.bool false])) w)
    (hMore : ∀ (x : It) (w' : World) (cnt' : Nat), x ∈ L → left (kL x.path) = true → w'.ranges Tryz.prog 9 opR b r n D (less left x.path) cnt' → cnt' < cnt → w.grownBy w' (some r) → w'.heap.size = w.heap.size →
      (Instr.entry (.pointer (some ⟨r, 0, none⟩))).run Tryz.prog w' = .ok (.tuple #[.string x.path, ov (chOf x)]) w' →
      wpList Tryz.prog ops Q rest (a.put o.dst (.tuple #[.bool true, .string x.path, ov (chOf x)])) w') :
    wpList Tryz.prog ops Q (o :: rest) a w := by
  refine wpList_next_ranges w hg it hop 9 strK opR (Value.string) ov
    (fun key kl hk => key_string hk) (fun v y hv => by obtain ⟨c, rfl, _⟩ := opR_inv hv; exact ⟨c, rfl⟩)
    b r n D left cnt hit h (fun _ hl => hDone hl) (fun p c kl y w' cnt' hkey hlk hv hat hrg hlt hgr hsz hen => ?_)
  obtain ⟨rfl, hps⟩ := key_is hkey
  have hv : opR (ov c) = some y := hv
  rw [opR_ov] at hv
  injection hv with hv
  subst hv
  have hat : ∀ zd, D.atKey (kL p) zd = od c := hat
  cases hf : find L p with
  | none =>
    have h1 := hat .nil
    rw [hD p, hf] at h1
    cases h1
  | some x =>
    have h1 := hat .nil
    rw [hD p, hf] at h1
    have h1 := od_inj h1
    subst h1
    obtain ⟨hm, rfl⟩ := find_mem hf
    exact hMore x w' cnt' hm hlk hrg hlt hgr hsz hen
theorem range_rows (w : World) {ops : Array Oper} {rest : List Oper} {o : Oper} {a : Act} {Q : Exit → Act → World → Prop} (hg : o.guard = none) (m : Operand) (hop : o.op = Op.range 66 m) (b : Nat) (L : List It)
    (hm : a.eval m = .map (some b)) (h : Mo w b L)
    (hK : ∀ (D : DataW Unit) (w' : World), ReadsO D L → w'.ranges Tryz.prog 9 opR b w.heap.size L.length D (Go.Maps.has D) (Go.Maps.size D) → w.grownBy w' none → w'.heap.size = w.heap.size + 1 → wpList Tryz.prog ops Q rest (a.put o.dst (.pointer (some ⟨w.heap.size, 0, none⟩))) w') :
    wpList Tryz.prog ops Q (o :: rest) a w := by
  obtain ⟨D, ho, hr, _⟩ := h
  exact wpList_range_own w hg m _ hop 9 105 strK Tryz.underlying66 opR b L.length D hm ho (fun w' h1 h2 h3 => hK D w' hr h1 h2 h3)
def ReadsP (D : DataW Unit) (l : List Ch) : Prop := ∀ p z, D.atKey (kL p) z = match at7 l p with
  | some i => .lit (.int .i64 i)
  | none => z
def Pp (w : World) (pm : Nat) (l : List Ch) : Prop := ∃ D : DataW Unit, w.ownsMap Tryz.prog 9 (plainElem Tryz.prog 3) pm l.length D ∧ ReadsP D l ∧ Go.Maps.size D ≤ l.length
theorem Pp.lt {w : World} {pm : Nat} {l : List Ch} (h : Pp w pm l) : pm < w.heap.size := by
  obtain ⟨D, h, _⟩ := h
  exact h.lt
theorem Pp.kept {w w1 : World} {pm : Nat} {l : List Ch} (h : Pp w pm l) (he : w1.heap[pm]? = w.heap[pm]?) : Pp w1 pm l := by
  obtain ⟨D, h, r⟩ := h
  exact ⟨D, Dk.ownsMap_at h he, r⟩
theorem Pp.nb {w : World} {pm : Nat} {l : List Ch} (h : Pp w pm l) {cs : Array Value} {T : TypeId} {fz : Nat × Nat} : w.heap[pm]? ≠ some (.cells cs T fz) := by
  obtain ⟨D, h, _⟩ := h
  exact map_block h
theorem readsP_has {D : DataW Unit} {l : List Ch} (h : ReadsP D l) (p : ByteArray) : Go.Maps.has D (kL p) = (at7 l p).isSome := by
  cases hf : at7 l p with
  | none =>
    refine (Go.Maps.has_false_of_atKey fun z => ?_).trans rfl
    rw [h p z, hf]
  | some i =>
    refine (Go.Maps.has_true_of_atKey (y := .lit (.int .i64 i)) fun z => ?_).trans rfl
    rw [h p z, hf]
def placeV (l : List Ch) (p : ByteArray) : Value := match at7 l p with
  | some i => .tuple #[.int .i64 i, .bool true]
  | none => .tuple #[.int .i64 0, .bool false]
theorem Pp.look {w : World} {pm : Nat} {l : List Ch} (h : Pp w pm l) {p : ByteArray} (hp : p.size ≤ maxLen) :
    (Instr.lookup 60 (.map (some pm)) (.string p) true).run Tryz.prog w = .ok (placeV l p) w := by
  obtain ⟨D, ho, hr, _⟩ := h
  obtain ⟨u, ps, hrun, hv⟩ := ho.look_ok strK Tryz.underlying60 (zeroN w) (plainElem_int Tryz.underlying3 (by decide)) (keyP hp)
  rw [hrun, readsP_has hr]
  obtain ⟨c, rfl, hc, hwc⟩ := plainElem_int_inv Tryz.underlying3 hv
  have hc := congrArg Prod.fst hc
  simp only [hr p] at hc
  unfold placeV
  cases hf : at7 l p with
  | none =>
    rw [hf] at hc
    cases hc
    rfl
  | some i =>
    rw [hf] at hc
    cases hc
    rfl
theorem Pp.store {w : World} {pm : Nat} {l : List Ch} (h : Pp w pm l) (hO : Once l) {c : Ch} (ha : at7 l c.key = none) (hp : c.key.size ≤ maxLen) (hn : l.length < 1000000000000) :
    ∃ w', (Instr.mapUpdate 60 (.map (some pm)) (.string c.key) (.int .i64 (l.length : Nat))).run Tryz.prog w = .ok () w' ∧ Pp w' pm (l ++ [c]) ∧ w.mapTurned w' pm := by
  obtain ⟨D, ho, hr, hs⟩ := h
  have hw : (Lit.int .i64 (l.length : Nat)).wf = true := by simp [Lit.wf, IntKind.min, IntKind.max, IntKind.signed, IntKind.bits]; omega
  obtain ⟨w', hrun, ho', ht⟩ := ho.store strK Tryz.underlying60 (by unfold maxLen; omega) (keyP hp) (plainElem_int Tryz.underlying3 hw)
  have hsz : Go.Maps.size (D.put (kL c.key) (.lit (.int .i64 (l.length : Nat)))) ≤ (l ++ [c]).length := by
    have h1 := Go.Maps.size_put (ho.tidy strK) (k := kL c.key) (.lit (.int .i64 (l.length : Nat)))
    rw [readsP_has hr, ha] at h1
    rw [h1, List.length_append]
    show Go.Maps.size D + 1 ≤ l.length + 1
    omega
  refine ⟨w', hrun, ⟨_, own_len ho' hsz, fun p z => ?_, hsz⟩, ht⟩
  have hb := at7_bat hO c p
  rw [bat_new ha] at hb
  rw [hb]
  by_cases he : p = c.key
  · subst he
    rw [if_pos ⟨ha, rfl⟩, Go.Maps.atKey_put_same ho.isMap (kL_key _)]
  · rw [if_neg (fun hh => he hh.2), Go.Maps.atKey_put_other (fun e => he (kL_inj e))]
    exact hr p z
theorem Pp.same {w : World} {pm : Nat} {l : List Ch} (h : Pp w pm l) (hO : Once l) {c : Ch} {i : Nat} (ha : at7 l c.key = some i) : Pp w pm (l.set i c) := by
  obtain ⟨D, ho, hr, hs⟩ := h
  refine ⟨D, by rw [List.length_set]; exact ho, fun p z => ?_, by rw [List.length_set]; exact hs⟩
  have hb := at7_bat hO c p
  rw [bat_set hO ha, if_neg (fun hh => by rw [ha] at hh; cases hh.1)] at hb
  rw [hb]
  exact hr p z
theorem pp_made (w : World) : Pp (w.alloc (.map #[] 0)) w.heap.size [] := ⟨_, World.ownsMap_made w _ _ _, fun p z => rfl, Nat.le_refl _⟩
end Go.Proofs.YtdkgkomjbpggeaaGreatDoor.Tb

namespace Go.Proofs.YtdkgkomjbpggeaaGreatDoor.Tb
open Go.RowKit
set_option linter.unusedVariables false
set_option linter.unusedSimpArgs false
set_option linter.unnecessarySimpa false
def Cells3 (x : Nat) (key val : ByteArray) (gone : Bool) (W : World) : Prop := W.cell? ⟨x, 0, none⟩ = some (.string key) ∧ W.cell? ⟨x, 0 + 1, none⟩ = some (.string val) ∧ W.cell? ⟨x, 0 + 1 + 1, none⟩ = some (.bool gone)
set_option maxRecDepth 100000 in
set_option maxHeartbeats 4000000 in
theorem recGone (ops : Array Oper) (hops : ops = (Rg.opsOf Tryz.f47 6)) (id : Nat) (x : Nat) (key val n0 k1 : ByteArray) (gone : Bool) (vp : Value) {u0 u1 u2 u4 u6 u7 u8 u9 u10 u11 u12 u13 u14 u15 u16 u17 u18 u19 u20 u21 u22 u23 u24 u25 u26 u27 u28 u29 u30 u31 u32 u33 u34 u35 u36 u37 : Value} (w : World) (B1 B2 B3 : World → Prop) (B4 : Value → World → Prop)
    (hS : Cells3 x key val gone w) (hA : Calls Tryz.prog 82 #[.int .i64 0] w.drew fun e w' => e = .returned (.string n0) ∧ B1 w') (hAS : ∀ W, B1 W → Cells3 x key val gone W)
    (hB : ∀ W, B1 W → Calls Tryz.prog 70 #[.string key] W fun e w' => e = .returned (.string k1) ∧ B2 w') (hBS : ∀ W, B2 W → Cells3 x key val gone W)
    (hES : ∀ W, B2 W → Cells3 x key val gone (W.alloc (.cells #[(.string n0), (.string k1)] 9)))
    (hE : ∀ W, B2 W → ∀ ty, ∃ v w1, (Builtin.append_ #[52, 52] ty #[vp, .slice (some ⟨W.heap.size, 0, none⟩) 2 2]).run Tryz.prog (W.alloc (.cells #[(.string n0), (.string k1)] 9)) = .ok v w1 ∧ B4 v w1) (hGS : ∀ v W, B4 v W → Cells3 x key val gone W) :
    (Code.region id ops true).wp Tryz.prog (Rg.Only fun a' w' => ∃ (z8 : Nat) (v8 : Value), a' = ⟨#[u0, u1, u2, v8, u4, (.pointer (some ⟨x, 0, none⟩)), u6, u7, u8, u9, u10, u11, u12, u13, u14, u15, u16, u17, vp, (.string n0), (.pointer (some ⟨x, 0, none⟩)), (.string key), (.string k1), (.slice (some ⟨z8, 0, none⟩) 2 2), v8, u25, u26, u27, u28, u29, u30, u31, u32, u33, u34, u35, u36, u37], []⟩ ∧ B4 v8 w') ⟨#[u0, u1, u2, vp, u4, (.pointer (some ⟨x, 0, none⟩)), u6, u7, u8, u9, u10, u11, u12, u13, u14, u15, u16, u17, u18, u19, u20, u21, u22, u23, u24, u25, u26, u27, u28, u29, u30, u31, u32, u33, u34, u35, u36, u37], []⟩ w := by
  subst hops
  have hNS : Region.noSelect (Rg.opsOf Tryz.f47 6) = true := by kernel_rfl
  refine wp_region_held_drew (S := Cells3 x key val gone) (by kernel_rfl) hS (fun hHeld => ?_)
  rw [show (Rg.opsOf Tryz.f47 6).size = 8 by kernel_rfl]
  refine Rg.takek 0 (some 18) (vp) hNS hHeld (Rg.y_movekL (x := .tmp 3)) ?_
  refine Rg.takek 2 (some 20) (.pointer (some ⟨x, 0, none⟩)) hNS hHeld (Rg.y_fieldk (T := 105) (k := 0) (x := .tmp 5) (vx := (.pointer (some ⟨x, 0, none⟩))) ?_) ?_
  · (intro w hSw; clear hSw; go_simp)
  refine Rg.takek 3 (some 21) (.string key) hNS hHeld (Rg.y_loadk (T := 9) (x := .tmp 20) (vx := (.pointer (some ⟨x, 0, none⟩))) ?_) ?_
  · (intro w hSw; obtain ⟨s0, s1, s2⟩ := hSw; go_simp)
  refine Rg.callk (fn := Tryz.f82) (xs := #[.const (Value.int IntKind.i64 0)]) (ats := #[3]) 1 (some 19) 82 #[(Value.int IntKind.i64 0)] Tryz.func82 ?_
  refine hA.mono ?_
  rintro e w5 ⟨rfl, h5⟩
  refine ⟨_, rfl, hAS _ h5, fun hHeld => ?_⟩
  refine Rg.callk (fn := Tryz.f70) (xs := #[.tmp 21]) (ats := #[9]) 4 (some 22) 70 #[(.string key)] Tryz.func70 ?_
  refine (hB _ h5).mono ?_
  rintro e w6 ⟨rfl, h6⟩
  refine ⟨_, rfl, hBS _ h6, fun hHeld => ?_⟩
  refine Rg.bldk 5 (some 23) (T := 52) (len := 2) (parts := #[(0, .tmp 19), (1, .tmp 22)]) (vs := #[(0, (.string n0)), (1, (.string k1))]) (v := (.slice (some ⟨w6.heap.size, 0, none⟩) 2 2)) (w1 := w6.alloc (.cells #[(.string n0), (.string k1)] 9)) ?_ (hES _ h6) (fun hHeld => ?_)
  · (clear hHeld; go_simp)
  refine Rg.app1k 6 (some 24) (T := 52) (x := .tmp 18) (y := .tmp 23) (vx := vp) (vy := (.slice (some ⟨w6.heap.size, 0, none⟩) 2 2)) ?_
  intro ty
  obtain ⟨v8, w8, hr8, h8⟩ := hE _ h6 ty
  refine ⟨v8, w8, hr8, hGS _ _ h8, fun hHeld => ?_⟩
  refine Rg.takek 7 (some 3) (v8) hNS hHeld (Rg.y_movekR (x := .tmp 24)) ?_
  refine Rg.donek ?_
  exact ⟨w6.heap.size, v8, by kernel_rfl, h8⟩
set_option maxRecDepth 100000 in
set_option maxHeartbeats 4000000 in
theorem recGive (ops : Array Oper) (hops : ops = (Rg.opsOf Tryz.f47 7)) (id : Nat) (x : Nat) (key val n0 k1 v1 : ByteArray) (gone : Bool) (vp : Value) {u0 u1 u2 u4 u6 u7 u8 u9 u10 u11 u12 u13 u14 u15 u16 u17 u18 u19 u20 u21 u22 u23 u24 u25 u26 u27 u28 u29 u30 u31 u32 u33 u34 u35 u36 u37 : Value} (w : World) (B1 B2 B3 : World → Prop) (B4 : Value → World → Prop)
    (hS : Cells3 x key val gone w) (hA : Calls Tryz.prog 82 #[.int .i64 1] w.drew fun e w' => e = .returned (.string n0) ∧ B1 w') (hAS : ∀ W, B1 W → Cells3 x key val gone W)
    (hB : ∀ W, B1 W → Calls Tryz.prog 70 #[.string key] W fun e w' => e = .returned (.string k1) ∧ B2 w') (hBS : ∀ W, B2 W → Cells3 x key val gone W)
    (hC : ∀ W, B2 W → Calls Tryz.prog 70 #[.string val] W fun e w' => e = .returned (.string v1) ∧ B3 w') (hCS : ∀ W, B3 W → Cells3 x key val gone W)
    (hES : ∀ W, B3 W → Cells3 x key val gone (W.alloc (.cells #[(.string n0), (.string k1), (.string v1)] 9)))
    (hE : ∀ W, B3 W → ∀ ty, ∃ v w1, (Builtin.append_ #[52, 52] ty #[vp, .slice (some ⟨W.heap.size, 0, none⟩) 3 3]).run Tryz.prog (W.alloc (.cells #[(.string n0), (.string k1), (.string v1)] 9)) = .ok v w1 ∧ B4 v w1) (hGS : ∀ v W, B4 v W → Cells3 x key val gone W) :
    (Code.region id ops true).wp Tryz.prog (Rg.Only fun a' w' => ∃ (z8 : Nat) (v8 : Value), a' = ⟨#[u0, u1, u2, v8, u4, (.pointer (some ⟨x, 0, none⟩)), u6, u7, u8, u9, u10, u11, u12, u13, u14, u15, u16, u17, u18, u19, u20, u21, u22, u23, u24, vp, (.string n0), (.pointer (some ⟨x, 0, none⟩)), (.string key), (.string k1), (.pointer (some ⟨x, 0 + 1, none⟩)), (.string val), (.string v1), (.slice (some ⟨z8, 0, none⟩) 3 3), v8, u35, u36, u37], []⟩ ∧ B4 v8 w') ⟨#[u0, u1, u2, vp, u4, (.pointer (some ⟨x, 0, none⟩)), u6, u7, u8, u9, u10, u11, u12, u13, u14, u15, u16, u17, u18, u19, u20, u21, u22, u23, u24, u25, u26, u27, u28, u29, u30, u31, u32, u33, u34, u35, u36, u37], []⟩ w := by
  subst hops
  have hNS : Region.noSelect (Rg.opsOf Tryz.f47 7) = true := by kernel_rfl
  refine wp_region_held_drew (S := Cells3 x key val gone) (by kernel_rfl) hS (fun hHeld => ?_)
  rw [show (Rg.opsOf Tryz.f47 7).size = 11 by kernel_rfl]
  refine Rg.takek 0 (some 25) (vp) hNS hHeld (Rg.y_movekL (x := .tmp 3)) ?_
  refine Rg.takek 2 (some 27) (.pointer (some ⟨x, 0, none⟩)) hNS hHeld (Rg.y_fieldk (T := 105) (k := 0) (x := .tmp 5) (vx := (.pointer (some ⟨x, 0, none⟩))) ?_) ?_
  · (intro w hSw; clear hSw; go_simp)
  refine Rg.takek 3 (some 28) (.string key) hNS hHeld (Rg.y_loadk (T := 9) (x := .tmp 27) (vx := (.pointer (some ⟨x, 0, none⟩))) ?_) ?_
  · (intro w hSw; obtain ⟨s0, s1, s2⟩ := hSw; go_simp)
  refine Rg.takek 5 (some 30) (.pointer (some ⟨x, 0 + 1, none⟩)) hNS hHeld (Rg.y_fieldk (T := 105) (k := 1) (x := .tmp 5) (vx := (.pointer (some ⟨x, 0, none⟩))) ?_) ?_
  · (intro w hSw; clear hSw; go_simp)
  refine Rg.takek 6 (some 31) (.string val) hNS hHeld (Rg.y_loadk (T := 9) (x := .tmp 30) (vx := (.pointer (some ⟨x, 0 + 1, none⟩))) ?_) ?_
  · (intro w hSw; obtain ⟨s0, s1, s2⟩ := hSw; go_simp)
  refine Rg.callk (fn := Tryz.f82) (xs := #[.const (Value.int IntKind.i64 1)]) (ats := #[3]) 1 (some 26) 82 #[(Value.int IntKind.i64 1)] Tryz.func82 ?_
  refine hA.mono ?_
  rintro e w5 ⟨rfl, h5⟩
  refine ⟨_, rfl, hAS _ h5, fun hHeld => ?_⟩
  refine Rg.callk (fn := Tryz.f70) (xs := #[.tmp 28]) (ats := #[9]) 4 (some 29) 70 #[(.string key)] Tryz.func70 ?_
  refine (hB _ h5).mono ?_
  rintro e w6 ⟨rfl, h6⟩
  refine ⟨_, rfl, hBS _ h6, fun hHeld => ?_⟩
  refine Rg.callk (fn := Tryz.f70) (xs := #[.tmp 31]) (ats := #[9]) 7 (some 32) 70 #[(.string val)] Tryz.func70 ?_
  refine (hC _ h6).mono ?_
  rintro e w7 ⟨rfl, h7⟩
  refine ⟨_, rfl, hCS _ h7, fun hHeld => ?_⟩
  refine Rg.bldk 8 (some 33) (T := 52) (len := 3) (parts := #[(0, .tmp 26), (1, .tmp 29), (2, .tmp 32)]) (vs := #[(0, (.string n0)), (1, (.string k1)), (2, (.string v1))]) (v := (.slice (some ⟨w7.heap.size, 0, none⟩) 3 3)) (w1 := w7.alloc (.cells #[(.string n0), (.string k1), (.string v1)] 9)) ?_ (hES _ h7) (fun hHeld => ?_)
  · (clear hHeld; go_simp)
  refine Rg.app1k 9 (some 34) (T := 52) (x := .tmp 25) (y := .tmp 33) (vx := vp) (vy := (.slice (some ⟨w7.heap.size, 0, none⟩) 3 3)) ?_
  intro ty
  obtain ⟨v8, w8, hr8, h8⟩ := hE _ h7 ty
  refine ⟨v8, w8, hr8, hGS _ _ h8, fun hHeld => ?_⟩
  refine Rg.takek 10 (some 3) (v8) hNS hHeld (Rg.y_movekR (x := .tmp 34)) ?_
  refine Rg.donek ?_
  exact ⟨w7.heap.size, v8, by kernel_rfl, h8⟩
end Go.Proofs.YtdkgkomjbpggeaaGreatDoor.Tb

namespace Go.Proofs.YtdkgkomjbpggeaaGreatDoor.Tb
open Go.RowKit Tx Pm Dk Wm Wr
set_option linter.unusedVariables false
set_option linter.unusedSimpArgs false
set_option linter.unnecessarySimpa false
set_option maxRecDepth 100000 in
theorem bNumber_any (n : Nat) (w : World) (h : n ≤ 9223372036854775807) :
    Calls Tryz.prog 82 #[.int .i64 n] w fun e w' => e = .returned (.string (vs n)) ∧ Below w.heap.size w w' := by
  have c := fun W => putUint_any (n : Int) W (by omega) (by omega)
  have e1 : us (n : Int) = vs n := by unfold us; rw [if_neg (by omega), Int.toNat_natCast]
  have e2 : ue (n : Int) = 0 := by unfold ue; rw [if_neg (by omega)]
  rw [e1, e2] at c
  clear e1 e2
  go_enter Tryz.func82, Tryz.ntmps82
  go_wp2_with (go_at_call 72; refine (c _).mono ?_; rintro e w1 ⟨rfl, hb⟩)
  go_ret
  exact ⟨rfl, hb⟩
theorem info9r : (Tryz.prog.info? 9).map (fun i => (i.zero, i.size, i.bytes)) = some (some (.string ⟨#[]⟩), 1, 16) := by kernel_rfl
def recK (l : List Ch) (k : Nat) : List ByteArray := vs l.length :: (l.take k).flatMap parts
theorem recK_all (l : List Ch) (k : Nat) (h : l.length ≤ k) : recK l k = recP l := by unfold recK recP; rw [List.take_of_length_le h]
theorem recK_succ {l : List Ch} {k : Nat} {x : Ch} (h : l[k]? = some x) : recK l (k + 1) = recK l k ++ parts x := by
  have hk := (List.getElem?_eq_some_iff.1 h).1
  unfold recK
  rw [List.take_succ_eq_append_getElem hk, List.flatMap_append, List.cons_append]
  rw [List.getElem?_eq_getElem hk] at h
  injection h with h
  rw [h]
  simp
theorem parts_le (x : Ch) : (parts x).length ≤ 3 := by unfold parts; split <;> simp
theorem recK_len (l : List Ch) : ∀ k, (recK l k).length ≤ 3 * k + 1 := by
  intro k
  unfold recK
  rw [List.length_cons]
  have : ∀ m : List Ch, (m.flatMap parts).length ≤ 3 * m.length := fun m => by
    induction m with
    | nil => exact Nat.le_refl _
    | cons x m ih => rw [List.flatMap_cons, List.length_append, List.length_cons]; have := parts_le x; omega
  have h1 := this (l.take k)
  have h2 : (l.take k).length ≤ k := by rw [List.length_take]; omega
  omega
theorem app_texts {W0 W : World} {B T : Nat} {v : Value} {l news : List ByteArray} (hO : W.ownsRow B 9 1 v T (l.map sv)) (hT : T + news.length ≤ 1000000000000) (hB : B ≤ W.heap.size) (h0 : B ≤ W0.heap.size) (hb : Below B W0 W) :
    ∀ ty, ∃ v' w', (Builtin.append_ #[52, 52] ty #[v, .slice (some ⟨W.heap.size, 0, none⟩) news.length news.length]).run Tryz.prog (W.alloc (.cells (news.map sv).toArray 9)) = .ok v' w' ∧
      w'.ownsRow B 9 1 v' (T + news.length) ((l ++ news).map sv) ∧ Below B W0 w' ∧ (W.alloc (.cells (news.map sv).toArray 9)).grownBy w' v.ownBlock := by
  intro ty
  obtain ⟨i0, hi, hz0, hz1, hz2⟩ := info_parts info9r
  have hO2 := hO.alloc (.cells (news.map sv).toArray 9)
  obtain ⟨v', w', hr, h1, h2, _⟩ := run_append_own (P := Tryz.prog) (W.alloc (.cells (news.map sv).toArray 9)) B 52 ty 9 i0 (.string ⟨#[]⟩) 1 16 Tryz.underlying52 hi hz0 hz1 hz2 rfl (by decide) v T (l.map sv) hO2
    ⟨W.heap.size, 0, none⟩ news.length news.length (news.map sv) (by simp) (fun j u hu => by
      rw [WideShapes.add_plain, Nat.zero_add, World.cell?_alloc_at _ _ _ _ rfl]
      simpa using hu) (sv_one news) (by unfold maxLen; omega) (by omega) (by simp; omega)
  refine ⟨v', w', hr, by rw [List.map_append]; exact h1, (hb.alloc hB _).grown h2 (by simp; omega) (fun k hk => (hO.lt k hk).1), h2⟩
theorem cells3_new (W : World) (x : Ch) (T : TypeId) : Cells3 W.heap.size x.key x.val x.gone (W.alloc (.cells #[.string x.key, .string x.val, .bool x.gone] T)) := by
  refine ⟨?_, ?_, ?_⟩ <;> · rw [World.cell?_alloc_at _ _ _ _ rfl]; rfl
theorem cells3_below {W W' : World} {x : Nat} {key val : ByteArray} {gone : Bool} {B : Nat} (h : Cells3 x key val gone W) (hb : Below B W W') (hx : x < B) : Cells3 x key val gone W' :=
  ⟨(hb.cell (p := ⟨x, _, none⟩) hx).trans h.1, (hb.cell (p := ⟨x, _, none⟩) hx).trans h.2.1, (hb.cell (p := ⟨x, _, none⟩) hx).trans h.2.2⟩
theorem cells3_grown {W W' : World} {x : Nat} {key val : ByteArray} {gone : Bool} {row : Option Nat} (h : Cells3 x key val gone W) (hg : W.grownBy W' row) (hx : some x ≠ row) : Cells3 x key val gone W' :=
  ⟨hg.cell h.1 hx, hg.cell h.2.1 hx, hg.cell h.2.2 hx⟩
theorem cells3_alloc {W : World} {x : Nat} {key val : ByteArray} {gone : Bool} (h : Cells3 x key val gone W) (hx : x < W.heap.size) (o : Obj) : Cells3 x key val gone (W.alloc o) := cells3_below h ((Below.refl W.heap.size W).alloc (Nat.le_refl _) o) hx
theorem row_below {w w1 : World} {B n size : Nat} {e : TypeId} {v : Value} {xs : List Value} (h : w.ownsRow B e size v n xs) (hb : Below w.heap.size w w1) : w1.ownsRow B e size v n xs := own_kept h (fun g hg => hb.block g (h.lt g hg).2)
theorem lit_texts (W : World) (B : Nat) (x : ByteArray) (hB : B ≤ W.heap.size) : (W.alloc (.cells #[.string x] 9)).ownsRow B 9 1 (.slice (some ⟨W.heap.size, 0, none⟩) 1 1) 1 ([x].map sv) :=
  ⟨rfl, .inr ⟨W.heap.size, 1, #[.string x], rfl, hB, heap_alloc_new W _, Nat.le_refl _, by unfold maxLen; omega, rfl, rfl⟩⟩
set_option maxRecDepth 100000 in
set_option maxHeartbeats 4000000 in
theorem record_any (a : Option Addr) (n c : Nat) (l : List Ch) (w : World) (h : Opl w a n l) (hw : wt l ≤ 100000000000) (hc : n ≤ c) :
    Calls Tryz.prog 47 #[.slice a n c] w fun e w' => e = .returned (.string (rec7 l)) ∧ Below w.heap.size w w' := by
  have hln := h.1
  have hwl := wt_len l
  have HO := Lib.hid (fun W (hW : Below w.heap.size w W) => h.below hW)
  have HL := Lib.hid hln
  have HW := Lib.hid hw
  have hn : n ≤ 2500000000 := by omega
  have cnum := fun W => bNumber_any n W (by omega)
  clear h hln hwl hw
  go_enter Tryz.func47, Tryz.ntmps47
  go_wp2_with (go_at_call 82; refine (cnum _).mono ?_; rintro e w1 ⟨rfl, hb1⟩)
  go_loopw [3, 12] (fun v i wr => ∃ k T : Nat, k ≤ n ∧ i = .int .i64 k ∧ Hid ((recK l k).length = T) ∧ T ≤ 10000000000 ∧ wr.ownsRow w.heap.size 9 1 v T ((recK l k).map sv) ∧ Below w.heap.size w wr) (fun _ i _ => n - (intOf i).toNat)
  case atStart =>
    have hlen : vs n = vs l.length := by rw [HL.out]
    exact ⟨0, 1, Nat.zero_le _, rfl, rfl, by omega, by rw [hlen]; exact lit_texts _ _ _ hb1.size, hb1.alloc hb1.size _⟩
  case round =>
    obtain ⟨k, T, hk, rfl, hT, hTm, hown, hB⟩ := hrel
    by_cases hlt : k < n
    · obtain ⟨x, hx⟩ : ∃ x, l[k]? = some x := ⟨_, List.getElem?_eq_getElem (by rw [HL.out]; exact hlt)⟩
      obtain ⟨g, off, rfl, hg, g0, g1, g2⟩ := (HO.out _ hB).nth hx
      have hkz : (k : Int) < (n : Int) := by omega
      have hsx := wt_mem (List.mem_of_getElem? hx)
      have hwx := HW.out
      have hks : x.key.size ≤ 100000000000 := by omega
      have hvs : x.val.size ≤ 100000000000 := by omega
      have hrk := recK_succ hx
      have hlk := recK_len l (k + 1)
      obtain ⟨key, val, gone⟩ := x
      simp only at g0 g1 g2 hks hvs
      have HR := Lib.hid hrk
      have HLK := Lib.hid hlk
      clear hx hsx hwx hrk hlk
      have hW2 : Below wr.heap.size wr (wr.alloc (.cells #[.string key, .string val, .bool gone] 105)) := (Below.refl _ wr).alloc (Nat.le_refl _) _
      have hB2 := hB.alloc hB.size (.cells #[.string key, .string val, .bool gone] 105)
      have hO2 := hown.alloc (.cells #[.string key, .string val, .bool gone] 105)
      have hlt2 : wr.heap.size < (wr.alloc (.cells #[.string key, .string val, .bool gone] 105)).heap.size := by simp
      cases gone
      · have hC3 : Cells3 wr.heap.size key val false (wr.alloc (.cells #[.string key, .string val, .bool false] 105)) := cells3_new wr ⟨key, val, false⟩ _
        have hp : parts ⟨key, val, false⟩ = [vs 1, ts key, ts val] := rfl
        have HP := Lib.hid hp
        clear hp
        go_wp2_with fail
        generalize wr.alloc (.cells #[.string key, .string val, .bool false] 105) = W2 at hW2 hB2 hO2 hC3 hlt2 ⊢
        have hES : ∀ W, Below W2.heap.size W2 W → Cells3 wr.heap.size key val false (W.alloc (.cells ([vs 1, ts key, ts val].map sv).toArray 9)) := fun W hW => cells3_alloc (cells3_below hC3 hW hlt2) (Nat.lt_of_lt_of_le hlt2 hW.size) _
        have hE : ∀ W, Below W2.heap.size W2 W → ∀ ty, ∃ v w1, (Builtin.append_ #[52, 52] ty #[u3, .slice (some ⟨W.heap.size, 0, none⟩) 3 3]).run Tryz.prog (W.alloc (.cells ([vs 1, ts key, ts val].map sv).toArray 9)) = .ok v w1 ∧
            (w1.ownsRow w.heap.size 9 1 v (T + 3) ((recK l k ++ [vs 1, ts key, ts val]).map sv) ∧ Below w.heap.size w w1 ∧ Cells3 wr.heap.size key val false w1) := fun W hW ty => by
          obtain ⟨v', w', hr, h1, h2, h3⟩ := app_texts (news := [vs 1, ts key, ts val]) (row_below hO2 hW) (by show T + 3 ≤ _; omega) (Tx.below_call hB2 hW).size (Nat.le_refl _) (Tx.below_call hB2 hW) ty
          exact ⟨v', w', hr, h1, h2, cells3_grown (hES W hW) h3 (fun e => by have := (hown.lt _ e.symm).2; omega)⟩
        refine Rg.wp_only ?_ (recGive _ (by kernel_rfl) _ wr.heap.size key val (vs 1) (ts key) (ts val) false u3 _ (fun W => Below W2.heap.size W2 W) (fun W => Below W2.heap.size W2 W) (fun W => Below W2.heap.size W2 W) _ hC3
          ((bNumber_any 1 _ (by omega)).mono fun e w' hh => ⟨hh.1, Tx.below_call (Below.refl _ W2).drew hh.2⟩) (fun W hW => cells3_below hC3 hW hlt2)
          (fun W hW => (putText_any key W (by omega)).mono fun e w' hh => ⟨hh.1, Tx.below_call hW hh.2⟩) (fun W hW => cells3_below hC3 hW hlt2) (fun W hW => (putText_any val W (by omega)).mono fun e w' hh => ⟨hh.1, Tx.below_call hW hh.2⟩) (fun W hW => cells3_below hC3 hW hlt2) hES hE (fun v W h => h.2.2))
        rintro _ w8 ⟨z8, v8, rfl, hO8, hB8, _⟩
        have hO9 : w8.ownsRow w.heap.size 9 1 v8 (T + 3) ((recK l (k + 1)).map sv) := by rw [HR.out, HP.out]; exact hO8
        have hlen : (recK l (k + 1)).length = T + 3 := by rw [HR.out, HP.out, List.length_append, hT.out]; rfl
        have hTb : T + 3 ≤ 10000000000 := by have := HLK.out; omega
        clear hE hES hO8 hC3 hO2 hB2 hown hB hW2
        go_wp2_with fail
        go_roundw
        case rel => exact ⟨k + 1, T + 3, by omega, by go_num, hlen, hTb, hO9, hB8⟩
        case measure => simp [intOf]; omega
      · have hC3 : Cells3 wr.heap.size key val true (wr.alloc (.cells #[.string key, .string val, .bool true] 105)) := cells3_new wr ⟨key, val, true⟩ _
        have hp : parts ⟨key, val, true⟩ = [vs 0, ts key] := rfl
        have HP := Lib.hid hp
        clear hp
        go_wp2_with fail
        generalize wr.alloc (.cells #[.string key, .string val, .bool true] 105) = W2 at hW2 hB2 hO2 hC3 hlt2 ⊢
        have hES : ∀ W, Below W2.heap.size W2 W → Cells3 wr.heap.size key val true (W.alloc (.cells ([vs 0, ts key].map sv).toArray 9)) := fun W hW => cells3_alloc (cells3_below hC3 hW hlt2) (Nat.lt_of_lt_of_le hlt2 hW.size) _
        have hE : ∀ W, Below W2.heap.size W2 W → ∀ ty, ∃ v w1, (Builtin.append_ #[52, 52] ty #[u3, .slice (some ⟨W.heap.size, 0, none⟩) 2 2]).run Tryz.prog (W.alloc (.cells ([vs 0, ts key].map sv).toArray 9)) = .ok v w1 ∧
            (w1.ownsRow w.heap.size 9 1 v (T + 2) ((recK l k ++ [vs 0, ts key]).map sv) ∧ Below w.heap.size w w1 ∧ Cells3 wr.heap.size key val true w1) := fun W hW ty => by
          obtain ⟨v', w', hr, h1, h2, h3⟩ := app_texts (news := [vs 0, ts key]) (row_below hO2 hW) (by show T + 2 ≤ _; omega) (Tx.below_call hB2 hW).size (Nat.le_refl _) (Tx.below_call hB2 hW) ty
          exact ⟨v', w', hr, h1, h2, cells3_grown (hES W hW) h3 (fun e => by have := (hown.lt _ e.symm).2; omega)⟩
        refine Rg.wp_only ?_ (recGone _ (by kernel_rfl) _ wr.heap.size key val (vs 0) (ts key) true u3 _ (fun W => Below W2.heap.size W2 W) (fun W => Below W2.heap.size W2 W) (fun W => Below W2.heap.size W2 W) _ hC3
          ((bNumber_any 0 _ (by omega)).mono fun e w' hh => ⟨hh.1, Tx.below_call (Below.refl _ W2).drew hh.2⟩) (fun W hW => cells3_below hC3 hW hlt2)
          (fun W hW => (putText_any key W (by omega)).mono fun e w' hh => ⟨hh.1, Tx.below_call hW hh.2⟩) (fun W hW => cells3_below hC3 hW hlt2) hES hE (fun v W h => h.2.2))
        rintro _ w8 ⟨z8, v8, rfl, hO8, hB8, _⟩
        have hO9 : w8.ownsRow w.heap.size 9 1 v8 (T + 2) ((recK l (k + 1)).map sv) := by rw [HR.out, HP.out]; exact hO8
        have hlen : (recK l (k + 1)).length = T + 2 := by rw [HR.out, HP.out, List.length_append, hT.out]; rfl
        have hTb : T + 2 ≤ 10000000000 := by have := HLK.out; omega
        clear hE hES hO8 hC3 hO2 hB2 hown hB hW2
        go_wp2_with fail
        go_roundw
        case rel => exact ⟨k + 1, T + 2, by omega, by go_num, hlen, hTb, hO9, hB8⟩
        case measure => simp [intOf]; omega
    · obtain rfl : k = n := by omega
      have hall := recK_all l k (by rw [HL.out]; exact Nat.le_refl _)
      have hO2 : Texts wr w.heap.size u3 (recP l) := by
        unfold Texts
        rw [← hall, hT.out]
        exact hown
      obtain ⟨a2, c2, hv, hst, hc2, _⟩ := hO2.form
      have hlenT : (recP l).length = T := by rw [← hall]; exact hT.out
      rw [hlenT] at hv hst hc2
      obtain ⟨_, hne⟩ := hst
      obtain ⟨b2, off2, rfl, hb2, hcc⟩ := hne.resolve_left (by rw [← hT.out]; unfold recK; simp)
      have hsz : (cat (recP l)).size ≤ 140737488355328 := by
        have h1 := rec7_le (l := l) (by have := HW.out; omega)
        have h2 := HW.out
        unfold rec7 at h1
        omega
      have cj := join_any b2 off2 c2 (recP l) wr (fun j x hj => hcc j x hj) hb2 (by rw [hlenT]; omega) (by rw [hlenT]; exact hc2) hsz
      rw [hlenT] at cj
      have hr7 : cat (recP l) = rec7 l := rfl
      rw [hr7] at cj
      clear hall hO2 hcc hsz hr7 hown hT
      subst hv
      go_wp2_with (go_at_call 69; refine cj.mono ?_; rintro e w2 ⟨rfl, hb3⟩)
      go_ret
      exact ⟨rfl, Tx.below_call hB hb3⟩
end Go.Proofs.YtdkgkomjbpggeaaGreatDoor.Tb

namespace Go.Proofs
open Go.Shelf
def Tryz.sortS_ren : Go.Shelf.Ren := ⟨fun | 190 => 54 | 125 => 89 | 258 => 88 | 128 => 129 | 129 => 130 | 302 => 120 | 303 => 121 | 304 => 122 | 305 => 123 | 306 => 124 | 307 => 125 | 308 => 126 | 309 => 127 | 310 => 128 | 333 => 151 | 329 => 152 | 330 => 153 | 334 => 154 | 335 => 155 | 336 => 156 | 344 => 171 | n => n, fun | 31 => 52 | 9 => 9 | 3 => 3 | 46 => 139 | 0 => 0 | 51 => 153 | 53 => 152 | 4 => 4 | 183 => 164 | 182 => 163 | 131 => 103 | 5 => 5 | 218 => 192 | 222 => 196 | 228 => 209 | 229 => 210 | n => n, fun | n => n⟩
theorem Tryz.sortS : Go.Proofs.Lays.n190 Tryz.prog Tryz.sortS_ren := {
  mixed := by kernel_rfl
  f125 := Tryz.func89.trans (congrArg some (by kernel_rfl))
  f128 := Tryz.func129.trans (congrArg some (by kernel_rfl))
  f129 := Tryz.func130.trans (congrArg some (by kernel_rfl))
  f190 := Tryz.func54.trans (congrArg some (by kernel_rfl))
  f258 := Tryz.func88.trans (congrArg some (by kernel_rfl))
  f302 := Tryz.func120.trans (congrArg some (by kernel_rfl))
  f303 := Tryz.func121.trans (congrArg some (by kernel_rfl))
  f304 := Tryz.func122.trans (congrArg some (by kernel_rfl))
  f305 := Tryz.func123.trans (congrArg some (by kernel_rfl))
  f306 := Tryz.func124.trans (congrArg some (by kernel_rfl))
  f307 := Tryz.func125.trans (congrArg some (by kernel_rfl))
  f308 := Tryz.func126.trans (congrArg some (by kernel_rfl))
  f309 := Tryz.func127.trans (congrArg some (by kernel_rfl))
  f310 := Tryz.func128.trans (congrArg some (by kernel_rfl))
  f329 := Tryz.func152.trans (congrArg some (by kernel_rfl))
  f330 := Tryz.func153.trans (congrArg some (by kernel_rfl))
  f333 := Tryz.func151.trans (congrArg some (by kernel_rfl))
  f334 := Tryz.func154.trans (congrArg some (by kernel_rfl))
  f335 := Tryz.func155.trans (congrArg some (by kernel_rfl))
  f336 := Tryz.func156.trans (congrArg some (by kernel_rfl))
  f344 := Tryz.func171.trans (congrArg some (by kernel_rfl))
  t0 := Tryz.underlying0
  a0 := Tryz.isAgg0
  z0 := Tryz.sizeOf0
  v0 := Tryz.zeroValue0
  t3 := Tryz.underlying3
  a3 := Tryz.isAgg3
  z3 := Tryz.sizeOf3
  v3 := Tryz.zeroValue3
  t4 := Tryz.underlying4
  a4 := Tryz.isAgg4
  z4 := Tryz.sizeOf4
  v4 := Tryz.zeroValue4
  t5 := Tryz.underlying5
  a5 := Tryz.isAgg5
  z5 := Tryz.sizeOf5
  v5 := Tryz.zeroValue5
  t9 := Tryz.underlying9
  a9 := Tryz.isAgg9
  z9 := Tryz.sizeOf9
  v9 := Tryz.zeroValue9
  t31 := Tryz.underlying52
  a31 := Tryz.isAgg52
  z31 := Tryz.sizeOf52
  v31 := Tryz.zeroValue52
  t46 := Tryz.underlying139
  a46 := Tryz.isAgg139
  z46 := Tryz.sizeOf139
  v46 := Tryz.zeroValue139
  t51 := Tryz.underlying153
  a51 := Tryz.isAgg153
  z51 := Tryz.sizeOf153
  v51 := Tryz.zeroValue153
  t53 := Tryz.underlying152
  a53 := Tryz.isAgg152
  z53 := Tryz.sizeOf152
  v53 := Tryz.zeroValue152
  t131 := Tryz.underlying103
  a131 := Tryz.isAgg103
  z131 := Tryz.sizeOf103
  v131 := Tryz.zeroValue103
  t182 := Tryz.underlying163
  a182 := Tryz.isAgg163
  z182 := Tryz.sizeOf163
  v182 := Tryz.zeroValue163
  t183 := Tryz.underlying164
  a183 := Tryz.isAgg164
  z183 := Tryz.sizeOf164
  v183 := Tryz.zeroValue164
  t218 := Tryz.underlying192
  a218 := Tryz.isAgg192
  z218 := Tryz.sizeOf192
  v218 := Tryz.zeroValue192
  t222 := Tryz.underlying196
  a222 := Tryz.isAgg196
  z222 := Tryz.sizeOf196
  v222 := Tryz.zeroValue196
  t228 := Tryz.underlying209
  a228 := Tryz.isAgg209
  z228 := Tryz.sizeOf209
  v228 := Tryz.zeroValue209
  t229 := Tryz.underlying210
  a229 := Tryz.isAgg210
  z229 := Tryz.sizeOf210
  v229 := Tryz.zeroValue210 }
end Go.Proofs

namespace Go.Proofs.YtdkgkomjbpggeaaGreatDoor.Dk
open Go.RowKit Tx Pm Go.Sort Go.Lib Go.Shelf
set_option linter.unusedVariables false
theorem rising_perm : ∀ {ts l : List ByteArray}, ts.Perm l → ts.Pairwise (fun a b => Op.bytesLess b.toList a.toList = false) → l.Pairwise (fun a b => Op.bytesLess a.toList b.toList = true) → ts = l
  | ts, [], hp, _, _ => hp.eq_nil
  | [], x :: l, hp, _, _ => absurd hp.symm.eq_nil (by simp)
  | y :: t, x :: l, hp, h1, h2 => by
    obtain ⟨a1, a2⟩ := List.pairwise_cons.1 h1
    obtain ⟨b1, b2⟩ := List.pairwise_cons.1 h2
    have hyx : y = x := by
      rcases List.mem_cons.1 (hp.mem_iff.1 (List.mem_cons_self : y ∈ y :: t)) with e | hy
      · exact e
      · rcases List.mem_cons.1 (hp.mem_iff.2 (List.mem_cons_self : x ∈ x :: l)) with e | hx
        · exact e.symm
        · have := a1 x hx
          rw [b1 y hy] at this
          cases this
    subst hyx
    rw [rising_perm (List.Perm.cons_inv hp) a2 b2]
theorem less_iffS (a b : ByteArray) : Op.bytesLess a.toList b.toList = decide (a.data.toList < b.data.toList) := by
  rw [bytesLess_eq, ByteArray.toList_eq, ByteArray.toList_eq]
theorem merge_sortedS (l : List (List UInt8)) : (l.mergeSort fun x y => decide (x ≤ y)).Pairwise (fun a b => ¬ b < a) := by
  have h := List.pairwise_mergeSort (le := fun x y : List UInt8 => decide (x ≤ y)) (fun a b c h1 h2 => decide_eq_true (List.le_trans (of_decide_eq_true h1) (of_decide_eq_true h2))) (fun a b => by
    rcases List.le_total a b with h | h
    · simp [h]
    · simp [h]) l
  exact h.imp (fun hab => of_decide_eq_true hab)
theorem encSS (l : List ByteArray) : (l.map (·.data.toList)).map encStr = l.map sv := by
  rw [List.map_map]
  refine List.map_congr_left (fun x _ => ?_)
  rfl
theorem encTS (l : List (List UInt8)) : l.map encStr = (l.map tb).map sv := by
  rw [List.map_map]
  rfl
theorem below_sortSS {w : World} {B g q : Nat} {d : Array (List UInt8)} {os : Array Obj} (hg : B ≤ g) (hB : B ≤ w.heap.size) : RowKit.Below B w (grow (putRow encStr (Sort.ahead w q) g 0 d) os) := by
  have h1 : RowKit.Below B w (putRow encStr (Sort.ahead w q) g 0 d) := Lib.below_putRow (RowKit.Below.refl B w) hg
  refine ⟨h1.os, h1.tape, h1.output, by simp, fun k hk => ?_⟩
  rw [heap_grow_old _ _ (by have h2 : (putRow encStr (Sort.ahead w q) g 0 d).heap.size = w.heap.size := by simp
                            omega)]
  exact h1.block k hk
set_option maxRecDepth 100000 in
set_option maxHeartbeats 1000000 in
theorem sortS_any (v : Value) (ss : List ByteArray) (w : World) (B : Nat) (hT : Texts w B v ss) (hB : B ≤ w.heap.size) (hn : ss.length ≤ 4000000000) :
    Calls Tryz.prog 54 #[v] w fun e w' => e = .returned (.tuple #[]) ∧ ∃ ts : List ByteArray, ts.Perm ss ∧ ts.Pairwise (fun a b => Op.bytesLess b.toList a.toList = false) ∧ Texts w' B v ts ∧ RowKit.Below B w w' := by
  have hT2 := hT
  obtain ⟨hlen, h2⟩ := hT2
  rcases h2 with ⟨hv, h0⟩ | ⟨g, cap, cur, hv, hb, hg, hc, hm, hs, ht⟩
  · subst hv
    obtain rfl : ss = [] := List.length_eq_zero_iff.1 h0
    have h := Any.slices_Sort_string_none Tryz.sortS none 0 w
    change Calls Tryz.prog 54 _ _ _ at h
    refine h.mono ?_
    rintro e w' ⟨rfl, rfl⟩
    exact ⟨rfl, [], List.Perm.refl _, List.Pairwise.nil, hT, RowKit.Below.refl _ _⟩
  · subst hv
    have hlt : g < w.heap.size := (Array.getElem?_eq_some_iff.1 hg).1
    obtain ⟨zs, hz⟩ : ∃ zs, zs = ss.map (·.data.toList) := ⟨_, rfl⟩
    have hzl : zs.length = ss.length := by rw [hz, List.length_map]
    have hH : Holds encStr w g 0 zs.toArray := holds_of_block hg (by
      rw [Nat.mul_one] at ht
      rw [hzl, ht, hz, encSS])
    have h := Any.slices_Sort_string Tryz.sortS g 0 cap zs w hH hlt (by omega)
    change Calls Tryz.prog 54 _ _ _ at h
    rw [hzl] at h
    refine h.mono ?_
    rintro e w' ⟨rfl, q, os, rfl⟩
    have hml : (zs.mergeSort fun x y => decide (x ≤ y)).length = zs.length := List.length_mergeSort zs
    refine ⟨rfl, (zs.mergeSort fun x y => decide (x ≤ y)).map tb, ?_, ?_, ?_, below_sortSS hb hB⟩
    · have h1 := (List.mergeSort_perm zs (fun x y => decide (x ≤ y))).map tb
      have h2 : zs.map tb = ss := by
        rw [hz, List.map_map]
        conv => rhs; rw [← List.map_id ss]
        exact List.map_congr_left (fun x _ => tb_of x)
      rwa [h2] at h1
    · rw [List.pairwise_map]
      refine (merge_sortedS zs).imp (fun hab => ?_)
      rw [less_iffS]
      exact decide_eq_false hab
    · have h1 := ownsRow_sorted (ss := zs) (ts := zs.mergeSort fun x y => decide (x ≤ y)) (n := q) (os := os) hml hb hg (by rw [hzl]; exact hc) hm hs
      unfold Texts
      rw [List.length_map, hml, ← encTS, hzl]
      rw [hzl] at h1
      exact h1
end Go.Proofs.YtdkgkomjbpggeaaGreatDoor.Dk

namespace Go.Proofs.YtdkgkomjbpggeaaGreatDoor.Dk
open Go.RowKit Tx Pm
set_option linter.unusedVariables false
theorem ret_int {k : IntKind} {a b : Int} (h : a = b) : Ending.returned (.int k a) = .returned (.int k b) := by rw [h]
theorem used_perm {a b : List It} (h : a.Perm b) (v : ByteArray) : used a v = used b v := (h.map _).sum_nat
theorem used_cons (x : It) (l : List It) (v : ByteArray) : used (x :: l) v = (if vol x.path = v then x.data.size else 0) + used l v := by
  unfold used
  rw [List.map_cons, List.sum_cons]
theorem used_came (L : List It) (left : Lit → Bool) (v : ByteArray) : used (came L left) v ≤ whole L := by
  refine Nat.le_trans (used_le _ v) ?_
  have h := came_sub L left
  generalize came L left = c at h
  induction h with
  | slnil => exact Nat.le_refl _
  | cons x _ ih =>
    unfold whole at *
    rw [List.map_cons, List.sum_cons]
    omega
  | cons_cons x _ ih =>
    unfold whole at *
    rw [List.map_cons, List.sum_cons, List.map_cons, List.sum_cons]
    omega
set_option maxRecDepth 100000 in
set_option maxHeartbeats 1000000 in
theorem iUsed_any (b bi bl : Nat) (l : Int) (s : St) (v : ByteArray) (w : World) (h : Ia b bi bl l w s) (hr : Rises s.L) (hf : Fit s) :
    Calls Tryz.prog 170 #[.pointer (some ⟨b, 0, none⟩), .string v] w fun e w' => e = .returned (.int .i64 (used s.L v : Nat)) ∧ Below w.heap.size w w' := by
  have hw := hf.2.2
  have hpp := hf.2.1
  have hub := fun left => used_came s.L left v
  obtain ⟨c0, _⟩ := h.cell
  have hm := h.items
  go_enter Tryz.func170, Tryz.ntmps170
  go_wp2_with (at_range; refine range_items _ rfl _ rfl bi s.L rfl hm ?_; intro D w0 hD hrg0 hg0 hs0)
  go_frame
  have HD := Lib.hid hD
  have HR := Lib.hid hr
  have HP := Lib.hid hpp
  have HU := Lib.hid hub
  have hsm : w.heap.size < w0.heap.size := by omega
  have HS := Lib.hid hs0
  clear hD hr hpp hub hs0
  go_loopw [5] (fun u wr => ∃ (left : Lit → Bool) (cnt T : Nat), wr.ranges Tryz.prog 9 itemR bi w.heap.size s.L.length D left cnt ∧ u = .int .i64 (T : Nat) ∧ Hid (T = used (came s.L left) v) ∧ Below w.heap.size w wr ∧ w.heap.size < wr.heap.size) (fun _ wr => wr.rangeLeft bi w.heap.size)
  case atStart => exact ⟨_, _, 0, hrg0, rfl, by show 0 = _; rw [came_start HD.out]; rfl, (Below.refl _ _).grown hg0 (Nat.le_refl _) (fun j hj => by cases hj), hsm⟩
  case round =>
    obtain ⟨left, cnt, T, hrg, rfl, hT, hbr, hlt⟩ := hrel
    go_wp2_with (at_next; refine next_items _ rfl _ rfl bi w.heap.size s.L.length D left cnt s.L rfl hrg HD.out ?_ ?_)
    · intro hl
      have hT' := hT.out
      rw [came_end s.L hl] at hT'
      have HT := Lib.hid hT'
      clear hl hT hT' hrg h
      go_wp2
      go_ret
      exact ⟨ret_int (by rw [HT.out]), hbr⟩
    · intro x w1 cnt1 hx hlx hrg1 hlt1 hg1 hs1 hen
      have hxp := HP.out x hx
      have hU1 := HU.out (less left x.path)
      have hst := used_perm (came_step hlx HR.out hx) v
      rw [used_cons, ← hT.out] at hst
      have hme : w1.rangeLeft bi w.heap.size < wr.rangeLeft bi w.heap.size := by rw [hrg1.left_eq, hrg.left_eq]; exact hlt1
      have hb1 : Below w.heap.size w w1 := below_grown hbr hg1 (Nat.le_of_lt hlt) (Nat.le_refl _)
      have hs2 : w.heap.size < w1.heap.size := by omega
      have hrg2 := hrg1.alloc (.cells #[.int .i64 (kOf x), .string x.data, .string x.kept, .int .i64 (stOf x), .int .i64 x.stamp] 112)
      have cv := fun W => iVol_any x.path W hxp
      have HME := Lib.hid hme
      clear hlx hs1 hx hme hrg hlt1 hT h hg1
      generalize less left x.path = left1 at hst hU1 hrg1 hrg2
      obtain ⟨V, hV⟩ : ∃ V, V = vol x.path := ⟨_, rfl⟩
      rw [← hV] at hst cv
      clear hV
      by_cases hvv : V = v
      · have e1 : (V.toList == v.toList) = true := by rw [hvv]; exact beq_self_eq_true _
        rw [if_pos hvv] at hst
        have hle : T + x.data.size ≤ 4000000000000000000 := by omega
        have HST := Lib.hid hst
        clear hst hvv hU1
        go_wp2_with (go_at_call 146; refine (cv _).mono ?_; rintro e w3 ⟨rfl, n3, rfl⟩)
        go_roundw
        case rel => exact ⟨left1, cnt1, T + x.data.size, hrg2, by go_num, (HST.out.trans (Nat.add_comm _ _)).symm, (hb1.alloc (Nat.le_of_lt hs2) _).trans (below_drewN _ _ |>.mono (by simp; omega)), by simp; omega⟩
        case measure => have e : (w1.alloc (.cells #[.int .i64 (kOf x), .string x.data, .string x.kept, .int .i64 (stOf x), .int .i64 x.stamp] 112)).rangeLeft bi w.heap.size = w1.rangeLeft bi w.heap.size := by rw [hrg2.left_eq, hrg1.left_eq]
                        show (w1.alloc _).rangeLeft _ _ < _
                        rw [e]
                        exact HME.out
      · have e1 : (V.toList == v.toList) = false := bytes_ne hvv
        rw [if_neg hvv, Nat.zero_add] at hst
        have HST := Lib.hid hst
        clear hst hvv hU1
        go_wp2_with (go_at_call 146; refine (cv _).mono ?_; rintro e w3 ⟨rfl, n3, rfl⟩)
        go_roundw
        case rel => exact ⟨left1, cnt1, T, hrg2, rfl, HST.out.symm, (hb1.alloc (Nat.le_of_lt hs2) _).trans (below_drewN _ _ |>.mono (by simp; omega)), by simp; omega⟩
        case measure => have e : (w1.alloc (.cells #[.int .i64 (kOf x), .string x.data, .string x.kept, .int .i64 (stOf x), .int .i64 x.stamp] 112)).rangeLeft bi w.heap.size = w1.rangeLeft bi w.heap.size := by rw [hrg2.left_eq, hrg1.left_eq]
                        show (w1.alloc _).rangeLeft _ _ < _
                        rw [e]
                        exact HME.out
end Go.Proofs.YtdkgkomjbpggeaaGreatDoor.Dk

namespace Go.Proofs.YtdkgkomjbpggeaaGreatDoor.Dk
open Go.RowKit Tx Pm Pl Pr
set_option linter.unusedVariables false
def full (s : St) (v : ByteArray) (more : Int) : Bool := match roomOf s.rooms v with
  | none => false
  | some r => decide (0 < more) && decide (r.n < (used s.L v : Nat) + more)
theorem roomOf_mem {R : List Rm} {v : ByteArray} {r : Rm} (h : roomOf R v = some r) : r ∈ R ∧ r.vol = v := ⟨List.mem_of_find?_eq_some h, by have := List.find?_some h; simpa using this⟩
theorem roomOf_of {R : List Rm} (hv : R.Pairwise (fun r r' => r.vol ≠ r'.vol)) {r : Rm} (hr : r ∈ R) : roomOf R r.vol = some r := by
  unfold roomOf
  induction R with
  | nil => cases hr
  | cons q R ih =>
    obtain ⟨h1, h2⟩ := List.pairwise_cons.1 hv
    rcases List.mem_cons.1 hr with rfl | hr
    · rw [List.find?_cons_of_pos (by simp)]
    · rw [List.find?_cons_of_neg (by simpa using h1 r hr)]
      exact ih h2 hr
theorem fits_full {s : St} (hg : Good s) (p : ByteArray) (more : Int) : fits s p more = !full s (vol p) more := by
  unfold fits full
  by_cases hm : more ≤ 0
  · rw [decide_eq_true hm, Bool.true_or]
    cases roomOf s.rooms (vol p) with
    | none => rfl
    | some r =>
      simp only
      rw [decide_eq_false (by omega), Bool.false_and]
      rfl
  · rw [decide_eq_false hm, Bool.false_or]
    cases hf : roomOf s.rooms (vol p) with
    | none =>
      refine List.all_eq_true.2 (fun r hr => ?_)
      have : r.vol ≠ vol p := fun e => by
        have := roomOf_of hg.vols hr
        rw [e, hf] at this
        cases this
      rw [decide_eq_false this, Bool.false_and]
      rfl
    | some r =>
      obtain ⟨hr, hrv⟩ := roomOf_mem hf
      simp only
      rw [decide_eq_true (show 0 < more by omega), Bool.true_and, Bool.eq_iff_iff, List.all_eq_true]
      constructor
      · intro h
        have := h r hr
        rw [decide_eq_true hrv, Bool.true_and] at this
        simp only [Bool.not_eq_true', decide_eq_false_iff_not] at this ⊢
        omega
      · intro h q hq
        by_cases hqv : q.vol = vol p
        · have h2 := roomOf_of hg.vols hq
          rw [hqv, hf] at h2
          cases h2
          rw [decide_eq_true hrv, Bool.true_and]
          simp only [Bool.not_eq_true', decide_eq_false_iff_not] at h ⊢
          omega
        · rw [decide_eq_false hqv, Bool.false_and]
          rfl
theorem vol_le (p : ByteArray) : (vol p).size ≤ p.size := by
  rw [vol_cut, tb_size]
  have := cutA_le p.data.toList
  rw [len_l] at this
  exact this
set_option maxRecDepth 100000 in
set_option maxHeartbeats 1000000 in
theorem iFull_any (b bi bl : Nat) (l : Int) (s : St) (v : ByteArray) (more : Int) (w : World) (h : Ia b bi bl l w s) (hr : Rises s.L) (hf : Fit s) (hv : v.size ≤ 8000000000000) (hm : -4000000000000000000 ≤ more ∧ more ≤ 4000000000000000000) :
    Calls Tryz.prog 145 #[.pointer (some ⟨b, 0, none⟩), .string v, .int .i64 more] w fun e w' => e = .returned (.bool (full s v more)) ∧ Below w.heap.size w w' := by
  have hl := h.limits.look (maxLen_of hv)
  have cu := iUsed_any b bi bl l s v w h hr hf
  have hu := Nat.le_trans (used_le s.L v) hf.2.2
  obtain ⟨_, c1, _⟩ := h.cell
  unfold full
  unfold limV at hl
  clear hf hr h
  generalize used s.L v = U at cu hu ⊢
  cases hR : roomOf s.rooms v with
  | none =>
    rw [hR] at hl
    simp only at hl ⊢
    clear hR cu
    go_enter Tryz.func145, Tryz.ntmps145
    go_wp2
    go_ret
    exact ⟨rfl, Below.refl _ _⟩
  | some r =>
    rw [hR] at hl
    simp only at hl ⊢
    clear hR
    generalize r.n = N at hl ⊢
    by_cases h0 : 0 < more
    · rw [decide_eq_true h0, Bool.true_and]
      go_enter Tryz.func145, Tryz.ntmps145
      go_wp2_with (go_at_call 170; refine cu.mono ?_; rintro e w1 ⟨rfl, hb⟩)
      go_ret
      exact ⟨rfl, hb⟩
    · rw [decide_eq_false h0, Bool.false_and]
      have h0' : more ≤ 0 := by omega
      clear h0 cu
      go_enter Tryz.func145, Tryz.ntmps145
      go_wp2
      go_ret
      exact ⟨rfl, Below.refl _ _⟩
def bad (m : Nat) (p : ByteArray) : Bool := decide (chk p.data.toList 6 ≠ 0) || decide ((spl p.data.toList).length ≤ m)
def rdy (s : St) (m : Nat) (l : List ByteArray) : Nat := if s.down then 14 else if l.any (bad m) then 10 else 0
theorem rdy_one (s : St) (m : Nat) (p : ByteArray) : rdy s m [p] = first s p m := by
  unfold rdy first bad
  rw [List.any_cons, List.any_nil, Bool.or_false]
  cases s.down with
  | true => rfl
  | false =>
    simp only [Bool.false_eq_true, if_false]
    by_cases h : chk p.data.toList 6 ≠ 0 ∨ (spl p.data.toList).length ≤ m
    · rw [if_pos h, if_pos (by simpa [Bool.or_eq_true] using h)]
    · rw [if_neg h, if_neg (by simpa [Bool.or_eq_true] using h)]
theorem rdy_two (s : St) (m : Nat) (p q : ByteArray) : rdy s m [p, q] = if first s p m ≠ 0 then first s p m else first s q m := by
  rw [← rdy_one, ← rdy_one]
  unfold rdy
  rw [List.any_cons, List.any_cons, List.any_cons, List.any_nil]
  cases s.down with
  | true => rfl
  | false => cases bad m p <;> cases bad m q <;> rfl
theorem bad_dep {p : ByteArray} {m : Nat} (h : chk p.data.toList 6 = 0) : bad m p = decide ((dep p.data.toList : Int) < ((m + 1 : Nat) : Int)) := by
  have hp : p.data.toList ≠ [] := fun e => by rw [e] at h; revert h; decide
  have hd : dep p.data.toList = (spl p.data.toList).length := by rw [dep, if_neg hp]
  unfold bad
  rw [h, hd, Bool.eq_iff_iff]
  simp
  omega
set_option maxRecDepth 100000 in
set_option maxHeartbeats 1000000 in
theorem iReady_any (b bi bl g n c m : Nat) (M l : Int) (s : St) (ps : List ByteArray) (w : World) (h : Ia b bi bl l w s) (hn : ps.length = n) (hm : m ≤ 1000) (hM : M = (m : Int) + 1) (hc : ∀ k p, ps[k]? = some p → w.cell? ⟨g, k, none⟩ = some (.string p)) (hg : g < w.heap.size) (hp : ∀ p ∈ ps, p.size ≤ 8000000000000) (hnm : n ≤ 1000) :
    Calls Tryz.prog 93 #[.pointer (some ⟨b, 0, none⟩), .int .i64 M, .slice (some ⟨g, 0, none⟩) n c] w fun e w' => e = .returned (.int .i64 (rdy s m ps : Nat)) ∧ Below w.heap.size w w' := by
  obtain ⟨c0, c1, c2, c3, c4, c5⟩ := h.cell
  unfold rdy
  clear h c0 c1 c2 c3 c4
  generalize s.down = D at c5 ⊢
  cases D with
  | true =>
    rw [if_pos rfl]
    clear hc hp hn
    go_enter Tryz.func93, Tryz.ntmps93
    go_wp2
    go_ret
    exact ⟨rfl, Below.refl _ _⟩
  | false =>
    rw [if_neg (by decide)]
    have HC := Lib.hid hc
    have HP := Lib.hid hp
    have HN := Lib.hid hn
    have HM := Lib.hid hM
    have hM2 : 1 ≤ M ∧ M ≤ 1001 := by omega
    obtain ⟨RES, hRES⟩ : ∃ RES, RES = if ps.any (bad m) = true then 10 else 0 := ⟨_, rfl⟩
    rw [← hRES]
    have HRES := Lib.hid hRES
    clear hc hp hn hM hRES
    go_enter Tryz.func93, Tryz.ntmps93
    go_wp2
    go_loopw [19] (fun i wr => ∃ k : Nat, k ≤ n ∧ i = .int .i64 k ∧ Hid ((ps.take k).any (bad m) = false) ∧ Below w.heap.size w wr) (fun i _ => n - (intOf i).toNat)
    case atStart => exact ⟨0, Nat.zero_le _, rfl, by show (ps.take 0).any _ = _; simp, Below.refl _ _⟩
    case round =>
      obtain ⟨k, hk, rfl, hT, hB⟩ := hrel
      by_cases hlt : k < n
      · obtain ⟨p, hx⟩ : ∃ p, ps[k]? = some p := ⟨_, List.getElem?_eq_getElem (by rw [HN.out]; exact hlt)⟩
        have f0 := (hB.cell (p := ⟨g, _, none⟩) hg).trans (HC.out k p hx)
        have hpm := List.mem_of_getElem? hx
        have hps := HP.out p hpm
        have cc := fun W => pCheck_any p 6 W (by omega) (by omega) (by omega)
        have cd := fun W => pDeep_any p W (by omega)
        have hch : chk p.data.toList 6 = 0 ∨ chk p.data.toList 6 = 10 := by unfold chk; split <;> simp
        have htk : (ps.take (k + 1)).any (bad m) = ((ps.take k).any (bad m) || bad m p) := by rw [take_more hx, List.any_append, List.any_cons, List.any_nil, Bool.or_false]
        rw [hT.out, Bool.false_or] at htk
        have hany : bad m p = true → ps.any (bad m) = true := fun hb => List.any_eq_true.2 ⟨p, hpm, hb⟩
        rcases hch with hch | hch
        · have hbd := bad_dep (m := m) hch
          rw [hch] at cc
          have e9 : ((m + 1 : Nat) : Int) = M := by rw [HM.out]; omega
          rw [e9] at hbd
          generalize dep p.data.toList = Dp at cd hbd
          by_cases hd : (Dp : Int) < M
          · rw [decide_eq_true hd] at hbd
            have HA := Lib.hid (hany hbd)
            clear htk hany hbd hch hx hT hpm hps e9
            go_wp2_with (first | (go_at_call 101; refine (cc _).mono ?_; rintro e w1 ⟨rfl, hb1⟩) | (go_at_call 131; refine (cd _).mono ?_; rintro e w2 ⟨rfl, hb2⟩))
            go_ret
            exact ⟨ret_int (by rw [HRES.out, HA.out]; rfl), below_call (below_call hB hb1) hb2⟩
          · rw [decide_eq_false hd] at hbd
            rw [hbd] at htk
            have HT := Lib.hid htk
            have hd' : M ≤ Dp := by omega
            clear htk hany hbd hch hx hT hpm hps hd e9
            go_wp2_with (first | (go_at_call 101; refine (cc _).mono ?_; rintro e w1 ⟨rfl, hb1⟩) | (go_at_call 131; refine (cd _).mono ?_; rintro e w2 ⟨rfl, hb2⟩))
            go_roundw
            case rel => exact ⟨k + 1, by omega, by go_num, HT, below_call (below_call hB hb1) hb2⟩
            case measure => simp [intOf]; omega
        · have hbd : bad m p = true := by unfold bad; rw [hch]; rfl
          rw [hch] at cc
          have HA := Lib.hid (hany hbd)
          clear htk hany hbd hch hx hT hpm hps cd
          go_wp2_with (go_at_call 101; refine (cc _).mono ?_; rintro e w1 ⟨rfl, hb1⟩)
          go_ret
          exact ⟨ret_int (by rw [HRES.out, HA.out]; rfl), below_call hB hb1⟩
      · obtain rfl : k = n := by omega
        have hT' := hT.out
        rw [List.take_of_length_le (by rw [HN.out]; exact Nat.le_refl _)] at hT'
        have HT := Lib.hid hT'
        clear hT hT'
        go_wp2
        go_ret
        exact ⟨ret_int (by rw [HRES.out, HT.out]; rfl), hB⟩
end Go.Proofs.YtdkgkomjbpggeaaGreatDoor.Dk

namespace Go.Proofs.YtdkgkomjbpggeaaGreatDoor.Dk
open Go.RowKit Tx Pm Pl Pr
set_option linter.unusedVariables false
theorem own_base {w : World} {B C n size : Nat} {e : TypeId} {v : Value} {xs : List Value} (h : w.ownsRow C e size v n xs) (hB : B ≤ C) : w.ownsRow B e size v n xs := by
  refine ⟨h.1, ?_⟩
  rcases h.2 with h0 | ⟨g, cap, cur, hv, hg, hh, r⟩
  · exact .inl h0
  · exact .inr ⟨g, cap, cur, hv, Nat.le_trans hB hg, hh, r⟩
theorem own_belowT {w w1 : World} {B n size : Nat} {e : TypeId} {v : Value} {xs : List Value} (h : w.ownsRow B e size v n xs) (hb : Below w.heap.size w w1) : w1.ownsRow B e size v n xs := own_kept h (fun g hg => hb.block g (h.lt g hg).2)
def held (φ : It → Bool) (l : List It) : List ByteArray := (l.filter φ).map (·.path)
theorem held_cons (φ : It → Bool) (x : It) (l : List It) : held φ (x :: l) = (if φ x = true then [x.path] else []) ++ held φ l := by
  unfold held
  cases h : φ x <;> simp [h]
theorem held_perm {φ : It → Bool} {a b : List It} (h : a.Perm b) : (held φ a).Perm (held φ b) := (h.filter φ).map _
theorem held_rises {φ : It → Bool} {l : List It} (h : Rises l) : (held φ l).Pairwise (fun a b => Op.bytesLess a.toList b.toList = true) := by
  unfold held
  rw [List.pairwise_map]
  exact List.Pairwise.filter _ h
theorem held_len (φ : It → Bool) (l : List It) : (held φ l).length ≤ l.length := by
  unfold held
  rw [List.length_map]
  exact List.length_filter_le _ _
end Go.Proofs.YtdkgkomjbpggeaaGreatDoor.Dk

namespace Go.Proofs.YtdkgkomjbpggeaaGreatDoor.Tb
open Go.RowKit Tx Pm Dk Wm Wr Wl Pl
set_option linter.unusedVariables false
set_option linter.unusedSimpArgs false
set_option linter.unnecessarySimpa false
set_option maxRecDepth 100000 in
set_option maxHeartbeats 1000000 in
theorem tGet_any (t m : Nat) (L : List It) (key : ByteArray) (w : World) (ht : w.cell? ⟨t, 3, none⟩ = some (.map (some m))) (hm : Mo w m L) (hk : key.size ≤ maxLen) :
    Calls Tryz.prog 77 #[.pointer (some ⟨t, 0, none⟩), .string key] w fun e w' => e = .returned (.tuple #[.string (lookC L key).val, .bool (find L key).isSome]) ∧ Below w.heap.size w w' := by
  have hl := hm.look_ok hk
  generalize lookC L key = c at hl ⊢
  generalize (find L key).isSome = ok at hl ⊢
  obtain ⟨k0, v0, g0⟩ := c
  simp only [ov] at hl ⊢
  have HB := Lib.hid (fun o => (Below.refl w.heap.size w).alloc (Nat.le_refl _) o)
  clear hm
  go_enter Tryz.func77, Tryz.ntmps77
  go_wp2_with fail
  go_ret2
  exact ⟨rfl, HB.out _⟩
def pre7 (p : ByteArray) (x : It) : Bool := Lib.hasPrefix x.path.data.toList p.data.toList
set_option maxRecDepth 100000 in
set_option maxHeartbeats 2000000 in
theorem tKeys_any (t m : Nat) (L : List It) (p : ByteArray) (w : World) (ht : w.cell? ⟨t, 3, none⟩ = some (.map (some m))) (hm : Mo w m L) (hR : Rises L) (hn : L.length ≤ 1000000000) (hps : ∀ x ∈ L, x.path.size ≤ 1000000000000) (hp : p.size ≤ 1000000000000) :
    Calls Tryz.prog 52 #[.pointer (some ⟨t, 0, none⟩), .string p] w (ListTo (held (pre7 p) L) w) := by
  obtain ⟨i0, hi, hz0, hz1, hz2⟩ := info_parts Tx.info9
  go_enter Tryz.func52, Tryz.ntmps52
  go_wp2_with (at_range; refine range_rows _ rfl _ rfl m L rfl hm ?_; intro D w0 hD hrg0 hg0 hs0)
  go_frame
  have HD := Lib.hid hD
  have HR := Lib.hid hR
  have HP := Lib.hid hps
  have HH := Lib.hid (fun left => Nat.le_trans (held_len (pre7 p) (came L left)) (List.Sublist.length_le (came_sub L left)))
  have hsm : w.heap.size < w0.heap.size := by omega
  have HM := Lib.hid hm
  have HS := Lib.hid hs0
  clear hD hR hps hs0 hm
  go_loopw [5] (fun v wr => ∃ (left : Lit → Bool) (cnt T : Nat) (out : List ByteArray), wr.ranges Tryz.prog 9 opR m w.heap.size L.length D left cnt ∧ Hid (out.Perm (held (pre7 p) (came L left))) ∧ Hid (out.length = T) ∧ T ≤ 1000000000 ∧ wr.ownsRow (w.heap.size + 1) 9 1 v T (out.map sv) ∧ Below w.heap.size w wr ∧ w.heap.size < wr.heap.size) (fun _ wr => wr.rangeLeft m w.heap.size)
  case atStart => exact ⟨_, _, 0, [], hrg0, by show List.Perm _ _; rw [came_startO HD.out]; exact List.Perm.refl _, rfl, by omega, World.ownsRow_nil _ _ _ _, (Below.refl _ _).grown hg0 (Nat.le_refl _) (fun j hj => by cases hj), hsm⟩
  case round =>
    obtain ⟨left, cnt, T, out, hrg, hout, hlen, hT, hown, hB, hlt⟩ := hrel
    go_wp2_with (at_next; refine next_rows _ rfl _ rfl m w.heap.size L.length D left cnt L rfl hrg HD.out ?_ ?_)
    · intro hl
      have hp := hout.out
      rw [came_end L hl] at hp
      have hO : Texts wr w.heap.size _ out := own_toT (Dk.own_base hown (Nat.le_succ _)) hlen.out
      have hol : out.length ≤ 4000000000 := by rw [hlen.out]; omega
      have cs := sortS_any _ out wr w.heap.size hO hB.size hol
      have HPM := Lib.hid hp
      clear hl hp hO hrg hout hlen hown hol
      go_wp2_with (go_at_call 54; refine cs.mono ?_; rintro e w5 ⟨rfl, ts, hts, hso, htx, hb5⟩)
      go_ret
      obtain rfl : ts = held (pre7 p) L := rising_perm (hts.trans HPM.out) hso (held_rises HR.out)
      exact ⟨_, rfl, htx, hB.trans hb5⟩
    · intro x w1 cnt1 hx hlx hrg1 hlt1 hg1 hs1 hen1
      have hst := held_perm (φ := pre7 p) (came_step hlx HR.out hx)
      rw [held_cons] at hst
      have hbd := HH.out (less left x.path)
      have hlen2 := hst.length_eq
      have hme : cnt1 < wr.rangeLeft m w.heap.size := by rw [hrg.left_eq]; exact hlt1
      have hb1 : Below w.heap.size w w1 := below_grown hB hg1 (Nat.le_of_lt hlt) (Nat.le_refl _)
      have hs2 : w.heap.size < w1.heap.size := by omega
      have cx := fun W => hasPrefix_any x.path p W (by have := HP.out x hx; omega) (by omega)
      have hown1 := hown.kept hg1 (.inr (fun e => by have := (hown.lt _ e).1; omega))
      have HME := Lib.hid hme
      have HS1 := Lib.hid hs1
      clear hs1
      cases hφ : pre7 p x with
      | true =>
        unfold pre7 at hφ
        rw [hφ] at cx
        have hφ2 : pre7 p x = true := hφ
        rw [hφ2, if_pos rfl, List.length_append, List.length_singleton] at hlen2
        rw [hφ2, if_pos rfl] at hst
        have hT2 : T + 1 ≤ 1000000000 := by have := hout.out.length_eq; have := hlen.out; omega
        have hpm : (out ++ [x.path]).Perm (held (pre7 p) (came L (less left x.path))) := (List.perm_append_comm.trans (hout.out.append_left [x.path])).trans hst.symm
        have HPM := Lib.hid hpm
        have HLN := Lib.hid (show (out ++ [x.path]).length = T + 1 by rw [List.length_append, hlen.out]; rfl)
        clear hst hlen2 hbd hlx hx hpm hout hlen hrg hlt1 hg1 hme hown hφ hφ2
        go_wp2_with fail
        go_at_call 53
        refine (cx _).mono ?_
        rintro e w5 ⟨rfl, rfl⟩
        go_wp2_with (at_builtin; refine wpList_append_own _ rfl _ _ 52 rfl (w.heap.size + 1) 9 i0 (.string ⟨#[]⟩) 1 16 Tryz.underlying52 hi hz0 hz1 hz2 rfl (by decide) _ _ _ rfl (hown1.alloc _) ⟨w1.heap.size, 0, none⟩ 1 1 [sv x.path] rfl rfl ?c1_2 ?c2_2 ?c3_2 ?c4_2 ?c5_2 ?_)
        case c1_2 => exact cell_one_new _ _ _
        case c2_2 => exact sv_one [x.path]
        case c3_2 => unfold maxLen; omega
        case c4_2 => omega
        case c5_2 => first | (simp; omega) | omega
        intro v' w6 hown' hgrow _
        have ho6 : w6.ownsRow (w.heap.size + 1) 9 1 v' (T + 1) ((out ++ [x.path]).map sv) := by
          rw [List.map_append]
          exact hown'
        have hB6 : Below w.heap.size w w6 := (hb1.alloc hb1.size _).grown hgrow (by have := hb1.size; simp; omega) (fun k hk => by have := (hown1.lt k hk).1; omega)
        have hlb : m < w.heap.size := HM.out.lt
        have hrg6 := (hrg1.alloc (.cells #[.string x.path] 9)).kept hgrow (fun e => by have := (hown1.lt _ e.symm).1; omega) (fun e => by have := (hown1.lt _ e.symm).1; omega)
        have hle6 : w.heap.size < w6.heap.size := by have := hgrow.size; simp at this; omega
        have hme6 : w6.rangeLeft m w.heap.size < wr.rangeLeft m w.heap.size := by rw [hrg6.left_eq]; exact HME.out
        have HM6 := Lib.hid hme6
        have HO6 := Lib.hid ho6
        clear hown' hgrow hme6 hown1 hrg1 ho6
        go_wp2_with fail
        go_roundw
        case rel => exact ⟨less left x.path, cnt1, T + 1, out ++ [x.path], hrg6, HPM, HLN, hT2, HO6.out, hB6, hle6⟩
        case measure => exact HM6.out
      | false =>
        unfold pre7 at hφ
        rw [hφ] at cx
        have hφ2 : pre7 p x = false := hφ
        rw [hφ2, if_neg (by decide), List.nil_append] at hst
        have hpm : out.Perm (held (pre7 p) (came L (less left x.path))) := hout.out.trans hst.symm
        have HPM := Lib.hid hpm
        have hme5 : w1.rangeLeft m w.heap.size < wr.rangeLeft m w.heap.size := by rw [hrg1.left_eq]; exact HME.out
        have HM5 := Lib.hid hme5
        clear hst hlen2 hbd hlx hx hpm hout hrg hlt1 hg1 hme hown hφ hφ2 hme5
        go_wp2_with (go_at_call 53; refine (cx _).mono ?_; rintro e w5 ⟨rfl, rfl⟩)
        go_roundw
        case rel => exact ⟨less left x.path, cnt1, T, out, hrg1, HPM, hlen, hT, hown1, hb1, by omega⟩
        case measure => exact HM5.out
end Go.Proofs.YtdkgkomjbpggeaaGreatDoor.Tb

namespace Go.Proofs.YtdkgkomjbpggeaaGreatDoor.Tb
open Go.RowKit Tx Pm Dk Wm Wr
set_option linter.unusedVariables false
set_option linter.unusedSimpArgs false
set_option linter.unnecessarySimpa false
theorem neZ {e : Nat} (h : e ≠ 0) : ((e : Int) == 0) = false := by simp; omega
theorem chg_grown {w w' : World} {b : Nat} (h : w.grownBy w' (some b)) : Chg (· = b) w w' := ⟨h.os, h.tape, h.output, h.size, fun i hi hn => h.block i hi (fun e => hn (by injection e))⟩
theorem rat_kept {w w' : World} {b : Nat} {s : ByteArray} (h : Rat w b s) (he : w'.heap[b]? = w.heap[b]?) : Rat w' b s := by
  obtain ⟨h1, h2⟩ := h
  constructor
  · unfold World.cell? at h1 ⊢; rw [he]; exact h1
  · unfold World.frozen? at h2 ⊢; rw [he]; exact h2
theorem rat_lt {w : World} {b : Nat} {s : ByteArray} (h : Rat w b s) : b < w.heap.size := World.block_lt_of_cell? w _ h.1
theorem rat_alloc {w : World} {b : Nat} {s : ByteArray} (h : Rat w b s) (o : Obj) : Rat (w.alloc o) b s := rat_kept h (((Below.refl w.heap.size w).alloc (Nat.le_refl _) o).block b (rat_lt h))
theorem ext_ext (s : ByteArray) (m n : Nat) (h : m ≤ s.size) : (s.extract m s.size).extract n (s.extract m s.size).size = s.extract (m + n) s.size := by
  have e : (s.extract m s.size).size = s.size - m := by simp
  rw [e, ByteArray.extract_extract]
  congr 1
  omega
theorem store3 {w1 : World} {B : Nat} {T : TypeId} {v0 v1 v2 : Value} (h : w1.heap[B]? = some (.cells #[v0, v1, v2] T (0, 0))) (x0 x1 x2 : Value) :
    (w1.cell? ⟨B, 0, none⟩ = some v0 ∧ w1.frozen? ⟨B, 0, none⟩ = false) ∧ ((w1.setCell ⟨B, 0, none⟩ x0).cell? ⟨B, 1, none⟩ = some v1 ∧ (w1.setCell ⟨B, 0, none⟩ x0).frozen? ⟨B, 1, none⟩ = false) ∧
    (((w1.setCell ⟨B, 0, none⟩ x0).setCell ⟨B, 1, none⟩ x1).cell? ⟨B, 2, none⟩ = some v2 ∧ ((w1.setCell ⟨B, 0, none⟩ x0).setCell ⟨B, 1, none⟩ x1).frozen? ⟨B, 2, none⟩ = false) ∧
    (((w1.setCell ⟨B, 0, none⟩ x0).setCell ⟨B, 1, none⟩ x1).setCell ⟨B, 2, none⟩ x2).heap[B]? = some (.cells #[x0, x1, x2] T (0, 0)) ∧ Chg (· = B) w1 (((w1.setCell ⟨B, 0, none⟩ x0).setCell ⟨B, 1, none⟩ x1).setCell ⟨B, 2, none⟩ x2) := by
  have h1 : (w1.setCell ⟨B, 0, none⟩ x0).heap[B]? = some (.cells #[x0, v1, v2] T (0, 0)) := by rw [set_block h]; rfl
  have h2 : ((w1.setCell ⟨B, 0, none⟩ x0).setCell ⟨B, 1, none⟩ x1).heap[B]? = some (.cells #[x0, x1, v2] T (0, 0)) := by rw [set_block h1]; rfl
  have h3 : (((w1.setCell ⟨B, 0, none⟩ x0).setCell ⟨B, 1, none⟩ x1).setCell ⟨B, 2, none⟩ x2).heap[B]? = some (.cells #[x0, x1, x2] T (0, 0)) := by rw [set_block h2]; rfl
  refine ⟨⟨?_, ?_⟩, ⟨?_, ?_⟩, ⟨?_, ?_⟩, h3, ((chg_set (b := B) (k := 0) x0).then (chg_set (b := B) (k := 1) x1)).then (chg_set (b := B) (k := 2) x2)⟩
  · unfold World.cell?; rw [h]; rfl
  · unfold World.frozen?; rw [h]; simp
  · unfold World.cell?; rw [h1]; rfl
  · unfold World.frozen?; rw [h1]; simp
  · unfold World.cell?; rw [h2]; rfl
  · unfold World.frozen?; rw [h2]; simp
theorem results_cell_row_tmp {P : Program} {fn : Func} {p u : Tmp} {ty : TypeId} (h : fn.results = #[.cell p ty, .tmp u]) (tmps : Array Value) (w : World) (g : Nat) (t : TypeId) (cs : Array Value) (fr : Nat × Nat) (d : TypeDesc)
    (hp : tmps.getD p undef = .pointer (some ⟨g, 0, none⟩)) (hg : w.heap[g]? = some (.cells cs t fr))
    (hu : P.underlying ty = some d) (hd : (match d with | .struct _ | .array _ _ => true | _ => false) = true) (hi : (P.info? ty).map (·.size) = some cs.size) :
    (results fn tmps).run P w = .ok (.tuple #[.agg cs, tmps.getD u undef]) w := by
  have hp' : tmps[p]?.getD undef = .pointer (some ⟨g, 0, none⟩) := by simpa using hp
  rw [results_cell_tmp h]
  simp [hp', asAddr, run_loadVar_row w g t ty cs fr d hg hu hd hi, Result.andThen]
theorem infoCs : (Tryz.prog.info? 105).map (·.size) = some 3 := by kernel_rfl
theorem fin_chg {w w1 w2 : World} {b : Nat} {o : Obj} (hg : Chg (· = b) (w.alloc o) w1) (hc : Chg (· = w.heap.size) w1 w2) : Chg (· = b) w w2 :=
  ((Chg.of_below ((Below.refl w.heap.size w).alloc (Nat.le_refl _) o)).then hg).trans hc (fun i hi => .inr (by rw [hi]; exact Nat.le_refl _))
theorem blk_chg {w w1 : World} {b : Nat} {o : Obj} (hg : Chg (· = b) (w.alloc o) w1) (hb : b < w.heap.size) : w1.heap[w.heap.size]? = some o :=
  (hg.block w.heap.size (by simp) (fun e => by omega)).trans (new_at w o rfl)
def OpTo (b : Nat) (s : ByteArray) (w : World) (e : Ending) (w' : World) : Prop :=
  e = .returned (.tuple #[ov (rdOp s).1, .int .i64 ((rdOp s).2.2 : Nat)]) ∧ ((rdOp s).2.2 = 0 → Rat w' b (s.extract (rdOp s).2.1 s.size)) ∧ Chg (· = b) w w'
set_option maxRecDepth 100000 in
set_option maxHeartbeats 4000000 in
theorem readOp_any (b : Nat) (s : ByteArray) (w : World) (h : Rat w b s) (hs : s.size ≤ 1000000000000000000) :
    Calls Tryz.prog 134 #[.pointer (some ⟨b, 0, none⟩)] w (OpTo b s w) := by
  have hR0 := rat_alloc h (.cells #[.string ⟨#[]⟩, .string ⟨#[]⟩, .bool false] 105)
  have hsm : s.size ≤ maxLen := by unfold maxLen; omega
  have cu := uint_any b s _ hR0 hsm
  have hbw := rat_lt h
  unfold OpTo
  rcases rdOp_cases s with ⟨k, m, e, h0, he, h2⟩ | ⟨k, m, h0, hk, h2⟩ | ⟨k, m, t, n1, e, h0, hk, h1, he, h2⟩ | ⟨m, t, n1, h0, h1, h2⟩ | ⟨m, t, n1, t2, n2, e, h0, h1, h3, he, h2⟩ | ⟨m, t, n1, t2, n2, h0, h1, h3, h2⟩
  · rw [h0] at cu
    rw [h2]
    have ne := neZ he
    have HE := Lib.hid he
    clear h h0 h2 he hR0
    go_enter Tryz.func134, Tryz.ntmps134
    go_wp2_with fail
    go_at_call 111
    refine cu.mono ?_
    rintro e w1 ⟨rfl, hR1, hg1⟩
    have hG := chg_grown hg1
    obtain ⟨⟨a0, b0⟩, ⟨a1, b1⟩, ⟨a2, b2⟩, hb2, hc2⟩ := store3 (blk_chg hG hbw) (.string ⟨#[]⟩) (.string ⟨#[]⟩) (.bool false)
    go_wp2_with fail
    (try simp only [Exit.inBlock, Exit.then])
    refine bodyPost_ret (results_cell_row_tmp rfl _ _ _ _ _ _ _ rfl hb2 Tryz.underlying105 rfl infoCs) rfl ?_
    exact ⟨rfl, fun hh => absurd hh HE.out, fin_chg hG hc2⟩
  · rw [h0] at cu
    rw [h2]
    have n0 : ((k : Int) == 0) = false := by simp; omega
    have n1 : ((k : Int) == 1) = false := by simp; omega
    have q0 : ((k : Int) != 0) = true := by simp; omega
    have q1 : ((k : Int) != 1) = true := by simp; omega
    clear h h0 h2 hk hR0
    go_enter Tryz.func134, Tryz.ntmps134
    go_wp2_with fail
    go_at_call 111
    refine cu.mono ?_
    rintro e w1 ⟨rfl, hR1, hg1⟩
    have hG := chg_grown hg1
    obtain ⟨⟨a0, b0⟩, ⟨a1, b1⟩, ⟨a2, b2⟩, hb2, hc2⟩ := store3 (blk_chg hG hbw) (.string ⟨#[]⟩) (.string ⟨#[]⟩) (.bool false)
    go_wp2_with fail
    (try simp only [Exit.inBlock, Exit.then])
    refine bodyPost_ret (results_cell_row_tmp rfl _ _ _ _ _ _ _ rfl hb2 Tryz.underlying105 rfl infoCs) rfl ?_
    exact ⟨rfl, fun hh => absurd hh (by decide), fin_chg hG hc2⟩
  · rw [h2]
    have hm : m ≤ s.size := by have := (rdU_ok h0).1; rwa [Wm.len_l] at this
    have hs1 : (s.extract m s.size).size ≤ maxLen := by rw [ByteArray.size_extract]; omega
    have ne := neZ he
    have HE := Lib.hid he
    clear h h2 he hR0
    rcases (show k = 0 ∨ k = 1 by omega) with rfl | rfl
    · rw [h0] at cu
      clear h0 hk
      go_enter Tryz.func134, Tryz.ntmps134
      go_wp2_with fail
      go_at_call 111
      refine cu.mono ?_
      rintro e w1 ⟨rfl, hR1, hg1⟩
      have hG := chg_grown hg1
      have ct := text_any b _ w1 hR1 hs1
      rw [h1] at ct
      clear h1
      go_wp2_with fail
      go_at_call 97
      refine ct.mono ?_
      rintro e w2 ⟨rfl, hR2, hg2⟩
      have hG := hG.then (chg_grown hg2)
      obtain ⟨⟨a0, b0⟩, ⟨a1, b1⟩, ⟨a2, b2⟩, hb2, hc2⟩ := store3 (blk_chg hG hbw) (.string ⟨#[]⟩) (.string ⟨#[]⟩) (.bool false)
      go_wp2_with fail
      (try simp only [Exit.inBlock, Exit.then])
      refine bodyPost_ret (results_cell_row_tmp rfl _ _ _ _ _ _ _ rfl hb2 Tryz.underlying105 rfl infoCs) rfl ?_
      exact ⟨rfl, fun hh => absurd hh HE.out, fin_chg hG hc2⟩
    · rw [h0] at cu
      clear h0 hk
      go_enter Tryz.func134, Tryz.ntmps134
      go_wp2_with fail
      go_at_call 111
      refine cu.mono ?_
      rintro e w1 ⟨rfl, hR1, hg1⟩
      have hG := chg_grown hg1
      have ct := text_any b _ w1 hR1 hs1
      rw [h1] at ct
      clear h1
      go_wp2_with fail
      go_at_call 97
      refine ct.mono ?_
      rintro e w2 ⟨rfl, hR2, hg2⟩
      have hG := hG.then (chg_grown hg2)
      obtain ⟨⟨a0, b0⟩, ⟨a1, b1⟩, ⟨a2, b2⟩, hb2, hc2⟩ := store3 (blk_chg hG hbw) (.string ⟨#[]⟩) (.string ⟨#[]⟩) (.bool false)
      go_wp2_with fail
      (try simp only [Exit.inBlock, Exit.then])
      refine bodyPost_ret (results_cell_row_tmp rfl _ _ _ _ _ _ _ rfl hb2 Tryz.underlying105 rfl infoCs) rfl ?_
      exact ⟨rfl, fun hh => absurd hh HE.out, fin_chg hG hc2⟩
  · rw [h2]
    have hm : m ≤ s.size := by have := (rdU_ok h0).1; rwa [Wm.len_l] at this
    have hs1 : (s.extract m s.size).size ≤ maxLen := by rw [ByteArray.size_extract]; omega
    rw [h0] at cu
    clear h h0 h2 hR0
    go_enter Tryz.func134, Tryz.ntmps134
    go_wp2_with fail
    go_at_call 111
    refine cu.mono ?_
    rintro e w1 ⟨rfl, hR1, hg1⟩
    have hG := chg_grown hg1
    have ct := text_any b _ w1 hR1 hs1
    rw [h1] at ct
    clear h1
    go_wp2_with fail
    go_at_call 97
    refine ct.mono ?_
    rintro e w2 ⟨rfl, hR2, hg2⟩
    have hG := hG.then (chg_grown hg2)
    rw [ext_ext s m n1 hm] at hR2
    obtain ⟨⟨a0, b0⟩, ⟨a1, b1⟩, ⟨a2, b2⟩, hb2, hc2⟩ := store3 (blk_chg hG hbw) (.string t) (.string ⟨#[]⟩) (.bool true)
    go_wp2_with fail
    (try simp only [Exit.inBlock, Exit.then])
    refine bodyPost_ret (results_cell_row_tmp rfl _ _ _ _ _ _ _ rfl hb2 Tryz.underlying105 rfl infoCs) rfl ?_
    exact ⟨rfl, fun _ => rat_kept hR2 (hc2.block b (rat_lt hR2) (fun e => by omega)), fin_chg hG hc2⟩
  · rw [h2]
    have hm : m ≤ s.size := by have := (rdU_ok h0).1; rwa [Wm.len_l] at this
    have hs1 : (s.extract m s.size).size ≤ maxLen := by rw [ByteArray.size_extract]; omega
    have hs2 : (s.extract (m + n1) s.size).size ≤ maxLen := by rw [ByteArray.size_extract]; omega
    have ne := neZ he
    have HE := Lib.hid he
    rw [h0] at cu
    clear h h0 h2 he hR0
    go_enter Tryz.func134, Tryz.ntmps134
    go_wp2_with fail
    go_at_call 111
    refine cu.mono ?_
    rintro e w1 ⟨rfl, hR1, hg1⟩
    have hG := chg_grown hg1
    have ct := text_any b _ w1 hR1 hs1
    rw [h1] at ct
    clear h1
    go_wp2_with fail
    go_at_call 97
    refine ct.mono ?_
    rintro e w2 ⟨rfl, hR2, hg2⟩
    have hG := hG.then (chg_grown hg2)
    rw [ext_ext s m n1 hm] at hR2
    have ct2 := text_any b _ w2 hR2 hs2
    rw [h3] at ct2
    clear h3
    go_wp2_with fail
    go_at_call 97
    refine ct2.mono ?_
    rintro e w3 ⟨rfl, hR3, hg3⟩
    have hG := hG.then (chg_grown hg3)
    obtain ⟨⟨a0, b0⟩, ⟨a1, b1⟩, ⟨a2, b2⟩, hb2, hc2⟩ := store3 (blk_chg hG hbw) (.string ⟨#[]⟩) (.string ⟨#[]⟩) (.bool false)
    go_wp2_with fail
    (try simp only [Exit.inBlock, Exit.then])
    refine bodyPost_ret (results_cell_row_tmp rfl _ _ _ _ _ _ _ rfl hb2 Tryz.underlying105 rfl infoCs) rfl ?_
    exact ⟨rfl, fun hh => absurd hh HE.out, fin_chg hG hc2⟩
  · rw [h2]
    have hm : m ≤ s.size := by have := (rdU_ok h0).1; rwa [Wm.len_l] at this
    have hs1 : (s.extract m s.size).size ≤ maxLen := by rw [ByteArray.size_extract]; omega
    have hs2 : (s.extract (m + n1) s.size).size ≤ maxLen := by rw [ByteArray.size_extract]; omega
    have hmn : m + n1 ≤ s.size := by have := (rdT_ok h1).1; rw [ByteArray.size_extract] at this; omega
    rw [h0] at cu
    clear h h0 h2 hR0
    go_enter Tryz.func134, Tryz.ntmps134
    go_wp2_with fail
    go_at_call 111
    refine cu.mono ?_
    rintro e w1 ⟨rfl, hR1, hg1⟩
    have hG := chg_grown hg1
    have ct := text_any b _ w1 hR1 hs1
    rw [h1] at ct
    clear h1
    go_wp2_with fail
    go_at_call 97
    refine ct.mono ?_
    rintro e w2 ⟨rfl, hR2, hg2⟩
    have hG := hG.then (chg_grown hg2)
    rw [ext_ext s m n1 hm] at hR2
    have ct2 := text_any b _ w2 hR2 hs2
    rw [h3] at ct2
    clear h3
    go_wp2_with fail
    go_at_call 97
    refine ct2.mono ?_
    rintro e w3 ⟨rfl, hR3, hg3⟩
    have hG := hG.then (chg_grown hg3)
    rw [ext_ext s (m + n1) n2 hmn] at hR3
    obtain ⟨⟨a0, b0⟩, ⟨a1, b1⟩, ⟨a2, b2⟩, hb2, hc2⟩ := store3 (blk_chg hG hbw) (.string t) (.string t2) (.bool false)
    go_wp2_with fail
    (try simp only [Exit.inBlock, Exit.then])
    refine bodyPost_ret (results_cell_row_tmp rfl _ _ _ _ _ _ _ rfl hb2 Tryz.underlying105 rfl infoCs) rfl ?_
    exact ⟨rfl, fun _ => rat_kept hR3 (hc2.block b (rat_lt hR3) (fun e => by omega)), fin_chg hG hc2⟩
end Go.Proofs.YtdkgkomjbpggeaaGreatDoor.Tb

namespace Go.Proofs.YtdkgkomjbpggeaaGreatDoor.Tb
open Go.RowKit Tx Pm Dk Wm Wr
set_option linter.unusedVariables false
set_option linter.unusedSimpArgs false
set_option linter.unnecessarySimpa false
def OpsTo (s : ByteArray) (w : World) (e : Ending) (w' : World) : Prop := ∃ v, e = .returned (.tuple #[v, .int .i64 ((opsS s).2 : Nat)]) ∧ OwnC w' w.heap.size v (opsS s).1 ∧ Below w.heap.size w w'
theorem below_chgB {w w1 w2 : World} {b : Nat} (h : Below w.heap.size w w1) (hc : Chg (· = b) w1 w2) (hb : w.heap.size ≤ b) : Below w.heap.size w w2 := h.trans (hc.below h.size (fun i hi => by omega))
theorem own_chg {w w1 : World} {B n size : Nat} {e : TypeId} {v : Value} {xs : List Value} {F : Nat → Prop} (h : w.ownsRow B e size v n xs) (hc : Chg F w w1) (hF : ∀ g, v.ownBlock = some g → ¬ F g) : w1.ownsRow B e size v n xs :=
  own_kept h (fun g hg => hc.block g (h.lt g hg).2 (hF g hg))
theorem own_less {w : World} {B C n size : Nat} {e : TypeId} {v : Value} {xs : List Value} (h : w.ownsRow C e size v n xs) (hB : B ≤ C) : w.ownsRow B e size v n xs := by
  refine ⟨h.1, ?_⟩
  rcases h.2 with h0 | ⟨g, cap, cur, hv, hg, hh, r⟩
  · exact .inl h0
  · exact .inr ⟨g, cap, cur, hv, Nat.le_trans hB hg, hh, r⟩
theorem cells_one (c : Ch) : ∀ u ∈ cellsC c, u.oneCell' = true := by
  intro u hu
  simp only [cellsC, List.mem_cons, List.not_mem_nil, or_false] at hu
  rcases hu with rfl | rfl | rfl <;> rfl
theorem nil_OwnC (w : World) (B : Nat) : OwnC w B (.slice none 0 0) [] := World.ownsRow_nil _ _ _ _
theorem new3 (W : World) (c : Ch) {z : Nat} (hz : z = W.heap.size) : ∀ (j : Nat) (u : Value), (cellsC c)[j]? = some u → (W.alloc (.cells #[.string c.key, .string c.val, .bool c.gone] 105)).cell? (Addr.add ⟨z, 0, none⟩ j) = some u := by
  subst hz
  intro j u hu
  rw [WideShapes.add_plain, Nat.zero_add, World.cell?_alloc_at _ _ _ _ rfl]
  match j, hu with
  | 0, hu => simpa [cellsC] using hu
  | 1, hu => simpa [cellsC] using hu
  | 2, hu => simpa [cellsC] using hu
  | j + 3, hu => simp [cellsC] at hu
set_option maxRecDepth 100000 in
set_option maxHeartbeats 4000000 in
theorem ops_any (s : ByteArray) (w : World) (hs : s.size ≤ 1000000000000) : Calls Tryz.prog 99 #[.string s] w (OpsTo s w) := by
  have hsm : s.size ≤ maxLen := by unfold maxLen; omega
  have cn := new_any s w
  have hR0 := rat_new w s
  have hB0 : Below w.heap.size w (w.alloc (.cells #[.string s] 172)) := (Below.refl _ w).alloc (Nat.le_refl _) _
  have cu := uint_any w.heap.size s _ hR0 hsm
  unfold OpsTo
  obtain ⟨k, m, e0, h0⟩ := Fm.trip (rdU s.data.toList)
  rw [h0] at cu
  by_cases he : e0 = 0
  · subst he
    obtain ⟨hm, _, _, hk63, hk⟩ := rdU_ok h0
    rw [Wm.len_l] at hm
    have H0 := Lib.hid h0
    obtain ⟨i0, hi, hz0, hz1, hz2⟩ := info_parts infoC
    clear hR0 h0
    go_enter Tryz.func99, Tryz.ntmps99
    go_wp2_with (go_at_call 96; refine cn.mono ?_; rintro e w1 ⟨rfl, rfl⟩)
    go_at_call 111
    refine cu.mono ?_
    rintro e w1 ⟨rfl, hR1, hg1⟩
    have hB1 : Below w.heap.size w w1 := below_chgB hB0 (chg_grown hg1) (Nat.le_refl _)
    go_wp2_with fail
    go_loopw [7, 22] (fun v iv wr => ∃ (i a T : Nat) (out : List Ch), i ≤ k ∧ iv = .int .i64 i ∧ Hid (rdN s k m = (out ++ (rdN s (k - i) a).1, (rdN s (k - i) a).2.1, (rdN s (k - i) a).2.2)) ∧ Hid (out.length = T) ∧ 2 * T ≤ a ∧ a ≤ s.size ∧ Rat wr w.heap.size (s.extract a s.size) ∧ wr.ownsRow (w.heap.size + 1) 105 3 v T (out.flatMap cellsC) ∧ Below w.heap.size w wr) (fun _ iv _ => k - (intOf iv).toNat)
    case atStart => exact ⟨0, m, 0, [], Nat.zero_le _, rfl, by show rdN s k m = _; rw [Nat.sub_zero]; rfl, rfl, by omega, hm, hR1, World.ownsRow_nil _ _ _ _, hB1⟩
    case round =>
      obtain ⟨i, a, T, out, hik, rfl, hrd, hT, hTa, has, hR, hown, hB⟩ := hrel
      have hxs : (s.extract a s.size).size ≤ 1000000000000000000 := by rw [ByteArray.size_extract]; omega
      by_cases hlt : i < k
      · have cr := readOp_any w.heap.size (s.extract a s.size) wr hR hxs
        unfold OpTo at cr
        obtain ⟨c, n, e, h1⟩ := Fm.trip (rdOp (s.extract a s.size))
        rw [h1] at cr
        have hki : k - i = (k - i - 1) + 1 := by omega
        have hikz : (i : Int) < (k : Int) := by omega
        by_cases he : e = 0
        · subst he
          have hrd2 := hrd.out
          rw [hki, rdN_one h1] at hrd2
          have hrd3 : rdN s k m = ((out ++ [c]) ++ (rdN s (k - (i + 1)) (a + n)).1, (rdN s (k - (i + 1)) (a + n)).2.1, (rdN s (k - (i + 1)) (a + n)).2.2) := by
            rw [hrd2, show k - i - 1 = k - (i + 1) by omega, List.append_assoc]; rfl
          obtain ⟨hn1, _, hn2, _⟩ := rdOp_ok h1
          rw [ByteArray.size_extract, Nat.min_self] at hn1
          have HRD := Lib.hid hrd3
          obtain ⟨key, val, gone⟩ := c
          simp only [ov] at cr
          clear hrd hrd2 hrd3 h1 hR
          go_wp2_with fail
          go_at_call 134
          refine cr.mono ?_
          rintro e w5 ⟨rfl, hR5, hc5⟩
          have hR5 := hR5 trivial
          rw [ext_ext s a n has] at hR5
          have hO5 := own_chg hown hc5 (fun g hg => by have := (hown.lt g hg).1; omega)
          have hB5 := below_chgB hB hc5 (Nat.le_refl _)
          have hTs : T + 1 ≤ 1000000000000 := by omega
          go_wp2_with (at_builtin; refine wpList_append_own _ rfl _ _ 74 rfl (w.heap.size + 1) 105 i0 (ov ch0) 3 40 Tryz.underlying74 hi hz0 hz1 hz2 rfl (by decide) _ _ _ rfl ((hO5.alloc (.cells #[.string key, .string val, .bool gone] 105)).alloc _) ⟨w5.heap.size + 1, 0, none⟩ 1 1 [.string key, .string val, .bool gone] rfl rfl ?c1 ?c2 ?c3 ?c4 ?c5 ?_)
          case c1 => exact new3 (w5.alloc (.cells #[.string key, .string val, .bool gone] 105)) ⟨key, val, gone⟩ (by simp)
          case c2 => exact cells_one ⟨key, val, gone⟩
          case c3 => unfold maxLen; omega
          case c4 => omega
          case c5 => have := hB5.size; simp; have := rat_lt hR5; omega
          intro v' w6 hown6 hgrow6 _
          have hR6 : Rat w6 w.heap.size (s.extract (a + n) s.size) := rat_kept (rat_alloc (rat_alloc hR5 _) _) (hgrow6.block _ (by have := rat_lt hR5; simp; omega) (fun e => by have := (hO5.lt _ e.symm).1; omega))
          have hB6 : Below w.heap.size w w6 := ((hB5.alloc hB5.size _).alloc (by simp; have := hB5.size; omega) _).grown hgrow6 (by simp; have := hB5.size; omega) (fun g hg => by have := (hO5.lt g hg).1; omega)
          have hO6 : w6.ownsRow (w.heap.size + 1) 105 3 v' (T + 1) ((out ++ [(⟨key, val, gone⟩ : Ch)]).flatMap cellsC) := by
            rw [List.flatMap_append]
            exact hown6
          have hlen : (out ++ [(⟨key, val, gone⟩ : Ch)]).length = T + 1 := by rw [List.length_append, hT.out]; rfl
          clear hown6 hgrow6 hO5 hB5 hR5 hown hB hT
          go_wp2_with fail
          go_roundw
          case rel => exact ⟨i + 1, a + n, T + 1, out ++ [(⟨key, val, gone⟩ : Ch)], by omega, by go_num, HRD.out, hlen, by omega, by omega, hR6, hO6, hB6⟩
          case measure => simp [intOf]; omega
        · have hrd2 := hrd.out
          rw [hki, rdN_bad h1 he] at hrd2
          have hops : opsS s = ([], e) := opsS_2 H0.out hrd2 he
          have ne := neZ he
          have HOPS := Lib.hid hops
          simp only [ov, ch0] at cr
          clear hrd hrd2 hops h1 hR he
          go_wp2_with fail
          go_at_call 134
          refine cr.mono ?_
          rintro e w5 ⟨rfl, _, hc5⟩
          have hB5 := below_chgB hB hc5 (Nat.le_refl _)
          go_wp2_with fail
          go_ret2
          rw [HOPS.out]
          exact ⟨_, rfl, nil_OwnC _ _, hB5.alloc hB5.size _⟩
      · obtain rfl : i = k := by omega
        have hrd2 := hrd.out
        rw [Nat.sub_self] at hrd2
        simp only [rdN, List.append_nil] at hrd2
        have cd := done_any w.heap.size (s.extract a s.size) wr hR (by unfold maxLen; omega)
        have hsz : (s.extract a s.size).size = s.size - a := by simp
        rw [hsz] at cd
        obtain ⟨av, cv, hv⟩ : ∃ av cv, u7 = .slice av T cv := by
          rcases hown.2 with ⟨hv, h0⟩ | ⟨g, cap, cur, hv, _⟩
          · exact ⟨none, 0, by rw [hv, h0]⟩
          · exact ⟨_, _, hv⟩
        have hO : OwnC wr w.heap.size u7 out := by unfold OwnC; rw [hT.out]; exact own_less hown (by omega)
        by_cases ha : a < s.size
        · have hd : dn (s.size - a) = 5 := by unfold dn; rw [if_neg (by omega)]
          rw [hd] at cd
          have hops : opsS s = ([], 5) := opsS_3 H0.out hrd2 ha
          have HOPS := Lib.hid hops
          clear hrd hrd2 hops hR hO hown hT
          subst hv
          go_wp2_with fail
          go_at_call 135
          refine cd.mono ?_
          rintro e w5 ⟨rfl, rfl⟩
          go_wp2_with fail
          go_ret2
          rw [HOPS.out]
          exact ⟨_, rfl, nil_OwnC _ _, hB⟩
        · have hd : dn (s.size - a) = 0 := by unfold dn; rw [if_pos (by omega)]
          rw [hd] at cd
          have hops : opsS s = (out, 0) := opsS_4 H0.out hrd2 ha
          have HOPS := Lib.hid hops
          have HO := Lib.hid hO
          clear hrd hrd2 hops hR hO hown hT
          subst hv
          go_wp2_with fail
          go_at_call 135
          refine cd.mono ?_
          rintro e w5 ⟨rfl, rfl⟩
          go_wp2_with fail
          go_ret2
          rw [HOPS.out]
          exact ⟨_, rfl, HO.out, hB⟩
  · have hops : opsS s = ([], e0) := opsS_1 h0 he
    have ne := neZ he
    rw [hops]
    clear hR0 h0 hops he
    go_enter Tryz.func99, Tryz.ntmps99
    go_wp2_with (go_at_call 96; refine cn.mono ?_; rintro e w1 ⟨rfl, rfl⟩)
    go_at_call 111
    refine cu.mono ?_
    rintro e w1 ⟨rfl, hR1, hg1⟩
    have hB1 : Below w.heap.size w w1 := below_chgB hB0 (chg_grown hg1) (Nat.le_refl _)
    go_wp2_with fail
    go_ret2
    exact ⟨_, rfl, nil_OwnC _ _, hB1⟩
end Go.Proofs.YtdkgkomjbpggeaaGreatDoor.Tb

namespace Go.Proofs.YtdkgkomjbpggeaaGreatDoor.Tb
open Go.RowKit Tx Pm Dk Wm Wr Wl Pl
set_option linter.unusedVariables false
set_option linter.unusedSimpArgs false
set_option linter.unnecessarySimpa false
theorem Mo.below {w w1 : World} {bm : Nat} {L : List It} (h : Mo w bm L) (hb : Below w.heap.size w w1) : Mo w1 bm L := h.kept (hb.block bm h.lt)
theorem held_all (L : List It) : held (pre7 ⟨#[]⟩) L = L.map (·.path) := by
  unfold held
  congr 1
  refine List.filter_eq_self.2 (fun x _ => ?_)
  unfold pre7 Lib.hasPrefix
  rfl
set_option maxRecDepth 100000 in
set_option maxHeartbeats 2000000 in
theorem whole_any (t m : Nat) (L : List It) (w : World) (ht : w.cell? ⟨t, 3, none⟩ = some (.map (some m))) (hm : Mo w m L) (hR : Rises L) (hn : L.length ≤ 1000000000) (hps : ∀ x ∈ L, x.path.size ≤ 1000000000000) :
    Calls Tryz.prog 85 #[.pointer (some ⟨t, 0, none⟩)] w fun e w' => ∃ v, e = .returned v ∧ OwnC w' w.heap.size v (whole7 L) ∧ Below w.heap.size w w' := by
  obtain ⟨i0, hi, hz0, hz1, hz2⟩ := info_parts infoC
  have ck := tKeys_any t m L ⟨#[]⟩ w ht hm hR hn hps (by decide)
  rw [held_all] at ck
  have htl := World.block_lt_of_cell? w _ ht
  have HR := Lib.hid hR
  have HM := Lib.hid hm
  have HP := Lib.hid hps
  obtain ⟨n, hnL⟩ : ∃ n, n = L.length := ⟨_, rfl⟩
  have HL := Lib.hid hnL
  rw [← hnL] at hn
  have hlm : (L.map (·.path)).length = n := by rw [List.length_map, hnL]
  clear hR hm hnL hps
  go_enter Tryz.func85, Tryz.ntmps85
  go_wp2_with fail
  go_at_call 52
  refine ck.mono ?_
  rintro e w1 ⟨vK, rfl, hK, hb1⟩
  obtain ⟨aK, cK, hv, hsK, hcK, _⟩ := hK.form
  rw [hlm] at hv hsK hcK
  have HSK := Lib.hid (fun W (hW : Below w1.heap.size w1 W) => hsK.below hW)
  have ht1 := (hb1.cell (p := ⟨t, 3, none⟩) htl).trans ht
  have HM1 := Lib.hid (HM.out.below hb1)
  have hsz1 := hb1.size
  clear hK hsK hlm
  subst hv
  go_wp2_with fail
  go_loopw [3, 9] (fun v iv wr => ∃ k : Nat, k ≤ n ∧ iv = .int .i64 k ∧ wr.ownsRow w1.heap.size 105 3 v k ((whole7 (L.take k)).flatMap cellsC) ∧ Below w1.heap.size w1 wr) (fun _ iv _ => n - (intOf iv).toNat)
  case atStart => exact ⟨0, Nat.zero_le _, rfl, World.ownsRow_nil _ _ _ _, Below.refl _ _⟩
  case round =>
    obtain ⟨k, hk, rfl, hown, hB⟩ := hrel
    by_cases hlt : k < n
    · obtain ⟨x, hx⟩ : ∃ x, L[k]? = some x := ⟨_, List.getElem?_eq_getElem (by rw [← HL.out]; exact hlt)⟩
      have hxk : (L.map (·.path))[k]? = some x.path := by rw [List.getElem?_map, hx]; rfl
      obtain ⟨_, hne⟩ := HSK.out _ hB
      obtain ⟨bk, off, rfl, hbk, hcc⟩ := hne.resolve_left (by omega)
      have g0 := hcc k x.path hxk
      have hkz : (k : Int) < (n : Int) := by omega
      have htr := (hB.cell (p := ⟨t, 3, none⟩) (World.block_lt_of_cell? w1 _ ht1)).trans ht1
      have hl := (HM1.out.below hB).look (p := x.path) (by have := HP.out x (List.mem_of_getElem? hx); unfold maxLen; omega)
      have hlc : lookC L x.path = chOf x := by unfold lookC; rw [find_paths HR.out (List.mem_of_getElem? hx)]
      rw [hlc] at hl
      have htk : whole7 (L.take (k + 1)) = whole7 (L.take k) ++ [chOf x] := by
        have hkl := (List.getElem?_eq_some_iff.1 hx).1
        rw [List.take_succ_eq_append_getElem hkl]
        rw [List.getElem?_eq_getElem hkl] at hx
        injection hx with hx
        unfold whole7
        rw [List.map_append, hx]
        rfl
      have HTK := Lib.hid htk
      obtain ⟨P, D⟩ : ∃ P : ByteArray × ByteArray, P = (x.path, x.data) := ⟨_, rfl⟩
      simp only [chOf, ov] at hl
      clear hx hxk hcc hne hlc htk
      go_wp2_with (at_builtin; refine wpList_append_own _ rfl _ _ 74 rfl w1.heap.size 105 i0 (ov ch0) 3 40 Tryz.underlying74 hi hz0 hz1 hz2 rfl (by decide) _ _ _ rfl (hown.alloc _) ⟨wr.heap.size, 0, none⟩ 1 1 [.string x.path, .string x.data, .bool false] rfl rfl ?c1 ?c2 ?c3 ?c4 ?c5 ?_)
      case c1 => exact new3 wr (chOf x) rfl
      case c2 => exact cells_one (chOf x)
      case c3 => unfold maxLen; omega
      case c4 => omega
      case c5 => have := hB.size; simp; omega
      intro v' w6 hown6 hgrow6 _
      have hB6 : Below w1.heap.size w1 w6 := (hB.alloc hB.size _).grown hgrow6 (by simp; have := hB.size; omega) (fun g hg => (hown.lt g hg).1)
      have hO6 : w6.ownsRow w1.heap.size 105 3 v' (k + 1) ((whole7 (L.take (k + 1))).flatMap cellsC) := by
        rw [HTK.out, List.flatMap_append]
        exact hown6
      clear hown6 hgrow6 hown hB
      go_wp2_with fail
      go_roundw
      case rel => exact ⟨k + 1, by omega, by go_num, hO6, hB6⟩
      case measure => simp [intOf]; omega
    · obtain rfl : k = n := by omega
      have hO : OwnC wr w.heap.size u3 (whole7 L) := by
        have e : L.take k = L := List.take_of_length_le (by rw [← HL.out]; exact Nat.le_refl _)
        rw [e] at hown
        unfold OwnC
        have e2 : (whole7 L).length = k := by unfold whole7; rw [List.length_map]; exact HL.out.symm
        rw [e2]
        exact own_less hown hsz1
      obtain ⟨a9, c9, hv9, _⟩ := hO.form
      have hb9 := Tx.below_call hb1 hB
      have HO := Lib.hid hO
      obtain ⟨n9, hn9⟩ : ∃ n9, n9 = (whole7 L).length := ⟨_, rfl⟩
      rw [← hn9] at hv9
      clear hO hown hn9
      subst hv9
      go_wp2_with fail
      go_ret
      exact ⟨_, rfl, HO.out, hb9⟩
set_option maxRecDepth 100000 in
set_option maxHeartbeats 2000000 in
theorem do_any (t m : Nat) (L : List It) (a : Option Addr) (n c : Nat) (l : List Ch) (w : World) (ht : w.cell? ⟨t, 3, none⟩ = some (.map (some m))) (hm : Mo w m L) (hR : Rises L) (hO : Opl w a n l) (hn : L.length + n ≤ 1000000000) (hps : ∀ x ∈ l, x.key.size ≤ 1000000000000) (hc : n ≤ c) :
    Calls Tryz.prog 48 #[.pointer (some ⟨t, 0, none⟩), .slice a n c] w fun e w' => e = .returned (.tuple #[]) ∧ Mo w' m (all7 L l) ∧ Chg (· = m) w w' := by
  have htl := World.block_lt_of_cell? w _ ht
  have htm : t ≠ m := fun e => by
    subst e
    obtain ⟨D, ⟨es, ck, hb, _⟩, _⟩ := hm
    unfold World.cell? at ht
    rw [hb] at ht
    cases ht
  have hom : ∀ g off, a = some ⟨g, off, none⟩ → 0 < n → g ≠ m := by
    rintro g off rfl hp rfl
    obtain ⟨x, hx⟩ : ∃ x, l[0]? = some x := ⟨_, List.getElem?_eq_getElem (by rw [hO.1]; exact hp)⟩
    obtain ⟨g', off', e1, _, g0, _⟩ := hO.nth hx
    injection e1 with e1
    injection e1 with e1 e2
    subst e1 e2
    obtain ⟨D, ⟨es, ck, hb, _⟩, _⟩ := hm
    unfold World.cell? at g0
    rw [hb] at g0
    cases g0
  have HOM := Lib.hid hom
  have HO := Lib.hid hO
  have HR := Lib.hid hR
  have HP := Lib.hid hps
  clear hO hR hps hom
  go_enter Tryz.func48, Tryz.ntmps48
  go_wp2_with fail
  go_loopw [8] (fun iv wr => ∃ k : Nat, k ≤ n ∧ iv = .int .i64 k ∧ Mo wr m (all7 L (l.take k)) ∧ Chg (· = m) w wr) (fun iv _ => n - (intOf iv).toNat)
  case atStart => exact ⟨0, Nat.zero_le _, rfl, hm, Chg.refl _ _⟩
  case round =>
    obtain ⟨k, hk, rfl, hmo, hch⟩ := hrel
    by_cases hlt : k < n
    · obtain ⟨x, hx⟩ : ∃ x, l[k]? = some x := ⟨_, List.getElem?_eq_getElem (by rw [HO.out.1]; exact hlt)⟩
      obtain ⟨g, off, rfl, hg, g0, g1, g2⟩ := HO.out.nth hx
      have hgm : g ≠ m := HOM.out g off rfl (by omega)
      have hbg := hch.block g hg hgm
      have h0 : wr.cell? ⟨g, off + k * 3, none⟩ = some (.string x.key) := by unfold World.cell? at g0 ⊢; rw [hbg]; exact g0
      have h1 : wr.cell? ⟨g, off + k * 3 + 1, none⟩ = some (.string x.val) := by unfold World.cell? at g1 ⊢; rw [hbg]; exact g1
      have h2 : wr.cell? ⟨g, off + k * 3 + 1 + 1, none⟩ = some (.bool x.gone) := by unfold World.cell? at g2 ⊢; rw [hbg]; exact g2
      have hbt := hch.block t htl htm
      have htr : wr.cell? ⟨t, 3, none⟩ = some (.map (some m)) := by unfold World.cell? at ht ⊢; rw [hbt]; exact ht
      have hkz : (k : Int) < (n : Int) := by omega
      have hks := HP.out x (List.mem_of_getElem? hx)
      have hrs := rises_all HR.out (l.take k)
      have hln := len_all L (l.take k)
      have hlk : (l.take k).length ≤ k := by rw [List.length_take]; omega
      have htk : all7 L (l.take (k + 1)) = app (all7 L (l.take k)) x := by
        have hkl := (List.getElem?_eq_some_iff.1 hx).1
        rw [List.take_succ_eq_append_getElem hkl, all7_snoc]
        rw [List.getElem?_eq_getElem hkl] at hx
        injection hx with hx
        rw [hx]
      have HTK := Lib.hid htk
      have hB2 : Below wr.heap.size wr (wr.alloc (.cells #[.string x.key, .string x.val, .bool x.gone] 105)).drew := ((Below.refl _ wr).alloc (Nat.le_refl _) _).drew
      have hmo2 := hmo.below hB2
      obtain ⟨key, val, gone⟩ := x
      have htr2 := (hB2.cell (p := ⟨t, 3, none⟩) (World.block_lt_of_cell? wr _ htr)).trans htr
      simp only at h0 h1 h2 hks hB2 hmo2
      cases gone
      · obtain ⟨w3, hrun, hm3, hturn⟩ := hmo2.store (c := ⟨key, val, false⟩) rfl (by show key.size ≤ _; unfold maxLen; omega) (by unfold maxLen; omega)
        have hc3 : Chg (· = m) w w3 := (hch.then (Chg.of_below hB2)).then (turned_chg hturn)
        rw [← HTK.out] at hm3
        simp only [ov] at hrun
        have HM3 := Lib.hid hm3
        have HC3 := Lib.hid hc3
        clear hmo hmo2 hch hB2 hx g0 g1 g2 hbg hbt hturn hm3 hc3 htk hrs hln hlk
        go_wp2_with fail
        go_region
        all_goals
          go_wp2_with fail
          go_roundw
          case rel => exact ⟨k + 1, by omega, by go_num, HM3.out, HC3.out⟩
          case measure => simp [intOf]; omega
      · obtain ⟨w3, hrun, hm3, hturn⟩ := hmo2.del hrs (c := ⟨key, val, true⟩) rfl (by show key.size ≤ _; unfold maxLen; omega) 0
        have hc3 : Chg (· = m) w w3 := (hch.then (Chg.of_below hB2)).then (turned_chg hturn)
        rw [← HTK.out] at hm3
        have HM3 := Lib.hid hm3
        have HC3 := Lib.hid hc3
        clear hmo hmo2 hch hB2 hx g0 g1 g2 hbg hbt hturn hm3 hc3 htk hrs hln hlk
        go_wp2_with fail
        go_region
        all_goals
          go_wp2_with fail
          go_roundw
          case rel => exact ⟨k + 1, by omega, by go_num, HM3.out, HC3.out⟩
          case measure => simp [intOf]; omega
    · obtain rfl : k = n := by omega
      have e : l.take k = l := List.take_of_length_le (by rw [HO.out.1]; exact Nat.le_refl _)
      rw [e] at hmo
      go_wp2_with fail
      go_end0
      exact ⟨rfl, hmo, hch⟩
end Go.Proofs.YtdkgkomjbpggeaaGreatDoor.Tb

namespace Go.Proofs.YtdkgkomjbpggeaaGreatDoor.Wr
open Go.RowKit Wm
set_option linter.unusedVariables false
set_option maxRecDepth 100000 in
set_option maxHeartbeats 400000 in
theorem whole_w (s : ByteArray) (w : World) (hs : s.size ≤ 1000000000000000000) :
    Calls Tryz.prog 159 #[.string s] w fun e w' => e = .returned (.tuple #[.int .u64 ((rd s.data.toList).1 : Int), .int .i64 ((rd s.data.toList).2.1 : Int), .int .i64 ((rd s.data.toList).2.2 : Int)]) ∧ w = w' := by
  go_enter Tryz.func159, Tryz.ntmps159
  go_wp2
  go_loop [2, 5] (fun x i => ∃ k : Nat, k ≤ s.size ∧ k ≤ 9 ∧ Hid (k ≤ lead s.data.toList 9) ∧ i = .int .i64 k ∧ x = .int .u64 (pv s.data.toList k : Nat)) (fun _ i => s.size - (intOf i).toNat)
  case atStart => exact ⟨0, Nat.zero_le _, by omega, Nat.zero_le _, rfl, by rw [pv_zero]; rfl⟩
  case round =>
    obtain ⟨k, hk, hk9, hl, rfl, rfl⟩ := hrel
    by_cases hlt : k < s.size
    · by_cases h9 : k = 9
      · subst h9
        go_wp2
        · have h1 : 1 < (s[9].toNat : Int) := by assumption
          go_ret3
          exact ⟨by rw [rd_tenth s hlt hl.out h1]; rfl, rfl⟩
        · have h0 : s[9].toNat = 0 := by assumption
          go_ret3
          exact ⟨by rw [rd_zero s 9 hlt hl.out h0 (by omega)]; rfl, rfl⟩
        · have h0 : ¬ s[9].toNat = 0 := by assumption
          have h1 : (s[9].toNat : Int) ≤ 1 := by assumption
          go_ret3
          refine ⟨?_, rfl⟩
          rw [rd_stop s 9 hlt hl.out (by omega) (fun _ => by omega) (.inr h0)]
          exact ret3 (or_step s.data.toList 9 _ (by rw [len_l]; exact hlt) (by rw [gd s 9 hlt]) (.inr ⟨rfl, by omega⟩)) rfl rfl
      · have h9' : ((k : Int) == 9) = false := by simp; omega
        go_wp2
        · have h1 : 128 ≤ (s[k].toNat : Int) := by assumption
          go_round
          case rel => exact ⟨k + 1, by omega, by omega, lead_more s k hlt (by omega) hl.out h1, by go_num, by rw [or_step s.data.toList k _ (by rw [len_l]; exact hlt) (by rw [gd s k hlt]) (.inl (by omega))]⟩
          case measure => simp [intOf]; omega
        · have h0 : s[k].toNat = 0 := by assumption
          have hp : 0 < k := by assumption
          go_ret3
          exact ⟨by rw [rd_zero s k hlt hl.out h0 hp]; rfl, rfl⟩
        · have h0 : s[k].toNat = 0 := by assumption
          have hp : ¬ 0 < k := by assumption
          go_ret3
          refine ⟨?_, rfl⟩
          rw [rd_stop s k hlt hl.out (by omega) (fun _ => by omega) (.inl (by omega))]
          exact ret3 (or_step s.data.toList k 0 (by rw [len_l]; exact hlt) (by rw [gd s k hlt]; exact h0.symm) (.inl (by omega))) (by simp) rfl
        · have h0 : ¬ s[k].toNat = 0 := by assumption
          have h1 : (s[k].toNat : Int) < 128 := by assumption
          go_ret3
          refine ⟨?_, rfl⟩
          rw [rd_stop s k hlt hl.out (by omega) (fun _ => by omega) (.inr h0)]
          exact ret3 (or_step s.data.toList k _ (by rw [len_l]; exact hlt) (by rw [gd s k hlt]) (.inl (by omega))) (by simp) rfl
    · go_wp2
      go_ret3
      exact ⟨by rw [rd_short s k hlt hl.out]; rfl, rfl⟩
set_option maxRecDepth 100000 in
theorem number_w (s : ByteArray) (w : World) (hs : s.size ≤ 1000000000000000000) :
    Calls Tryz.prog 133 #[.string s] w fun e w' => e = .returned (.tuple #[.int .i64 ((rdU s.data.toList).1 : Int), .int .i64 ((rdU s.data.toList).2.1 : Int), .int .i64 ((rdU s.data.toList).2.2 : Int)]) ∧ w = w' := by
  have c := whole_w s w hs
  rcases rdU_cases s.data.toList with ⟨h, h2⟩ | ⟨h, h2⟩ | ⟨x, n, h2, hx, h⟩ | ⟨x, n, h2, hx, h⟩
  all_goals
    rw [h2] at c
    rw [h]
    clear h h2
    go_enter Tryz.func133, Tryz.ntmps133
    go_wp2_with (go_at_call 159; refine c.mono ?_; rintro e w' ⟨rfl, rfl⟩)
    go_ret3
    exact ⟨rfl, rfl⟩
set_option maxRecDepth 100000 in
theorem text_w (b : Nat) (s : ByteArray) (w : World) (h : Rat w b s) (hs : s.size ≤ 1000000000000000000) :
    Calls Tryz.prog 97 #[.pointer (some ⟨b, 0, none⟩)] w fun e w' => e = .returned (.tuple #[.string (rdT s).1, .int .i64 ((rdT s).2.2 : Int)]) ∧ Rat w' b (s.extract (rdT s).2.1 s.size) ∧ w.grownBy w' (some b) := by
  have c := number_w s w hs
  have hall := rat_set h
  have hsame : Rat w b (s.extract 0 s.size) := by rw [extract_all]; exact h
  obtain ⟨h1, h2⟩ := h
  rcases rdT_cases s with ⟨e, h0, h4, h, h3⟩ | ⟨x, n, h, hn, hx, hxm, h3⟩ | ⟨x, n, h, hn, hx, h3⟩
  · rw [h] at c
    rw [h3]
    have hne : ((e : Int) == 0) = false := by simp; omega
    have hne' : (!((e : Int) == 0)) = true := by simp; omega
    clear h h3 h0
    go_enter Tryz.func97, Tryz.ntmps97
    go_wp2_with (go_at_call 133; refine c.mono ?_; rintro e w' ⟨rfl, rfl⟩)
    go_ret2
    exact ⟨rfl, hsame, grown_refl _ _⟩
  · rw [h] at c
    rw [h3]
    have hlt : (s.size : Int) - n < x := by omega
    have hn' : (n : Int) ≤ s.size := by omega
    clear h h3
    go_enter Tryz.func97, Tryz.ntmps97
    go_wp2_with (go_at_call 133; refine c.mono ?_; rintro e w' ⟨rfl, rfl⟩)
    go_ret2
    exact ⟨rfl, hsame, grown_refl _ _⟩
  · rw [h] at c
    rw [h3]
    have hlt : (x : Int) ≤ (s.size : Int) - n := by omega
    have hn' : (n : Int) ≤ s.size := by omega
    clear h h3
    go_enter Tryz.func97, Tryz.ntmps97
    go_wp2_with (go_at_call 133; refine c.mono ?_; rintro e w' ⟨rfl, rfl⟩)
    go_ret2
    exact ⟨ret2s (front s n x hn hx) rfl, by rw [behind s n x hn hx]; exact hall _, grown_set _ _ _⟩
set_option maxRecDepth 100000 in
theorem left_w (b : Nat) (s : ByteArray) (w : World) (h : Rat w b s) (hs : s.size ≤ 1000000000000000000) :
    Calls Tryz.prog 98 #[.pointer (some ⟨b, 0, none⟩)] w fun e w' => e = .returned (.int .i64 (s.size : Int)) ∧ w = w' := by
  obtain ⟨h1, h2⟩ := h
  go_enter Tryz.func98, Tryz.ntmps98
  go_wp2
  go_ret
  exact ⟨rfl, rfl⟩
end Go.Proofs.YtdkgkomjbpggeaaGreatDoor.Wr
namespace Go.Proofs.YtdkgkomjbpggeaaGreatDoor.Fr
open Go.RowKit Wm Wr Fm
set_option linter.unusedVariables false
set_option maxRecDepth 100000 in
set_option maxHeartbeats 1000000 in
theorem fSum_w (s : ByteArray) (w : World) (hs : s.size ≤ 1000000000000000000) :
    Calls Tryz.prog 108 #[.string s] w fun e w' => e = .returned (.int .u32 (fsum s.data.toList : Nat)) ∧ w = w' := by
  go_enter Tryz.func108, Tryz.ntmps108
  go_wp2
  go_loop [3, 8] (fun c i => ∃ (k C : Nat), k ≤ s.size ∧ i = .int .i64 k ∧ Hid (C = csum 4294967295 (s.data.toList.take k)) ∧ C < 4294967296 ∧ c = .int .u32 (C : Nat)) (fun _ i => s.size - (intOf i).toNat)
  case atStart => exact ⟨0, 4294967295, Nat.zero_le _, rfl, rfl, by decide, rfl⟩
  case round =>
    obtain ⟨k, C, hk, rfl, hC, hlt, rfl⟩ := hrel
    by_cases hks : k < s.size
    · have hb := s[k].toNat_lt
      have hnext := csum_take s k hks
      rw [← hC.out] at hnext
      have hxor := u32_xor_nat C s[k].toNat hlt (by omega)
      have hl := xor_lt (a := C) (b := s[k].toNat) hlt (by omega)
      go_wp2
      obtain ⟨X, hX⟩ : ∃ X, X = s[k].toNat := ⟨_, rfl⟩
      rw [← hX] at hb hnext hl hxor ⊢
      rw [← cbits_byte C X hb] at hnext
      obtain ⟨Z, hZ⟩ : ∃ Z, Z = C ^^^ X := ⟨_, rfl⟩
      rw [← hZ] at hnext hl ⊢
      have HN := Lib.hid hnext
      clear hX hnext hC hZ hxor
      go_loop [3, 5, 17] (fun c g i => ∃ (j D : Nat), j ≤ 8 ∧ i = .int .i64 j ∧ Hid (D = cbits j Z 0) ∧ D < 4294967296 ∧ c = .int .u32 (D : Nat)) (fun _ _ i => 8 - (intOf i).toNat)
      case atStart => exact ⟨0, Z, by omega, rfl, rfl, hl, rfl⟩
      case round =>
        obtain ⟨j, D, hj, rfl, hD, hDl, rfl⟩ := hrel
        by_cases hj8 : j < 8
        · have hnD : cbits (j + 1) Z 0 = cstep D 0 := by rw [cbits_snoc0, ← hD.out]
          have HD := Lib.hid hnD
          have ha := and32 D hDl
          clear hnD hD
          rcases Nat.mod_two_eq_zero_or_one D with hd | hd
          · have HE := Lib.hid (cstep_eq (c := D) (b := 0) hd)
            rw [hd] at ha
            clear hd
            go_wp2
            go_round
            case rel => exact ⟨j + 1, D / 2, by omega, by go_num, by show _ = _; rw [HD.out, HE.out], by omega, by go_num⟩
            case measure => simp [intOf]; omega
          · have HE := Lib.hid (cstep_other (c := D) (b := 0) (by omega))
            have hxor := xor32 (D / 2) (by omega)
            rw [show ((D / 2 : Nat) : Int) = (D : Int) / 2 by omega] at hxor
            have hl2 := xor_lt (a := D / 2) (b := 3988292384) (by omega) (by decide)
            rw [hd] at ha
            clear hd
            go_wp2
            go_round
            case rel => exact ⟨j + 1, _, by omega, by go_num, by show _ = _; rw [HD.out, HE.out], hl2, rfl⟩
            case measure => simp [intOf]; omega
        · obtain rfl : j = 8 := by omega
          go_wp2
          go_round
          case rel => exact ⟨k + 1, D, by omega, by go_num, by show D = _; rw [HN.out, hD.out], hDl, rfl⟩
          case measure => simp [intOf]; omega
    · obtain rfl : k = s.size := by omega
      have hall := csum_all s
      rw [← hC.out] at hall
      have hn := not32 C hlt
      go_wp2
      go_ret
      refine ⟨?_, rfl⟩
      rw [← hall]
      exact ret1 (by omega)
set_option maxRecDepth 100000 in
set_option maxHeartbeats 1000000 in
theorem sumOf_w (s : ByteArray) (w : World) (hs : s.size ≤ 1000000000000000000) :
    Calls Tryz.prog 71 #[.string s] w fun e w' => e = .returned (.string (sum4 s.data.toList)) ∧ Below w.heap.size w w' := by
  have cs := fun W => fSum_w s W hs
  have hFl := fsum_lt s.data.toList
  have hres : Hid ((⟨(le4 (fsum s.data.toList)).toArray⟩ : ByteArray) = sum4 s.data.toList) := rfl
  obtain ⟨F, hF⟩ : ∃ F, F = fsum s.data.toList := ⟨_, rfl⟩
  rw [← hF] at cs hFl hres
  clear hF
  have hcv := lay4_conv w F
  go_enter Tryz.func71, Tryz.ntmps71
  go_wp2_with (go_at_call 108; refine (cs _).mono ?_; rintro e w1 ⟨rfl, rfl⟩)
  go_loopw [5, 8] (fun g i wr => ∃ j : Nat, j ≤ 4 ∧ i = .int .i64 j ∧ wr = w.alloc (.cells (lay4 F j) 155)) (fun _ i _ => 4 - (intOf i).toNat)
  case atStart => exact ⟨0, by omega, rfl, rfl⟩
  case round =>
    obtain ⟨j, hj, rfl, rfl⟩ := hrel
    clear cs
    by_cases hlt : j < 4
    · have hat := lay4_at F j hlt
      obtain rfl | rfl | rfl | rfl : j = 0 ∨ j = 1 ∨ j = 2 ∨ j = 3 := by omega
      all_goals
        go_wp2
        go_roundw
        case measure => simp [intOf]
      · exact ⟨1, by omega, by go_num, put_byte (by omega) (by omega)⟩
      · exact ⟨2, by omega, by go_num, put_byte (by omega) (by omega)⟩
      · exact ⟨3, by omega, by go_num, put_byte (by omega) (by omega)⟩
      · exact ⟨4, by omega, by go_num, put_byte (by omega) (by omega)⟩
    · obtain rfl : j = 4 := by omega
      go_wp2
      go_ret
      exact ⟨by rw [← hres.out]; rfl, (Below.refl _ _).alloc (Nat.le_refl _) _⟩
set_option maxRecDepth 100000 in
set_option maxHeartbeats 1000000 in
theorem fRead_w (s : ByteArray) (a : Int) (w : World) (hs : s.size ≤ 1000000000000000000) (h1 : -9223372036854775808 ≤ a) (h2 : a ≤ 9223372036854775807) :
    Calls Tryz.prog 63 #[.string s, .int .i64 a] w fun e w' => e = .returned (.tuple #[.string (frAt s a).1, .int .i64 (frAt s a).2.1, .int .i64 ((frAt s a).2.2 : Int)]) ∧ Below w.heap.size w w' := by
  by_cases hout : a < 0 ∨ (s.size : Int) < a
  · rw [frAt_out hout]
    by_cases h0 : a < 0
    · clear hout
      go_enter Tryz.func63, Tryz.ntmps63
      go_wp2_with fail
      go_ret3
      exact ⟨rfl, Below.refl _ _⟩
    · have h3 : (s.size : Int) < a := by omega
      clear hout
      go_enter Tryz.func63, Tryz.ntmps63
      go_wp2_with fail
      go_ret3
      exact ⟨rfl, Below.refl _ _⟩
  · obtain ⟨k, rfl⟩ : ∃ k : Nat, a = (k : Int) := ⟨a.toNat, by omega⟩
    have hk : k ≤ s.size := by omega
    have hk' : (k : Int) ≤ s.size := by omega
    have hXs : (s.extract k s.size).size = s.size - k := by simp
    have cn := fun W => new_any (s.extract k s.size) W
    have ct := fun W (h : Rat W w.heap.size (s.extract k s.size)) => text_w w.heap.size (s.extract k s.size) W h (by omega)
    have hR0 := rat_new w (s.extract k s.size)
    clear hout
    rcases fr_e (s.extract k s.size) with ⟨e, h0, h1, h2, h3⟩ | ⟨t, n, h, hn, ht, hlt, h3⟩ | ⟨t, n, h, hn, ht, hne, h3⟩ | ⟨t, n, h, hn, ht, heq, h3⟩
    · obtain ⟨t, n, e', h⟩ := trip (rdT (s.extract k s.size))
      rw [h] at ct h2
      have h2' : e' = e := h2
      subst h2'
      rw [frAt_bad hk h3 h0]
      have hne : ((e' : Int) == 0) = false := by simp; omega
      have hne' : (!((e' : Int) == 0)) = true := by simp; omega
      clear h h3 h2 h0
      go_enter Tryz.func63, Tryz.ntmps63
      go_wp2_with (go_at_call 96; refine (cn _).mono ?_; rintro e w1 ⟨rfl, rfl⟩)
      go_at_call 97
      refine (ct _ hR0).mono ?_
      rintro e w2 ⟨rfl, hR, hg⟩
      have hb := below_at ((Below.refl w.heap.size w).alloc (Nat.le_refl _) _) hg (Nat.le_refl _)
      go_wp2_with fail
      go_ret3
      exact ⟨rfl, hb⟩
    · rw [frAt_bad hk h3 (by omega)]
      rw [h] at ct
      have hL : ((s.extract k s.size).extract n (s.extract k s.size).size).size = (s.extract k s.size).size - n := by simp
      have cl := fun W b h => left_w b ((s.extract k s.size).extract n (s.extract k s.size).size) W h (by omega)
      rw [hL] at cl
      have hlt' : (((s.extract k s.size).size - n : Nat) : Int) < 4 := by omega
      obtain ⟨L, hL2⟩ : ∃ L, L = (s.extract k s.size).size - n := ⟨_, rfl⟩
      rw [← hL2] at cl hlt'
      clear h h3 hL hL2
      go_enter Tryz.func63, Tryz.ntmps63
      go_wp2_with (go_at_call 96; refine (cn _).mono ?_; rintro e w1 ⟨rfl, rfl⟩)
      go_at_call 97
      refine (ct _ hR0).mono ?_
      rintro e w2 ⟨rfl, hR, hg⟩
      have hb := below_at ((Below.refl w.heap.size w).alloc (Nat.le_refl _) _) hg (Nat.le_refl _)
      go_wp2_with (go_at_call 98; refine (cl _ _ hR).mono ?_; rintro e w3 ⟨rfl, rfl⟩)
      go_ret3
      exact ⟨rfl, hb⟩
    · rw [frAt_bad hk h3 (by omega)]
      have hne2 : (s.extract k s.size).extract n (n + 4) ≠ sum4 t.data.toList := fun h4 => hne ((pk_iff h).2 h4)
      rw [within s k n (by omega)] at hne2
      rw [h] at ct
      have hL : ((s.extract k s.size).extract n (s.extract k s.size).size).size = (s.extract k s.size).size - n := by simp
      have cl := fun W b h => left_w b ((s.extract k s.size).extract n (s.extract k s.size).size) W h (by omega)
      rw [hL] at cl
      obtain ⟨L, hL2⟩ : ∃ L, L = (s.extract k s.size).size - n := ⟨_, rfl⟩
      rw [← hL2] at cl
      have hL3 : 4 ≤ (L : Int) := by omega
      have hL4 : (s.size : Int) - (L : Int) = ((k + n : Nat) : Int) := by omega
      have hw : IntKind.i64.wrap (((k + n : Nat) : Int)) = ((k + n : Nat) : Int) := IntWalk.i64_in _ (by omega)
      have hw2 : IntKind.i64.wrap (((k + n : Nat) : Int) + 4) = ((k + n : Nat) : Int) + 4 := IntWalk.i64_in _ (by omega)
      have hx := bytes_ne hne2
      have csu := fun W => sumOf_w t W (by omega)
      obtain ⟨Q, hQ⟩ : ∃ Q, Q = sum4 t.data.toList := ⟨_, rfl⟩
      rw [← hQ] at hx csu
      have hle : ((k + n : Nat) : Int) + 4 ≤ s.size := by omega
      clear h h3 hL hL2 hne hne2 hQ
      go_enter Tryz.func63, Tryz.ntmps63
      go_wp2_with (go_at_call 96; refine (cn _).mono ?_; rintro e w1 ⟨rfl, rfl⟩)
      go_at_call 97
      refine (ct _ hR0).mono ?_
      rintro e w2 ⟨rfl, hR, hg⟩
      have hb := below_at ((Below.refl w.heap.size w).alloc (Nat.le_refl _) _) hg (Nat.le_refl _)
      go_wp2_with (go_at_call 98; refine (cl _ _ hR).mono ?_; rintro e w3 ⟨rfl, rfl⟩)
      go_region_with ((go_at_call 71; refine (csu _).mono ?_; rintro e w1 ⟨rfl, hb1⟩))
      all_goals
        go_wp2_with fail
        go_ret3
        exact ⟨rfl, below_call hb.drew hb1⟩
    · rw [frAt_ok hk h3]
      have hne2 : (s.extract k s.size).extract n (n + 4) = sum4 t.data.toList := (pk_iff h).1 heq
      rw [within s k n (by omega)] at hne2
      rw [h] at ct
      have hL : ((s.extract k s.size).extract n (s.extract k s.size).size).size = (s.extract k s.size).size - n := by simp
      have cl := fun W b h => left_w b ((s.extract k s.size).extract n (s.extract k s.size).size) W h (by omega)
      rw [hL] at cl
      obtain ⟨L, hL2⟩ : ∃ L, L = (s.extract k s.size).size - n := ⟨_, rfl⟩
      rw [← hL2] at cl
      have hL3 : 4 ≤ (L : Int) := by omega
      have hL4 : (s.size : Int) - (L : Int) = ((k + n : Nat) : Int) := by omega
      have hw : IntKind.i64.wrap (((k + n : Nat) : Int)) = ((k + n : Nat) : Int) := IntWalk.i64_in _ (by omega)
      have hw2 : IntKind.i64.wrap (((k + n : Nat) : Int) + 4) = ((k + n : Nat) : Int) + 4 := IntWalk.i64_in _ (by omega)
      have hx : ((s.extract (k + n) (k + n + 4)).toList == (sum4 t.data.toList).toList) = true := by rw [hne2]; exact beq_self_eq_true _
      have csu := fun W => sumOf_w t W (by omega)
      obtain ⟨Q, hQ⟩ : ∃ Q, Q = sum4 t.data.toList := ⟨_, rfl⟩
      rw [← hQ] at hx csu
      have hle : ((k + n : Nat) : Int) + 4 ≤ s.size := by omega
      clear h h3 hL hL2 heq hne2 hQ
      go_enter Tryz.func63, Tryz.ntmps63
      go_wp2_with (go_at_call 96; refine (cn _).mono ?_; rintro e w1 ⟨rfl, rfl⟩)
      go_at_call 97
      refine (ct _ hR0).mono ?_
      rintro e w2 ⟨rfl, hR, hg⟩
      have hb := below_at ((Below.refl w.heap.size w).alloc (Nat.le_refl _) _) hg (Nat.le_refl _)
      go_wp2_with (go_at_call 98; refine (cl _ _ hR).mono ?_; rintro e w3 ⟨rfl, rfl⟩)
      go_region_with ((go_at_call 71; refine (csu _).mono ?_; rintro e w1 ⟨rfl, hb1⟩))
      all_goals
        go_wp2_with fail
        go_ret3
        exact ⟨ret3s rfl (by omega) rfl, below_call hb.drew hb1⟩
set_option maxRecDepth 100000 in
set_option maxHeartbeats 1000000 in
theorem fScan_w (s : ByteArray) (w : World) (hs : s.size ≤ 1000000000000000000) (hk : (sc s 0).1.length ≤ 10000000000) :
    Calls Tryz.prog 136 #[.string s] w (ScanTo s w) := by
  obtain ⟨i0, hi, hz0, hz1, hz2⟩ := info_parts info9
  go_enter Tryz.func136, Tryz.ntmps136
  go_wp2_with fail
  go_loopw [2, 3, 5, 6, 7] (fun v i _ _ _ wr => ∃ (pre : List ByteArray) (a : Nat), i = .int .i64 a ∧ Far s pre a ∧ Texts wr w.heap.size v pre ∧ Below w.heap.size w wr) (fun _ i _ _ _ _ => s.size - (intOf i).toNat)
  case atStart => exact ⟨[], 0, rfl, far_start s, World.ownsRow_nil _ _ _ _, Below.refl _ _⟩
  case round =>
    obtain ⟨pre, a, rfl, hfar, htx, hb⟩ := hrel
    have ha := hfar.2.1
    have hp := hfar.2.2
    have hsz := hb.size
    by_cases hlt : a < s.size
    · obtain ⟨t, n, e, h2⟩ := trip (fr (s.extract a s.size))
      have c := fRead_w s a wr (by omega) (by omega) (by omega)
      have ha' : (a : Int) ≤ s.size := by omega
      by_cases he : e = 0
      · subst he
        rw [frAt_ok ha h2] at c
        simp only at c
        have hfar' := far_step hfar hlt h2
        have hn := (fr_ok h2).2.1
        have ha2 := hfar'.2.1
        have hmore : pre.length + 1 ≤ 10000000000 := by
          have h5 := congrArg (fun q => q.1.length) hfar'.1
          simp only [List.length_append, List.length_cons, List.length_nil] at h5
          omega
        have HF := Lib.hid hfar'
        clear hfar hfar' h2
        go_wp2_with fail
        go_at_call 63
        refine c.mono ?_
        rintro e w1 ⟨rfl, hb1⟩
        have htx1 := htx.below hb1
        have hb2 := below_call hb hb1
        have hsz2 := hb2.size
        have hown := htx1
        unfold Texts at hown
        clear htx htx1 hb1 hb c
        go_wp2_with (at_builtin; refine wpList_append_own _ rfl _ _ 52 rfl w.heap.size 9 i0 (.string ⟨#[]⟩) 1 16 Tryz.underlying52 hi hz0 hz1 hz2 rfl (by decide) _ _ _ rfl (hown.alloc _) ⟨w1.heap.size, 0, none⟩ 1 1 [sv t] rfl rfl ?c1 ?c2 ?c3 ?c4 ?c5 ?_)
        case c1 => exact cell_one_new _ _ _
        case c2 => exact sv_one [t]
        case c3 => have := hmore; unfold maxLen; omega
        case c4 => have := hmore; omega
        case c5 => have := hmore; simp; omega
        intro v' w2 hown' hgrow _
        have hb3 := below_step hb2 hown hgrow
        have htx2 : Texts w2 w.heap.size v' (pre ++ [t]) := by
          unfold Texts
          rw [List.length_append, List.map_append]
          exact hown'
        clear hown hown' hgrow hb2
        go_wp2_with fail
        go_roundw
        case rel => exact ⟨pre ++ [t], a + n, by go_num, HF.out, htx2, hb3⟩
        case measure => simp only [intOf]; omega
      · have hend := far_bad hfar hlt h2 he
        rw [frAt_bad ha h2 he] at c
        have hne : ((e : Int) == 0) = false := by simp; omega
        have hne' : (!((e : Int) == 0)) = true := by simp; omega
        have HE := Lib.hid hend
        clear hfar h2 hend he
        go_wp2_with fail
        go_at_call 63
        refine c.mono ?_
        rintro e w1 ⟨rfl, hb1⟩
        have htx1 := htx.below hb1
        have hb2 := below_call hb hb1
        clear htx hb hb1 c
        go_wp2_with fail
        go_ret3
        unfold ScanTo
        rw [HE.out]
        exact ⟨_, rfl, htx1, hb2⟩
    · have hend := far_end hfar hlt
      have HE := Lib.hid hend
      clear hfar hend
      go_wp2_with fail
      go_ret3
      unfold ScanTo
      rw [HE.out]
      exact ⟨_, rfl, htx, hb⟩
end Go.Proofs.YtdkgkomjbpggeaaGreatDoor.Fr

namespace Go.Proofs.YtdkgkomjbpggeaaGreatDoor.Dk
open Go.RowKit Tx Pm Pl Pr
set_option linter.unusedVariables false
def Cap (w : World) (g : Nat) (v : Value) : Prop := w.cell? ⟨g, 0, none⟩ = some v
set_option maxRecDepth 100000 in
theorem iMkdirC_any (b bi bl bd bp : Nat) (l : Int) (s : St) (p : ByteArray) (w : World) (h : Ia b bi bl l w s) (hd : Cap w bd (.pointer (some ⟨b, 0, none⟩))) (hp : Cap w bp (.string p)) (hps : p.size ≤ 8000000000000) (hn : s.L.length ≤ 1000000000) :
    Calls Tryz.prog 61 #[.pointer (some ⟨bd, 0, none⟩), .pointer (some ⟨bp, 0, none⟩)] w fun e w' => e = .returned (.tuple #[]) ∧ Ip b bi bl w { s with L := ins s.L ⟨p, true, ⟨#[]⟩, ⟨#[]⟩, false, false, 0⟩ } w' := by
  obtain ⟨c0, _⟩ := h.cell
  unfold Cap at hd hp
  have h0 := h.below (Below.refl _ w).drew
  obtain ⟨w1, hrun, hm, ht⟩ := h0.items.store (x := ⟨p, true, ⟨#[]⟩, ⟨#[]⟩, false, false, 0⟩) (maxLen_of hps) (by unfold maxLen; omega)
  have hend : Ip b bi bl w { s with L := ins s.L ⟨p, true, ⟨#[]⟩, ⟨#[]⟩, false, false, 0⟩ } w1 := ⟨l, h0.turned hm ht, (Chg.of_below (Below.refl _ w).drew).then ((turned_chg ht).mono ft_i)⟩
  have HE := Lib.hid hend
  clear h h0 hm ht hend
  have hrun : (Instr.mapUpdate 59 (.map (some bi)) (.string p) (.agg #[.int .i64 1, .string ⟨#[]⟩, .string ⟨#[]⟩, .int .i64 0, .int .i64 0])).run Tryz.prog w.drew = .ok () w1 := hrun
  go_enter Tryz.func61, Tryz.ntmps61
  go_region
  all_goals (go_end0; exact ⟨rfl, HE.out⟩)
theorem own_cells {b bi bl : Nat} {l : Int} {w : World} {s : St} (h : Ia b bi bl l w s) (k : Nat) (u : Value) {cs : Array Value} (hk : (#[.map (some bi), .map (some bl), .int .i64 l, .int .i64 s.steps, .int .i64 s.stamps, .bool s.down] : Array Value).setIfInBounds k u = cs) :
    (w.setCell ⟨b, k, none⟩ u).heap[b]? = some (.cells cs 62 (0, 0)) := by
  rw [set_block h.blk, hk]
set_option maxRecDepth 100000 in
theorem iSet_any (b bi bl : Nat) (l : Int) (s : St) (x : It) (N : Int) (p : ByteArray) (w : World) (h : Ia b bi bl l w s) (hxp : x.path = p) (hps : p.size ≤ 8000000000000) (hn : s.L.length ≤ 1000000000) (hst : s.stamps ≤ 1000000000000) :
    Calls Tryz.prog 115 #[.pointer (some ⟨b, 0, none⟩), .string p, .agg #[.int .i64 (kOf x), .string x.data, .string x.kept, .int .i64 (stOf x), .int .i64 N]] w fun e w' => e = .returned (.tuple #[]) ∧ Ip b bi bl w (putS s x) w' := by
  obtain ⟨c0, c1, c2, c3, c4, c5⟩ := h.cell
  have hwm := h.warm
  have hbl : b < w.heap.size := h.lt b (.inl rfl)
  have a1 : Ia b bi bl l (w.setCell ⟨b, 4, none⟩ (.int .i64 ((s.stamps : Int) + 1))) { s with stamps := s.stamps + 1 } :=
    h.poke (chg_set _) (own_cells h 4 _ rfl) rfl rfl h.left h.low
  have hc1 : Chg (Ft b bi bl) w (w.setCell ⟨b, 4, none⟩ (.int .i64 ((s.stamps : Int) + 1))) := (chg_set _).mono ft_b
  have hB2 := ((Below.refl _ (w.setCell ⟨b, 4, none⟩ (.int .i64 ((s.stamps : Int) + 1)))).alloc (Nat.le_refl _) (.cells #[.int .i64 (kOf x), .string x.data, .string x.kept, .int .i64 (stOf x), .int .i64 ((s.stamps : Int) + 1)] 112)).drew
  have a2 := a1.below hB2
  obtain ⟨w3, hrun, hm, ht⟩ := a2.items.store (x := stamped s x) (by rw [show (stamped s x).path = p from hxp]; exact maxLen_of hps) (by unfold maxLen; show s.L.length < _; omega)
  have hrun : (Instr.mapUpdate 59 (.map (some bi)) (.string p) (.agg #[.int .i64 (kOf x), .string x.data, .string x.kept, .int .i64 (stOf x), .int .i64 ((s.stamps : Int) + 1)])).run Tryz.prog
      ((w.setCell ⟨b, 4, none⟩ (.int .i64 ((s.stamps : Int) + 1))).alloc (.cells #[.int .i64 (kOf x), .string x.data, .string x.kept, .int .i64 (stOf x), .int .i64 ((s.stamps : Int) + 1)] 112)).drew = .ok () w3 := by
    rw [← hxp]
    exact hrun
  have hend : Ip b bi bl w (putS s x) w3 := ⟨l, a2.turned hm ht, (hc1.then (Chg.of_below hB2 |>.mono (fun _ hi => hi))).then ((turned_chg ht).mono ft_i)⟩
  have HE := Lib.hid hend
  generalize kOf x = K at hrun ⊢
  generalize stOf x = T at hrun ⊢
  clear h a1 a2 hc1 hB2 hm ht hend hxp
  go_enter Tryz.func115, Tryz.ntmps115
  go_wp2
  go_region
  all_goals (go_end0; exact ⟨rfl, HE.out⟩)
end Go.Proofs.YtdkgkomjbpggeaaGreatDoor.Dk

namespace Go.Proofs.YtdkgkomjbpggeaaGreatDoor.Dk
open Go.RowKit Tx Pm Pl Pr
set_option linter.unusedVariables false
def stepR (s : St) (r : Nat) (s' : St) : Nat × St := if r ≠ 0 then (r, s) else if (done s).1 ≠ 0 then done s else (0, s')
set_option maxRecDepth 100000 in
theorem iStep_any (b bi bl : Nat) (l : Int) (s : St) (r : Nat) (f : FuncId) (cap : Array Value) (s' : St) (w : World) (h : Ia b bi bl l w s) (hd : r = 0 → s.down = false) (hst : s.steps ≤ 1000000000000)
    (hen : ∀ W, (callFunc f cap).run Tryz.prog W = .ok (.enter f cap) W)
    (cf : ∀ l1 W, r = 0 → (done s).1 = 0 → Ia b bi bl l1 W (done s).2 → Chg (· = b) w W → Calls Tryz.prog f cap W fun e w' => e = .returned (.tuple #[]) ∧ Ip b bi bl W s' w') :
    Calls Tryz.prog 59 #[.pointer (some ⟨b, 0, none⟩), .int .i64 r, .func (.func f) #[] cap] w fun e w' => e = .returned (.int .i64 ((stepR s r s').1 : Nat)) ∧ Ip b bi bl w (stepR s r s').2 w' := by
  obtain ⟨c0, c1, c2, c3, c4, c5⟩ := h.cell
  have hwm := h.warm
  have hlow := h.low
  unfold stepR
  by_cases hr : r = 0
  · subst hr
    rw [if_neg (by decide)]
    have hdn := hd rfl
    have hla : l = s.armed := h.left.resolve_left (by rw [hdn]; decide)
    by_cases h0 : l = 0
    · have hD : done s = (14, { s with down := true, armed := -1 }) := by unfold done; rw [if_pos (by omega)]
      rw [hD, if_pos (fun e => by cases e)]
      subst h0
      have a1 : Ia b bi bl 0 (w.setCell ⟨b, 5, none⟩ (.bool true)) { s with down := true, armed := -1 } := h.poke (chg_set _) (own_cells h 5 _ rfl) rfl rfl (.inl rfl) h.low
      have HE := Lib.hid (show Ip b bi bl w { s with down := true, armed := -1 } (w.setCell ⟨b, 5, none⟩ (.bool true)) from ⟨0, a1, (chg_set _).mono ft_b⟩)
      clear a1 h hd hD hla cf
      go_enter Tryz.func59, Tryz.ntmps59
      go_wp2
      go_ret
      exact ⟨rfl, HE.out⟩
    · have hD : done s = (0, { s with armed := if s.armed > 0 then s.armed - 1 else s.armed, steps := s.steps + 1 }) := by unfold done; rw [if_neg (by omega)]
      rw [hD] at cf
      rw [hD, if_neg (fun e => e rfl)]
      have e0 : (l == 0) = false := beq_eq_false_iff_ne.2 h0
      by_cases hl1 : l = -1
      · have hl2 : (-1 : Int) = s.armed := hl1 ▸ hla
        subst hl1
        have hx1 : max ((-1 : Int) - 1) (-1) = -1 := by omega
        have hx2 : max (-2 : Int) (-1) = -1 := by omega
        have hb1 : (w.setCell ⟨b, 2, none⟩ (.int .i64 (-1))).heap[b]? = some (.cells #[.map (some bi), .map (some bl), .int .i64 (-1), .int .i64 s.steps, .int .i64 s.stamps, .bool s.down] 62 (0, 0)) := own_cells h 2 _ rfl
        have hb2 : ((w.setCell ⟨b, 2, none⟩ (.int .i64 (-1))).setCell ⟨b, 3, none⟩ (.int .i64 ((s.steps : Int) + 1))).heap[b]? = some (.cells #[.map (some bi), .map (some bl), .int .i64 (-1), .int .i64 ((s.steps : Int) + 1), .int .i64 s.stamps, .bool s.down] 62 (0, 0)) := set_block hb1 _
        have hc2 : Chg (· = b) w ((w.setCell ⟨b, 2, none⟩ (.int .i64 (-1))).setCell ⟨b, 3, none⟩ (.int .i64 ((s.steps : Int) + 1))) := (chg_set _).then (chg_set _)
        have a2 : Ia b bi bl (-1) _ { s with armed := if s.armed > 0 then s.armed - 1 else s.armed, steps := s.steps + 1 } := h.poke hc2 hb2 rfl rfl (.inr (by show _ = (if s.armed > 0 then s.armed - 1 else s.armed); split <;> omega)) (by omega)
        have cf2 := cf (-1) _ rfl rfl a2 hc2
        have HC := Lib.hid hc2
        have g3 : (w.setCell ⟨b, 2, none⟩ (.int .i64 (-1))).cell? ⟨b, 3, none⟩ = some (.int .i64 s.steps) := by unfold World.cell?; rw [hb1]; rfl
        clear hl2 a2 h hd hD hla cf hc2 hb1 hb2 h0
        go_enter Tryz.func59, Tryz.ntmps59
        go_wp2_with fail
        refine cf2.mono ?_
        rintro e w5 ⟨rfl, l5, hat5, hc5⟩
        go_wp2
        go_ret
        exact ⟨rfl, l5, hat5, (HC.out.mono ft_b).then hc5⟩
      · have hl2 : 1 ≤ l := by omega
        have hx1 : max (l - 1) (-1) = l - 1 := by omega
        have hb1 : (w.setCell ⟨b, 2, none⟩ (.int .i64 (l - 1))).heap[b]? = some (.cells #[.map (some bi), .map (some bl), .int .i64 (l - 1), .int .i64 s.steps, .int .i64 s.stamps, .bool s.down] 62 (0, 0)) := own_cells h 2 _ rfl
        have hb2 : ((w.setCell ⟨b, 2, none⟩ (.int .i64 (l - 1))).setCell ⟨b, 3, none⟩ (.int .i64 ((s.steps : Int) + 1))).heap[b]? = some (.cells #[.map (some bi), .map (some bl), .int .i64 (l - 1), .int .i64 ((s.steps : Int) + 1), .int .i64 s.stamps, .bool s.down] 62 (0, 0)) := set_block hb1 _
        have hc2 : Chg (· = b) w ((w.setCell ⟨b, 2, none⟩ (.int .i64 (l - 1))).setCell ⟨b, 3, none⟩ (.int .i64 ((s.steps : Int) + 1))) := (chg_set _).then (chg_set _)
        have a2 : Ia b bi bl (l - 1) _ { s with armed := if s.armed > 0 then s.armed - 1 else s.armed, steps := s.steps + 1 } := h.poke hc2 hb2 rfl rfl (.inr (by show _ = (if s.armed > 0 then s.armed - 1 else s.armed); split <;> omega)) (by omega)
        have cf2 := cf (l - 1) _ rfl rfl a2 hc2
        have HC := Lib.hid hc2
        have g3 : (w.setCell ⟨b, 2, none⟩ (.int .i64 (l - 1))).cell? ⟨b, 3, none⟩ = some (.int .i64 s.steps) := by unfold World.cell?; rw [hb1]; rfl
        clear hl1 a2 h hd hD hla cf hc2 hb1 hb2 h0
        go_enter Tryz.func59, Tryz.ntmps59
        go_wp2_with fail
        refine cf2.mono ?_
        rintro e w5 ⟨rfl, l5, hat5, hc5⟩
        go_wp2
        go_ret
        exact ⟨rfl, l5, hat5, (HC.out.mono ft_b).then hc5⟩
  · rw [if_pos hr]
    have e0 : ((r : Int) == 0) = false := beq_eq_false_iff_ne.2 (by omega)
    have HE := Lib.hid (show Ip b bi bl w s w from ⟨l, h, Chg.refl _ _⟩)
    clear h hd cf hr
    go_enter Tryz.func59, Tryz.ntmps59
    go_wp2
    go_ret
    exact ⟨rfl, HE.out⟩
end Go.Proofs.YtdkgkomjbpggeaaGreatDoor.Dk
