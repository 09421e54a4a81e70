/- WireBack's walk: numbers and texts that were written one behind the other are read back, and nothing is left. -/
import Derived.Test.YtjoafblfloceeaaBackMath
namespace Go.Proofs.Ytjoafblfloceeaa.wireBack
open Go.ChangeMaps (open_string shut_string)
open Go.ChangeShapes Go.WideShapes Go.ChangeAt Go.RowKit Wm Wr wireReads
set_option linter.unusedVariables false

theorem below_new {w w1 : World} {o : Obj} (h : Below w.heap.size w w1) : Below w.heap.size w (w1.alloc o) := h.alloc h.size o
theorem four (w : World) (a b c d : ByteArray) : ∀ (j : Nat) x, [a, b, c, d][j]? = some x → (w.alloc (.cells #[.string a, .string b, .string c, .string d] 9)).cell? ⟨w.heap.size, 0 + j, none⟩ = some (.string x) := by
  intro j x hj
  rw [Nat.zero_add]
  match j, hj with
  | 0, hj => simp at hj; subst hj; go_simp
  | 1, hj => simp at hj; subst hj; go_simp
  | 2, hj => simp at hj; subst hj; go_simp
  | 3, hj => simp at hj; subst hj; go_simp
theorem cat_nothing : (⟨([] : List UInt8).toArray⟩ : ByteArray) = ⟨#[]⟩ := rfl
theorem tx_at {ss : List ByteArray} {k : Nat} {S : ByteArray} (h : ss[k]? = some S) : tx ss k = S := by rw [tx, List.getD_eq_getElem?_getD, h]; rfl
theorem tx_out {ss : List ByteArray} {k : Nat} (h : ss.length ≤ k) : tx ss k = ⟨#[]⟩ := by rw [tx, List.getD_eq_getElem?_getD, List.getElem?_eq_none h]; rfl
theorem E_bound (zs : List Int) (ss : List ByteArray) (hsum : (cat ss).size ≤ 1048576) (hz : ∀ k, -9223372036854775808 ≤ nn zs k ∧ nn zs k ≤ 9223372036854775807) {k : Nat} (hk : k ≤ 1048576) : (E zs ss k).size ≤ 1099543085056 := by
  have h1 := E_size zs ss (cat ss).size (fun k => tx_le ss k) hsum hz k
  have h2 : k * ((cat ss).size + 30) ≤ 1048576 * 1048606 := Nat.mul_le_mul hk (by omega)
  exact Nat.le_trans (Nat.le_trans h1 h2) (by decide)
theorem dl_len (zs : List Int) (ss : List ByteArray) {len B j : Nat} (hj : j ≤ len) (h : (E zs ss len).size ≤ B) : (dl zs ss j (len - j)).length ≤ B := by
  have e := congrArg List.length (E_dl zs ss (len - j) j)
  rw [show j + (len - j) = len by omega, List.length_append, len_l, len_l] at e
  omega
theorem ue_neg {n : Int} (h : n < 0) : ue n = 1 := by rw [ue, if_pos h]
theorem ue_pos {n : Int} (h : 0 ≤ n) : ue n = 0 := by rw [ue, if_neg (by omega)]
theorem ub_neg {n : Int} (h : n < 0) : ub n = [] := by rw [ub, if_pos h]

set_option maxRecDepth 100000 in
set_option maxHeartbeats 1000000 in
theorem walk_empty (nA tA : Option Addr) (capn lent capt : Nat) (w : World) :
    Calls Try.prog 6 #[.slice nA 0 capn, .slice tA lent capt] w fun e w' => e = .returned (.bool true) ∧ Below w.heap.size w w' := by
  have cn := fun s W => new_any s W
  go_enter Try.func6, Try.ntmps6
  go_wp2_with (go_at_call 11; refine (awake_any _).mono ?_; rintro e w0 ⟨rfl, hb0⟩)
  go_loop [5, 6] (fun x i => i = .int .i64 0 ∧ x = .string ⟨#[]⟩) (fun _ _ => 0)
  case atStart => exact ⟨rfl, rfl⟩
  case round =>
    obtain ⟨rfl, rfl⟩ := hrel
    have r0 := rat_new w0 ⟨#[]⟩
    go_wp2_with (go_at_call 17; refine (cn _ _).mono ?_; rintro e w2 ⟨rfl, rfl⟩)
    go_loop [11] (fun i => i = .int .i64 0) (fun _ => 0)
    case atStart => exact rfl
    case round =>
      obtain rfl := hrel
      have c1 := left_any _ ⟨#[]⟩ _ r0 (Nat.zero_le _)
      have c2 := done_any _ ⟨#[]⟩ _ r0 (Nat.zero_le _)
      have hd : dn (ByteArray.mk #[]).size = 0 := rfl
      rw [hd] at c2
      clear hd
      go_wp2_with (first
        | (go_at_call 22; refine c1.mono ?_; rintro e wl ⟨rfl, rfl⟩)
        | (go_at_call 23; refine c2.mono ?_; rintro e wl ⟨rfl, rfl⟩))
      go_ret
      exact ⟨rfl, below_new hb0⟩

set_option maxRecDepth 100000 in
set_option maxHeartbeats 4000000 in
theorem walk_plain (bn offn len capn : Nat) (tA : Option Addr) (lent capt : Nat) (zs : List Int) (ss : List ByteArray) (w : World) (hlen0 : 0 < len) (hmax : len ≤ 1048576) (hlent : lent = 0) (hss : ss.length = lent) (hsum : (cat ss).size ≤ 1048576)
    (hz : ∀ k, -9223372036854775808 ≤ nn zs k ∧ nn zs k ≤ 9223372036854775807)
    (hcn : ∀ k, k < len → w.cell? ⟨bn, offn + k, none⟩ = some (.int .i64 (nn zs k))) :
    Calls Try.prog 6 #[.slice (some ⟨bn, offn, none⟩) len capn, .slice (tA) lent capt] w fun e w' => e = .returned (.bool true) ∧ Below w.heap.size w w' := by
  have HZ := Lib.hid hz
  have HCN := Lib.hid hcn
  have hbn : bn < w.heap.size := World.block_lt_of_cell? w ⟨bn, offn + 0, none⟩ (hcn 0 hlen0)
  have HS : Hid (∀ k, k ≤ 1048576 → (E zs ss k).size ≤ 1099543085056) := fun k hk => E_bound zs ss hsum hz hk
  have HT : Hid (∀ k, (tx ss k).size ≤ 1048576) := fun k => Nat.le_trans (tx_le ss k) hsum
  subst hlent
  clear hz hcn hsum
  go_enter Try.func6, Try.ntmps6
  go_wp2_with (go_at_call 11; refine (awake_any _).mono ?_; rintro e w0 ⟨rfl, hb0⟩)
  go_loopw [5, 6] (fun x i wr => ∃ k : Nat, k ≤ len ∧ i = .int .i64 k ∧ x = .string (E zs ss k) ∧ Below w.heap.size w wr) (fun _ i _ => len - (intOf i).toNat)
  case atStart => exact ⟨0, Nat.zero_le _, rfl, rfl, hb0⟩
  case round =>
    obtain ⟨k, hk, rfl, rfl, hB⟩ := hrel
    clear hb0
    by_cases hlt : k < len
    · have hE : E zs ss (k + 1) = cat [E zs ss k, vs (zz (nn zs k)), us (nn zs k), ts (tx ss k)] := rfl
      have hcw := HCN.out k hlt
      obtain ⟨hn1, hn2⟩ := HZ.out k
      have hT := HT.out k
      have hEs := HS.out (k + 1) (by omega)
      obtain ⟨n, hn⟩ : ∃ n, n = nn zs k := ⟨_, rfl⟩
      obtain ⟨T, hTT⟩ : ∃ T, T = tx ss k := ⟨_, rfl⟩
      obtain ⟨A, hA⟩ : ∃ A, A = E zs ss k := ⟨_, rfl⟩
      rw [← hn] at hcw hn1 hn2 hE
      rw [← hTT] at hT hE
      rw [← hA] at hE ⊢
      have HTT := Lib.hid hTT
      clear hn hTT hA
      have hcell := (hB.cell (p := ⟨bn, offn + k, none⟩) hbn).trans hcw
      have hTe : T = ⟨#[]⟩ := HTT.out.trans (tx_out (by omega))
      subst hTe
      clear HTT
      by_cases hneg : n < 0
      · have cI := fun W => putInt_any n W hn1 hn2
        have cU := fun W => putUint_any n W hn1 hn2
        rw [ue_neg hneg] at cU
        have cT := fun W => putText_any ⟨#[]⟩ W (by first | omega | decide)
        obtain ⟨I, hI⟩ : ∃ I, I = vs (zz n) := ⟨_, rfl⟩
        obtain ⟨U, hU⟩ : ∃ U, U = us n := ⟨_, rfl⟩
        obtain ⟨X, hX⟩ : ∃ X, X = ts ⟨#[]⟩ := ⟨_, rfl⟩
        rw [← hI] at cI hE
        rw [← hU] at cU hE
        rw [← hX] at cT hE
        clear hI hU hX
        have hEl : (cat [A, I, U, X]).size ≤ 140737488355328 := by rw [← hE]; omega
        have HE := Lib.hid hE
        clear hE
        go_wp2_with fail
        go_at_call 9
        refine (cU _).mono ?_
        rintro e wa ⟨rfl, hb1⟩
        have hB1 := below_call hB hb1
        have hcell1 := (hB1.cell (p := ⟨bn, offn + k, none⟩) hbn).trans hcw
        clear hcell hb1 hB
        go_wp2_with fail
        go_at_call 12
        refine (cI _).mono ?_
        rintro e wb ⟨rfl, hb2⟩
        have hB2 := below_call hB1 hb2
        clear hcell1 hb2 hB1
        go_wp2_with fail
        go_at_call 14
        refine (cT _).mono ?_
        rintro e wc ⟨rfl, hb3⟩
        have hB3 := below_call hB2 hb3
        clear hb3 hB2
        have cj := join_any wc.heap.size 0 4 [A, I, U, X] _ (four wc A I U X) (by rw [World.size_alloc]; omega) (by simp) (by simp) hEl
        go_wp2_with fail
        go_at_call 16
        refine cj.mono ?_
        rintro e wd ⟨rfl, hb4⟩
        have hB4 := below_call (below_new hB3) hb4
        clear cj hb4 hB3 cI cU cT hEl
        go_wp2_with fail
        go_roundw
        case rel => exact ⟨k + 1, by omega, by go_num, by rw [HE.out], hB4⟩
        case measure => simp [intOf]; omega
      · have cI := fun W => putInt_any n W hn1 hn2
        have cU := fun W => putUint_any n W hn1 hn2
        rw [ue_pos (by omega)] at cU
        have cT := fun W => putText_any ⟨#[]⟩ W (by first | omega | decide)
        have hpos : 0 ≤ n := by omega
        clear hneg
        obtain ⟨I, hI⟩ : ∃ I, I = vs (zz n) := ⟨_, rfl⟩
        obtain ⟨U, hU⟩ : ∃ U, U = us n := ⟨_, rfl⟩
        obtain ⟨X, hX⟩ : ∃ X, X = ts ⟨#[]⟩ := ⟨_, rfl⟩
        rw [← hI] at cI hE
        rw [← hU] at cU hE
        rw [← hX] at cT hE
        clear hI hU hX
        have hEl : (cat [A, I, U, X]).size ≤ 140737488355328 := by rw [← hE]; omega
        have HE := Lib.hid hE
        clear hE
        go_wp2_with fail
        go_at_call 9
        refine (cU _).mono ?_
        rintro e wa ⟨rfl, hb1⟩
        have hB1 := below_call hB hb1
        have hcell1 := (hB1.cell (p := ⟨bn, offn + k, none⟩) hbn).trans hcw
        clear hcell hb1 hB
        go_wp2_with fail
        go_at_call 12
        refine (cI _).mono ?_
        rintro e wb ⟨rfl, hb2⟩
        have hB2 := below_call hB1 hb2
        clear hcell1 hb2 hB1
        go_wp2_with fail
        go_at_call 14
        refine (cT _).mono ?_
        rintro e wc ⟨rfl, hb3⟩
        have hB3 := below_call hB2 hb3
        clear hb3 hB2
        have cj := join_any wc.heap.size 0 4 [A, I, U, X] _ (four wc A I U X) (by rw [World.size_alloc]; omega) (by simp) (by simp) hEl
        go_wp2_with fail
        go_at_call 16
        refine cj.mono ?_
        rintro e wd ⟨rfl, hb4⟩
        have hB4 := below_call (below_new hB3) hb4
        clear cj hb4 hB3 cI cU cT hEl
        go_wp2_with fail
        go_roundw
        case rel => exact ⟨k + 1, by omega, by go_num, by rw [HE.out], hB4⟩
        case measure => simp [intOf]; omega
    · obtain rfl : len = k := by omega
      have hEs := HS.out len (by omega)
      have hall := E_all zs ss len
      have HDL : Hid (∀ j, j ≤ len → (dl zs ss j (len - j)).length ≤ 1099543085056) := fun j hj => dl_len zs ss hj hEs
      rw [hall]
      clear hall hEs hlt hk HS
      have r0 := rat_new wr ⟨(dl zs ss 0 len).toArray⟩
      obtain ⟨D, hD⟩ : ∃ D : ByteArray, D = ⟨(dl zs ss 0 len).toArray⟩ := ⟨_, rfl⟩
      rw [← hD] at r0 ⊢
      have HD := Lib.hid hD
      clear hD
      have cn := fun s W => new_any s W
      go_wp2_with (go_at_call 17; refine (cn _ _).mono ?_; rintro e w2 ⟨rfl, rfl⟩)
      rw [HD.out] at r0
      have hB0 := below_new (o := .cells #[.string D] 53) hB
      have hb := hB.size
      obtain ⟨b, hbe⟩ : ∃ b, b = wr.heap.size := ⟨_, rfl⟩
      rw [← hbe] at r0 hb ⊢
      rw [HD.out] at hB0
      have hB1 : Below w.heap.size w (wr.alloc (.cells #[.string D] 53)) := by rw [HD.out]; exact hB0
      have r1 : Rat (wr.alloc (.cells #[.string D] 53)) b ⟨(dl zs ss 0 len).toArray⟩ := by rw [HD.out]; exact r0
      clear hbe cn HD hB hB0 r0
      obtain ⟨wo, hwo⟩ : ∃ wo, wo = wr.alloc (.cells #[.string D] 53) := ⟨_, rfl⟩
      rw [← hwo] at hB1 r1 ⊢
      clear hwo
      go_loopw [11] (fun i wx => ∃ k : Nat, k ≤ len ∧ i = .int .i64 k ∧ Rat wx b ⟨(dl zs ss k (len - k)).toArray⟩ ∧ Below w.heap.size w wx) (fun i _ => len - (intOf i).toNat)
      case atStart => exact ⟨0, Nat.zero_le _, rfl, r1, hB1⟩
      case round =>
        obtain ⟨k, hk, rfl, hR, hB⟩ := hrel
        clear r1 hB1
        by_cases hlt : k < len
        · obtain ⟨m, hm⟩ : ∃ m, m = len - (k + 1) := ⟨_, rfl⟩
          have hlen := HDL.out k hk
          rw [show len - k = m + 1 by omega, dl] at hR hlen
          have hcw := HCN.out k hlt
          obtain ⟨hn1, hn2⟩ := HZ.out k
          have hT := HT.out k
          obtain ⟨n, hn⟩ : ∃ n, n = nn zs k := ⟨_, rfl⟩
          obtain ⟨T, hTT⟩ : ∃ T, T = tx ss k := ⟨_, rfl⟩
          rw [← hn] at hcw hn1 hn2 hR hlen
          rw [← hTT] at hT hR hlen
          have HTT := Lib.hid hTT
          have HM := Lib.hid hm
          clear hn hTT hm
          have hcell := (hB.cell (p := ⟨bn, offn + k, none⟩) hbn).trans hcw
          have hTe : T = ⟨#[]⟩ := HTT.out.trans (tx_out (by omega))
          subst hTe
          clear HTT
          by_cases hneg : n < 0
          · rw [ub_neg hneg, List.nil_append] at hR hlen
            have c1 := int_back b n _ wr hn1 hn2 hR (by unfold maxLen; omega)
            go_wp2_with fail
            go_at_call 19
            refine c1.mono ?_
            rintro e wa ⟨rfl, hR1, hg1⟩
            have hB1 := below_at hB hg1 hb
            have hcell1 := (hB1.cell (p := ⟨bn, offn + k, none⟩) hbn).trans hcw
            clear hcell hg1 hB hR c1
            have c3 := text_back b ⟨#[]⟩ _ wa (by first | omega | decide) hR1 (by simp only [List.length_append] at hlen ⊢; unfold maxLen; omega)
            go_wp2_with fail
            go_at_call 21
            refine c3.mono ?_
            rintro e wc ⟨rfl, hR3, hg3⟩
            have hB3 := below_at hB1 hg3 hb
            clear hg3 hB1 hR1 c3
            go_wp2_with fail
            go_roundw
            case rel => exact ⟨k + 1, by omega, by go_num, by rw [← HM.out]; exact hR3, hB3⟩
            case measure => simp [intOf]; omega
          · have hpos : 0 ≤ n := by omega
            clear hneg
            have c1 := int_back b n _ wr hn1 hn2 hR (by unfold maxLen; omega)
            go_wp2_with fail
            go_at_call 19
            refine c1.mono ?_
            rintro e wa ⟨rfl, hR1, hg1⟩
            have hB1 := below_at hB hg1 hb
            have hcell1 := (hB1.cell (p := ⟨bn, offn + k, none⟩) hbn).trans hcw
            clear hcell hg1 hB hR c1
            have c2 := uint_back b n _ wa hpos hn2 hR1 (by rw [List.length_append] at hlen; unfold maxLen; omega)
            go_wp2_with fail
            go_at_call 20
            refine c2.mono ?_
            rintro e wb ⟨rfl, hR2, hg2⟩
            have hB2 := below_at hB1 hg2 hb
            have hcell2 := (hB2.cell (p := ⟨bn, offn + k, none⟩) hbn).trans hcw
            clear hcell1 hg2 hB1 hR1 c2
            have c3 := text_back b ⟨#[]⟩ _ wb (by first | omega | decide) hR2 (by simp only [List.length_append] at hlen ⊢; unfold maxLen; omega)
            go_wp2_with fail
            go_at_call 21
            refine c3.mono ?_
            rintro e wc ⟨rfl, hR3, hg3⟩
            have hB3 := below_at hB2 hg3 hb
            clear hg3 hB2 hR2 c3
            go_wp2_with fail
            go_roundw
            case rel => exact ⟨k + 1, by omega, by go_num, by rw [← HM.out]; exact hR3, hB3⟩
            case measure => simp [intOf]; omega
        · obtain rfl : len = k := by omega
          rw [Nat.sub_self] at hR
          have c1 := left_any b ⟨#[]⟩ wr hR (Nat.zero_le _)
          have c2 := done_any b ⟨#[]⟩ wr hR (Nat.zero_le _)
          have hd : dn (ByteArray.mk #[]).size = 0 := rfl
          rw [hd] at c2
          clear hd hR
          go_wp2_with (first
            | (go_at_call 22; refine c1.mono ?_; rintro e wl ⟨rfl, rfl⟩)
            | (go_at_call 23; refine c2.mono ?_; rintro e wl ⟨rfl, rfl⟩))
          go_ret
          exact ⟨rfl, hB⟩

set_option maxRecDepth 100000 in
set_option maxHeartbeats 4000000 in
theorem walk_texts (bn offn len capn : Nat) (bt offt : Nat) (lent capt : Nat) (zs : List Int) (ss : List ByteArray) (w : World) (hlen0 : 0 < len) (hmax : len ≤ 1048576) (hlent : lent ≤ 1048576) (hss : ss.length = lent) (hsum : (cat ss).size ≤ 1048576)
    (hz : ∀ k, -9223372036854775808 ≤ nn zs k ∧ nn zs k ≤ 9223372036854775807)
    (hcn : ∀ k, k < len → w.cell? ⟨bn, offn + k, none⟩ = some (.int .i64 (nn zs k)))
    (hctx : ∀ k, k < lent → w.cell? ⟨bt, offt + k, none⟩ = some (.string (tx ss k))) :
    Calls Try.prog 6 #[.slice (some ⟨bn, offn, none⟩) len capn, .slice (some ⟨bt, offt, none⟩) lent capt] w fun e w' => e = .returned (.bool true) ∧ Below w.heap.size w w' := by
  have HZ := Lib.hid hz
  have HCN := Lib.hid hcn
  have hbn : bn < w.heap.size := World.block_lt_of_cell? w ⟨bn, offn + 0, none⟩ (hcn 0 hlen0)
  have HS : Hid (∀ k, k ≤ 1048576 → (E zs ss k).size ≤ 1099543085056) := fun k hk => E_bound zs ss hsum hz hk
  have HT : Hid (∀ k, (tx ss k).size ≤ 1048576) := fun k => Nat.le_trans (tx_le ss k) hsum
  have HCT := Lib.hid hctx
  clear hctx
  clear hz hcn hsum
  go_enter Try.func6, Try.ntmps6
  go_wp2_with (go_at_call 11; refine (awake_any _).mono ?_; rintro e w0 ⟨rfl, hb0⟩)
  go_loopw [5, 6] (fun x i wr => ∃ k : Nat, k ≤ len ∧ i = .int .i64 k ∧ x = .string (E zs ss k) ∧ Below w.heap.size w wr) (fun _ i _ => len - (intOf i).toNat)
  case atStart => exact ⟨0, Nat.zero_le _, rfl, rfl, hb0⟩
  case round =>
    obtain ⟨k, hk, rfl, rfl, hB⟩ := hrel
    clear hb0
    by_cases hlt : k < len
    · have hE : E zs ss (k + 1) = cat [E zs ss k, vs (zz (nn zs k)), us (nn zs k), ts (tx ss k)] := rfl
      have hcw := HCN.out k hlt
      obtain ⟨hn1, hn2⟩ := HZ.out k
      have hT := HT.out k
      have hEs := HS.out (k + 1) (by omega)
      have hctk : k < lent → w.cell? ⟨bt, offt + k, none⟩ = some (.string (tx ss k)) := HCT.out k
      obtain ⟨n, hn⟩ : ∃ n, n = nn zs k := ⟨_, rfl⟩
      obtain ⟨T, hTT⟩ : ∃ T, T = tx ss k := ⟨_, rfl⟩
      obtain ⟨A, hA⟩ : ∃ A, A = E zs ss k := ⟨_, rfl⟩
      rw [← hn] at hcw hn1 hn2 hE
      rw [← hTT] at hT hE hctk
      rw [← hA] at hE ⊢
      have HTT := Lib.hid hTT
      clear hn hTT hA
      have hcell := (hB.cell (p := ⟨bn, offn + k, none⟩) hbn).trans hcw
      by_cases ht : k < lent
      · have hct := hctk ht
        have hbt := World.block_lt_of_cell? w _ hct
        have hcellt := (hB.cell (p := ⟨bt, offt + k, none⟩) hbt).trans hct
        clear hctk
        by_cases hneg : n < 0
        · have cI := fun W => putInt_any n W hn1 hn2
          have cU := fun W => putUint_any n W hn1 hn2
          rw [ue_neg hneg] at cU
          have cT := fun W => putText_any T W (by first | omega | decide)
          obtain ⟨I, hI⟩ : ∃ I, I = vs (zz n) := ⟨_, rfl⟩
          obtain ⟨U, hU⟩ : ∃ U, U = us n := ⟨_, rfl⟩
          obtain ⟨X, hX⟩ : ∃ X, X = ts T := ⟨_, rfl⟩
          rw [← hI] at cI hE
          rw [← hU] at cU hE
          rw [← hX] at cT hE
          clear hI hU hX
          have hEl : (cat [A, I, U, X]).size ≤ 140737488355328 := by rw [← hE]; omega
          have HE := Lib.hid hE
          clear hE
          go_wp2_with fail
          go_at_call 9
          refine (cU _).mono ?_
          rintro e wa ⟨rfl, hb1⟩
          have hB1 := below_call hB hb1
          have hcell1 := (hB1.cell (p := ⟨bn, offn + k, none⟩) hbn).trans hcw
          have hcell1t := (hB1.cell (p := ⟨bt, offt + k, none⟩) hbt).trans hct
          clear hcell hb1 hB hcellt
          go_wp2_with fail
          go_at_call 12
          refine (cI _).mono ?_
          rintro e wb ⟨rfl, hb2⟩
          have hB2 := below_call hB1 hb2
          clear hcell1 hb2 hB1 hcell1t
          go_wp2_with fail
          go_at_call 14
          refine (cT _).mono ?_
          rintro e wc ⟨rfl, hb3⟩
          have hB3 := below_call hB2 hb3
          clear hb3 hB2
          have cj := join_any wc.heap.size 0 4 [A, I, U, X] _ (four wc A I U X) (by rw [World.size_alloc]; omega) (by simp) (by simp) hEl
          go_wp2_with fail
          go_at_call 16
          refine cj.mono ?_
          rintro e wd ⟨rfl, hb4⟩
          have hB4 := below_call (below_new hB3) hb4
          clear cj hb4 hB3 cI cU cT hEl
          go_wp2_with fail
          go_roundw
          case rel => exact ⟨k + 1, by omega, by go_num, by rw [HE.out], hB4⟩
          case measure => simp [intOf]; omega
        · have cI := fun W => putInt_any n W hn1 hn2
          have cU := fun W => putUint_any n W hn1 hn2
          rw [ue_pos (by omega)] at cU
          have cT := fun W => putText_any T W (by first | omega | decide)
          have hpos : 0 ≤ n := by omega
          clear hneg
          obtain ⟨I, hI⟩ : ∃ I, I = vs (zz n) := ⟨_, rfl⟩
          obtain ⟨U, hU⟩ : ∃ U, U = us n := ⟨_, rfl⟩
          obtain ⟨X, hX⟩ : ∃ X, X = ts T := ⟨_, rfl⟩
          rw [← hI] at cI hE
          rw [← hU] at cU hE
          rw [← hX] at cT hE
          clear hI hU hX
          have hEl : (cat [A, I, U, X]).size ≤ 140737488355328 := by rw [← hE]; omega
          have HE := Lib.hid hE
          clear hE
          go_wp2_with fail
          go_at_call 9
          refine (cU _).mono ?_
          rintro e wa ⟨rfl, hb1⟩
          have hB1 := below_call hB hb1
          have hcell1 := (hB1.cell (p := ⟨bn, offn + k, none⟩) hbn).trans hcw
          have hcell1t := (hB1.cell (p := ⟨bt, offt + k, none⟩) hbt).trans hct
          clear hcell hb1 hB hcellt
          go_wp2_with fail
          go_at_call 12
          refine (cI _).mono ?_
          rintro e wb ⟨rfl, hb2⟩
          have hB2 := below_call hB1 hb2
          clear hcell1 hb2 hB1 hcell1t
          go_wp2_with fail
          go_at_call 14
          refine (cT _).mono ?_
          rintro e wc ⟨rfl, hb3⟩
          have hB3 := below_call hB2 hb3
          clear hb3 hB2
          have cj := join_any wc.heap.size 0 4 [A, I, U, X] _ (four wc A I U X) (by rw [World.size_alloc]; omega) (by simp) (by simp) hEl
          go_wp2_with fail
          go_at_call 16
          refine cj.mono ?_
          rintro e wd ⟨rfl, hb4⟩
          have hB4 := below_call (below_new hB3) hb4
          clear cj hb4 hB3 cI cU cT hEl
          go_wp2_with fail
          go_roundw
          case rel => exact ⟨k + 1, by omega, by go_num, by rw [HE.out], hB4⟩
          case measure => simp [intOf]; omega
      · have hTe : T = ⟨#[]⟩ := HTT.out.trans (tx_out (by omega))
        subst hTe
        clear hctk HTT
        by_cases hneg : n < 0
        · have cI := fun W => putInt_any n W hn1 hn2
          have cU := fun W => putUint_any n W hn1 hn2
          rw [ue_neg hneg] at cU
          have cT := fun W => putText_any ⟨#[]⟩ W (by first | omega | decide)
          obtain ⟨I, hI⟩ : ∃ I, I = vs (zz n) := ⟨_, rfl⟩
          obtain ⟨U, hU⟩ : ∃ U, U = us n := ⟨_, rfl⟩
          obtain ⟨X, hX⟩ : ∃ X, X = ts ⟨#[]⟩ := ⟨_, rfl⟩
          rw [← hI] at cI hE
          rw [← hU] at cU hE
          rw [← hX] at cT hE
          clear hI hU hX
          have hEl : (cat [A, I, U, X]).size ≤ 140737488355328 := by rw [← hE]; omega
          have HE := Lib.hid hE
          clear hE
          go_wp2_with fail
          go_at_call 9
          refine (cU _).mono ?_
          rintro e wa ⟨rfl, hb1⟩
          have hB1 := below_call hB hb1
          have hcell1 := (hB1.cell (p := ⟨bn, offn + k, none⟩) hbn).trans hcw
          clear hcell hb1 hB
          go_wp2_with fail
          go_at_call 12
          refine (cI _).mono ?_
          rintro e wb ⟨rfl, hb2⟩
          have hB2 := below_call hB1 hb2
          clear hcell1 hb2 hB1
          go_wp2_with fail
          go_at_call 14
          refine (cT _).mono ?_
          rintro e wc ⟨rfl, hb3⟩
          have hB3 := below_call hB2 hb3
          clear hb3 hB2
          have cj := join_any wc.heap.size 0 4 [A, I, U, X] _ (four wc A I U X) (by rw [World.size_alloc]; omega) (by simp) (by simp) hEl
          go_wp2_with fail
          go_at_call 16
          refine cj.mono ?_
          rintro e wd ⟨rfl, hb4⟩
          have hB4 := below_call (below_new hB3) hb4
          clear cj hb4 hB3 cI cU cT hEl
          go_wp2_with fail
          go_roundw
          case rel => exact ⟨k + 1, by omega, by go_num, by rw [HE.out], hB4⟩
          case measure => simp [intOf]; omega
        · have cI := fun W => putInt_any n W hn1 hn2
          have cU := fun W => putUint_any n W hn1 hn2
          rw [ue_pos (by omega)] at cU
          have cT := fun W => putText_any ⟨#[]⟩ W (by first | omega | decide)
          have hpos : 0 ≤ n := by omega
          clear hneg
          obtain ⟨I, hI⟩ : ∃ I, I = vs (zz n) := ⟨_, rfl⟩
          obtain ⟨U, hU⟩ : ∃ U, U = us n := ⟨_, rfl⟩
          obtain ⟨X, hX⟩ : ∃ X, X = ts ⟨#[]⟩ := ⟨_, rfl⟩
          rw [← hI] at cI hE
          rw [← hU] at cU hE
          rw [← hX] at cT hE
          clear hI hU hX
          have hEl : (cat [A, I, U, X]).size ≤ 140737488355328 := by rw [← hE]; omega
          have HE := Lib.hid hE
          clear hE
          go_wp2_with fail
          go_at_call 9
          refine (cU _).mono ?_
          rintro e wa ⟨rfl, hb1⟩
          have hB1 := below_call hB hb1
          have hcell1 := (hB1.cell (p := ⟨bn, offn + k, none⟩) hbn).trans hcw
          clear hcell hb1 hB
          go_wp2_with fail
          go_at_call 12
          refine (cI _).mono ?_
          rintro e wb ⟨rfl, hb2⟩
          have hB2 := below_call hB1 hb2
          clear hcell1 hb2 hB1
          go_wp2_with fail
          go_at_call 14
          refine (cT _).mono ?_
          rintro e wc ⟨rfl, hb3⟩
          have hB3 := below_call hB2 hb3
          clear hb3 hB2
          have cj := join_any wc.heap.size 0 4 [A, I, U, X] _ (four wc A I U X) (by rw [World.size_alloc]; omega) (by simp) (by simp) hEl
          go_wp2_with fail
          go_at_call 16
          refine cj.mono ?_
          rintro e wd ⟨rfl, hb4⟩
          have hB4 := below_call (below_new hB3) hb4
          clear cj hb4 hB3 cI cU cT hEl
          go_wp2_with fail
          go_roundw
          case rel => exact ⟨k + 1, by omega, by go_num, by rw [HE.out], hB4⟩
          case measure => simp [intOf]; omega
    · obtain rfl : len = k := by omega
      have hEs := HS.out len (by omega)
      have hall := E_all zs ss len
      have HDL : Hid (∀ j, j ≤ len → (dl zs ss j (len - j)).length ≤ 1099543085056) := fun j hj => dl_len zs ss hj hEs
      rw [hall]
      clear hall hEs hlt hk HS
      have r0 := rat_new wr ⟨(dl zs ss 0 len).toArray⟩
      obtain ⟨D, hD⟩ : ∃ D : ByteArray, D = ⟨(dl zs ss 0 len).toArray⟩ := ⟨_, rfl⟩
      rw [← hD] at r0 ⊢
      have HD := Lib.hid hD
      clear hD
      have cn := fun s W => new_any s W
      go_wp2_with (go_at_call 17; refine (cn _ _).mono ?_; rintro e w2 ⟨rfl, rfl⟩)
      rw [HD.out] at r0
      have hB0 := below_new (o := .cells #[.string D] 53) hB
      have hb := hB.size
      obtain ⟨b, hbe⟩ : ∃ b, b = wr.heap.size := ⟨_, rfl⟩
      rw [← hbe] at r0 hb ⊢
      rw [HD.out] at hB0
      have hB1 : Below w.heap.size w (wr.alloc (.cells #[.string D] 53)) := by rw [HD.out]; exact hB0
      have r1 : Rat (wr.alloc (.cells #[.string D] 53)) b ⟨(dl zs ss 0 len).toArray⟩ := by rw [HD.out]; exact r0
      clear hbe cn HD hB hB0 r0
      obtain ⟨wo, hwo⟩ : ∃ wo, wo = wr.alloc (.cells #[.string D] 53) := ⟨_, rfl⟩
      rw [← hwo] at hB1 r1 ⊢
      clear hwo
      go_loopw [11] (fun i wx => ∃ k : Nat, k ≤ len ∧ i = .int .i64 k ∧ Rat wx b ⟨(dl zs ss k (len - k)).toArray⟩ ∧ Below w.heap.size w wx) (fun i _ => len - (intOf i).toNat)
      case atStart => exact ⟨0, Nat.zero_le _, rfl, r1, hB1⟩
      case round =>
        obtain ⟨k, hk, rfl, hR, hB⟩ := hrel
        clear r1 hB1
        by_cases hlt : k < len
        · obtain ⟨m, hm⟩ : ∃ m, m = len - (k + 1) := ⟨_, rfl⟩
          have hlen := HDL.out k hk
          rw [show len - k = m + 1 by omega, dl] at hR hlen
          have hcw := HCN.out k hlt
          obtain ⟨hn1, hn2⟩ := HZ.out k
          have hT := HT.out k
          have hctk : k < lent → w.cell? ⟨bt, offt + k, none⟩ = some (.string (tx ss k)) := HCT.out k
          obtain ⟨n, hn⟩ : ∃ n, n = nn zs k := ⟨_, rfl⟩
          obtain ⟨T, hTT⟩ : ∃ T, T = tx ss k := ⟨_, rfl⟩
          rw [← hn] at hcw hn1 hn2 hR hlen
          rw [← hTT] at hT hR hlen hctk
          have HTT := Lib.hid hTT
          have HM := Lib.hid hm
          clear hn hTT hm
          have hcell := (hB.cell (p := ⟨bn, offn + k, none⟩) hbn).trans hcw
          by_cases ht : k < lent
          · have hct := hctk ht
            have hbt := World.block_lt_of_cell? w _ hct
            have hcellt := (hB.cell (p := ⟨bt, offt + k, none⟩) hbt).trans hct
            clear hctk
            by_cases hneg : n < 0
            · rw [ub_neg hneg, List.nil_append] at hR hlen
              have c1 := int_back b n _ wr hn1 hn2 hR (by unfold maxLen; omega)
              go_wp2_with fail
              go_at_call 19
              refine c1.mono ?_
              rintro e wa ⟨rfl, hR1, hg1⟩
              have hB1 := below_at hB hg1 hb
              have hcell1 := (hB1.cell (p := ⟨bn, offn + k, none⟩) hbn).trans hcw
              have hcell1t := (hB1.cell (p := ⟨bt, offt + k, none⟩) hbt).trans hct
              clear hcell hg1 hB hR c1 hcellt
              have c3 := text_back b T _ wa (by first | omega | decide) hR1 (by simp only [List.length_append] at hlen ⊢; unfold maxLen; omega)
              go_wp2_with fail
              go_at_call 21
              refine c3.mono ?_
              rintro e wc ⟨rfl, hR3, hg3⟩
              have hB3 := below_at hB1 hg3 hb
              have hcell3t := (hB3.cell (p := ⟨bt, offt + k, none⟩) hbt).trans hct
              clear hg3 hB1 hR1 c3
              go_wp2_with fail
              go_roundw
              case rel => exact ⟨k + 1, by omega, by go_num, by rw [← HM.out]; exact hR3, hB3⟩
              case measure => simp [intOf]; omega
            · have hpos : 0 ≤ n := by omega
              clear hneg
              have c1 := int_back b n _ wr hn1 hn2 hR (by unfold maxLen; omega)
              go_wp2_with fail
              go_at_call 19
              refine c1.mono ?_
              rintro e wa ⟨rfl, hR1, hg1⟩
              have hB1 := below_at hB hg1 hb
              have hcell1 := (hB1.cell (p := ⟨bn, offn + k, none⟩) hbn).trans hcw
              have hcell1t := (hB1.cell (p := ⟨bt, offt + k, none⟩) hbt).trans hct
              clear hcell hg1 hB hR c1 hcellt
              have c2 := uint_back b n _ wa hpos hn2 hR1 (by rw [List.length_append] at hlen; unfold maxLen; omega)
              go_wp2_with fail
              go_at_call 20
              refine c2.mono ?_
              rintro e wb ⟨rfl, hR2, hg2⟩
              have hB2 := below_at hB1 hg2 hb
              have hcell2 := (hB2.cell (p := ⟨bn, offn + k, none⟩) hbn).trans hcw
              have hcell2t := (hB2.cell (p := ⟨bt, offt + k, none⟩) hbt).trans hct
              clear hcell1 hg2 hB1 hR1 c2 hcell1t
              have c3 := text_back b T _ wb (by first | omega | decide) hR2 (by simp only [List.length_append] at hlen ⊢; unfold maxLen; omega)
              go_wp2_with fail
              go_at_call 21
              refine c3.mono ?_
              rintro e wc ⟨rfl, hR3, hg3⟩
              have hB3 := below_at hB2 hg3 hb
              have hcell3t := (hB3.cell (p := ⟨bt, offt + k, none⟩) hbt).trans hct
              clear hg3 hB2 hR2 c3
              go_wp2_with fail
              go_roundw
              case rel => exact ⟨k + 1, by omega, by go_num, by rw [← HM.out]; exact hR3, hB3⟩
              case measure => simp [intOf]; omega
          · have hTe : T = ⟨#[]⟩ := HTT.out.trans (tx_out (by omega))
            subst hTe
            clear hctk HTT
            by_cases hneg : n < 0
            · rw [ub_neg hneg, List.nil_append] at hR hlen
              have c1 := int_back b n _ wr hn1 hn2 hR (by unfold maxLen; omega)
              go_wp2_with fail
              go_at_call 19
              refine c1.mono ?_
              rintro e wa ⟨rfl, hR1, hg1⟩
              have hB1 := below_at hB hg1 hb
              have hcell1 := (hB1.cell (p := ⟨bn, offn + k, none⟩) hbn).trans hcw
              clear hcell hg1 hB hR c1
              have c3 := text_back b ⟨#[]⟩ _ wa (by first | omega | decide) hR1 (by simp only [List.length_append] at hlen ⊢; unfold maxLen; omega)
              go_wp2_with fail
              go_at_call 21
              refine c3.mono ?_
              rintro e wc ⟨rfl, hR3, hg3⟩
              have hB3 := below_at hB1 hg3 hb
              clear hg3 hB1 hR1 c3
              go_wp2_with fail
              go_roundw
              case rel => exact ⟨k + 1, by omega, by go_num, by rw [← HM.out]; exact hR3, hB3⟩
              case measure => simp [intOf]; omega
            · have hpos : 0 ≤ n := by omega
              clear hneg
              have c1 := int_back b n _ wr hn1 hn2 hR (by unfold maxLen; omega)
              go_wp2_with fail
              go_at_call 19
              refine c1.mono ?_
              rintro e wa ⟨rfl, hR1, hg1⟩
              have hB1 := below_at hB hg1 hb
              have hcell1 := (hB1.cell (p := ⟨bn, offn + k, none⟩) hbn).trans hcw
              clear hcell hg1 hB hR c1
              have c2 := uint_back b n _ wa hpos hn2 hR1 (by rw [List.length_append] at hlen; unfold maxLen; omega)
              go_wp2_with fail
              go_at_call 20
              refine c2.mono ?_
              rintro e wb ⟨rfl, hR2, hg2⟩
              have hB2 := below_at hB1 hg2 hb
              have hcell2 := (hB2.cell (p := ⟨bn, offn + k, none⟩) hbn).trans hcw
              clear hcell1 hg2 hB1 hR1 c2
              have c3 := text_back b ⟨#[]⟩ _ wb (by first | omega | decide) hR2 (by simp only [List.length_append] at hlen ⊢; unfold maxLen; omega)
              go_wp2_with fail
              go_at_call 21
              refine c3.mono ?_
              rintro e wc ⟨rfl, hR3, hg3⟩
              have hB3 := below_at hB2 hg3 hb
              clear hg3 hB2 hR2 c3
              go_wp2_with fail
              go_roundw
              case rel => exact ⟨k + 1, by omega, by go_num, by rw [← HM.out]; exact hR3, hB3⟩
              case measure => simp [intOf]; omega
        · obtain rfl : len = k := by omega
          rw [Nat.sub_self] at hR
          have c1 := left_any b ⟨#[]⟩ wr hR (Nat.zero_le _)
          have c2 := done_any b ⟨#[]⟩ wr hR (Nat.zero_le _)
          have hd : dn (ByteArray.mk #[]).size = 0 := rfl
          rw [hd] at c2
          clear hd hR
          go_wp2_with (first
            | (go_at_call 22; refine c1.mono ?_; rintro e wl ⟨rfl, rfl⟩)
            | (go_at_call 23; refine c2.mono ?_; rintro e wl ⟨rfl, rfl⟩))
          go_ret
          exact ⟨rfl, hB⟩

end Go.Proofs.Ytjoafblfloceeaa.wireBack
