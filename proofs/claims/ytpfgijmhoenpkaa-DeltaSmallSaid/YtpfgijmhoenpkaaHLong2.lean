/- Package delta's longest: contract. -/
import Derived.Test.YtpfgijmhoenpkaaHLong
namespace Go.Proofs.Ytpfgijmhoenpkaa.Dl
open Go.RowKit Wm Wr Dm
set_option linter.unusedVariables false

set_option maxRecDepth 100000 in
set_option maxHeartbeats 16000000 in
theorem longest_any (b : Nat) (base s : ByteArray) (z : Int) (w : World) (h : Ix w b base) (hb : base.size ≤ 1000000000000) (hs : s.size ≤ 1000000000000) (hz : -4000000000000 ≤ z ∧ z ≤ 4000000000000) :
    Calls Try.prog 15 #[.pointer (some ⟨b, 0, none⟩), .string s, .int .i64 z] w fun e w' => e = .returned (.tuple #[.int .i64 ((lg base.data.toList s.data.toList z).1 : Nat), .int .i64 ((lg base.data.toList s.data.toList z).2 : Nat)]) ∧ Below w.heap.size w w' := by
  obtain ⟨bm, g, nn, h1, h2, h3, h4, h5, h6, h7⟩ := h
  have hbl := Wm.len_l base
  have hsl := Wm.len_l s
  obtain ⟨RES, hres⟩ : ∃ R, R = lg base.data.toList s.data.toList z := ⟨_, rfl⟩
  rw [← hres]
  unfold lg at hres
  rw [hsl] at hres
  by_cases hs4 : s.size < 4
  · rw [if_pos hs4] at hres
    rw [hres]
    have hsz : (s.size : Int) < 4 := by omega
    clear hres h7 hbl hsl
    go_enter Try.func15, Try.ntmps15
    go_wp2_with fail
    go_ret2
    exact ⟨rfl, Below.refl _ _⟩
  · rw [if_neg hs4] at hres
    have hsz : ¬ ((s.size : Int) < 4) := by omega
    have F0 := Lib.hid (fun V (hV : Below w.heap.size w V) => (hV.cell (p := ⟨b, 0, none⟩) h6).trans h1)
    have F1 := Lib.hid (fun V (hV : Below w.heap.size w V) => (hV.cell (p := ⟨b, 1, none⟩) h6).trans h2)
    have F2 := Lib.hid (fun V (hV : Below w.heap.size w V) => (hV.cell (p := ⟨b, 2, none⟩) h6).trans h3)
    have F4 := Lib.hid (fun V (hV : Below w.heap.size w V) => Mf.look (h4.kept (hV.block bm h4.lt)) (blk_lt s.data.toList 0))
    have F7 := Lib.hid (fun V (hV : Below w.heap.size w V) i (hi : i < base.size) => (hV.cell (p := ⟨g, i, none⟩) h5).trans (h7 i hi))
    have hA0 := fs_le base.data.toList (Dm.pl base.data.toList) (Dm.pl base.data.toList) (blk s.data.toList 0) (Nat.le_refl _)
    have hpl : Dm.pl base.data.toList = base.size - 3 := by unfold Dm.pl; rw [hbl]
    have cb := fun V => block_any s 0 V (by unfold maxLen; omega) (by omega)
    have hr0 := run_lg0 base.data.toList s.data.toList z
    obtain ⟨a0, ha0⟩ : ∃ a0, a0 = fs base.data.toList (Dm.pl base.data.toList) (Dm.pl base.data.toList) (blk s.data.toList 0) := ⟨_, rfl⟩
    rw [← ha0] at hres hA0 F4
    generalize blk s.data.toList 0 = K at cb F4
    clear h1 h2 h3 h4 h7 ha0
    have c00 := F0.out w (Below.refl _ _)
    by_cases hlk : 0 ≤ z ∧ z < (base.size : Int)
    · obtain ⟨y, rfl⟩ : ∃ y : Nat, z = (y : Int) := ⟨z.toNat, by omega⟩
      have hl0 : lg0 base.data.toList s.data.toList (y : Int) = (y, cp (base.data.toList.drop y) s.data.toList) := by
        unfold lg0
        rw [hbl, if_pos hlk]
        rfl
      rw [hl0] at hres hr0
      unfold Run at hr0
      simp only at hres hr0
      rw [hbl, hsl] at hr0
      obtain ⟨hr1, hr2, _⟩ := hr0
      have ca := fun V => alike_any (base.extract y base.size) s V (by unfold maxLen; simp; omega) (by unfold maxLen; omega)
      rw [drop_l] at ca
      generalize cp (base.data.toList.drop y) s.data.toList = n0 at ca hres hr1 hr2
      have HRES := Lib.hid hres
      have hy1 : (y : Int) < (base.size : Int) := hlk.2
      clear hres hl0 hlk
      obtain ⟨i0, hi0⟩ : ∃ i0, i0 = y := ⟨_, rfl⟩
      go_enter Try.func15, Try.ntmps15
      go_wp2_with fail
      go_at_call 25
      refine (ca _).mono ?_
      rintro e wq ⟨rfl, hBq⟩
      subst hi0
      clear ca c00
      have d1 : wq.drew.cell? ⟨b, 1, none⟩ = some (.map (some bm)) := F1.out wq.drew hBq.drew
      go_wp2_with fail
      go_region_with (go_at_call 23; refine (cb _).mono ?_; rintro e w5 ⟨rfl, hb5⟩; have hB5 := Wr.below_call hBq.drew hb5; have d2 := F1.out w5 hB5; have lk := F4.out w5 hB5)
      all_goals
        clear d1 d2 lk hb5 cb
        go_wp2_with fail
        go_loopw [6, 7, 8, 9] (fun fv nv av tv wr => ∃ i n a t : Nat, fv = .int .i64 (i : Nat) ∧ nv = .int .i64 (n : Nat) ∧ av = .int .i64 ((a : Int) - 1) ∧ tv = .int .i64 (t : Nat) ∧ t ≤ 256 ∧ n ≤ s.size ∧ a ≤ base.size - 3 ∧ i ≤ base.size ∧ Hid (RES = lgL base.data.toList s.data.toList (256 - t) a i n) ∧ Below w.heap.size w wr) (fun _ _ _ tv _ => 256 - (intOf tv).toNat)
        case atStart => exact ⟨i0, n0, a0, 0, rfl, rfl, by go_num, rfl, by omega, hr2, by omega, by omega, HRES, hB5⟩
        case round =>
          clear hB5
          obtain ⟨i, n, a, t, rfl, rfl, rfl, rfl, ht, hn, ha, hi, hR, hB⟩ := hrel
          have e0 := F0.out _ hB
          have e2 := F2.out _ hB
          by_cases ha0 : a = 0
          · subst ha0
            have hE : RES = (i, n) := by rw [hR.out, lgL_none]
            have HE := Lib.hid hE
            clear hE hR
            go_wp2_with fail
            go_ret2
            rw [HE.out]
            exact ⟨rfl, hB⟩
          · obtain ⟨q, rfl⟩ : ∃ q, a = q + 1 := ⟨a - 1, by omega⟩
            have hq1 : ((q + 1 : Nat) : Int) - 1 = (q : Int) := by omega
            rw [hq1]
            have hqb : (q : Int) < (base.size : Int) := by omega
            by_cases ht2 : t = 256
            · subst ht2
              have hE : RES = (i, n) := by rw [hR.out]; rfl
              have HE := Lib.hid hE
              clear hE hR
              go_wp2_with fail
              go_ret2
              rw [HE.out]
              exact ⟨rfl, hB⟩
            · have ht3 : (t : Int) < 256 := by omega
              obtain ⟨T, hT⟩ : ∃ T, 256 - t = T + 1 := ⟨255 - t, by omega⟩
              have hT2 : 256 - (t + 1) = T := by omega
              by_cases hns : n < s.size
              · have hnz : (n : Int) < (s.size : Int) := by omega
                have hmore := lgL_more (base := base.data.toList) (s := s.data.toList) (t := T) (a := q) (i := i) (n := n) (by rw [hsl]; exact hns)
                have e7 := F7.out _ hB q (by omega)
                have hnx := nx_le base.data.toList q
                rw [hpl] at hnx
                have cr := fun V (hV : Below w.heap.size w V) => reaches_any b base q n s[n].toNat V (F0.out V hV) hb (by omega) (by omega)
                have hrn := rch_not (base := base.data.toList) (s := s.data.toList) (a := q) (n := n) (by rw [hsl]; exact hns)
                rw [gd s n hns] at hrn
                have hcq := cp_le (base.data.toList.drop q) s.data.toList
                rw [List.length_drop, hbl, hsl] at hcq
                have ca := fun V => alike_any (base.extract q base.size) s V (by unfold maxLen; simp; omega) (by unfold maxLen; omega)
                rw [drop_l] at ca
                generalize nx base.data.toList q = X at hmore e7 hnx
                generalize cp (base.data.toList.drop q) s.data.toList = C at hmore hrn hcq ca
                generalize rch base.data.toList q n s[n].toNat = B at cr hrn
                cases B
                · have hC : ¬ n < C := by have := hrn rfl; omega
                  rw [if_neg hC] at hmore
                  have hE : Hid (RES = lgL base.data.toList s.data.toList (256 - (t + 1)) X i n) := Lib.hid (by rw [hR.out, hT, hmore, hT2])
                  have cr0 := cr _ hB
                  clear hmore hrn hR hT hT2 ca hcq hC cr ha0
                  go_wp2_with fail
                  go_at_call 26
                  refine cr0.mono ?_
                  rintro e w7 ⟨rfl, rfl⟩
                  go_wp2_with fail
                  go_roundw
                  case rel => exact ⟨i, n, X, t + 1, rfl, rfl, by go_num, by go_num, by omega, by omega, by omega, by omega, hE, hB⟩
                  case measure => simp [intOf]; omega
                · have cr0 := cr _ hB
                  by_cases hC : n < C
                  · rw [if_pos hC] at hmore
                    have hE : Hid (RES = lgL base.data.toList s.data.toList (256 - (t + 1)) X q C) := Lib.hid (by rw [hR.out, hT, hmore, hT2])
                    have hCz : (n : Int) < (C : Int) := by omega
                    clear hmore hrn hR hT hT2 cr ha0
                    go_wp2_with fail
                    go_at_call 26
                    refine cr0.mono ?_
                    rintro e w7 ⟨rfl, rfl⟩
                    go_wp2_with fail
                    go_at_call 25
                    refine (ca _).mono ?_
                    rintro e w8 ⟨rfl, hb8⟩
                    have hB8 := Wr.below_call hB hb8
                    have e2' := F2.out _ hB8
                    have e7' := (hb8.cell (p := ⟨g, q, none⟩) (World.block_lt_of_cell? _ _ e7)).trans e7
                    clear hb8 ca cr0 e0 e2 e7
                    go_wp2_with fail
                    go_roundw
                    case rel => exact ⟨q, C, X, t + 1, rfl, rfl, by go_num, by go_num, by omega, by omega, by omega, by omega, hE, hB8⟩
                    case measure => simp [intOf]; omega
                  · rw [if_neg hC] at hmore
                    have hE : Hid (RES = lgL base.data.toList s.data.toList (256 - (t + 1)) X i n) := Lib.hid (by rw [hR.out, hT, hmore, hT2])
                    have hCz : ¬ ((n : Int) < (C : Int)) := by omega
                    clear hmore hrn hR hT hT2 cr ha0
                    go_wp2_with fail
                    go_at_call 26
                    refine cr0.mono ?_
                    rintro e w7 ⟨rfl, rfl⟩
                    go_wp2_with fail
                    go_at_call 25
                    refine (ca _).mono ?_
                    rintro e w8 ⟨rfl, hb8⟩
                    have hB8 := Wr.below_call hB hb8
                    have e2' := F2.out _ hB8
                    have e7' := (hb8.cell (p := ⟨g, q, none⟩) (World.block_lt_of_cell? _ _ e7)).trans e7
                    clear hb8 ca cr0 e0 e2 e7
                    go_wp2_with fail
                    go_roundw
                    case rel => exact ⟨i, n, X, t + 1, rfl, rfl, by go_num, by go_num, by omega, by omega, by omega, by omega, hE, hB8⟩
                    case measure => simp [intOf]; omega
              · have hnz : ¬ ((n : Int) < (s.size : Int)) := by omega
                have hE : RES = (i, n) := by rw [hR.out, hT, lgL, if_neg (by rw [hsl]; exact hns)]
                have HE := Lib.hid hE
                clear hE hR hT hT2
                go_wp2_with fail
                go_ret2
                rw [HE.out]
                exact ⟨rfl, hB⟩
    · have hl0 : lg0 base.data.toList s.data.toList z = (0, 0) := by
        unfold lg0
        rw [hbl, if_neg hlk]
      rw [hl0] at hres
      simp only at hres
      obtain ⟨n0, hn0⟩ : ∃ n0 : Nat, n0 = 0 := ⟨_, rfl⟩
      have HRES := Lib.hid hres
      have hBq := Below.refl w.heap.size w
      have hr1 : 0 + 0 ≤ base.size := Nat.zero_le _
      have hr2 : 0 ≤ s.size := Nat.zero_le _
      clear hres hl0 hn0 hr0
      by_cases hz0 : 0 ≤ z
      · have hz1 : ¬ (z < (base.size : Int)) := fun h => hlk ⟨hz0, h⟩
        clear hlk
        go_enter Try.func15, Try.ntmps15
        have d1 : w.drew.cell? ⟨b, 1, none⟩ = some (.map (some bm)) := F1.out w.drew hBq.drew
        go_wp2_with fail
        go_region_with (go_at_call 23; refine (cb _).mono ?_; rintro e w5 ⟨rfl, hb5⟩; have hB5 := Wr.below_call hBq.drew hb5; have d2 := F1.out w5 hB5; have lk := F4.out w5 hB5)
        all_goals
          clear d1 d2 lk hb5 cb
          go_wp2_with fail
          go_loopw [6, 7, 8, 9] (fun fv nv av tv wr => ∃ i n a t : Nat, fv = .int .i64 (i : Nat) ∧ nv = .int .i64 (n : Nat) ∧ av = .int .i64 ((a : Int) - 1) ∧ tv = .int .i64 (t : Nat) ∧ t ≤ 256 ∧ n ≤ s.size ∧ a ≤ base.size - 3 ∧ i ≤ base.size ∧ Hid (RES = lgL base.data.toList s.data.toList (256 - t) a i n) ∧ Below w.heap.size w wr) (fun _ _ _ tv _ => 256 - (intOf tv).toNat)
          case atStart => exact ⟨0, 0, a0, 0, rfl, rfl, by go_num, rfl, by omega, hr2, by omega, by omega, HRES, hB5⟩
          case round =>
            clear hB5
            obtain ⟨i, n, a, t, rfl, rfl, rfl, rfl, ht, hn, ha, hi, hR, hB⟩ := hrel
            have e0 := F0.out _ hB
            have e2 := F2.out _ hB
            by_cases ha0 : a = 0
            · subst ha0
              have hE : RES = (i, n) := by rw [hR.out, lgL_none]
              have HE := Lib.hid hE
              clear hE hR
              go_wp2_with fail
              go_ret2
              rw [HE.out]
              exact ⟨rfl, hB⟩
            · obtain ⟨q, rfl⟩ : ∃ q, a = q + 1 := ⟨a - 1, by omega⟩
              have hq1 : ((q + 1 : Nat) : Int) - 1 = (q : Int) := by omega
              rw [hq1]
              have hqb : (q : Int) < (base.size : Int) := by omega
              by_cases ht2 : t = 256
              · subst ht2
                have hE : RES = (i, n) := by rw [hR.out]; rfl
                have HE := Lib.hid hE
                clear hE hR
                go_wp2_with fail
                go_ret2
                rw [HE.out]
                exact ⟨rfl, hB⟩
              · have ht3 : (t : Int) < 256 := by omega
                obtain ⟨T, hT⟩ : ∃ T, 256 - t = T + 1 := ⟨255 - t, by omega⟩
                have hT2 : 256 - (t + 1) = T := by omega
                by_cases hns : n < s.size
                · have hnz : (n : Int) < (s.size : Int) := by omega
                  have hmore := lgL_more (base := base.data.toList) (s := s.data.toList) (t := T) (a := q) (i := i) (n := n) (by rw [hsl]; exact hns)
                  have e7 := F7.out _ hB q (by omega)
                  have hnx := nx_le base.data.toList q
                  rw [hpl] at hnx
                  have cr := fun V (hV : Below w.heap.size w V) => reaches_any b base q n s[n].toNat V (F0.out V hV) hb (by omega) (by omega)
                  have hrn := rch_not (base := base.data.toList) (s := s.data.toList) (a := q) (n := n) (by rw [hsl]; exact hns)
                  rw [gd s n hns] at hrn
                  have hcq := cp_le (base.data.toList.drop q) s.data.toList
                  rw [List.length_drop, hbl, hsl] at hcq
                  have ca := fun V => alike_any (base.extract q base.size) s V (by unfold maxLen; simp; omega) (by unfold maxLen; omega)
                  rw [drop_l] at ca
                  generalize nx base.data.toList q = X at hmore e7 hnx
                  generalize cp (base.data.toList.drop q) s.data.toList = C at hmore hrn hcq ca
                  generalize rch base.data.toList q n s[n].toNat = B at cr hrn
                  cases B
                  · have hC : ¬ n < C := by have := hrn rfl; omega
                    rw [if_neg hC] at hmore
                    have hE : Hid (RES = lgL base.data.toList s.data.toList (256 - (t + 1)) X i n) := Lib.hid (by rw [hR.out, hT, hmore, hT2])
                    have cr0 := cr _ hB
                    clear hmore hrn hR hT hT2 ca hcq hC cr ha0
                    go_wp2_with fail
                    go_at_call 26
                    refine cr0.mono ?_
                    rintro e w7 ⟨rfl, rfl⟩
                    go_wp2_with fail
                    go_roundw
                    case rel => exact ⟨i, n, X, t + 1, rfl, rfl, by go_num, by go_num, by omega, by omega, by omega, by omega, hE, hB⟩
                    case measure => simp [intOf]; omega
                  · have cr0 := cr _ hB
                    by_cases hC : n < C
                    · rw [if_pos hC] at hmore
                      have hE : Hid (RES = lgL base.data.toList s.data.toList (256 - (t + 1)) X q C) := Lib.hid (by rw [hR.out, hT, hmore, hT2])
                      have hCz : (n : Int) < (C : Int) := by omega
                      clear hmore hrn hR hT hT2 cr ha0
                      go_wp2_with fail
                      go_at_call 26
                      refine cr0.mono ?_
                      rintro e w7 ⟨rfl, rfl⟩
                      go_wp2_with fail
                      go_at_call 25
                      refine (ca _).mono ?_
                      rintro e w8 ⟨rfl, hb8⟩
                      have hB8 := Wr.below_call hB hb8
                      have e2' := F2.out _ hB8
                      have e7' := (hb8.cell (p := ⟨g, q, none⟩) (World.block_lt_of_cell? _ _ e7)).trans e7
                      clear hb8 ca cr0 e0 e2 e7
                      go_wp2_with fail
                      go_roundw
                      case rel => exact ⟨q, C, X, t + 1, rfl, rfl, by go_num, by go_num, by omega, by omega, by omega, by omega, hE, hB8⟩
                      case measure => simp [intOf]; omega
                    · rw [if_neg hC] at hmore
                      have hE : Hid (RES = lgL base.data.toList s.data.toList (256 - (t + 1)) X i n) := Lib.hid (by rw [hR.out, hT, hmore, hT2])
                      have hCz : ¬ ((n : Int) < (C : Int)) := by omega
                      clear hmore hrn hR hT hT2 cr ha0
                      go_wp2_with fail
                      go_at_call 26
                      refine cr0.mono ?_
                      rintro e w7 ⟨rfl, rfl⟩
                      go_wp2_with fail
                      go_at_call 25
                      refine (ca _).mono ?_
                      rintro e w8 ⟨rfl, hb8⟩
                      have hB8 := Wr.below_call hB hb8
                      have e2' := F2.out _ hB8
                      have e7' := (hb8.cell (p := ⟨g, q, none⟩) (World.block_lt_of_cell? _ _ e7)).trans e7
                      clear hb8 ca cr0 e0 e2 e7
                      go_wp2_with fail
                      go_roundw
                      case rel => exact ⟨i, n, X, t + 1, rfl, rfl, by go_num, by go_num, by omega, by omega, by omega, by omega, hE, hB8⟩
                      case measure => simp [intOf]; omega
                · have hnz : ¬ ((n : Int) < (s.size : Int)) := by omega
                  have hE : RES = (i, n) := by rw [hR.out, hT, lgL, if_neg (by rw [hsl]; exact hns)]
                  have HE := Lib.hid hE
                  clear hE hR hT hT2
                  go_wp2_with fail
                  go_ret2
                  rw [HE.out]
                  exact ⟨rfl, hB⟩
      · clear hlk
        go_enter Try.func15, Try.ntmps15
        have d1 : w.drew.cell? ⟨b, 1, none⟩ = some (.map (some bm)) := F1.out w.drew hBq.drew
        go_wp2_with fail
        go_region_with (go_at_call 23; refine (cb _).mono ?_; rintro e w5 ⟨rfl, hb5⟩; have hB5 := Wr.below_call hBq.drew hb5; have d2 := F1.out w5 hB5; have lk := F4.out w5 hB5)
        all_goals
          clear d1 d2 lk hb5 cb
          go_wp2_with fail
          go_loopw [6, 7, 8, 9] (fun fv nv av tv wr => ∃ i n a t : Nat, fv = .int .i64 (i : Nat) ∧ nv = .int .i64 (n : Nat) ∧ av = .int .i64 ((a : Int) - 1) ∧ tv = .int .i64 (t : Nat) ∧ t ≤ 256 ∧ n ≤ s.size ∧ a ≤ base.size - 3 ∧ i ≤ base.size ∧ Hid (RES = lgL base.data.toList s.data.toList (256 - t) a i n) ∧ Below w.heap.size w wr) (fun _ _ _ tv _ => 256 - (intOf tv).toNat)
          case atStart => exact ⟨0, 0, a0, 0, rfl, rfl, by go_num, rfl, by omega, hr2, by omega, by omega, HRES, hB5⟩
          case round =>
            clear hB5
            obtain ⟨i, n, a, t, rfl, rfl, rfl, rfl, ht, hn, ha, hi, hR, hB⟩ := hrel
            have e0 := F0.out _ hB
            have e2 := F2.out _ hB
            by_cases ha0 : a = 0
            · subst ha0
              have hE : RES = (i, n) := by rw [hR.out, lgL_none]
              have HE := Lib.hid hE
              clear hE hR
              go_wp2_with fail
              go_ret2
              rw [HE.out]
              exact ⟨rfl, hB⟩
            · obtain ⟨q, rfl⟩ : ∃ q, a = q + 1 := ⟨a - 1, by omega⟩
              have hq1 : ((q + 1 : Nat) : Int) - 1 = (q : Int) := by omega
              rw [hq1]
              have hqb : (q : Int) < (base.size : Int) := by omega
              by_cases ht2 : t = 256
              · subst ht2
                have hE : RES = (i, n) := by rw [hR.out]; rfl
                have HE := Lib.hid hE
                clear hE hR
                go_wp2_with fail
                go_ret2
                rw [HE.out]
                exact ⟨rfl, hB⟩
              · have ht3 : (t : Int) < 256 := by omega
                obtain ⟨T, hT⟩ : ∃ T, 256 - t = T + 1 := ⟨255 - t, by omega⟩
                have hT2 : 256 - (t + 1) = T := by omega
                by_cases hns : n < s.size
                · have hnz : (n : Int) < (s.size : Int) := by omega
                  have hmore := lgL_more (base := base.data.toList) (s := s.data.toList) (t := T) (a := q) (i := i) (n := n) (by rw [hsl]; exact hns)
                  have e7 := F7.out _ hB q (by omega)
                  have hnx := nx_le base.data.toList q
                  rw [hpl] at hnx
                  have cr := fun V (hV : Below w.heap.size w V) => reaches_any b base q n s[n].toNat V (F0.out V hV) hb (by omega) (by omega)
                  have hrn := rch_not (base := base.data.toList) (s := s.data.toList) (a := q) (n := n) (by rw [hsl]; exact hns)
                  rw [gd s n hns] at hrn
                  have hcq := cp_le (base.data.toList.drop q) s.data.toList
                  rw [List.length_drop, hbl, hsl] at hcq
                  have ca := fun V => alike_any (base.extract q base.size) s V (by unfold maxLen; simp; omega) (by unfold maxLen; omega)
                  rw [drop_l] at ca
                  generalize nx base.data.toList q = X at hmore e7 hnx
                  generalize cp (base.data.toList.drop q) s.data.toList = C at hmore hrn hcq ca
                  generalize rch base.data.toList q n s[n].toNat = B at cr hrn
                  cases B
                  · have hC : ¬ n < C := by have := hrn rfl; omega
                    rw [if_neg hC] at hmore
                    have hE : Hid (RES = lgL base.data.toList s.data.toList (256 - (t + 1)) X i n) := Lib.hid (by rw [hR.out, hT, hmore, hT2])
                    have cr0 := cr _ hB
                    clear hmore hrn hR hT hT2 ca hcq hC cr ha0
                    go_wp2_with fail
                    go_at_call 26
                    refine cr0.mono ?_
                    rintro e w7 ⟨rfl, rfl⟩
                    go_wp2_with fail
                    go_roundw
                    case rel => exact ⟨i, n, X, t + 1, rfl, rfl, by go_num, by go_num, by omega, by omega, by omega, by omega, hE, hB⟩
                    case measure => simp [intOf]; omega
                  · have cr0 := cr _ hB
                    by_cases hC : n < C
                    · rw [if_pos hC] at hmore
                      have hE : Hid (RES = lgL base.data.toList s.data.toList (256 - (t + 1)) X q C) := Lib.hid (by rw [hR.out, hT, hmore, hT2])
                      have hCz : (n : Int) < (C : Int) := by omega
                      clear hmore hrn hR hT hT2 cr ha0
                      go_wp2_with fail
                      go_at_call 26
                      refine cr0.mono ?_
                      rintro e w7 ⟨rfl, rfl⟩
                      go_wp2_with fail
                      go_at_call 25
                      refine (ca _).mono ?_
                      rintro e w8 ⟨rfl, hb8⟩
                      have hB8 := Wr.below_call hB hb8
                      have e2' := F2.out _ hB8
                      have e7' := (hb8.cell (p := ⟨g, q, none⟩) (World.block_lt_of_cell? _ _ e7)).trans e7
                      clear hb8 ca cr0 e0 e2 e7
                      go_wp2_with fail
                      go_roundw
                      case rel => exact ⟨q, C, X, t + 1, rfl, rfl, by go_num, by go_num, by omega, by omega, by omega, by omega, hE, hB8⟩
                      case measure => simp [intOf]; omega
                    · rw [if_neg hC] at hmore
                      have hE : Hid (RES = lgL base.data.toList s.data.toList (256 - (t + 1)) X i n) := Lib.hid (by rw [hR.out, hT, hmore, hT2])
                      have hCz : ¬ ((n : Int) < (C : Int)) := by omega
                      clear hmore hrn hR hT hT2 cr ha0
                      go_wp2_with fail
                      go_at_call 26
                      refine cr0.mono ?_
                      rintro e w7 ⟨rfl, rfl⟩
                      go_wp2_with fail
                      go_at_call 25
                      refine (ca _).mono ?_
                      rintro e w8 ⟨rfl, hb8⟩
                      have hB8 := Wr.below_call hB hb8
                      have e2' := F2.out _ hB8
                      have e7' := (hb8.cell (p := ⟨g, q, none⟩) (World.block_lt_of_cell? _ _ e7)).trans e7
                      clear hb8 ca cr0 e0 e2 e7
                      go_wp2_with fail
                      go_roundw
                      case rel => exact ⟨i, n, X, t + 1, rfl, rfl, by go_num, by go_num, by omega, by omega, by omega, by omega, hE, hB8⟩
                      case measure => simp [intOf]; omega
                · have hnz : ¬ ((n : Int) < (s.size : Int)) := by omega
                  have hE : RES = (i, n) := by rw [hR.out, hT, lgL, if_neg (by rw [hsl]; exact hns)]
                  have HE := Lib.hid hE
                  clear hE hR hT hT2
                  go_wp2_with fail
                  go_ret2
                  rw [HE.out]
                  exact ⟨rfl, hB⟩
end Go.Proofs.Ytpfgijmhoenpkaa.Dl
