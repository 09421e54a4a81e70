/- The statements' own Apart of trees: lists that lie apart are told so: contract. -/
import Derived.Test.YthokkobmlhbfgaaEApart2
namespace Go.Proofs.Ythokkobmlhbfgaa.Ea
open Go.RowKit Tx En Ap
set_option linter.unusedVariables false

theorem infoL : (Try.prog.info? 22).map (fun i => (i.zero, i.size, i.bytes)) = some (some (.slice none 0 0), 1, 24) := by kernel_rfl
theorem below_put3 {B g k : Nat} {x : Et} {w0 w : World} (h : Below B w0 w) (hg : B ≤ g) : Below B w0 (put3 w g k x) :=
  ((h.setCell (p := ⟨g, _, none⟩) hg _).setCell (p := ⟨g, _, none⟩) hg _).setCell (p := ⟨g, _, none⟩) hg _

set_option maxRecDepth 100000 in
set_option maxHeartbeats 4000000 in
theorem apart_any (L : Ls) (co : Nat) (w : World) (hm : L.m ≤ 1048576) (hN : ∀ j, j < L.m → L.N j ≤ 1048576) (hB : L.B ≤ w.heap.size) (hbo : L.bo < w.heap.size) (hbB : L.B ≤ L.bo) (hf : L.far) (hc : L.cells w) (hr : L.marked w 0 0) :
    Calls Try.prog 26 #[.slice (some ⟨L.bo, 0, none⟩) L.m co] w fun e w' => e = .returned (.bool true) ∧ Below L.B w w' := by
  obtain ⟨i0, hi0, hz0, hz1, hz2⟩ := info_parts infoE
  obtain ⟨i33, hi33, hy0, hy1, hy2⟩ := info_parts infoL
  have HN := Lib.hid hN
  have HF := Lib.hid hf
  have HC := Lib.hid hc
  have HR := Lib.hid hr
  clear hN hf hc hr
  go_enter Try.func26, Try.ntmps26
  go_wp2
  go_loopw [3, 4] (fun i _ wr => ∃ j : Nat, j ≤ L.m ∧ i = .int .i64 j ∧ Hid (L.cells wr) ∧ Hid (L.marked wr j 0) ∧ Below L.B w wr ∧ w.heap.size ≤ wr.heap.size) (fun i _ _ => L.m - (intOf i).toNat)
  case atStart => exact ⟨0, Nat.zero_le _, rfl, HC, HR, Below.refl _ _, Nat.le_refl _⟩
  case round =>
    obtain ⟨i, hi, rfl, hcells, hmark, hb, hsz⟩ := hrel
    by_cases hlt : i < L.m
    · have hcell := hcells.out i hlt
      have hNi := HN.out i hlt
      obtain ⟨n, hn⟩ : ∃ n, n = L.N i := ⟨_, rfl⟩
      rw [← hn] at hcell hNi
      have HNN := Lib.hid hn
      clear hn
      go_wp2
      go_loopw [4] (fun x wx => ∃ k : Nat, k ≤ n ∧ x = .int .i64 k ∧ Hid (L.cells wx) ∧ Hid (L.marked wx i k) ∧ Below L.B w wx ∧ w.heap.size ≤ wx.heap.size) (fun x _ => n - (intOf x).toNat)
      case atStart => exact ⟨0, Nat.zero_le _, rfl, hcells, hmark, hb, hsz⟩
      case round =>
        obtain ⟨k, hk, rfl, hcells2, hmark2, hb2, hsz2⟩ := hrel
        have hcell2 := hcells2.out i hlt
        rw [← HNN.out] at hcell2
        clear hcell hcells hmark hb hsz
        by_cases hkn : k < n
        · obtain ⟨xs, hx1, hx2⟩ := hmark2.out i hlt
          rw [← HNN.out] at hx1
          have hxl : xs.length = n := by have := hx1.1; rw [flat_len] at this; omega
          obtain ⟨g, ha, hg⟩ := addr_eq hx1 (by omega)
          rw [ha] at hcell2 hx1
          have hf0 := own_frozen hx1 (k * 3)
          have hf1 := own_frozen hx1 (k * 3 + 1)
          have hf2 := own_frozen hx1 (k * 3 + 1 + 1)
          obtain ⟨y, hy⟩ : ∃ y, xs[k]? = some y := ⟨_, List.getElem?_eq_getElem (by omega)⟩
          have hs0 := own_cell hx1 (k := k * 3 + 0) (flat_at xs k y 0 hy (by omega))
          have hs1 := own_cell hx1 (k := k * 3 + 1) (flat_at xs k y 1 hy (by omega))
          have hs2 := own_cell hx1 (k := k * 3 + 1 + 1) (flat_at xs k y 2 hy (by omega))
          simp only [Nat.add_zero] at hs0
          have hkn' : (k : Int) < (n : Int) := by omega
          have hlt' : (i : Int) < (L.m : Int) := by omega
          clear hx1 hx2 hy hxl
          go_wp2
          go_roundw
          case rel => exact ⟨k + 1, by omega, by go_num, cells_store (k := k) HF.out hcells2.out hlt ha (wasE i), marked_store HF.out hmark2.out hlt (by rw [← HNN.out]; exact hkn) ha, below_put3 (k := k) (x := wasE i) hb2 hg, by simpa [World.setCell] using hsz2⟩
          case measure => simp [intOf]; omega
        · obtain rfl : k = n := by omega
          have hdone : Hid (L.marked wr (i + 1) 0) := marked_next (by rw [← HNN.out]; exact hmark2.out)
          go_wp2
          go_roundw
          case rel => exact ⟨i + 1, by omega, by go_num, hcells2, hdone, hb2, hsz2⟩
          case measure => simp [intOf]; omega
    · obtain rfl : i = L.m := by omega
      clear HC HR
      have hinv := inv_start HF.out hcells.out hmark.out (by omega) (by omega) hb
      have HI := Lib.hid hinv
      obtain ⟨H, hH⟩ : ∃ H, H = wr.heap.size := ⟨_, rfl⟩
      rw [← hH] at HI
      clear hinv hH hcells hmark hb hsz hlt
      go_wp2
      go_loopw [5, 6, 7, 8] (fun v6 i _ _ wx => ∃ (k : Nat) (vs : List Value) (b c : Nat → Nat), k ≤ L.m ∧ i = .int .i64 k ∧ Hid (Inv L w H k k wx v6 vs b c)) (fun _ i _ _ _ => L.m - (intOf i).toNat)
      case atStart => exact ⟨0, [], _, _, Nat.zero_le _, rfl, HI⟩
      case round =>
        obtain ⟨i, vs, b, c, hi, rfl, HV⟩ := hrel
        clear HI
        by_cases hlt : i < L.m
        · have hcell := HV.out.cells i hlt
          have hcur := Lib.hid (cur_start HF.out HV.out (Nat.le_refl _) hlt)
          have hmore := Lib.hid (inv_more HV.out (by omega))
          have hNi := HN.out i hlt
          have hlt' : (i : Int) < (L.m : Int) := by omega
          go_wp2
          go_loopw [7, 8] (fun v x wy => ∃ k : Nat, k ≤ 20 ∧ x = .int .i64 k ∧ Hid (Inv L w H i (i + 1) wy u5 vs b c) ∧ Hid (Cur L H i k wy v b)) (fun _ x _ => 20 - (intOf x).toNat)
          case atStart => exact ⟨0, by omega, rfl, hmore, hcur⟩
          case round =>
            obtain ⟨k, hk, rfl, hI, hC⟩ := hrel
            clear HV hcell hcur hmore
            have hsz := hI.out.size
            have hbs := hI.out.base
            by_cases hk20 : k < 20
            · have hown := hC.out.own
              go_wp2_with (at_builtin; refine wpList_append_two _ rfl _ _ 22 rfl L.B 51 i0 (.agg #[.string ⟨#[]⟩, .int .i64 0, .string ⟨#[]⟩]) 3 40 Try.underlying22 hi0 hz0 hz1 hz2 rfl (by decide) (by decide) _ _ _ rfl (hown.alloc _) ⟨wr.heap.size, 0, none⟩ 1 (En.cells (newE i)) rfl rfl ?c1 ?c2 ?c3 ?c4 ?c5 ?_)
              case c1 => exact cell_three_new _ _ _ _ _
              case c2 => exact cells_one (newE i)
              case c3 => omega
              case c4 => omega
              case c5 => simp; omega
              intro v1 w1 hown1 hg1
              have hst := both_step HF.out hI.out (Nat.le_refl _) hlt hC.out hown1 hg1
              have h1 := Lib.hid hst.1
              have h2 := Lib.hid hst.2
              clear hst hown hown1 hg1
              go_wp2
              go_roundw
              case rel => exact ⟨k + 1, by omega, by go_num, h1, h2⟩
              case measure => simp [intOf]; omega
            · obtain rfl : k = 20 := by omega
              obtain ⟨bv, cv, hv, _, _⟩ := hC.out.own.form (by omega)
              rw [hv] at hC ⊢
              clear hv
              have hout := hI.out.outer
              go_wp2_with (at_builtin; refine wpList_append_two _ rfl _ _ 39 rfl L.B 22 i33 (.slice none 0 0) 1 24 Try.underlying39 hi33 hy0 hy1 hy2 rfl (by decide) (by decide) _ _ _ rfl (hout.alloc _) ⟨wr.heap.size, 0, none⟩ 1 [.slice (some ⟨bv, 0, none⟩) (L.N i + 20) cv] rfl rfl ?c1 ?c2 ?c3 ?c4 ?c5 ?_)
              case c1 => exact cell_one_new _ _ _
              case c2 => intro u hu; simp at hu; subst hu; rfl
              case c3 => omega
              case c4 => omega
              case c5 => simp; omega
              intro v7 w1 hown1 hg1
              obtain ⟨b2, c2, hst⟩ := outer_next HF.out hI.out (Nat.le_refl _) hlt hC.out hown1 hg1
              have h1 := Lib.hid hst
              clear hst hout hown1 hg1
              go_wp2
              go_roundw
              case rel => exact ⟨i + 1, _, b2, c2, by omega, by go_num, h1⟩
              case measure => simp [intOf]; omega
        · obtain rfl : i = L.m := by omega
          have hbelow := HV.out.below
          by_cases hm0 : L.m = 0
          · have hm0' : (L.m : Int) ≤ 0 := by omega
            go_wp2
            go_loop [9] (fun i => i = .int .i64 0) (fun _ => 0)
            case atStart => exact rfl
            case round =>
              obtain rfl := hrel
              go_wp2
              go_ret
              exact ⟨rfl, hbelow⟩
          · obtain ⟨g6, c6, hv6, _, _⟩ := HV.out.outer.form (by omega)
            rw [hv6] at HV ⊢
            clear hv6 hm0
            go_wp2
            go_loop [9, 10, 11] (fun i _ _ => ∃ j : Nat, j ≤ L.m ∧ i = .int .i64 j) (fun i _ _ => L.m - (intOf i).toNat)
            case atStart => exact ⟨0, Nat.zero_le _, rfl⟩
            case round =>
              obtain ⟨j, hj, rfl⟩ := hrel
              by_cases hjm : j < L.m
              · obtain ⟨hlv, hlo, _⟩ := HV.out.long j hjm
                have hcl := own_cell HV.out.outer hlv
                have hcj := HV.out.cells j hjm
                have HLO := Lib.hid hlo
                have HH := Lib.hid (HV.out.held j hjm)
                have hNj := HN.out j hjm
                have hjm' : (j : Int) < (L.m : Int) := by omega
                obtain ⟨n, hn⟩ : ∃ n, n = L.N j := ⟨_, rfl⟩
                obtain ⟨bj, hbj⟩ : ∃ x, x = b j := ⟨_, rfl⟩
                obtain ⟨cj, hcj2⟩ : ∃ x, x = c j := ⟨_, rfl⟩
                rw [← hn, ← hbj, ← hcj2] at hcl HLO
                rw [← hn] at hcj hNj HH
                have HNN := Lib.hid hn
                clear hn hbj hcj2 hlo hlv
                go_wp2
                go_loop [10, 11] (fun x _ => ∃ l : Nat, l ≤ n + 20 ∧ x = .int .i64 l) (fun x _ => n + 20 - (intOf x).toNat)
                case atStart => exact ⟨0, Nat.zero_le _, rfl⟩
                case round =>
                  obtain ⟨l, hl, rfl⟩ := hrel
                  by_cases hln : l < n
                  · obtain ⟨g, ha, hcg⟩ := HH.out l hln
                    have hcb := own_kind HLO.out (row_was (L := L) (j := j) (k := 20) (l := l) (by rw [← HNN.out]; exact hln))
                    unfold sw at hcg
                    unfold wasE at hcb
                    simp only at hcb
                    rw [ha] at hcj
                    have hln1 : (l : Int) < (n : Int) := by omega
                    have hln2 : (l : Int) < (n : Int) + 20 := by omega
                    go_wp2
                    go_round
                    case rel => exact ⟨l + 1, by omega, by go_num⟩
                    case measure => simp [intOf]; omega
                  · by_cases hl20 : l < n + 20
                    · have hcb := own_kind HLO.out (row_new (L := L) (j := j) (k := 20) (l := l) (by rw [← HNN.out]; exact hln) (by rw [← HNN.out]; exact hl20))
                      unfold newE at hcb
                      simp only at hcb
                      have hln1 : (n : Int) ≤ (l : Int) := by omega
                      have hln2 : (l : Int) < (n : Int) + 20 := by omega
                      go_wp2
                      go_round
                      case rel => exact ⟨l + 1, by omega, by go_num⟩
                      case measure => simp [intOf]; omega
                    · obtain rfl : l = n + 20 := by omega
                      go_wp2
                      go_round
                      case rel => exact ⟨j + 1, by omega, by go_num⟩
                      case measure => simp [intOf]; omega
              · go_wp2
                go_ret
                exact ⟨rfl, hbelow⟩

end Go.Proofs.Ythokkobmlhbfgaa.Ea
