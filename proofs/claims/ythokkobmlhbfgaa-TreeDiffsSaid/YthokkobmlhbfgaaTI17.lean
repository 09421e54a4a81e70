/- Diff: contract. -/
import Derived.Test.YthokkobmlhbfgaaTI16
namespace Go.Proofs.Ythokkobmlhbfgaa.En
open Go.RowKit Tx Pm Pr
set_option linter.unusedVariables false

theorem cell_one (w : World) (a : Value) (t : TypeId) : ∀ j u, [a][j]? = some u → (w.alloc (.cells #[a] t)).cell? ((⟨w.heap.size, 0, none⟩ : Addr).add j) = some u := by
  intro j u hj
  match j, hj with
  | 0, hj => simp at hj; subst hj; simp [Addr.add]
  | j + 1, hj => simp at hj

set_option maxRecDepth 100000 in
set_option maxHeartbeats 8000000 in
theorem diffI_any (a : Option Addr) (n c : Nat) (la : List Et) (b : Option Addr) (m c2 : Nat) (lb : List Et) (w : World) (ha : Ents w a n la) (hb : Ents w b m lb) (ht1 : tcheck la = 0) (ht2 : tcheck lb = 0) :
    Calls Try.prog 24 #[.slice a n c, .slice b m c2] w (DiffTo (tdiff la lb) w) := by
  obtain ⟨s0, si, sz0, sz1, sz2⟩ := info_parts info9
  have hlna := ha.1
  have hlnb := hb.1
  have hn := tree_len ht1
  have hm := tree_len ht2
  rw [hlna] at hn
  rw [hlnb] at hm
  have cga := fun p W (h : Below w.heap.size w W) => getR_any a n c la p W (ha.below h) (tree_rises ht1) (by omega)
  have cgb := fun p W (h : Below w.heap.size w W) => getR_any b m c2 lb p W (hb.below h) (tree_rises ht2) (by omega)
  have HTD := Lib.hid (fun (ts : List ByteArray) (h1 : ts.Perm (pths (dif lb) la ++ pths (gone la) lb)) (h2 : ts.Pairwise (fun a b => less b a = false)) => tree_diff ht1 ht2 h1 h2)
  have HA := Lib.hid ha
  have HB := Lib.hid hb
  have HLA := Lib.hid hlna
  have HLB := Lib.hid hlnb
  have hgN := guardN
  unfold nv at cga cgb
  clear ha hb ht1 ht2 hlna hlnb
  go_enter Try.func24, Try.ntmps24
  go_wp2_with fail
  go_loopw [5, 12] (fun v i wr => ∃ (k : Nat) (out : List ByteArray), k ≤ n ∧ i = .int .i64 k ∧ Hid (out = pths (dif lb) (la.take k)) ∧ out.length ≤ k ∧ Texts wr w.heap.size v out ∧ Below w.heap.size w wr) (fun _ i _ => n - (intOf i).toNat)
  case atStart => exact ⟨0, [], Nat.zero_le _, rfl, rfl, Nat.le_refl _, World.ownsRow_nil _ _ _ _, Below.refl _ _⟩
  case round =>
    obtain ⟨k, out, hk, rfl, hT, hlen, htx, hW⟩ := hrel
    by_cases hlt : k < n
    · obtain ⟨x, hx⟩ : ∃ x, la[k]? = some x := ⟨_, List.getElem?_eq_getElem (by have := HLA.out; omega)⟩
      obtain ⟨ba, oa, rfl, hba, c1, c2', c3⟩ := HA.out.nth hx
      have d1 := (hW.cell (p := ⟨ba, _, none⟩) hba).trans c1
      have d2 := (hW.cell (p := ⟨ba, _, none⟩) hba).trans c2'
      have d3 := (hW.cell (p := ⟨ba, _, none⟩) hba).trans c3
      have hsucc := pths_take (dif lb) la k x hx
      rw [← hT.out] at hsucc
      have hdif : dif lb x = !nsame (tget lb x.path) x.node := rfl
      have hltz : (k : Int) < (n : Int) := by omega
      obtain ⟨P, K, D⟩ := x
      simp only at d1 d2 d3 hdif hsucc
      have cg := cgb P
      obtain ⟨G, hG⟩ : ∃ G, G = tget lb P := ⟨_, rfl⟩
      rw [← hG] at cg hdif
      obtain ⟨K2, D2⟩ := G
      simp only at cg
      have hW2 := hW.alloc hW.size (.cells #[.string P, .int .i64 K, .string D] 51)
      clear c1 c2' c3 hx hT hG
      by_cases hsame : (⟨K2, D2⟩ : Nd) = ⟨K, D⟩
      · injection hsame with h1 h2
        subst h1 h2
        rw [hdif, (nsame_iff _ _).2 rfl, Bool.not_true, if_neg (by decide), List.append_nil] at hsucc
        have HN := Lib.hid hsucc.symm
        clear hsucc hdif
        go_wp2_with fail
        go_region_with (go_at_call 16; refine (cg _ hW2.drew).mono ?_; rintro e w2 ⟨rfl, hb2⟩; obtain ⟨f1, f2, f3⟩ := three_of ((Below.refl _ _).drew.trans hb2))
        all_goals
          have hW3 := below_call hW2.drew hb2
          have htx3 := (htx.below ((Below.refl _ wr).alloc (Nat.le_refl _) _)).below (((Below.refl _ _).drew).trans hb2)
          clear htx hW hW2 hb2
          go_wp2_with fail
          go_roundw
          case rel => exact ⟨k + 1, out, by omega, by go_num, HN, by omega, htx3, hW3⟩
          case measure => simp [intOf]; omega
      · have hns : nsame ⟨K2, D2⟩ ⟨K, D⟩ = false := Bool.eq_false_iff.2 (fun h => hsame ((nsame_iff _ _).1 h))
        rw [hdif, hns, Bool.not_false, if_pos rfl] at hsucc
        have HN := Lib.hid hsucc.symm
        clear hsucc hdif hns
        by_cases hK : K2 = K
        · have hD : D2 ≠ D := fun h => hsame (by rw [hK, h])
          have eD := bytes_ne hD
          subst hK
          clear hsame hD
          go_wp2_with fail
          go_region_with (go_at_call 16; refine (cg _ hW2.drew).mono ?_; rintro e w2 ⟨rfl, hb2⟩; obtain ⟨f1, f2, f3⟩ := three_of ((Below.refl _ _).drew.trans hb2))
          all_goals
            have hW3 := below_call hW2.drew hb2
            have hown := (htx.below ((Below.refl _ wr).alloc (Nat.le_refl _) _)).below (((Below.refl _ _).drew).trans hb2)
            unfold Texts at hown
            clear htx hW hW2 hb2
            go_wp2_with (at_builtin; refine wpList_append_own _ rfl _ _ 36 rfl w.heap.size 9 s0 (.string ⟨#[]⟩) 1 16 Try.underlying36 si sz0 sz1 sz2 rfl (by decide) _ _ _ rfl (hown.alloc _) ⟨w2.heap.size, 0, none⟩ 1 1 [sv P] rfl rfl (cell_one _ _ _) (sv_one [P]) (by unfold maxLen; omega) (by omega) (by have := hW3.size; simp; omega) ?_)
            intro v' w3 hown' hgrow _
            have hW4 := below_step hW3 hown hgrow
            have htx4 : Texts w3 w.heap.size v' (out ++ [P]) := by
              unfold Texts
              rw [List.length_append, List.map_append]
              exact hown'
            clear hown hown' hgrow hW3
            go_wp2_with fail
            go_roundw
            case rel => exact ⟨k + 1, out ++ [P], by omega, by go_num, HN, by simp; omega, htx4, hW4⟩
            case measure => simp [intOf]; omega
        · have eK : ((K2 : Int) == K) = false := beq_eq_false_iff_ne.2 hK
          clear hsame hK
          go_wp2_with fail
          go_region_with (go_at_call 16; refine (cg _ hW2.drew).mono ?_; rintro e w2 ⟨rfl, hb2⟩; obtain ⟨f1, f2, f3⟩ := three_of ((Below.refl _ _).drew.trans hb2))
          all_goals
            have hW3 := below_call hW2.drew hb2
            have hown := (htx.below ((Below.refl _ wr).alloc (Nat.le_refl _) _)).below (((Below.refl _ _).drew).trans hb2)
            unfold Texts at hown
            clear htx hW hW2 hb2
            go_wp2_with (at_builtin; refine wpList_append_own _ rfl _ _ 36 rfl w.heap.size 9 s0 (.string ⟨#[]⟩) 1 16 Try.underlying36 si sz0 sz1 sz2 rfl (by decide) _ _ _ rfl (hown.alloc _) ⟨w2.heap.size, 0, none⟩ 1 1 [sv P] rfl rfl (cell_one _ _ _) (sv_one [P]) (by unfold maxLen; omega) (by omega) (by have := hW3.size; simp; omega) ?_)
            intro v' w3 hown' hgrow _
            have hW4 := below_step hW3 hown hgrow
            have htx4 : Texts w3 w.heap.size v' (out ++ [P]) := by
              unfold Texts
              rw [List.length_append, List.map_append]
              exact hown'
            clear hown hown' hgrow hW3
            go_wp2_with fail
            go_roundw
            case rel => exact ⟨k + 1, out ++ [P], by omega, by go_num, HN, by simp; omega, htx4, hW4⟩
            case measure => simp [intOf]; omega
    · obtain rfl : k = n := by omega
      have h := hT.out
      rw [List.take_of_length_le (by have := HLA.out; omega)] at h
      have HO := Lib.hid h
      have hol : out.length ≤ 200 := by omega
      have htx0 := htx
      have hW0 := hW
      clear hT h hlen htx hW hlt hk
      go_wp2_with fail
      go_loopw [5, 31] (fun v i wr => ∃ (j : Nat) (rest : List ByteArray), j ≤ m ∧ i = .int .i64 j ∧ Hid (rest = out ++ pths (gone la) (lb.take j)) ∧ rest.length ≤ 200 + j ∧ Texts wr w.heap.size v rest ∧ Below w.heap.size w wr) (fun _ i _ => m - (intOf i).toNat)
      case atStart => exact ⟨0, out, Nat.zero_le _, rfl, by show _ = _; simp [pths], by omega, htx0, hW0⟩
      case round =>
        obtain ⟨j, rest, hj, rfl, hT, hlen, htx, hW⟩ := hrel
        by_cases hlt : j < m
        · obtain ⟨x, hx⟩ : ∃ x, lb[j]? = some x := ⟨_, List.getElem?_eq_getElem (by have := HLB.out; omega)⟩
          obtain ⟨bb, ob, rfl, hbb, c1, c2', c3⟩ := HB.out.nth hx
          have d1 := (hW.cell (p := ⟨bb, _, none⟩) hbb).trans c1
          have d2 := (hW.cell (p := ⟨bb, _, none⟩) hbb).trans c2'
          have d3 := (hW.cell (p := ⟨bb, _, none⟩) hbb).trans c3
          have hsucc : out ++ pths (gone la) (lb.take (j + 1)) = out ++ (pths (gone la) (lb.take j) ++ (if gone la x = true then [x.path] else [])) := by rw [pths_take (gone la) lb j x hx]
          rw [← List.append_assoc, ← hT.out] at hsucc
          have hgo : gone la x = isno (tget la x.path) := rfl
          have hltz : (j : Int) < (m : Int) := by omega
          obtain ⟨P, K, D⟩ := x
          simp only at d1 d2 d3 hgo hsucc
          have cg := cga P
          have ci := fun W => isNone_any (tget la P) W
          unfold nv at ci
          rw [← hgo] at ci
          obtain ⟨F, hF⟩ : ∃ F, F = gone la ⟨P, K, D⟩ := ⟨_, rfl⟩
          rw [← hF] at ci hsucc
          obtain ⟨G, hG⟩ : ∃ G, G = tget la P := ⟨_, rfl⟩
          rw [← hG] at cg ci
          obtain ⟨K2, D2⟩ := G
          simp only at cg ci
          have hW2 := hW.alloc hW.size (.cells #[.string P, .int .i64 K, .string D] 51)
          clear c1 c2' c3 hx hT hG hF hgo
          go_wp2_with fail
          go_at_call 16
          refine (cg _ hW2).mono ?_
          rintro e w2 ⟨rfl, hb2⟩
          have hW3 := below_call hW2 hb2
          obtain ⟨f1, f2, f3⟩ := three_of hb2
          go_wp2_with fail
          go_at_call 41
          refine (ci _).mono ?_
          rintro e w3 ⟨rfl, hb3'⟩
          have hb3 := below_call hb2 hb3'
          have hW4 := below_call hW2 hb3
          have hown := (htx.below ((Below.refl _ wr).alloc (Nat.le_refl _) _)).below hb3
          clear htx hW hW3 cg ci f1 f2 f3
          obtain ⟨f1, f2, f3⟩ := three_of hb3
          clear hb2 hb3 hb3' hW2
          cases F with
          | false =>
            rw [if_neg (by decide), List.append_nil] at hsucc
            have HN := Lib.hid hsucc.symm
            clear hsucc
            go_wp2_with fail
            go_roundw
            case rel => exact ⟨j + 1, rest, by omega, by go_num, HN, by omega, hown, hW4⟩
            case measure => simp [intOf]; omega
          | true =>
            rw [if_pos rfl] at hsucc
            have HN := Lib.hid hsucc.symm
            clear hsucc
            unfold Texts at hown
            go_wp2_with (at_builtin; refine wpList_append_own _ rfl _ _ 36 rfl w.heap.size 9 s0 (.string ⟨#[]⟩) 1 16 Try.underlying36 si sz0 sz1 sz2 rfl (by decide) _ _ _ rfl (hown.alloc _) ⟨w3.heap.size, 0, none⟩ 1 1 [sv P] rfl rfl (cell_one _ _ _) (sv_one [P]) (by unfold maxLen; omega) (by omega) (by have := hW4.size; simp; omega) ?_)
            intro v' w4 hown' hgrow _
            have hW5 := below_step hW4 hown hgrow
            have htx4 : Texts w4 w.heap.size v' (rest ++ [P]) := by
              unfold Texts
              rw [List.length_append, List.map_append]
              exact hown'
            clear hown hown' hgrow hW4
            go_wp2_with fail
            go_roundw
            case rel => exact ⟨j + 1, rest ++ [P], by omega, by go_num, HN, by simp; omega, htx4, hW5⟩
            case measure => simp [intOf]; omega
        · obtain rfl : j = m := by omega
          have h := hT.out
          rw [List.take_of_length_le (by have := HLB.out; omega), HO.out] at h
          have HR := Lib.hid h
          have cso := sortS_any _ rest wr w.heap.size htx hW.size (by omega)
          clear hT h hlen hlt
          obtain ⟨av, cv, hv, _⟩ := Texts.form htx
          obtain ⟨Q, hQ⟩ : ∃ Q, Q = rest.length := ⟨_, rfl⟩
          rw [← hQ] at hv
          subst hv
          clear htx hQ
          go_wp2_with fail
          go_at_call 42
          refine cso.mono ?_
          rintro e w5 ⟨rfl, ts, hperm, hsort, htx5, hb5⟩
          have HTS := Lib.hid (HTD.out ts (by rw [← HR.out]; exact hperm) hsort)
          have hW5 := hW.trans hb5
          have HTX := Lib.hid htx5
          clear hperm hsort htx5 cso
          go_wp2_with fail
          go_ret
          exact ⟨_, rfl, by rw [← HTS.out]; exact HTX.out, hW5⟩
end Go.Proofs.Ythokkobmlhbfgaa.En
