/-
  TreeDiffs: for all trees a, b and every path: the paths that tree.Diff tells rise, are just those at which the two are unlike, and are none just where the two are alike: the law returns true, and writes nothing that was there. No condition.
-/
import Derived.Test.YthokkobmlhbfgaaTDReg
import Derived.Test.YthokkobmlhbfgaaEMath
import Derived.Test.YthokkobmlhbfgaaTW
import Derived.JoinedCond
import Derived.SizedLaws
import Derived.ChangeOld
import Derived.Deep.CondSized
namespace Go.Proofs.Ythokkobmlhbfgaa.treeDiffs
open Go.ChangeMaps (open_string shut_string)
open Go.ChangeShapes Go.WideShapes Go.ChangeAt Go.RowKit Tx Pm Pr En Ea
set_option linter.unusedVariables false

set_option maxRecDepth 100000 in
set_option maxHeartbeats 4000000 in
theorem walk (a : Option Addr) (n c : Nat) (la : List Et) (b : Option Addr) (m c2 : Nat) (lb : List Et) (p : ByteArray) (w : World) (hla : Ents w a n la) (hlb : Ents w b m lb) (hn : n ≤ 9223372036854775807) (hm : m ≤ 9223372036854775807) (hs : Wide la) (hs2 : Wide lb) (hp : p.size ≤ 140737488355328) (hca : n ≤ c ∧ c ≤ 9223372036854775807) (hcb : m ≤ c2 ∧ c2 ≤ 9223372036854775807) :
    Calls Try.prog 7 #[.slice a n c, .slice b m c2, .string p] w fun e w' => e = .returned (.bool true) ∧ Below w.heap.size w w' := by
  have ccha := fun W (h : Below w.heap.size w W) => tCheckW_any a n c la W (hla.below h) hca.1 hca.2 (by omega) hs
  have cchb := fun W (h : Below w.heap.size w W) => tCheckW_any b m c2 lb W (hlb.below h) hcb.1 hcb.2 (by omega) hs2
  by_cases hTa : tcheck la = 0
  rotate_left
  · have e1 : (((tcheck la : Nat) : Int) == 0) = false := beq_eq_false_iff_ne.2 (by omega)
    have e2 : (((tcheck la : Nat) : Int) != 0) = true := by unfold bne; rw [e1]; rfl
    clear hTa
    go_enter Try.func7, Try.ntmps7
    go_wp2_with fail
    go_at_call 9
    refine (awake_any4 _).mono ?_
    rintro e w1 ⟨rfl, hb1⟩
    go_wp2_with fail
    go_at_call 10
    refine (ccha _ hb1).mono ?_
    rintro e w2 ⟨rfl, hb2⟩
    go_wp2_with fail
    go_at_call 9
    refine (awake_any4 _).mono ?_
    rintro e w3 ⟨rfl, hb3⟩
    go_wp2_with fail
    go_ret
    exact ⟨rfl, below_call (below_call hb1 hb2) hb3⟩
  rw [hTa] at ccha
  by_cases hTb : tcheck lb = 0
  rotate_left
  · have e1 : (((tcheck lb : Nat) : Int) == 0) = false := beq_eq_false_iff_ne.2 (by omega)
    have e2 : (((tcheck lb : Nat) : Int) != 0) = true := by unfold bne; rw [e1]; rfl
    clear hTb
    go_enter Try.func7, Try.ntmps7
    go_wp2_with fail
    go_at_call 9
    refine (awake_any4 _).mono ?_
    rintro e w1 ⟨rfl, hb1⟩
    go_wp2_with fail
    go_at_call 10
    refine (ccha _ hb1).mono ?_
    rintro e w2 ⟨rfl, hb2⟩
    go_wp2_with fail
    go_at_call 10
    refine (cchb _ (below_call hb1 hb2)).mono ?_
    rintro e w3 ⟨rfl, hb3⟩
    go_wp2_with fail
    go_at_call 9
    refine (awake_any4 _).mono ?_
    rintro e w4 ⟨rfl, hb4⟩
    go_wp2_with fail
    go_ret
    exact ⟨rfl, below_call (below_call (below_call hb1 hb2) hb3) hb4⟩
  · rw [hTb] at cchb
    have cga := fun q (hq : q.size ≤ 140737488355328) W (h : Below w.heap.size w W) => tGetW_any a n c la q W (hla.below h) hTa hq
    have cgb := fun q (hq : q.size ≤ 140737488355328) W (h : Below w.heap.size w W) => tGetW_any b m c2 lb q W (hlb.below h) hTb hq
    have cd := fun W (h : Below w.heap.size w W) => tDiff_any a n c la b m c2 lb W (hla.below h) (hlb.below h) hTa hTb
    have cd2 := fun W (h : Below w.heap.size w W) => tDiff_any b m c2 lb a n c la W (hlb.below h) (hla.below h) hTb hTa
    have cm := fun W (h : Below w.heap.size w W) => tSame_any a b n m c c2 la lb W (hla.below h) (hlb.below h) hTa hTb
    obtain ⟨hr, hmem, _⟩ := tdiff_all la lb
    have hnil := tdiff_nil hTa hTb
    have hpath : ∀ q ∈ tdiff la lb, chk q.data.toList 5 = 0 := fun q hq => tdiff_path hTa hTb hq
    have hsz : ∀ q ∈ tdiff la lb, q.size ≤ 64 := fun q hq => chk_size (hpath q hq)
    have hn2 : n ≤ 200 := by have := tree_len hTa; have := hla.1; omega
    have hm2 : m ≤ 200 := by have := tree_len hTb; have := hlb.1; omega
    have hlen := diffs_len la lb (tsort (la ++ lb)) (la.length + lb.length)
    rw [show diffs la lb (tsort (la ++ lb)) (la.length + lb.length) = tdiff la lb from rfl, hla.1, hlb.1] at hlen
    rw [tdiff_swap la lb] at cd2
    obtain ⟨DL, hDL⟩ : ∃ DL, DL = tdiff la lb := ⟨_, rfl⟩
    rw [← hDL] at cd cd2 hr hmem hnil hpath hsz hlen
    have HR := Lib.hid hr
    have HM := Lib.hid hmem
    have HNL := Lib.hid hnil
    have HP := Lib.hid hpath
    have HSZ := Lib.hid hsz
    clear hla hlb hTa hTb hDL hr hmem hnil hpath hsz
    go_enter Try.func7, Try.ntmps7
    go_wp2_with fail
    go_at_call 9
    refine (awake_any4 _).mono ?_
    rintro e w1 ⟨rfl, hb1⟩
    go_wp2_with fail
    go_at_call 10
    refine (ccha _ hb1).mono ?_
    rintro e w2 ⟨rfl, hb2'⟩
    have hb2 := below_call hb1 hb2'
    go_wp2_with fail
    go_at_call 10
    refine (cchb _ hb2).mono ?_
    rintro e w3 ⟨rfl, hb3'⟩
    have hb3 := below_call hb2 hb3'
    clear hb1 hb2' hb2 hb3' ccha cchb
    go_wp2_with fail
    go_at_call 24
    refine (cd _ hb3).mono ?_
    rintro e w4 ⟨v4, rfl, hx4, hb4'⟩
    have hb4 := below_call hb3 hb4'
    obtain ⟨a4, k4, hv4, hs4, _, _⟩ := Texts.form hx4
    subst hv4
    obtain ⟨L, hL⟩ : ∃ L, L = DL.length := ⟨_, rfl⟩
    rw [← hL] at hs4 hlen
    rw [← hL]
    have HL := Lib.hid hL
    clear hx4 hb4' hb3 cd hL
    go_upto_block 0 with fail
    go_cut [8, 9] from 10 to 105 (fun tv _ wq => ∃ T : Bool, tv = .bool T ∧ Hid (T = true ↔ p ∈ DL) ∧ Below w4.heap.size w4 wq)
    case first =>
      by_cases hL0 : L = 0
      · have hDe : DL = [] := List.length_eq_zero_iff.1 (by rw [← HL.out]; exact hL0)
        subst hL0
        go_wp2_with fail
        go_loop [8, 9] (fun t i => i = .int .i64 0 ∧ t = .bool false) (fun _ _ => 0)
        case atStart => exact ⟨rfl, rfl⟩
        case round =>
          obtain ⟨rfl, rfl⟩ := hrel
          go_wp2_with fail
          go_meet
          exact ⟨false, rfl, Iff.intro (fun h => by cases h) (fun h => by rw [hDe] at h; cases h), Below.refl _ _⟩
      · obtain ⟨bd, od, rfl, hbd, hcd⟩ := hs4.2.resolve_left hL0
        have HC := Lib.hid hcd
        clear hcd hs4 hL0
        go_wp2_with fail
        go_loopw [8, 9] (fun t i wq => ∃ (k : Nat) (T : Bool), k ≤ L ∧ i = .int .i64 k ∧ t = .bool T ∧ Hid (T = true ↔ p ∈ DL.take k) ∧ Below w4.heap.size w4 wq) (fun _ i _ => L - (intOf i).toNat)
        case atStart => exact ⟨0, false, Nat.zero_le _, rfl, rfl, Iff.intro (fun h => by cases h) (fun h => by simp at h), Below.refl _ _⟩
        case round =>
          obtain ⟨k, T, hk, rfl, rfl, hT, hW⟩ := hrel
          by_cases hlt : k < L
          · obtain ⟨q, hq⟩ : ∃ q, DL[k]? = some q := ⟨_, List.getElem?_eq_getElem (by rw [← HL.out]; exact hlt)⟩
            have hqm := List.mem_of_getElem? hq
            have hcell : ∀ W, Below w4.heap.size w4 W → W.cell? ⟨bd, od + k, none⟩ = some (.string q) := fun W h => (h.cell (p := ⟨bd, _, none⟩) hbd).trans (HC.out k q hq)
            have hsq := HSZ.out q hqm
            have cck := fun W => refCheck_any q 5 W (by omega) (by omega) (by omega)
            rw [HP.out q hqm] at cck
            have hne := (HM.out q).1 hqm
            have ca := fun W h => cga q (by omega) W h
            have cb := fun W h => cgb q (by omega) W h
            obtain ⟨G1, hG1⟩ : ∃ G, G = tget la q := ⟨_, rfl⟩
            obtain ⟨G2, hG2⟩ : ∃ G, G = tget lb q := ⟨_, rfl⟩
            rw [← hG1] at ca hne
            rw [← hG2] at cb hne
            obtain ⟨K1, D1⟩ := G1
            obtain ⟨K2, D2⟩ := G2
            rw [show nv ⟨K1, D1⟩ = .agg #[.int .i64 K1, .string D1] from rfl] at ca
            rw [show nv ⟨K2, D2⟩ = .agg #[.int .i64 K2, .string D2] from rfl] at cb
            have hgN := guardN
            have htake : DL.take (k + 1) = DL.take k ++ [q] := by
              obtain ⟨hk2, he2⟩ := List.getElem?_eq_some_iff.1 hq
              rw [List.take_succ_eq_append_getElem hk2, he2]
            have hprev : k = 0 ∨ ∃ j z, k = j + 1 ∧ Op.bytesLess z.toList q.toList = true ∧ ∀ W, Below w4.heap.size w4 W → W.cell? ⟨bd, od + j, none⟩ = some (.string z) := by
              cases k with
              | zero => exact .inl rfl
              | succ j =>
                have hj : j < DL.length := by rw [← HL.out]; omega
                refine .inr ⟨j, DL[j], rfl, ?_, fun W h => (h.cell (p := ⟨bd, _, none⟩) hbd).trans (HC.out j _ (List.getElem?_eq_getElem hj))⟩
                obtain ⟨hk2, he2⟩ := List.getElem?_eq_some_iff.1 hq
                have := List.pairwise_iff_getElem.1 HR.out j (j + 1) hj hk2 (by omega)
                rw [he2] at this
                exact this
            have HTK := Lib.hid htake
            have HCE := Lib.hid hcell
            clear hG1 hG2 hq hqm htake hcell
            go_upto_region 8 with fail
            go_cut [69] from 26 to 78 (fun cv wq => cv = .bool false ∧ Below w4.heap.size w4 wq)
            case first =>
              have hne2 : K1 ≠ K2 ∨ (K1 = K2 ∧ D1.toList ≠ D2.toList) := by
                by_cases h1 : K1 = K2
                · refine .inr ⟨h1, fun h2 => hne ?_⟩
                  rw [h1, to_list.1 h2]
                · exact .inl h1
              clear hne
              have hlt1 : (k : Int) < (L : Int) := by omega
              rcases hprev with hk0 | ⟨j, z, hj, hless, hz⟩
              · subst hk0
                rw [Nat.add_zero] at HCE
                rcases hne2 with hK | ⟨hK, hD⟩
                · go_wp2_with fail
                  refine Rg.wp_only ?_ (reg8_1 _ (by kernel_rfl) _ a n c b m c2 bd od L k4 0 q q D1 D2 K1 K2 w w4 _ hb4 hW (fun W h => HCE.out W h) (by omega) (by omega) hK ca cb cck)
                  rintro _ w9 ⟨rfl, hW9⟩
                  go_wp2_with fail
                  go_meet
                  exact ⟨rfl, hW9⟩
                · subst hK
                  go_wp2_with fail
                  refine Rg.wp_only ?_ (reg8_2 _ (by kernel_rfl) _ a n c b m c2 bd od L k4 0 q q D1 D2 K1 K1 w w4 _ hb4 hW (fun W h => HCE.out W h) (by omega) (by omega) hD ca cb cck)
                  rintro _ w9 ⟨rfl, hW9⟩
                  go_wp2_with fail
                  go_meet
                  exact ⟨rfl, hW9⟩
              · subst hj
                rcases hne2 with hK | ⟨hK, hD⟩
                · go_wp2_with fail
                  refine Rg.wp_only ?_ (reg8_3 _ (by kernel_rfl) _ a n c b m c2 bd od L k4 j q z D1 D2 K1 K2 w w4 _ hb4 hW (fun W h => HCE.out W h) hz hless (by omega) (by omega) hK ca cb cck)
                  rintro _ w9 ⟨rfl, hW9⟩
                  go_wp2_with fail
                  go_meet
                  exact ⟨rfl, hW9⟩
                · subst hK
                  go_wp2_with fail
                  refine Rg.wp_only ?_ (reg8_4 _ (by kernel_rfl) _ a n c b m c2 bd od L k4 j q z D1 D2 K1 K1 w w4 _ hb4 hW (fun W h => HCE.out W h) hz hless (by omega) (by omega) hD ca cb cck)
                  rintro _ w9 ⟨rfl, hW9⟩
                  go_wp2_with fail
                  go_meet
                  exact ⟨rfl, hW9⟩
            case rest =>
              clear hprev hne
              obtain ⟨rfl, hW⟩ := hcut
              have e0 := HCE.out _ hW
              by_cases hqp : q = p
              · have hin : Hid (true = true ↔ p ∈ DL.take (k + 1)) := Iff.intro (fun _ => by rw [HTK.out, hqp]; simp) (fun _ => rfl)
                have eq1 : (q.toList == p.toList) = true := by rw [hqp]; exact beq_self_eq_true _
                clear hqp ca cb cck
                cases T
                · go_wp2_with fail
                  go_roundw
                  case rel => exact ⟨k + 1, true, by omega, by go_num, rfl, hin, hW⟩
                  case measure => simp [intOf]; omega
                · go_wp2_with fail
                  go_roundw
                  case rel => exact ⟨k + 1, true, by omega, by go_num, rfl, hin, hW⟩
                  case measure => simp [intOf]; omega
              · have hin : Hid (T = true ↔ p ∈ DL.take (k + 1)) := by
                  show T = true ↔ _
                  rw [HTK.out, List.mem_append, List.mem_singleton, hT.out]
                  exact ⟨fun h => .inl h, fun h => h.resolve_right (fun e => hqp e.symm)⟩
                have eq1 := bytes_ne hqp
                clear hqp ca cb cck hT
                cases T
                · go_wp2_with fail
                  go_roundw
                  case rel => exact ⟨k + 1, false, by omega, by go_num, rfl, hin, hW⟩
                  case measure => simp [intOf]; omega
                · go_wp2_with fail
                  go_roundw
                  case rel => exact ⟨k + 1, true, by omega, by go_num, rfl, hin, hW⟩
                  case measure => simp [intOf]; omega
          · obtain rfl : k = L := by omega
            have h := hT.out
            rw [List.take_of_length_le (by rw [← HL.out]; omega)] at h
            have HE := Lib.hid h
            clear h hT
            go_wp2_with fail
            go_meet
            exact ⟨T, rfl, HE, hW⟩
    case rest =>
      obtain ⟨T, rfl, hT, hW⟩ := hcut
      have ca := fun W h => cga p (by omega) W h
      have cb := fun W h => cgb p (by omega) W h
      have hmem := HM.out p
      obtain ⟨G1, hG1⟩ : ∃ G, G = tget la p := ⟨_, rfl⟩
      obtain ⟨G2, hG2⟩ : ∃ G, G = tget lb p := ⟨_, rfl⟩
      rw [← hG1] at ca hmem
      rw [← hG2] at cb hmem
      have hTG : T = true ↔ G1 ≠ G2 := hT.out.trans hmem
      obtain ⟨K1, D1⟩ := G1
      obtain ⟨K2, D2⟩ := G2
      rw [show nv ⟨K1, D1⟩ = .agg #[.int .i64 K1, .string D1] from rfl] at ca
      rw [show nv ⟨K2, D2⟩ = .agg #[.int .i64 K2, .string D2] from rfl] at cb
      have hgN := guardN
      have hB := below_call hb4 hW
      have hcases : (T = false ∧ K1 = K2 ∧ D1.toList = D2.toList) ∨ (T = true ∧ K1 ≠ K2) ∨ (T = true ∧ K1 = K2 ∧ D1.toList ≠ D2.toList) := by
        by_cases h1 : K1 = K2
        · by_cases h2 : D1.toList = D2.toList
          · left
            refine ⟨?_, h1, h2⟩
            cases T
            · rfl
            · exact absurd (by rw [h1, to_list.1 h2]) (hTG.1 rfl)
          · exact .inr (.inr ⟨hTG.2 (fun h => by injection h with _ h; exact h2 (to_list.2 h)), h1, h2⟩)
        · exact .inr (.inl ⟨hTG.2 (fun h => by injection h with h _; exact h1 h), h1⟩)
      clear hG1 hG2 hmem hTG hT cga cgb
      have hL0 : ((L : Int) == 0) = decide (la = lb) := by
        by_cases h : la = lb
        · have := HNL.out.2 h
          rw [decide_eq_true h]
          have e : L = 0 := by rw [HL.out]; exact this
          rw [e]; rfl
        · rw [decide_eq_false h]
          refine beq_eq_false_iff_ne.2 (fun e => h (HNL.out.1 ?_))
          rw [← HL.out]
          omega
      rcases hcases with ⟨rfl, hK, hD⟩ | ⟨rfl, hK⟩ | ⟨rfl, hK, hD⟩
      · obtain rfl := to_list.1 hD
        subst hK
        clear hD
        go_wp2_with fail
        go_at_call 16
        refine (ca _ hB).mono ?_
        rintro e w5 ⟨rfl, hb5'⟩
        have hB5 := below_call hB hb5'
        go_wp2_with fail
        go_at_call 16
        refine (cb _ hB5).mono ?_
        rintro e w6 ⟨rfl, hb6'⟩
        have hB6 := below_call hB5 hb6'
        clear hb5' hb6' hB5
        go_wp2_with fail
        go_at_call 22
        refine (cm _ hB6).mono ?_
        rintro e w7 ⟨BB, hBB, rfl, hb7'⟩
        have hB7 := below_call hB6 hb7'
        obtain rfl : ((L : Int) == 0) = BB := by
          rw [hL0]
          exact Bool.eq_iff_iff.2 (by rw [decide_eq_true_eq]; exact hBB.symm)
        clear hb7' hB6 hBB
        go_wp2_with fail
        go_at_call 24
        refine (cd2 _ hB7).mono ?_
        rintro e w8 ⟨v8, rfl, hx8, hb8'⟩
        have hB8 := below_call hB7 hb8'
        obtain ⟨a8, k8, hv8, _, _, _⟩ := Texts.form hx8
        subst hv8
        rw [← HL.out]
        clear hx8 hb8' hB7
        go_wp2_with fail
        go_ret
        exact ⟨rfl, hB8⟩
      · go_wp2_with fail
        go_at_call 16
        refine (ca _ hB).mono ?_
        rintro e w5 ⟨rfl, hb5'⟩
        have hB5 := below_call hB hb5'
        go_wp2_with fail
        go_at_call 16
        refine (cb _ hB5).mono ?_
        rintro e w6 ⟨rfl, hb6'⟩
        have hB6 := below_call hB5 hb6'
        clear hb5' hb6' hB5
        go_wp2_with fail
        go_at_call 22
        refine (cm _ hB6).mono ?_
        rintro e w7 ⟨BB, hBB, rfl, hb7'⟩
        have hB7 := below_call hB6 hb7'
        obtain rfl : ((L : Int) == 0) = BB := by
          rw [hL0]
          exact Bool.eq_iff_iff.2 (by rw [decide_eq_true_eq]; exact hBB.symm)
        clear hb7' hB6 hBB
        go_wp2_with fail
        go_at_call 24
        refine (cd2 _ hB7).mono ?_
        rintro e w8 ⟨v8, rfl, hx8, hb8'⟩
        have hB8 := below_call hB7 hb8'
        obtain ⟨a8, k8, hv8, _, _, _⟩ := Texts.form hx8
        subst hv8
        rw [← HL.out]
        clear hx8 hb8' hB7
        go_wp2_with fail
        go_ret
        exact ⟨rfl, hB8⟩
      · subst hK
        go_wp2_with fail
        go_at_call 16
        refine (ca _ hB).mono ?_
        rintro e w5 ⟨rfl, hb5'⟩
        have hB5 := below_call hB hb5'
        go_wp2_with fail
        go_at_call 16
        refine (cb _ hB5).mono ?_
        rintro e w6 ⟨rfl, hb6'⟩
        have hB6 := below_call hB5 hb6'
        clear hb5' hb6' hB5
        go_wp2_with fail
        go_at_call 22
        refine (cm _ hB6).mono ?_
        rintro e w7 ⟨BB, hBB, rfl, hb7'⟩
        have hB7 := below_call hB6 hb7'
        obtain rfl : ((L : Int) == 0) = BB := by
          rw [hL0]
          exact Bool.eq_iff_iff.2 (by rw [decide_eq_true_eq]; exact hBB.symm)
        clear hb7' hB6 hBB
        go_wp2_with fail
        go_at_call 24
        refine (cd2 _ hB7).mono ?_
        rintro e w8 ⟨v8, rfl, hx8, hb8'⟩
        have hB8 := below_call hB7 hb8'
        obtain ⟨a8, k8, hv8, _, _, _⟩ := Texts.form hx8
        subst hv8
        rw [← HL.out]
        clear hx8 hb8' hB7
        go_wp2_with fail
        go_ret
        exact ⟨rfl, hB8⟩

theorem own : ownKnob Try.prog.godebug = none := by kernel_rfl
theorem laidOut : laidOutB Try.prog = true := by kernel_rfl

set_option maxRecDepth 100000 in
theorem contract (H : Type) (enc : TypeId × Value → H) (W : World) (base : Nat) (args : Array Value) (ds gs : List (DataW H)) (before : List MemPlace)
    (hval0 : ∀ (j : Nat) t v, Try.f7.params[j]? = some t → args[j]? = some v → Value.okWide Try.prog W .any base t v)
    (hW : DataW.Whole enc Try.prog Try.f7.params.toList Rows.treeDiffsSpec.vars false W args.toList ds gs before)
    (hsz0 : (DataW.weightsEach Try.prog (Try.f7.params.toList ++ Rows.treeDiffsSpec.plain.varTypes Try.prog) (ds ++ gs)).all (· ≤ reachBytes) = true) :
    Calls Try.prog 7 args W fun e W' => ∃ v, e = .returned v ∧ Rows.treeDiffsSpec.post enc Try.prog Try.f7 false true false false W args v W' := by
  have hval : ∀ (j : Nat) t v, Try.f7.params[j]? = some t → args[j]? = some v → Value.okWide Try.prog W .any base t v := hval0
  have hsz := hsz0
  clear hsz0
  have hW' := hW
  obtain ⟨p, q, hA0, hV, rfl, hfz, hnd⟩ := hW
  have hA : DataW.TrodAll enc Try.prog W 0 (fun _ => true) true Try.f7.params.toList args.toList ds p := hA0
  rw [Try.params7] at hA hval hsz
  obtain ⟨v0, vs0, d0, ds0, p0, q0, hargs, rfl, rfl, h0, r0⟩ := trodAll_cons hA
  obtain ⟨v1, vs1, d1, ds1, p1, q1, rfl, rfl, rfl, h1, r1⟩ := trodAll_cons r0
  obtain ⟨v2, vs2, d2, ds2, p2, q2, rfl, rfl, rfl, h2, r2⟩ := trodAll_cons r1
  obtain ⟨rfl, rfl, rfl⟩ := trodAll_nil r2
  obtain rfl : args = #[v0, v1, v2] := by cases args; simp_all
  obtain ⟨rfl, rfl⟩ := trodVars_none hV
  obtain ⟨A0, n0, c0, rfl⟩ := okWide_slice Try.underlying22 (hval 0 22 v0 rfl rfl)
  have k0 := h0
  have lt0 : ∀ x ∈ p0, x.block < W.heap.size := by obtain ⟨m, hm⟩ := k0; exact DataW.trod_lt m _ _ _ hm
  obtain ⟨A1, n1, c1, rfl⟩ := okWide_slice Try.underlying22 (hval 1 22 v1 rfl rfl)
  have k1 := h1
  have lt1 : ∀ x ∈ p1, x.block < W.heap.size := by obtain ⟨m, hm⟩ := k1; exact DataW.trod_lt m _ _ _ hm
  obtain ⟨s2, rfl, rfl, rfl, w2⟩ := open_string Try.underlying9 (hval 2 9 v2 rfl rfl) h2
  have hreach2 : s2.size ≤ 140737488351232 := by
    have := sized_string hsz (j := 2) (t := 9) rfl rfl
    simpa [reachBytes] using this
  clear hA0 hval0
  obtain ⟨l0, e0, cap0, cm0, z0⟩ := arg_wide k0
  obtain ⟨l1, e1, cap1, cm1, z1⟩ := arg_wide k1
  refine (walk A0 n0 c0 l0 A1 n1 c1 l1 s2 W e0 e1 (by omega) (by omega) (z0 hsz (j := 0) rfl rfl) (z1 hsz (j := 1) rfl rfl) (by omega) ⟨cap0, cm0⟩ ⟨cap1, cm1⟩).mono fun e W' ⟨he, bel⟩ => ?_
  subst he
  exact ⟨_, rfl, _, _, _, [], _, [], hW', trodAll_mk1 (shut_bool Try.underlying4 _), (trodAll_cons_mk (Below.trod laidOut (by kernel_rfl) (of_decide_eq_true (by kernel_rfl)) k0 bel lt0) (trodAll_cons_mk (Below.trod laidOut (by kernel_rfl) (of_decide_eq_true (by kernel_rfl)) k1 bel lt1) (trodAll_cons_mk (shut_string Try.underlying9 w2) trodAll_mk0))), rfl, bel.frame _, fun h => by cases h⟩

set_option maxRecDepth 100000 in
theorem lifted (os : Os) (started : os.Started) (H : Type) (enc : TypeId × Value → H) :
    ReturnsInHanded {} Try.checked os 7 .any (Rows.treeDiffsSpec.pre6 enc Try.prog Try.f7 Rows.treeDiffsRow.domain false) (Rows.treeDiffsSpec.post enc Try.prog Try.f7 false true false false) := by
  refine returnsInHanded_of_change_sized (C := Try.checked) own started (by kernel_rfl) Try.func7
    (ChangeSpec.witness6 (enc := enc) (C := Try.checked) false ⟨#[], #[.slice none 0 0, .slice none 0 0, .string ByteArray.empty], []⟩ 8 (by kernel_rfl) (by kernel_rfl) (by kernel_rfl) (by kernel_rfl)) ?_
  intro W base args ds gs before hval0 hW _ hsz0 _
  exact contract H enc W base args ds gs before hval0 hW hsz0

theorem over : Rows.treeDiffsRow.holds Try.pinned (OpenSpec.ofChange Rows.treeDiffsSpec) :=
  OpenClaim.holds_of_wide 7 Try.f7 rfl rfl rfl rfl rfl rfl rfl ⟨rfl, rfl, rfl, rfl, rfl⟩ rfl rfl rfl rfl rfl (by kernel_rfl) Try.func7 (by kernel_rfl)
    (of_decide_eq_true (by kernel_rfl)) (by unfold Func.isWrapper; first | (rw [if_pos (by decide +kernel)]; kernel_rfl) | (rw [if_neg (by decide +kernel)]; exact ⟨rfl, rfl⟩))
    (fun os started H enc _ => lifted os started H enc)

end Go.Proofs.Ythokkobmlhbfgaa.treeDiffs
namespace Go.Proofs.Ythokkobmlhbfgaa
theorem treeDiffs_holds : Rows.TreeDiffsSaid := treeDiffs.over
#print axioms treeDiffs_holds
end Go.Proofs.Ythokkobmlhbfgaa
