/- Check of lists with texts as long as a machine holds; the sizes of an argument's texts. -/
import Derived.Test.YthokkobmlhbfgaaTImpl
import Derived.Test.YthokkobmlhbfgaaTArgs
import Derived.Deep.RegionWith
import Derived.SizedLaws
namespace Go.Proofs.Ythokkobmlhbfgaa.En
open Go.RowKit Tx Pm Pr
set_option linter.unusedVariables false

/-- The sizes of the first form. -/
def Wide (l : List Et) : Prop := ∀ x ∈ l, x.path.size ≤ 140737488355328 ∧ x.node.data.size ≤ 140737488355328
set_option maxRecDepth 100000 in
set_option maxHeartbeats 2000000 in
theorem inFolderW_any (a : Option Addr) (n c : Nat) (l : List Et) (p : ByteArray) (w : World) (hl : Ents w a n l) (hr : Rise l) (hn : n ≤ 1000000000000) (hp : p.size ≤ 140737488355328) :
    Calls Try.prog 53 #[.slice a n c, .string p] w fun e w' => e = .returned (.bool (inF l p)) ∧ Below w.heap.size w w' := by
  have cp := fun W => pParent_any p W (by omega)
  have cg := fun W (h : Below w.heap.size w W) => getR_any a n c l (tb (par p.data.toList)) W (hl.below h) hr hn
  have hgN := guardN
  unfold nv at cg
  by_cases hpar : par p.data.toList = []
  · have hv : inF l p = true := by rw [inF, decide_eq_true hpar]; rfl
    have e := tb_nil hpar
    rw [hv]
    obtain ⟨R, hR⟩ : ∃ R, R = tb (par p.data.toList) := ⟨_, rfl⟩
    rw [← hR] at cp e
    clear cg hv hpar hR hl hr
    go_enter Try.func53, Try.ntmps53
    go_wp2_with fail
    go_at_call 68
    refine (cp _).mono ?_
    rintro e w1 ⟨rfl, hb1⟩
    go_wp2_with fail
    go_ret
    exact ⟨rfl, hb1⟩
  · have hv : inF l p = isdir (tget l (tb (par p.data.toList))) := by rw [inF, decide_eq_false hpar, Bool.false_or]
    have e := tb_ne hpar
    rw [hv]
    obtain ⟨R, hR⟩ : ∃ R, R = tb (par p.data.toList) := ⟨_, rfl⟩
    rw [← hR] at cp e cg ⊢
    obtain ⟨N, hN⟩ : ∃ N, N = tget l R := ⟨_, rfl⟩
    rw [← hN] at cg ⊢
    obtain ⟨K, D⟩ := N
    simp only at cg
    clear hv hpar hR hl hr hN
    by_cases hK : K = 1
    · by_cases hD : D = ⟨#[]⟩
      · have hv : isdir ⟨K, D⟩ = true := by rw [isdir, decide_eq_true hK, decide_eq_true hD]; rfl
        have e2 := is_empty hD
        rw [hv]
        subst hK hD
        clear hv
        go_enter Try.func53, Try.ntmps53
        go_wp2_with fail
        go_at_call 68
        refine (cp _).mono ?_
        rintro e w1 ⟨rfl, hb1⟩
        go_wp2_with fail
        go_at_call 16
        refine (cg _ hb1).mono ?_
        rintro e w2 ⟨rfl, hb2⟩
        go_wp2_with fail
        go_ret
        exact ⟨rfl, below_call hb1 hb2⟩
      · have hv : isdir ⟨K, D⟩ = false := by rw [isdir, decide_eq_false hD, Bool.and_false]
        have e2 := not_empty hD
        have e3 := bytes_ne hD
        rw [hv]
        subst hK
        clear hv hD
        go_enter Try.func53, Try.ntmps53
        go_wp2_with fail
        go_at_call 68
        refine (cp _).mono ?_
        rintro e w1 ⟨rfl, hb1⟩
        go_wp2_with fail
        go_at_call 16
        refine (cg _ hb1).mono ?_
        rintro e w2 ⟨rfl, hb2⟩
        go_wp2_with fail
        go_ret
        exact ⟨rfl, below_call hb1 hb2⟩
    · have hv : isdir ⟨K, D⟩ = false := by rw [isdir, decide_eq_false hK, Bool.false_and]
      have e2 : ((K : Int) == 1) = false := beq_eq_false_iff_ne.2 hK
      rw [hv]
      clear hv hK
      go_enter Try.func53, Try.ntmps53
      go_wp2_with fail
      go_at_call 68
      refine (cp _).mono ?_
      rintro e w1 ⟨rfl, hb1⟩
      go_wp2_with fail
      go_at_call 16
      refine (cg _ hb1).mono ?_
      rintro e w2 ⟨rfl, hb2⟩
      go_wp2_with fail
      go_ret
      exact ⟨rfl, below_call hb1 hb2⟩

set_option maxRecDepth 100000 in
set_option maxHeartbeats 4000000 in
theorem followsW_any (a : Option Addr) (n c : Nat) (l : List Et) (x : Et) (w : World) (hl : Ents w a n l) (hr : Rise l) (hn : n ≤ 1000000000000) (hs : x.path.size ≤ 140737488355328 ∧ x.node.data.size ≤ 140737488355328) :
    Calls Try.prog 32 #[.slice a n c, ev x] w fun e w' => e = .returned (.bool (fol l x)) ∧ Below w.heap.size w w' := by
  obtain ⟨P, K, D⟩ := x
  simp only at hs
  obtain ⟨hs1, hs2⟩ := hs
  have hB : ∀ o, Below w.heap.size w (w.alloc o) := fun o => (Below.refl _ _).alloc (Nat.le_refl _) _
  have cc := fun W => pCheck_any P 5 W (by omega) (by omega) (by omega)
  have cw := fun W => tWhole_any ⟨K, D⟩ W (by show D.size ≤ _; omega)
  have ci := fun W => isNone_any ⟨K, D⟩ W
  have cf := fun W (h : Below w.heap.size w W) => inFolderW_any a n c l P W (hl.below h) hr hn hs1
  have htwo := chk_two P.data.toList 5
  have hln := hl.1
  have hfol : fol l ⟨P, K, D⟩ = (decide (chk P.data.toList 5 = 0) && (ahead l P && (whole ⟨K, D⟩ && (!isno ⟨K, D⟩ && inF l P)))) := rfl
  rw [hfol]
  unfold ev
  unfold nv at cw ci
  obtain ⟨C, hC⟩ : ∃ C, C = chk P.data.toList 5 := ⟨_, rfl⟩
  obtain ⟨V, hV⟩ : ∃ V, V = whole ⟨K, D⟩ := ⟨_, rfl⟩
  obtain ⟨O, hO⟩ : ∃ O, O = isno ⟨K, D⟩ := ⟨_, rfl⟩
  obtain ⟨F, hF⟩ : ∃ F, F = inF l P := ⟨_, rfl⟩
  rw [← hC] at cc htwo
  rw [← hV] at cw
  rw [← hO] at ci
  rw [← hC, ← hV, ← hO, ← hF]
  rw [← hF] at cf
  have HL := Lib.hid hl
  clear hC hV hO hF hfol hl hr
  obtain ⟨blk, hblk⟩ : ∃ o, o = Obj.cells #[.string P, .int .i64 K, .string D] 51 := ⟨_, rfl⟩
  have hfr : ∀ W, Below (w.alloc blk).heap.size (w.alloc blk) W → W.cell? ⟨w.heap.size, 0, none⟩ = some (.string P) ∧ W.cell? ⟨w.heap.size, 1, none⟩ = some (.int .i64 K) ∧ W.cell? ⟨w.heap.size, 2, none⟩ = some (.string D) := by
    intro W hW
    subst hblk
    have hlt : w.heap.size < (w.alloc (.cells #[.string P, .int .i64 K, .string D] 51)).heap.size := by simp
    refine ⟨(hW.cell (p := ⟨w.heap.size, _, none⟩) hlt).trans ?_, (hW.cell (p := ⟨w.heap.size, _, none⟩) hlt).trans ?_, (hW.cell (p := ⟨w.heap.size, _, none⟩) hlt).trans ?_⟩ <;> simp
  have HFR := Lib.hid hfr
  have HBL := Lib.hid hblk
  clear hfr
  rcases htwo with rfl | rfl
  case inr =>
    clear cw ci cf HFR HBL hblk
    go_enter Try.func32, Try.ntmps32
    go_wp2_with fail
    go_at_call 46
    refine (cc _).mono ?_
    rintro e w1 ⟨rfl, hb1⟩
    have hB1 := below_call (hB _) hb1
    go_wp2_with fail
    go_ret
    exact ⟨rfl, hB1⟩
  rw [show decide ((0 : Nat) = 0) = true from rfl, Bool.true_and]
  by_cases h0 : n = 0
  · have ha : ahead l P = true := by
      obtain rfl : l = [] := List.length_eq_zero_iff.1 (by omega)
      rfl
    rw [ha, Bool.true_and]
    subst h0
    clear ha hln
    go_enter Try.func32, Try.ntmps32
    go_wp2_with fail
    go_at_call 46
    refine (cc _).mono ?_
    rintro e w1 ⟨rfl, hb1⟩
    have hB1 := below_call (hB _) hb1
    rw [← hblk] at hb1
    obtain ⟨f1, f2, f3⟩ := HFR.out w1 hb1
    go_wp2_with fail
    go_quiet (fail)
    have hb2 := below_drewN hb1 nq
    have hB2 := below_drewN hB1 nq
    clear f1 f2 f3
    obtain ⟨f1, f2, f3⟩ := HFR.out _ hb2
    go_wp2_with fail
    go_at_call 12
    refine (cw _).mono ?_
    rintro e w3 ⟨rfl, hb⟩
    have hb3 := below_call hb2 hb
    have hB3 := below_call hB2 hb
    clear hb hb1 hb2 hB1 hB2 f1 f2 f3
    obtain ⟨f1, f2, f3⟩ := HFR.out _ hb3
    cases V with
    | false =>
      go_wp2_with fail
      go_ret
      exact ⟨rfl, hB3⟩
    | true =>
      go_wp2_with fail
      go_at_call 41
      refine (ci _).mono ?_
      rintro e w4 ⟨rfl, hb⟩
      have hb4 := below_call hb3 hb
      have hB4 := below_call hB3 hb
      clear hb hb3 hB3 f1 f2 f3
      obtain ⟨f1, f2, f3⟩ := HFR.out _ hb4
      cases O with
      | true =>
        go_wp2_with fail
        go_ret
        exact ⟨rfl, hB4⟩
      | false =>
        go_wp2_with fail
        go_at_call 53
        refine (cf _ hB4).mono ?_
        rintro e w5 ⟨rfl, hb⟩
        go_wp2_with fail
        go_ret
        exact ⟨rfl, below_call hB4 hb⟩
  · obtain ⟨y, hy⟩ : ∃ y, l[l.length - 1]? = some y := ⟨_, List.getElem?_eq_getElem (by omega)⟩
    have ha : ahead l P = less y.path P := by rw [ahead, hy]
    obtain ⟨b, off, rfl, hb, c1, _⟩ := HL.out.nth hy
    obtain ⟨m, rfl⟩ : ∃ m, n = m + 1 := ⟨n - 1, by omega⟩
    rw [hln, Nat.add_sub_cancel] at c1
    have hsub : ((m + 1 : Nat) : Int) - 1 = m := by omega
    have hpos : ((m + 1 : Nat) : Int) > 0 := by omega
    obtain ⟨Y, hY⟩ : ∃ Y, Y = y.path := ⟨_, rfl⟩
    rw [← hY] at c1 ha
    rw [ha]
    cases hless : less Y P with
    | false =>
      have hless2 : Op.bytesLess Y.toList P.toList = false := hless
      clear ha hln hy hY hless h0
      go_enter Try.func32, Try.ntmps32
      go_wp2_with fail
      go_at_call 46
      refine (cc _).mono ?_
      rintro e w1 ⟨rfl, hb1⟩
      have hB1 := below_call (hB _) hb1
      rw [← hblk] at hb1
      obtain ⟨f1, f2, f3⟩ := HFR.out w1 hb1
      have d1 := (hB1.cell (p := ⟨b, _, none⟩) hb).trans c1
      clear c1
      go_wp2_with fail
      go_quiet (fail)
      have hb2 := below_drewN hb1 nq
      have hB2 := below_drewN hB1 nq
      clear f1 f2 f3
      obtain ⟨f1, f2, f3⟩ := HFR.out _ hb2
      go_wp2_with fail
      go_ret
      exact ⟨rfl, hB2⟩
    | true =>
      have hless2 : Op.bytesLess Y.toList P.toList = true := hless
      rw [Bool.true_and]
      clear ha hln hy hY hless h0
      go_enter Try.func32, Try.ntmps32
      go_wp2_with fail
      go_at_call 46
      refine (cc _).mono ?_
      rintro e w1 ⟨rfl, hb1⟩
      have hB1 := below_call (hB _) hb1
      rw [← hblk] at hb1
      obtain ⟨f1, f2, f3⟩ := HFR.out w1 hb1
      have d1 := (hB1.cell (p := ⟨b, _, none⟩) hb).trans c1
      clear c1
      go_wp2_with fail
      go_quiet (fail)
      have hb2 := below_drewN hb1 nq
      have hB2 := below_drewN hB1 nq
      clear f1 f2 f3
      obtain ⟨f1, f2, f3⟩ := HFR.out _ hb2
      go_wp2_with fail
      go_at_call 12
      refine (cw _).mono ?_
      rintro e w3 ⟨rfl, hb⟩
      have hb3 := below_call hb2 hb
      have hB3 := below_call hB2 hb
      clear hb hb1 hb2 hB1 hB2 f1 f2 f3
      obtain ⟨f1, f2, f3⟩ := HFR.out _ hb3
      cases V with
      | false =>
        go_wp2_with fail
        go_ret
        exact ⟨rfl, hB3⟩
      | true =>
        go_wp2_with fail
        go_at_call 41
        refine (ci _).mono ?_
        rintro e w4 ⟨rfl, hb⟩
        have hb4 := below_call hb3 hb
        have hB4 := below_call hB3 hb
        clear hb hb3 hB3 f1 f2 f3
        obtain ⟨f1, f2, f3⟩ := HFR.out _ hb4
        cases O with
        | true =>
          go_wp2_with fail
          go_ret
          exact ⟨rfl, hB4⟩
        | false =>
          go_wp2_with fail
          go_at_call 53
          refine (cf _ hB4).mono ?_
          rintro e w5 ⟨rfl, hb⟩
          go_wp2_with fail
          go_ret
          exact ⟨rfl, below_call hB4 hb⟩

set_option maxRecDepth 100000 in
set_option maxHeartbeats 4000000 in
theorem tCheckW_any (a : Option Addr) (n c : Nat) (l : List Et) (w : World) (hl : Ents w a n l) (hcap : n ≤ c) (hcm : c ≤ 9223372036854775807) (hn : n ≤ 9223372036854775807) (hs : Wide l) :
    Calls Try.prog 10 #[.slice a n c] w fun e w' => e = .returned (.int .i64 (tcheck l : Nat)) ∧ Below w.heap.size w w' := by
  have hln := hl.1
  by_cases hbig : 200 < n
  · have e : tcheck l = 4 := by rw [tcheck, if_pos (by omega)]
    rw [e]
    clear e hln hl
    go_enter Try.func10, Try.ntmps10
    go_wp2
    go_ret
    exact ⟨rfl, Below.refl _ _⟩
  by_cases h0 : n = 0
  · subst h0
    obtain rfl : l = [] := List.length_eq_zero_iff.1 hln
    have e : tcheck [] = 0 := rfl
    rw [e]
    clear hl hs e hbig
    go_enter Try.func10, Try.ntmps10
    go_wp2
    go_loop [10] (fun i => i = .int .i64 0) (fun _ => 0)
    case atStart => exact rfl
    case round =>
      obtain rfl := hrel
      go_wp2
      go_ret
      exact ⟨rfl, Below.refl _ _⟩
  have hE : Hid (Ents w a n l) := hl
  obtain ⟨b, off, rfl, hb, hc⟩ := hl.2.resolve_left h0
  have HC := Lib.hid hc
  have HS := Lib.hid hs
  have HBAD := Lib.hid (fun i x (hx : l[i]? = some x) (hf : fol (l.take i) x = false) => check_bad hx hf (by omega))
  have HGOOD := Lib.hid (fun h : fols l l.length => fols_check h (by omega))
  obtain ⟨T, hT⟩ : ∃ T, T = tcheck l := ⟨_, rfl⟩
  rw [← hT] at HBAD HGOOD
  rw [← hT]
  clear hc h0 hs hT hl
  go_enter Try.func10, Try.ntmps10
  go_wp2_with fail
  go_loopw [10] (fun i wr => ∃ k : Nat, k ≤ n ∧ i = .int .i64 k ∧ Hid (fols l k) ∧ Below w.heap.size w wr) (fun i _ => n - (intOf i).toNat)
  case atStart => exact ⟨0, Nat.zero_le _, rfl, (fun i x hi _ => absurd hi (Nat.not_lt_zero _)), Below.refl _ _⟩
  case round =>
    obtain ⟨k, hk, rfl, hgood, hB⟩ := hrel
    by_cases hlt : k < n
    · obtain ⟨x, hx⟩ : ∃ x, l[k]? = some x := ⟨_, List.getElem?_eq_getElem (by omega)⟩
      obtain ⟨c1, c2, c3⟩ := HC.out k x hx
      have hxs := HS.out x (List.mem_of_getElem? hx)
      have hri := Lib.hid (fols_rise (by omega) hgood.out)
      have cf := fun W (hW : Below w.heap.size w W) => followsW_any (some ⟨b, off, none⟩) k c (l.take k) x W ((hE.out.below hW).take (by omega)) hri.out (by omega) hxs
      have hbad := HBAD.out k x hx
      have hnext := fun hf => fols_next hgood.out hx hf
      have d1 := (hB.cell (p := ⟨b, _, none⟩) hb).trans c1
      have d2 := (hB.cell (p := ⟨b, _, none⟩) hb).trans c2
      have d3 := (hB.cell (p := ⟨b, _, none⟩) hb).trans c3
      obtain ⟨F, hF⟩ : ∃ F, F = fol (l.take k) x := ⟨_, rfl⟩
      rw [← hF] at cf hbad hnext
      obtain ⟨P, K, D⟩ := x
      unfold ev at cf
      simp only at d1 d2 d3 cf
      have hltz : (k : Int) < (n : Int) := by omega
      have hkc : k ≤ c := by omega
      clear c1 c2 c3 hx hxs hF hgood hln
      cases F with
      | true =>
        have HN := Lib.hid (hnext rfl)
        clear hnext hbad
        go_wp2_with fail
        have hB2 := hB.alloc hB.size (.cells #[.string P, .int .i64 K, .string D] 51)
        go_region_with (go_at_call 32; refine (cf _ hB2.drew).mono ?_; rintro e w2 ⟨rfl, hb2⟩)
        all_goals
          have hB3 := below_call hB2.drew hb2
          go_wp2_with fail
          go_roundw
          case rel => exact ⟨k + 1, by omega, by go_num, HN, hB3⟩
          case measure => simp [intOf]; omega
      | false =>
        have hT := hbad rfl
        subst hT
        clear hnext hbad
        go_wp2_with fail
        have hB2 := hB.alloc hB.size (.cells #[.string P, .int .i64 K, .string D] 51)
        go_region_with (go_at_call 32; refine (cf _ hB2.drew).mono ?_; rintro e w2 ⟨rfl, hb2⟩)
        all_goals
          have hB3 := below_call hB2.drew hb2
          go_wp2_with fail
          go_ret
          exact ⟨rfl, hB3⟩
    · obtain rfl : k = n := by omega
      have hT := HGOOD.out (fun i x hi hx => hgood.out i x (by omega) hx)
      subst hT
      clear hgood hln
      go_wp2_with fail
      go_ret
      exact ⟨rfl, hB⟩

theorem tGetW_any (a : Option Addr) (n c : Nat) (l : List Et) (p : ByteArray) (w : World) (hl : Ents w a n l) (ht : tcheck l = 0) (hp : p.size ≤ 140737488355328) :
    Calls Try.prog 16 #[.slice a n c, .string p] w fun e w' => e = .returned (nv (tget l p)) ∧ Below w.heap.size w w' :=
  getR_any a n c l p w hl (tree_rises ht) (by have := tree_len ht; have := hl.1; omega)

/-- What the reading of an entry weighs. -/
theorem ent_weights {H : Type} (x : Et) : DataW.weights Try.prog 51 (dE (H := H) x) = [x.path.data.toList.length, x.node.data.data.toList.length] := by
  unfold dE dN
  rw [DataW.weights]
  rw [Try.underlying51]
  simp only [List.map_cons, List.map_nil, DataW.weightsEach, DataW.weights]
  rw [Try.underlying24]
  simp only [List.map_cons, List.map_nil, DataW.weightsEach, DataW.weights]
  rfl
theorem all_weights {H : Type} {x : Et} {n : Nat} : ∀ {l : List Et}, x ∈ l → n ∈ DataW.weights Try.prog 51 (dE (H := H) x) → n ∈ DataW.weightsAll Try.prog 51 (l.map (dE (H := H)))
  | y :: l, hx, hn => by
    rw [List.map_cons, DataW.weightsAll, List.mem_append]
    rcases List.mem_cons.1 hx with rfl | hx
    · exact .inl hn
    · exact .inr (all_weights hx hn)
theorem wide_of {H : Type} {ts : List TypeId} {ds : List (DataW H)} (h : (DataW.weightsEach Try.prog ts ds).all (· ≤ reachBytes) = true) {j : Nat} {l : List Et} {rest : List (DataW H)} (ht : ts[j]? = some 22) (hd : ds[j]? = some (.slice (l.map dE) rest)) : Wide l := by
  intro x hx
  have hall := List.all_eq_true.1 h
  have hin : ∀ n, n ∈ DataW.weights Try.prog 51 (dE (H := H) x) → n ≤ reachBytes := by
    intro n hn
    have hm := DataW.weights_mem_each (P := Try.prog) ht hd n (by
      rw [DataW.weights, Try.underlying22]
      exact List.mem_cons_of_mem _ (List.mem_append_left _ (all_weights hx hn)))
    exact of_decide_eq_true (hall n hm)
  have hlt := reachBytes_lt
  rw [ent_weights] at hin
  have h1 := hin x.path.data.toList.length (by simp)
  have h2 := hin x.node.data.data.toList.length (by simp)
  rw [len_l] at h1 h2
  exact ⟨by omega, by omega⟩
theorem arg_wide {H : Type} {enc : TypeId × Value → H} {w : World} {base : Nat} {spare : Nat → Bool} {held : Bool} {a : Option Addr} {n c : Nat} {d : DataW H} {p : List MemPlace} (h : DataW.Trod enc Try.prog w base spare held 22 (.slice a n c) d p) :
    ∃ l : List Et, Ents w a n l ∧ n ≤ c ∧ c ≤ 9223372036854775807 ∧ ∀ {ts : List TypeId} {ds : List (DataW H)} {j : Nat}, (DataW.weightsEach Try.prog ts ds).all (· ≤ reachBytes) = true → ts[j]? = some 22 → ds[j]? = some d → Wide l := by
  obtain ⟨fuel, hf⟩ := h
  rcases open_ents hf with ⟨hcs, _⟩ | ⟨x, len, cap, l, rest, pl, hcs, hc, hm, hx, he, hall⟩
  · simp [Value.cells] at hcs
    obtain ⟨rfl, rfl, rfl⟩ := hcs
    exact ⟨[], ⟨rfl, .inl rfl⟩, by omega, by omega, fun _ _ _ x hx => by cases hx⟩
  · simp [Value.cells] at hcs
    obtain ⟨rfl, rfl, rfl⟩ := hcs
    unfold maxLen at hm
    have hd : d = .slice (l.map dE) rest := congrArg Prod.fst hx
    subst hd
    exact ⟨l, he, hc, by omega, fun h1 h2 h3 => wide_of h1 h2 h3⟩
end Go.Proofs.Ythokkobmlhbfgaa.En
