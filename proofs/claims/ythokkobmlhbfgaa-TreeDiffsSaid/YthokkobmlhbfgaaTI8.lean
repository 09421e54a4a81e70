/- Why a node can't be put: mathematics and contract. -/
import Derived.Test.YthokkobmlhbfgaaTI7
namespace Go.Proofs.Ythokkobmlhbfgaa.En
open Go.RowKit Tx Pm Pr
set_option linter.unusedVariables false

theorem lastN_mem : ∀ l : List UInt8, 47 ∈ l → lastN l ≠ 0
  | [], h => by cases h
  | c :: r, h => by
    rw [lastN]
    by_cases h0 : lastN r = 0
    · rw [if_pos h0]
      rcases List.mem_cons.1 h with h1 | h1
      · rw [if_pos h1.symm]; decide
      · exact absurd h0 (lastN_mem r h1)
    · rw [if_neg h0]
      omega
/-- What stands strictly below a path has a parent that is it, or stands below it. -/
theorem par_below {q p rest : List UInt8} (h : q = p ++ 47 :: rest) : par q = p ∨ ∃ a, par q = p ++ 47 :: a := by
  have hne : lastN q ≠ 0 := lastN_mem q (by rw [h]; simp)
  have hb : q = par q ++ 47 :: bas q := by
    rcases par_bas q with ⟨h0, _⟩ | h2
    · exact absurd h0 hne
    · exact h2
  have hbas := last_bas q
  generalize par q = a at hb ⊢
  generalize bas q = b at hb hbas
  rw [h] at hb
  rcases List.append_eq_append_iff.1 hb with ⟨x, h1, h2⟩ | ⟨x, h1, h2⟩
  · cases x with
    | nil => left; rw [h1, List.append_nil]
    | cons c x =>
      right
      rw [List.cons_append] at h2
      injection h2 with h2 h3
      exact ⟨x, by rw [h1, ← h2]⟩
  · cases x with
    | nil => left; rw [h1, List.append_nil]
    | cons c x =>
      rw [List.cons_append] at h2
      injection h2 with h2 h3
      exact absurd hbas (lastN_mem b (by rw [h3]; simp))
theorem und_form {q p : List UInt8} (h : und q p = true) (hp : p ≠ []) (hq : q ≠ p) : ∃ rest, q = p ++ 47 :: rest := by
  unfold und at h
  rw [decide_eq_false hp, decide_eq_false hq, Bool.false_or, Bool.false_or, List.isPrefixOf_iff_prefix] at h
  obtain ⟨r, hr⟩ := h
  exact ⟨r, by rw [← hr, List.append_assoc]; rfl⟩
theorem path_list {a b : ByteArray} : a = b ↔ a.data.toList = b.data.toList := ⟨fun h => by rw [h], fun h => ByteArray.ext (Array.toList_inj.1 h)⟩
/-- Ahead of what stands below a path, the path stands in the tree. -/
theorem tree_above {l : List Et} (h : tcheck l = 0) {p : ByteArray} (hp : p.data.toList ≠ []) : ∀ (m : Nat) (x : Et), x ∈ l → x.path.data.toList.length ≤ m → und x.path.data.toList p.data.toList = true → x.path ≠ p → ∃ y ∈ l, y.path = p
  | 0, x, hx, hm, hu, hne => by
    obtain ⟨rest, hr⟩ := und_form hu hp (fun e => hne (path_list.2 e))
    rw [hr] at hm
    simp at hm
  | m + 1, x, hx, hm, hu, hne => by
    obtain ⟨rest, hr⟩ := und_form hu hp (fun e => hne (path_list.2 e))
    obtain ⟨i, hi⟩ := List.getElem?_of_mem hx
    have hpar : par x.path.data.toList ≠ [] := by
      rcases par_below hr with h1 | ⟨a, h1⟩
      · rw [h1]; exact hp
      · rw [h1]; simp
    have hk := tree_par h hi hpar
    have hm2 := (tree_path_mem h (tb (par x.path.data.toList))).2 (by rw [hk]; decide)
    obtain ⟨z, hz, hzp⟩ := List.mem_map.1 hm2
    rcases par_below hr with h1 | ⟨a, h1⟩
    · exact ⟨z, hz, by rw [hzp, h1, tb_of]⟩
    · have hzl : z.path.data.toList = p.data.toList ++ 47 :: a := by rw [hzp, tb_list, h1]
      refine tree_above h hp m z hz ?_ ?_ ?_
      · have := par_len x.path.data.toList
        have hlt : (par x.path.data.toList).length < x.path.data.toList.length := by
          rcases par_bas x.path.data.toList with ⟨_, h2, _⟩ | h2
          · exact absurd h2 hpar
          · have h3 := congrArg List.length h2
            rw [List.length_append, List.length_cons] at h3
            omega
        rw [hzp, tb_list]
        omega
      · rw [hzl]
        exact und_below _ _
      · intro e
        rw [e] at hzl
        have := congrArg List.length hzl
        simp at this
theorem two_in {α : Type} [DecidableEq α] {l : List α} (x y : α) (hx : x ∈ l) (hy : y ∈ l) (hne : x ≠ y) : 1 < l.length := by
  match l, hx, hy with
  | [a], hx, hy =>
    rw [List.mem_singleton] at hx hy
    exact absurd (hx.trans hy.symm) hne
  | a :: b :: r, _, _ => simp
theorem below_two {l : List Et} (h : tcheck l = 0) {p : ByteArray} (hp : p.data.toList ≠ []) : l.any (bel p) = decide (1 < (tsub l p).length) := by
  rw [Bool.eq_iff_iff, decide_eq_true_eq, List.any_eq_true]
  constructor
  · rintro ⟨x, hx, hb⟩
    unfold bel at hb
    rw [Bool.and_eq_true, Bool.not_eq_true', decide_eq_false_iff_not] at hb
    obtain ⟨y, hy, hyp⟩ := tree_above h hp _ x hx (Nat.le_refl _) hb.2 hb.1
    have h1 : x.path ∈ (tsub l p).map (·.path) := List.mem_map.2 ⟨x, List.mem_filter.2 ⟨hx, hb.2⟩, rfl⟩
    have h2 : p ∈ (tsub l p).map (·.path) := List.mem_map.2 ⟨y, List.mem_filter.2 ⟨hy, by rw [hyp]; exact und_self _⟩, hyp⟩
    have := two_in _ _ h1 h2 hb.1
    rwa [List.length_map] at this
  · intro hlen
    obtain ⟨x, hx⟩ : ∃ x, (tsub l p)[0]? = some x := ⟨_, List.getElem?_eq_getElem (by omega)⟩
    obtain ⟨y, hy⟩ : ∃ y, (tsub l p)[1]? = some y := ⟨_, List.getElem?_eq_getElem (by omega)⟩
    have hsub : Rise (tsub l p) := by
      have := tree_rises h
      unfold Rise at this ⊢
      exact this.sublist (List.Sublist.map _ (List.filter_sublist))
    have hlt := rise_lt hsub hx hy (by omega)
    have hmem : ∀ z ∈ tsub l p, z ∈ l ∧ und z.path.data.toList p.data.toList = true := fun z hz => List.mem_filter.1 hz
    by_cases hxp : x.path = p
    · refine ⟨y, (hmem y (List.mem_of_getElem? hy)).1, ?_⟩
      unfold bel
      rw [(hmem y (List.mem_of_getElem? hy)).2, Bool.and_true, Bool.not_eq_true', decide_eq_false_iff_not]
      intro e
      rw [hxp, e, lt_irr] at hlt
      cases hlt
    · refine ⟨x, (hmem x (List.mem_of_getElem? hx)).1, ?_⟩
      unfold bel
      rw [(hmem x (List.mem_of_getElem? hx)).2, Bool.and_true, Bool.not_eq_true', decide_eq_false_iff_not]
      exact hxp
/-- At a tree's paths stands a node that is whole. -/
theorem tree_get_whole {l : List Et} (h : tcheck l = 0) (p : ByteArray) : whole (tget l p) = true := by
  by_cases hk : (tget l p).kind = 0
  · by_cases hm : p ∈ l.map (·.path)
    · exact absurd hk ((tree_path_mem h p).1 hm)
    · rw [tget_zero (fun x hx e => hm (List.mem_map.2 ⟨x, hx, e⟩))]
      rfl
  · obtain ⟨x, hx, rfl⟩ := List.mem_map.1 ((tree_path_mem h p).2 hk)
    rw [tree_get h hx]
    obtain ⟨i, hi⟩ := List.getElem?_of_mem hx
    exact (tree_at h hi).2.1
theorem dir_kind {n : Nd} (h : whole n = true) : isdir n = decide (n.kind = 1) := by
  by_cases hk : n.kind = 1
  · rw [whole_dir h hk, decide_eq_true hk]
  · unfold isdir
    rw [decide_eq_false hk, Bool.false_and]
/-- Why a node can't be put, as the program asks. -/
def mayCode (C : Nat) (V O F I B : Bool) (K : Int) (n : Nat) : Nat :=
  if C ≠ 0 then 10 else if V = false then 1 else if (O && F || !O && !I) = true then 11 else if K ≠ 1 ∧ B = true then 12 else if O = false ∧ F = true ∧ 200 ≤ n then 4 else 0
theorem may_put {l : List Et} (h : tcheck l = 0) (p : ByteArray) (n : Nd) : mayCode (chk p.data.toList 5) (whole n) (isno n) (isno (tget l p)) (inF l p) (l.any (bel p)) n.kind l.length = putCode l p n := by
  unfold mayCode putCode
  by_cases hc : chk p.data.toList 5 = 0
  · have hc1 : ¬ (chk p.data.toList 5 ≠ 0) := fun h => h hc
    rw [if_neg hc1, if_neg hc1]
    cases hw : whole n with
    | false =>
      have hw1 : false = false := rfl
      rw [if_pos hw1, if_pos hw1]
    | true =>
      have hw1 : ¬ (true = false) := by simp
      rw [if_neg hw1, if_neg hw1]
      have hp := good_ne (ok_of hc).2
      rw [whole_no hw, whole_no (tree_get_whole h p), below_two h hp]
      have hI : inF l p = true ↔ (tb (par p.data.toList) = ⟨#[]⟩ ∨ (tget l (tb (par p.data.toList))).kind = 1) := by
        unfold inF
        rw [dir_kind (tree_get_whole h _), Bool.or_eq_true, decide_eq_true_eq, decide_eq_true_eq, tb_nil_iff]
      have e1 : ((decide (n.kind = 0) && decide ((tget l p).kind = 0) || !decide (n.kind = 0) && !inF l p) = true) ↔ ((n.kind = 0 ∧ (tget l p).kind = 0) ∨ (n.kind ≠ 0 ∧ tb (par p.data.toList) ≠ ⟨#[]⟩ ∧ (tget l (tb (par p.data.toList))).kind ≠ 1)) := by
        rw [Bool.or_eq_true, Bool.and_eq_true, Bool.and_eq_true, decide_eq_true_eq, decide_eq_true_eq, Bool.not_eq_true', Bool.not_eq_true', decide_eq_false_iff_not, ← Bool.not_eq_true, hI, not_or]
      have e2 : (n.kind ≠ 1 ∧ decide (1 < (tsub l p).length) = true) ↔ (n.kind ≠ 1 ∧ 1 < (tsub l p).length) := by rw [decide_eq_true_eq]
      have e3 : (decide (n.kind = 0) = false ∧ decide ((tget l p).kind = 0) = true ∧ 200 ≤ l.length) ↔ (n.kind ≠ 0 ∧ (tget l p).kind = 0 ∧ 200 ≤ l.length) := by rw [decide_eq_true_eq, decide_eq_false_iff_not]
      simp only [e1, e2, e3]
  · rw [if_pos hc, if_pos hc]

set_option maxRecDepth 100000 in
set_option maxHeartbeats 8000000 in
theorem mayPut_any (a : Option Addr) (n c : Nat) (l : List Et) (p : ByteArray) (nd : Nd) (w : World) (hl : Ents w a n l) (ht : tcheck l = 0) (hn : n ≤ 1000000000) (hs : Small l) (hp : p.size ≤ 8000000000000) (hd : nd.data.size ≤ 9223372036854775807) :
    Calls Try.prog 44 #[.slice a n c, .string p, nv nd] w fun e w' => e = .returned (.int .i64 (putCode l p nd : Nat)) ∧ Below w.heap.size w w' := by
  rw [← may_put ht]
  have hr := tree_rises ht
  have hln := hl.1
  rw [hln]
  have hB : ∀ o, Below w.heap.size w (w.alloc o) := fun o => (Below.refl _ _).alloc (Nat.le_refl _) _
  have cc := fun W => pCheck_any p 5 W (by omega) (by omega) (by omega)
  have cw := fun W => tWhole_any nd W hd
  have ci := fun W => isNone_any nd W
  have cf := fun W => isNone_any (tget l p) W
  have cg := fun W (h : Below w.heap.size w W) => getR_any a n c l p W (hl.below h) hr (by omega)
  have cn := fun W (h : Below w.heap.size w W) => inFolder_any a n c l p W (hl.below h) hr (by omega) hp
  have cb := fun W (h : Below w.heap.size w W) => anyBelow_any a n c l p W (hl.below h) (by omega) hs hp
  have htwo := chk_two p.data.toList 5
  obtain ⟨G, hG⟩ : ∃ G, G = tget l p := ⟨_, rfl⟩
  rw [← hG] at cf cg
  rw [← hG]
  clear hG
  obtain ⟨GK, GD⟩ := G
  obtain ⟨K, D⟩ := nd
  unfold nv at cw ci cf cg
  unfold nv
  simp only at cf cg ci cw ⊢
  have hbx : ∀ W, Below (w.alloc (.cells #[.int .i64 K, .string D] 24)).heap.size (w.alloc (.cells #[.int .i64 K, .string D] 24)) W → W.cell? ⟨w.heap.size, 0, none⟩ = some (.int .i64 K) ∧ W.cell? ⟨w.heap.size, 1, none⟩ = some (.string D) := by
    intro W h
    constructor
    · rw [h.cell (p := ⟨w.heap.size, 0, none⟩) (by simp)]; go_simp
    · rw [h.cell (p := ⟨w.heap.size, 1, none⟩) (by simp)]; go_simp
  have HX := Lib.hid hbx
  have hb0 := hB (.cells #[.int .i64 K, .string D] 24)
  obtain ⟨C, hC⟩ : ∃ C, C = chk p.data.toList 5 := ⟨_, rfl⟩
  obtain ⟨V, hV⟩ : ∃ V, V = whole ⟨K, D⟩ := ⟨_, rfl⟩
  obtain ⟨O, hO⟩ : ∃ O, O = isno ⟨K, D⟩ := ⟨_, rfl⟩
  obtain ⟨F, hF⟩ : ∃ F, F = isno ⟨GK, GD⟩ := ⟨_, rfl⟩
  obtain ⟨I, hI⟩ : ∃ I, I = inF l p := ⟨_, rfl⟩
  obtain ⟨B, hBB⟩ : ∃ B, B = l.any (bel p) := ⟨_, rfl⟩
  rw [← hC] at cc htwo
  rw [← hV] at cw
  rw [← hO] at ci
  rw [← hF] at cf
  rw [← hI] at cn
  rw [← hBB] at cb
  rw [← hC, ← hV, ← hO, ← hF, ← hI, ← hBB]
  clear hC hV hO hF hI hBB hl hs ht hr hbx hln
  go_enter Try.func44, Try.ntmps44
  go_wp2_with fail
  go_at_call 46
  refine (cc _).mono ?_
  rintro e v1 ⟨rfl, hq1⟩
  have hb1 := below_call (Below.refl _ _) hq1
  obtain ⟨f1a, f1b⟩ := HX.out _ hb1
  rcases htwo with rfl | rfl
  case inr =>
    go_wp2_with fail
    go_ret
    exact ⟨rfl, below_call hb0 hb1⟩
  go_wp2_with fail
  go_at_call 12
  refine (cw _).mono ?_
  rintro e v2 ⟨rfl, hq2⟩
  have hb2 := below_call hb1 hq2
  obtain ⟨f2a, f2b⟩ := HX.out _ hb2
  cases V with
  | false =>
    go_wp2_with fail
    go_ret
    exact ⟨rfl, below_call hb0 hb2⟩
  | true =>
    go_wp2_with fail
    go_at_call 16
    refine (cg _ (below_call hb0 hb2)).mono ?_
    rintro e v3 ⟨rfl, hq3⟩
    have hb3 := below_call hb2 hq3
    obtain ⟨f3a, f3b⟩ := HX.out _ hb3
    go_wp2_with fail
    go_at_call 41
    refine (cf _).mono ?_
    rintro e v4 ⟨rfl, hq4⟩
    have hb4 := below_call hb3 hq4
    obtain ⟨f4a, f4b⟩ := HX.out _ hb4
    go_wp2_with fail
    go_at_call 41
    refine (ci _).mono ?_
    rintro e v5 ⟨rfl, hq5⟩
    have hb5 := below_call hb4 hq5
    obtain ⟨f5a, f5b⟩ := HX.out _ hb5
    cases O with
    | false =>
      cases F with
      | false =>
        go_wp2_with fail
        go_at_call 41
        refine (ci _).mono ?_
        rintro e v6 ⟨rfl, hq6⟩
        have hb6 := below_call hb5 hq6
        obtain ⟨f6a, f6b⟩ := HX.out _ hb6
        go_wp2_with fail
        go_at_call 53
        refine (cn _ (below_call hb0 hb6)).mono ?_
        rintro e v7 ⟨rfl, hq7⟩
        have hb7 := below_call hb6 hq7
        obtain ⟨f7a, f7b⟩ := HX.out _ hb7
        cases I with
        | false =>
          go_wp2_with fail
          go_ret
          exact ⟨rfl, below_call hb0 hb7⟩
        | true =>
          by_cases hK : K = 1
          · subst hK
            go_wp2_with fail
            go_at_call 41
            refine (ci _).mono ?_
            rintro e v8 ⟨rfl, hq8⟩
            have hb8 := below_call hb7 hq8
            obtain ⟨f8a, f8b⟩ := HX.out _ hb8
            go_wp2_with fail
            go_ret
            exact ⟨by simp [mayCode], below_call hb0 hb8⟩
          · have eK : ((K : Int) == 1) = false := beq_eq_false_iff_ne.2 hK
            go_wp2_with fail
            go_at_call 61
            refine (cb _ (below_call hb0 hb7)).mono ?_
            rintro e v9 ⟨rfl, hq9⟩
            have hb9 := below_call hb7 hq9
            obtain ⟨f9a, f9b⟩ := HX.out _ hb9
            cases B with
            | false =>
              go_wp2_with fail
              go_at_call 41
              refine (ci _).mono ?_
              rintro e v10 ⟨rfl, hq10⟩
              have hb10 := below_call hb9 hq10
              obtain ⟨f10a, f10b⟩ := HX.out _ hb10
              go_wp2_with fail
              go_ret
              exact ⟨by simp [mayCode, hK], below_call hb0 hb10⟩
            | true =>
              go_wp2_with fail
              go_ret
              exact ⟨by simp [mayCode, hK], below_call hb0 hb9⟩
      | true =>
        go_wp2_with fail
        go_at_call 41
        refine (ci _).mono ?_
        rintro e v11 ⟨rfl, hq11⟩
        have hb11 := below_call hb5 hq11
        obtain ⟨f11a, f11b⟩ := HX.out _ hb11
        go_wp2_with fail
        go_at_call 53
        refine (cn _ (below_call hb0 hb11)).mono ?_
        rintro e v12 ⟨rfl, hq12⟩
        have hb12 := below_call hb11 hq12
        obtain ⟨f12a, f12b⟩ := HX.out _ hb12
        cases I with
        | false =>
          go_wp2_with fail
          go_ret
          exact ⟨rfl, below_call hb0 hb12⟩
        | true =>
          by_cases hK : K = 1
          · subst hK
            go_wp2_with fail
            go_at_call 41
            refine (ci _).mono ?_
            rintro e v13 ⟨rfl, hq13⟩
            have hb13 := below_call hb12 hq13
            obtain ⟨f13a, f13b⟩ := HX.out _ hb13
            by_cases h200 : 200 ≤ n
            · have e200 : ((n : Int) ≥ 200) := by omega
              go_wp2_with fail
              go_ret
              exact ⟨by simp [mayCode, h200], below_call hb0 hb13⟩
            · have e200 : ¬ ((n : Int) ≥ 200) := by omega
              go_wp2_with fail
              go_ret
              exact ⟨by simp [mayCode, h200], below_call hb0 hb13⟩
          · have eK : ((K : Int) == 1) = false := beq_eq_false_iff_ne.2 hK
            go_wp2_with fail
            go_at_call 61
            refine (cb _ (below_call hb0 hb12)).mono ?_
            rintro e v14 ⟨rfl, hq14⟩
            have hb14 := below_call hb12 hq14
            obtain ⟨f14a, f14b⟩ := HX.out _ hb14
            cases B with
            | false =>
              go_wp2_with fail
              go_at_call 41
              refine (ci _).mono ?_
              rintro e v15 ⟨rfl, hq15⟩
              have hb15 := below_call hb14 hq15
              obtain ⟨f15a, f15b⟩ := HX.out _ hb15
              by_cases h200 : 200 ≤ n
              · have e200 : ((n : Int) ≥ 200) := by omega
                go_wp2_with fail
                go_ret
                exact ⟨by simp [mayCode, hK, h200], below_call hb0 hb15⟩
              · have e200 : ¬ ((n : Int) ≥ 200) := by omega
                go_wp2_with fail
                go_ret
                exact ⟨by simp [mayCode, hK, h200], below_call hb0 hb15⟩
            | true =>
              go_wp2_with fail
              go_ret
              exact ⟨by simp [mayCode, hK], below_call hb0 hb14⟩
    | true =>
      cases F with
      | false =>
        go_wp2_with fail
        go_at_call 41
        refine (ci _).mono ?_
        rintro e v16 ⟨rfl, hq16⟩
        have hb16 := below_call hb5 hq16
        obtain ⟨f16a, f16b⟩ := HX.out _ hb16
        by_cases hK : K = 1
        · subst hK
          go_wp2_with fail
          go_at_call 41
          refine (ci _).mono ?_
          rintro e v17 ⟨rfl, hq17⟩
          have hb17 := below_call hb16 hq17
          obtain ⟨f17a, f17b⟩ := HX.out _ hb17
          go_wp2_with fail
          go_ret
          exact ⟨by simp [mayCode], below_call hb0 hb17⟩
        · have eK : ((K : Int) == 1) = false := beq_eq_false_iff_ne.2 hK
          go_wp2_with fail
          go_at_call 61
          refine (cb _ (below_call hb0 hb16)).mono ?_
          rintro e v18 ⟨rfl, hq18⟩
          have hb18 := below_call hb16 hq18
          obtain ⟨f18a, f18b⟩ := HX.out _ hb18
          cases B with
          | false =>
            go_wp2_with fail
            go_at_call 41
            refine (ci _).mono ?_
            rintro e v19 ⟨rfl, hq19⟩
            have hb19 := below_call hb18 hq19
            obtain ⟨f19a, f19b⟩ := HX.out _ hb19
            go_wp2_with fail
            go_ret
            exact ⟨by simp [mayCode, hK], below_call hb0 hb19⟩
          | true =>
            go_wp2_with fail
            go_ret
            exact ⟨by simp [mayCode, hK], below_call hb0 hb18⟩
      | true =>
        go_wp2_with fail
        go_ret
        exact ⟨rfl, below_call hb0 hb5⟩
end Go.Proofs.Ythokkobmlhbfgaa.En
