/- Put: contract. -/
import Derived.Test.YthokkobmlhbfgaaTI10
namespace Go.Proofs.Ythokkobmlhbfgaa.En
open Go.RowKit Tx Pm Pr
set_option linter.unusedVariables false

theorem spl_sum : ∀ l : List UInt8, l.length + 1 = ((spl l).map List.length).sum + (spl l).length
  | [] => rfl
  | c :: r => by
    have ih := spl_sum r
    rw [spl]
    split
    · rw [List.map_cons, List.sum_cons, List.length_cons, List.length_cons, List.length_nil]
      omega
    · split
      · next h => exact absurd h (spl_ne r)
      · next x xs h =>
        rw [h] at ih
        rw [List.map_cons, List.sum_cons, List.length_cons] at ih ⊢
        rw [List.length_cons, List.length_cons]
        omega
theorem sum_le {l : List (List UInt8)} {m : Nat} (h : ∀ x ∈ l, x.length ≤ m) : (l.map List.length).sum ≤ l.length * m := by
  induction l with
  | nil => simp
  | cons x l ih =>
    rw [List.map_cons, List.sum_cons, List.length_cons, Nat.add_mul, Nat.one_mul]
    have h1 := h x (by simp)
    have h2 := ih (fun y hy => h y (by simp [hy]))
    omega
theorem chk_size {p : ByteArray} (h : chk p.data.toList 5 = 0) : p.size ≤ 64 := by
  obtain ⟨h1, h2⟩ := ok_of h
  have h3 := sum_le (l := spl p.data.toList) (m := 12) (fun x hx => by
    have := List.all_eq_true.1 h2 x hx
    unfold isName at this
    rw [Bool.and_eq_true, Bool.and_eq_true] at this
    exact of_decide_eq_true this.1.2)
  have h4 := spl_sum p.data.toList
  rw [len_l] at h4
  omega
theorem whole_size {n : Nd} (h : whole n = true) : n.data.size ≤ 4096 := by
  unfold whole at h
  split at h
  · exact of_decide_eq_true h
  · rw [Bool.and_eq_true] at h
    have := of_decide_eq_true h.2
    omega
theorem tree_sizes {l : List Et} (h : tcheck l = 0) : ∀ x ∈ l, x.path.size ≤ 64 ∧ x.node.data.size ≤ 4096 := by
  intro x hx
  obtain ⟨i, hi⟩ := List.getElem?_of_mem hx
  obtain ⟨h1, h2, _⟩ := tree_at h hi
  exact ⟨chk_size h1, whole_size h2⟩
theorem tree_small {l : List Et} (h : tcheck l = 0) : Small l := fun x hx => by have := tree_sizes h x hx; omega
theorem tree_len {l : List Et} (h : tcheck l = 0) : l.length ≤ 200 := by
  unfold tcheck at h
  split at h
  · cases h
  · omega
theorem tsize_bound : ∀ {l : List Et} {m : Nat}, (∀ x ∈ l, x.node.data.size ≤ m) → tsize l ≤ l.length * m
  | [], m, _ => by simp [tsize]
  | x :: l, m, h => by
    have h1 := h x (by simp)
    have h2 := tsize_bound (l := l) (fun y hy => h y (by simp [hy]))
    rw [tsize, List.length_cons, Nat.add_mul, Nat.one_mul]
    omega
theorem tree_tsize {l : List Et} (h : tcheck l = 0) : tsize l ≤ 819200 := by
  have h1 := tsize_bound (fun x hx => (tree_sizes h x hx).2)
  have h2 := tree_len h
  omega
theorem Ents.drop {w : World} {b off n k : Nat} {l : List Et} (h : Ents w (some ⟨b, off, none⟩) n l) (hk : k ≤ n) : Ents w (some ⟨b, off + k * 3, none⟩) (n - k) (l.drop k) := by
  refine ⟨by rw [List.length_drop, h.1], ?_⟩
  by_cases h0 : n - k = 0
  · exact .inl h0
  · rcases h.2 with h1 | ⟨b', off', ha, hlt, hc⟩
    · omega
    · injection ha with ha
      injection ha with ha1 ha2
      subst ha1 ha2
      refine .inr ⟨b, off + k * 3, rfl, hlt, fun j x hx => ?_⟩
      rw [List.getElem?_drop] at hx
      have := hc _ x hx
      rw [show off + (k + j) * 3 = off + k * 3 + j * 3 by omega] at this
      exact this

theorem three_cells (w : World) (a b c : Value) (t : TypeId) : ∀ (j : Nat) (v : Value), [a, b, c][j]? = some v → (w.alloc (.cells #[a, b, c] t)).cell? ⟨w.heap.size, j, none⟩ = some v := by
  intro j v hj
  have := cell_three_new w a b c t j v hj
  rw [WideShapes.add_plain] at this
  simpa using this
theorem concat3 (w : World) (v1 v2 v3 : Value) (l1 l2 l3 : List Et) (h1 : Src w v1 l1) (h2 : Src w v2 l2) (h3 : Src w v3 l3) (hlen : l1.length + l2.length + l3.length ≤ 3000000000) :
    Calls Try.prog 45 #[.slice (some ⟨w.heap.size, 0, none⟩) 3 3] (w.alloc (.cells #[v1, v2, v3] 22)).drew fun e w' => ∃ v, e = .returned v ∧ Own w' w.heap.size v (l1 ++ l2 ++ l3) ∧ Below w.heap.size w w' := by
  have hB : Below w.heap.size w (w.alloc (.cells #[v1, v2, v3] 22)).drew := ((Below.refl _ w).alloc (Nat.le_refl _) _).drew
  have h := concat_any w.heap.size 3 3 [v1, v2, v3] [l1, l2, l3] (w.alloc (.cells #[v1, v2, v3] 22)).drew (by simp) rfl rfl (by omega)
    (fun j v hj => three_cells w v1 v2 v3 _ j v hj)
    (fun j v l hv hl => by
      match j, hv, hl with
      | 0, hv, hl => injection hv with hv; injection hl with hl; subst hv hl; exact h1.below hB
      | 1, hv, hl => injection hv with hv; injection hl with hl; subst hv hl; exact h2.below hB
      | 2, hv, hl => injection hv with hv; injection hl with hl; subst hv hl; exact h3.below hB
      | j + 3, hv, hl => simp at hv)
    (by simp only [total]; omega)
  refine h.mono ?_
  rintro e w' ⟨v, rfl, ho, hb⟩
  refine ⟨v, rfl, ?_, hB.trans (hb.mono (by simp))⟩
  have e1 : [l1, l2, l3].flatten = l1 ++ l2 ++ l3 := by simp
  rw [e1] at ho
  exact row_base ho (by simp)
theorem src_head {W : World} {a : Option Addr} {n c k : Nat} {l : List Et} (h : Ents W a n l) (hnil : a = none → c = 0) (hk : k ≤ n) : Src W (.slice a k c) (l.take k) := ⟨a, k, c, rfl, h.take hk, hnil⟩
theorem src_tail {W : World} {b off n c k : Nat} {l : List Et} (h : Ents W (some ⟨b, off, none⟩) n l) (hk : k ≤ n) : Src W (.slice (some ⟨b, off + k * 3, none⟩) (n - k) (c - k)) (l.drop k) := ⟨_, _, _, rfl, h.drop hk, fun h => by cases h⟩
theorem src_end {W : World} {x : Addr} {n k : Nat} {l : List Et} (hl : l.length = n) (hk : n ≤ k) : Src W (.slice (some x) 0 0) (l.drop k) := by
  rw [List.drop_eq_nil_of_le (by omega)]
  exact ⟨_, _, _, rfl, ⟨rfl, .inl rfl⟩, fun h => by cases h⟩
theorem src_none {W : World} : Src W (.slice none 0 0) [] := ⟨_, _, _, rfl, ⟨rfl, .inl rfl⟩, fun _ => rfl⟩
theorem src_one {w : World} {x : Et} : Src (w.alloc (.cells #[.string x.path, .int .i64 x.node.kind, .string x.node.data] 51)) (.slice (some ⟨w.heap.size, 0, none⟩) 1 1) [x] := by
  refine ⟨_, _, _, rfl, ⟨rfl, .inr ⟨w.heap.size, 0, rfl, by simp, fun k y hy => ?_⟩⟩, fun h => by cases h⟩
  match k, hy with
  | 0, hy =>
    injection hy with hy
    subst hy
    refine ⟨?_, ?_, ?_⟩ <;> simp
  | k + 1, hy => simp at hy

set_option maxRecDepth 100000 in
set_option maxHeartbeats 8000000 in
theorem putI_any (a : Option Addr) (n c : Nat) (l : List Et) (p : ByteArray) (nd : Nd) (w : World) (hl : Ents w a n l) (ht : tcheck l = 0) (hcap : n ≤ c) (hcm : c ≤ 9223372036854775807) (hnil : a = none → c = 0) (hspot : ∀ x, a = some x → x = ⟨x.block, x.off, none⟩) (hp : p.size ≤ 8000000000000) (hd : nd.data.size ≤ 9223372036854775807) :
    Calls Try.prog 27 #[.slice a n c, .string p, nv nd] w (PairTo (tput l p nd) w) := by
  have hr := tree_rises ht
  have hln := hl.1
  have hlen := tree_len ht
  have hB : ∀ o, Below w.heap.size w (w.alloc o) := fun o => (Below.refl _ _).alloc (Nat.le_refl _) _
  have cm := fun W (h : Below w.heap.size w W) => mayPut_any a n c l p nd W (hl.below h) ht (by omega) (tree_small ht) hp hd
  by_cases hcode : putCode l p nd = 0
  case neg =>
    have htp := tput_bad rfl hcode
    obtain ⟨C, hC⟩ : ∃ C, C = putCode l p nd := ⟨_, rfl⟩
    rw [← hC] at cm hcode htp
    rw [htp]
    obtain ⟨K, D⟩ := nd
    unfold nv at cm
    unfold nv
    have eC : ((C : Int) == 0) = false := beq_eq_false_iff_ne.2 (by omega)
    simp only at cm ⊢
    clear htp hC hl ht hr hln hcode
    go_enter Try.func27, Try.ntmps27
    go_wp2_with fail
    go_at_call 44
    refine (cm _ (hB _)).mono ?_
    rintro e w1 ⟨rfl, hb1⟩
    go_wp2_with fail
    go_ret2
    exact ⟨_, rfl, World.ownsRow_nil _ _ _ _, below_call (hB _) hb1⟩
  rw [hcode] at cm
  have hw : whole nd = true := by
    unfold putCode at hcode
    split at hcode
    · cases hcode
    · split at hcode
      · cases hcode
      · next h => exact Bool.not_eq_false _ ▸ h
  rw [tput_good hcode, put_cut hr p nd hw]
  have cp := fun W (h : Below w.heap.size w W) => place_any a n c l p W (hl.below h) hr (by omega)
  have hpl := place_le l p
  have hbl := behind_le l p
  have cs := fun W (h : Below w.heap.size w W) => stands_any a n c l (tplace l p) p W (hl.below h) (by omega) (by omega)
  have ci := fun W => isNone_any nd W
  have hone : one p nd = if isno nd = true then [] else [⟨p, nd⟩] := rfl
  have hbeh : tbehind l p = if tstands l (tplace l p) p then tplace l p + 1 else tplace l p := rfl
  obtain ⟨k, hk⟩ : ∃ k, k = tplace l p := ⟨_, rfl⟩
  obtain ⟨S, hS⟩ : ∃ S, S = tstands l k p := ⟨_, rfl⟩
  obtain ⟨k2, hk2⟩ : ∃ k2, k2 = tbehind l p := ⟨_, rfl⟩
  obtain ⟨O, hO⟩ : ∃ O, O = isno nd := ⟨_, rfl⟩
  obtain ⟨U, hU⟩ : ∃ U, U = one p nd := ⟨_, rfl⟩
  rw [← hk] at cp cs hpl hbl hbeh ⊢
  rw [← hS] at cs hbeh
  rw [← hk2] at hbl hbeh ⊢
  rw [← hO] at ci hone
  rw [← hU] at hone ⊢
  have HL := Lib.hid hl
  obtain ⟨K, D⟩ := nd
  unfold nv at cm ci
  unfold nv
  simp only at cm ci ⊢
  have hb0 := hB (.cells #[.int .i64 K, .string D] 24)
  have hbx : ∀ W, Below (w.alloc (.cells #[.int .i64 K, .string D] 24)).heap.size (w.alloc (.cells #[.int .i64 K, .string D] 24)) W → W.cell? ⟨w.heap.size, 0, none⟩ = some (.int .i64 K) ∧ W.cell? ⟨w.heap.size, 1, none⟩ = some (.string D) := by
    intro W h
    constructor
    · rw [h.cell (p := ⟨w.heap.size, 0, none⟩) (by simp)]; go_simp
    · rw [h.cell (p := ⟨w.heap.size, 1, none⟩) (by simp)]; go_simp
  have HX := Lib.hid hbx
  have HLN := Lib.hid hln
  have hll := hln
  rw [hln] at hpl hbl
  have HNIL := Lib.hid hnil
  have HSPOT := Lib.hid hspot
  clear hl ht hr hln hcode hw hbx hS hO hU hk hk2 hll hnil hspot
  cases S with
  | true =>
    rw [if_pos rfl] at hbeh
    rw [hbeh] at hbl ⊢
    clear hbeh
    cases O with
    | true =>
      rw [if_pos rfl] at hone
      subst hone
      cases ha : a with
      | none =>
        obtain rfl := HNIL.out ha
        omega
      | some x =>
        have hx := HSPOT.out x ha
        obtain ⟨b, off, hbo⟩ : ∃ b off, x = ⟨b, off, none⟩ := ⟨_, _, hx⟩
        subst hbo
        subst ha
        clear hx
        have hkc : k ≤ c := by omega
        have hkc2 : k + 1 ≤ c := by omega
        by_cases hlast : k + 1 < c
        · skip
          go_enter Try.func27, Try.ntmps27
          go_wp2_with fail
          go_at_call 44
          refine (cm _ hb0).mono ?_
          rintro e w1 ⟨rfl, hb1⟩
          go_wp2_with fail
          go_at_call 37
          refine (cp _ (below_call hb0 hb1)).mono ?_
          rintro e w2 ⟨rfl, hq⟩
          have hb2 := below_call hb1 hq
          clear hq hb1
          go_wp2_with fail
          go_at_call 38
          refine (cs _ (below_call hb0 hb2)).mono ?_
          rintro e w3 ⟨rfl, rfl⟩
          obtain ⟨f1, f2⟩ := HX.out _ hb2
          go_wp2_with fail
          go_at_call 41
          refine (ci _).mono ?_
          rintro e w4 ⟨rfl, hq⟩
          have hb4 := below_call hb2 hq
          clear hq hb2 f1 f2
          obtain ⟨f1, f2⟩ := HX.out _ hb4
          have hB4 := below_call hb0 hb4
          have s2 : Src w4 (.slice none 0 0) [] := src_none
          have hE := HL.out.below hB4
          have s1 := src_head (c := c) (k := k) hE (fun h => by cases h) (by omega)
          have s3 := src_tail (c := c) (k := (k + 1)) hE (by omega)
          have cc := concat3 w4 _ _ _ _ _ _ s1 s2 s3 (by rw [List.length_take, List.length_drop]; simp only [List.length_nil]; omega)
          have hs4 := hB4.size
          clear s1 s2 s3 hE cm cp cs ci
          go_wp2_with fail
          go_region_with (go_at_call 45; refine cc.mono ?_; rintro e w6 ⟨v6, rfl, ho, hb6⟩)
          all_goals
            go_wp2_with fail
            go_ret2
            exact ⟨v6, rfl, row_base ho (by omega), hB4.trans (hb6.mono (by omega))⟩
        · have hlast2 : k + 1 = c := by omega
          subst hlast2
          clear hlast
          go_enter Try.func27, Try.ntmps27
          go_wp2_with fail
          go_at_call 44
          refine (cm _ hb0).mono ?_
          rintro e w1 ⟨rfl, hb1⟩
          go_wp2_with fail
          go_at_call 37
          refine (cp _ (below_call hb0 hb1)).mono ?_
          rintro e w2 ⟨rfl, hq⟩
          have hb2 := below_call hb1 hq
          clear hq hb1
          go_wp2_with fail
          go_at_call 38
          refine (cs _ (below_call hb0 hb2)).mono ?_
          rintro e w3 ⟨rfl, rfl⟩
          obtain ⟨f1, f2⟩ := HX.out _ hb2
          go_wp2_with fail
          go_at_call 41
          refine (ci _).mono ?_
          rintro e w4 ⟨rfl, hq⟩
          have hb4 := below_call hb2 hq
          clear hq hb2 f1 f2
          obtain ⟨f1, f2⟩ := HX.out _ hb4
          have hB4 := below_call hb0 hb4
          have s2 : Src w4 (.slice none 0 0) [] := src_none
          have hE := HL.out.below hB4
          have s1 := src_head (c := (k + 1)) (k := k) hE (fun h => by cases h) (by omega)
          have s3 : Src w4 (.slice (some ⟨b, off, none⟩) 0 0) (l.drop (k + 1)) := src_end HLN.out (by omega)
          have cc := concat3 w4 _ _ _ _ _ _ s1 s2 s3 (by rw [List.length_take, List.length_drop]; simp only [List.length_nil]; omega)
          have hs4 := hB4.size
          clear s1 s2 s3 hE cm cp cs ci
          go_wp2_with fail
          go_region_with (go_at_call 45; refine cc.mono ?_; rintro e w6 ⟨v6, rfl, ho, hb6⟩)
          all_goals
            go_wp2_with fail
            go_ret2
            exact ⟨v6, rfl, row_base ho (by omega), hB4.trans (hb6.mono (by omega))⟩
    | false =>
      rw [if_neg (by decide)] at hone
      subst hone
      cases ha : a with
      | none =>
        obtain rfl := HNIL.out ha
        omega
      | some x =>
        have hx := HSPOT.out x ha
        obtain ⟨b, off, hbo⟩ : ∃ b off, x = ⟨b, off, none⟩ := ⟨_, _, hx⟩
        subst hbo
        subst ha
        clear hx
        have hkc : k ≤ c := by omega
        have hkc2 : k + 1 ≤ c := by omega
        by_cases hlast : k + 1 < c
        · skip
          go_enter Try.func27, Try.ntmps27
          go_wp2_with fail
          go_at_call 44
          refine (cm _ hb0).mono ?_
          rintro e w1 ⟨rfl, hb1⟩
          go_wp2_with fail
          go_at_call 37
          refine (cp _ (below_call hb0 hb1)).mono ?_
          rintro e w2 ⟨rfl, hq⟩
          have hb2 := below_call hb1 hq
          clear hq hb1
          go_wp2_with fail
          go_at_call 38
          refine (cs _ (below_call hb0 hb2)).mono ?_
          rintro e w3 ⟨rfl, rfl⟩
          obtain ⟨f1, f2⟩ := HX.out _ hb2
          go_wp2_with fail
          go_at_call 41
          refine (ci _).mono ?_
          rintro e w4 ⟨rfl, hq⟩
          have hb4 := below_call hb2 hq
          clear hq hb2 f1 f2
          obtain ⟨f1, f2⟩ := HX.out _ hb4
          have hB4 := below_call hb0 hb4
          have s2 : Src (w4.alloc (.cells #[.string p, .int .i64 K, .string D] 51)) (.slice (some ⟨w4.heap.size, 0, none⟩) 1 1) [⟨p, ⟨K, D⟩⟩] := src_one
          have hB5 := hB4.alloc hB4.size (.cells #[.string p, .int .i64 K, .string D] 51)
          have hE := HL.out.below hB5
          have s1 := src_head (c := c) (k := k) hE (fun h => by cases h) (by omega)
          have s3 := src_tail (c := c) (k := (k + 1)) hE (by omega)
          have cc := concat3 (w4.alloc (.cells #[.string p, .int .i64 K, .string D] 51)) _ _ _ _ _ _ s1 s2 s3 (by rw [List.length_take, List.length_drop]; simp only [List.length_cons, List.length_nil]; omega)
          have hsz : (w4.alloc (.cells #[.string p, .int .i64 K, .string D] 51)).heap.size = w4.heap.size + 1 := by simp
          rw [hsz] at cc
          have hs4 := hB4.size
          clear s1 s2 s3 hE cm cp cs ci hsz
          go_wp2_with fail
          go_region_with (go_at_call 45; refine cc.mono ?_; rintro e w6 ⟨v6, rfl, ho, hb6⟩)
          all_goals
            go_wp2_with fail
            go_ret2
            exact ⟨v6, rfl, row_base ho (by omega), hB5.trans (hb6.mono (by omega))⟩
        · have hlast2 : k + 1 = c := by omega
          subst hlast2
          clear hlast
          go_enter Try.func27, Try.ntmps27
          go_wp2_with fail
          go_at_call 44
          refine (cm _ hb0).mono ?_
          rintro e w1 ⟨rfl, hb1⟩
          go_wp2_with fail
          go_at_call 37
          refine (cp _ (below_call hb0 hb1)).mono ?_
          rintro e w2 ⟨rfl, hq⟩
          have hb2 := below_call hb1 hq
          clear hq hb1
          go_wp2_with fail
          go_at_call 38
          refine (cs _ (below_call hb0 hb2)).mono ?_
          rintro e w3 ⟨rfl, rfl⟩
          obtain ⟨f1, f2⟩ := HX.out _ hb2
          go_wp2_with fail
          go_at_call 41
          refine (ci _).mono ?_
          rintro e w4 ⟨rfl, hq⟩
          have hb4 := below_call hb2 hq
          clear hq hb2 f1 f2
          obtain ⟨f1, f2⟩ := HX.out _ hb4
          have hB4 := below_call hb0 hb4
          have s2 : Src (w4.alloc (.cells #[.string p, .int .i64 K, .string D] 51)) (.slice (some ⟨w4.heap.size, 0, none⟩) 1 1) [⟨p, ⟨K, D⟩⟩] := src_one
          have hB5 := hB4.alloc hB4.size (.cells #[.string p, .int .i64 K, .string D] 51)
          have hE := HL.out.below hB5
          have s1 := src_head (c := (k + 1)) (k := k) hE (fun h => by cases h) (by omega)
          have s3 : Src (w4.alloc (.cells #[.string p, .int .i64 K, .string D] 51)) (.slice (some ⟨b, off, none⟩) 0 0) (l.drop (k + 1)) := src_end HLN.out (by omega)
          have cc := concat3 (w4.alloc (.cells #[.string p, .int .i64 K, .string D] 51)) _ _ _ _ _ _ s1 s2 s3 (by rw [List.length_take, List.length_drop]; simp only [List.length_cons, List.length_nil]; omega)
          have hsz : (w4.alloc (.cells #[.string p, .int .i64 K, .string D] 51)).heap.size = w4.heap.size + 1 := by simp
          rw [hsz] at cc
          have hs4 := hB4.size
          clear s1 s2 s3 hE cm cp cs ci hsz
          go_wp2_with fail
          go_region_with (go_at_call 45; refine cc.mono ?_; rintro e w6 ⟨v6, rfl, ho, hb6⟩)
          all_goals
            go_wp2_with fail
            go_ret2
            exact ⟨v6, rfl, row_base ho (by omega), hB5.trans (hb6.mono (by omega))⟩
  | false =>
    rw [if_neg (by decide)] at hbeh
    rw [hbeh] at hbl ⊢
    clear hbeh
    cases O with
    | true =>
      rw [if_pos rfl] at hone
      subst hone
      cases ha : a with
      | none =>
        obtain rfl := HNIL.out ha
        obtain rfl : k = 0 := by omega
        obtain rfl : n = 0 := by omega
        subst ha
        go_enter Try.func27, Try.ntmps27
        go_wp2_with fail
        go_at_call 44
        refine (cm _ hb0).mono ?_
        rintro e w1 ⟨rfl, hb1⟩
        go_wp2_with fail
        go_at_call 37
        refine (cp _ (below_call hb0 hb1)).mono ?_
        rintro e w2 ⟨rfl, hq⟩
        have hb2 := below_call hb1 hq
        clear hq hb1
        go_wp2_with fail
        go_at_call 38
        refine (cs _ (below_call hb0 hb2)).mono ?_
        rintro e w3 ⟨rfl, rfl⟩
        obtain ⟨f1, f2⟩ := HX.out _ hb2
        go_wp2_with fail
        go_at_call 41
        refine (ci _).mono ?_
        rintro e w4 ⟨rfl, hq⟩
        have hb4 := below_call hb2 hq
        clear hq hb2 f1 f2
        obtain ⟨f1, f2⟩ := HX.out _ hb4
        have hB4 := below_call hb0 hb4
        have s2 : Src w4 (.slice none 0 0) [] := src_none
        have hE := HL.out.below hB4
        have s1 := src_head (c := 0) (k := 0) hE (fun _ => rfl) (by omega)
        have s3 : Src w4 (.slice none 0 0) (l.drop 0) := by rw [List.drop_eq_nil_of_le (by have := HLN.out; omega)]; exact src_none
        have cc := concat3 w4 _ _ _ _ _ _ s1 s2 s3 (by rw [List.length_take, List.length_drop]; simp only [List.length_nil]; omega)
        have hs4 := hB4.size
        clear s1 s2 s3 hE cm cp cs ci
        go_wp2_with fail
        go_region_with (go_at_call 45; refine cc.mono ?_; rintro e w6 ⟨v6, rfl, ho, hb6⟩)
        all_goals
          go_wp2_with fail
          go_ret2
          exact ⟨v6, rfl, row_base ho (by omega), hB4.trans (hb6.mono (by omega))⟩
      | some x =>
        have hx := HSPOT.out x ha
        obtain ⟨b, off, hbo⟩ : ∃ b off, x = ⟨b, off, none⟩ := ⟨_, _, hx⟩
        subst hbo
        subst ha
        clear hx
        have hkc : k ≤ c := by omega
        have hkc2 : k ≤ c := by omega
        by_cases hlast : k < c
        · skip
          go_enter Try.func27, Try.ntmps27
          go_wp2_with fail
          go_at_call 44
          refine (cm _ hb0).mono ?_
          rintro e w1 ⟨rfl, hb1⟩
          go_wp2_with fail
          go_at_call 37
          refine (cp _ (below_call hb0 hb1)).mono ?_
          rintro e w2 ⟨rfl, hq⟩
          have hb2 := below_call hb1 hq
          clear hq hb1
          go_wp2_with fail
          go_at_call 38
          refine (cs _ (below_call hb0 hb2)).mono ?_
          rintro e w3 ⟨rfl, rfl⟩
          obtain ⟨f1, f2⟩ := HX.out _ hb2
          go_wp2_with fail
          go_at_call 41
          refine (ci _).mono ?_
          rintro e w4 ⟨rfl, hq⟩
          have hb4 := below_call hb2 hq
          clear hq hb2 f1 f2
          obtain ⟨f1, f2⟩ := HX.out _ hb4
          have hB4 := below_call hb0 hb4
          have s2 : Src w4 (.slice none 0 0) [] := src_none
          have hE := HL.out.below hB4
          have s1 := src_head (c := c) (k := k) hE (fun h => by cases h) (by omega)
          have s3 := src_tail (c := c) (k := k) hE (by omega)
          have cc := concat3 w4 _ _ _ _ _ _ s1 s2 s3 (by rw [List.length_take, List.length_drop]; simp only [List.length_nil]; omega)
          have hs4 := hB4.size
          clear s1 s2 s3 hE cm cp cs ci
          go_wp2_with fail
          go_region_with (go_at_call 45; refine cc.mono ?_; rintro e w6 ⟨v6, rfl, ho, hb6⟩)
          all_goals
            go_wp2_with fail
            go_ret2
            exact ⟨v6, rfl, row_base ho (by omega), hB4.trans (hb6.mono (by omega))⟩
        · have hlast2 : k = c := by omega
          subst hlast2
          clear hlast
          go_enter Try.func27, Try.ntmps27
          go_wp2_with fail
          go_at_call 44
          refine (cm _ hb0).mono ?_
          rintro e w1 ⟨rfl, hb1⟩
          go_wp2_with fail
          go_at_call 37
          refine (cp _ (below_call hb0 hb1)).mono ?_
          rintro e w2 ⟨rfl, hq⟩
          have hb2 := below_call hb1 hq
          clear hq hb1
          go_wp2_with fail
          go_at_call 38
          refine (cs _ (below_call hb0 hb2)).mono ?_
          rintro e w3 ⟨rfl, rfl⟩
          obtain ⟨f1, f2⟩ := HX.out _ hb2
          go_wp2_with fail
          go_at_call 41
          refine (ci _).mono ?_
          rintro e w4 ⟨rfl, hq⟩
          have hb4 := below_call hb2 hq
          clear hq hb2 f1 f2
          obtain ⟨f1, f2⟩ := HX.out _ hb4
          have hB4 := below_call hb0 hb4
          have s2 : Src w4 (.slice none 0 0) [] := src_none
          have hE := HL.out.below hB4
          have s1 := src_head (c := k) (k := k) hE (fun h => by cases h) (by omega)
          have s3 : Src w4 (.slice (some ⟨b, off, none⟩) 0 0) (l.drop k) := src_end HLN.out (by omega)
          have cc := concat3 w4 _ _ _ _ _ _ s1 s2 s3 (by rw [List.length_take, List.length_drop]; simp only [List.length_nil]; omega)
          have hs4 := hB4.size
          clear s1 s2 s3 hE cm cp cs ci
          go_wp2_with fail
          go_region_with (go_at_call 45; refine cc.mono ?_; rintro e w6 ⟨v6, rfl, ho, hb6⟩)
          all_goals
            go_wp2_with fail
            go_ret2
            exact ⟨v6, rfl, row_base ho (by omega), hB4.trans (hb6.mono (by omega))⟩
    | false =>
      rw [if_neg (by decide)] at hone
      subst hone
      cases ha : a with
      | none =>
        obtain rfl := HNIL.out ha
        obtain rfl : k = 0 := by omega
        obtain rfl : n = 0 := by omega
        subst ha
        go_enter Try.func27, Try.ntmps27
        go_wp2_with fail
        go_at_call 44
        refine (cm _ hb0).mono ?_
        rintro e w1 ⟨rfl, hb1⟩
        go_wp2_with fail
        go_at_call 37
        refine (cp _ (below_call hb0 hb1)).mono ?_
        rintro e w2 ⟨rfl, hq⟩
        have hb2 := below_call hb1 hq
        clear hq hb1
        go_wp2_with fail
        go_at_call 38
        refine (cs _ (below_call hb0 hb2)).mono ?_
        rintro e w3 ⟨rfl, rfl⟩
        obtain ⟨f1, f2⟩ := HX.out _ hb2
        go_wp2_with fail
        go_at_call 41
        refine (ci _).mono ?_
        rintro e w4 ⟨rfl, hq⟩
        have hb4 := below_call hb2 hq
        clear hq hb2 f1 f2
        obtain ⟨f1, f2⟩ := HX.out _ hb4
        have hB4 := below_call hb0 hb4
        have s2 : Src (w4.alloc (.cells #[.string p, .int .i64 K, .string D] 51)) (.slice (some ⟨w4.heap.size, 0, none⟩) 1 1) [⟨p, ⟨K, D⟩⟩] := src_one
        have hB5 := hB4.alloc hB4.size (.cells #[.string p, .int .i64 K, .string D] 51)
        have hE := HL.out.below hB5
        have s1 := src_head (c := 0) (k := 0) hE (fun _ => rfl) (by omega)
        have s3 : Src (w4.alloc (.cells #[.string p, .int .i64 K, .string D] 51)) (.slice none 0 0) (l.drop 0) := by rw [List.drop_eq_nil_of_le (by have := HLN.out; omega)]; exact src_none
        have cc := concat3 (w4.alloc (.cells #[.string p, .int .i64 K, .string D] 51)) _ _ _ _ _ _ s1 s2 s3 (by rw [List.length_take, List.length_drop]; simp only [List.length_cons, List.length_nil]; omega)
        have hsz : (w4.alloc (.cells #[.string p, .int .i64 K, .string D] 51)).heap.size = w4.heap.size + 1 := by simp
        rw [hsz] at cc
        have hs4 := hB4.size
        clear s1 s2 s3 hE cm cp cs ci hsz
        go_wp2_with fail
        go_region_with (go_at_call 45; refine cc.mono ?_; rintro e w6 ⟨v6, rfl, ho, hb6⟩)
        all_goals
          go_wp2_with fail
          go_ret2
          exact ⟨v6, rfl, row_base ho (by omega), hB5.trans (hb6.mono (by omega))⟩
      | some x =>
        have hx := HSPOT.out x ha
        obtain ⟨b, off, hbo⟩ : ∃ b off, x = ⟨b, off, none⟩ := ⟨_, _, hx⟩
        subst hbo
        subst ha
        clear hx
        have hkc : k ≤ c := by omega
        have hkc2 : k ≤ c := by omega
        by_cases hlast : k < c
        · skip
          go_enter Try.func27, Try.ntmps27
          go_wp2_with fail
          go_at_call 44
          refine (cm _ hb0).mono ?_
          rintro e w1 ⟨rfl, hb1⟩
          go_wp2_with fail
          go_at_call 37
          refine (cp _ (below_call hb0 hb1)).mono ?_
          rintro e w2 ⟨rfl, hq⟩
          have hb2 := below_call hb1 hq
          clear hq hb1
          go_wp2_with fail
          go_at_call 38
          refine (cs _ (below_call hb0 hb2)).mono ?_
          rintro e w3 ⟨rfl, rfl⟩
          obtain ⟨f1, f2⟩ := HX.out _ hb2
          go_wp2_with fail
          go_at_call 41
          refine (ci _).mono ?_
          rintro e w4 ⟨rfl, hq⟩
          have hb4 := below_call hb2 hq
          clear hq hb2 f1 f2
          obtain ⟨f1, f2⟩ := HX.out _ hb4
          have hB4 := below_call hb0 hb4
          have s2 : Src (w4.alloc (.cells #[.string p, .int .i64 K, .string D] 51)) (.slice (some ⟨w4.heap.size, 0, none⟩) 1 1) [⟨p, ⟨K, D⟩⟩] := src_one
          have hB5 := hB4.alloc hB4.size (.cells #[.string p, .int .i64 K, .string D] 51)
          have hE := HL.out.below hB5
          have s1 := src_head (c := c) (k := k) hE (fun h => by cases h) (by omega)
          have s3 := src_tail (c := c) (k := k) hE (by omega)
          have cc := concat3 (w4.alloc (.cells #[.string p, .int .i64 K, .string D] 51)) _ _ _ _ _ _ s1 s2 s3 (by rw [List.length_take, List.length_drop]; simp only [List.length_cons, List.length_nil]; omega)
          have hsz : (w4.alloc (.cells #[.string p, .int .i64 K, .string D] 51)).heap.size = w4.heap.size + 1 := by simp
          rw [hsz] at cc
          have hs4 := hB4.size
          clear s1 s2 s3 hE cm cp cs ci hsz
          go_wp2_with fail
          go_region_with (go_at_call 45; refine cc.mono ?_; rintro e w6 ⟨v6, rfl, ho, hb6⟩)
          all_goals
            go_wp2_with fail
            go_ret2
            exact ⟨v6, rfl, row_base ho (by omega), hB5.trans (hb6.mono (by omega))⟩
        · have hlast2 : k = c := by omega
          subst hlast2
          clear hlast
          go_enter Try.func27, Try.ntmps27
          go_wp2_with fail
          go_at_call 44
          refine (cm _ hb0).mono ?_
          rintro e w1 ⟨rfl, hb1⟩
          go_wp2_with fail
          go_at_call 37
          refine (cp _ (below_call hb0 hb1)).mono ?_
          rintro e w2 ⟨rfl, hq⟩
          have hb2 := below_call hb1 hq
          clear hq hb1
          go_wp2_with fail
          go_at_call 38
          refine (cs _ (below_call hb0 hb2)).mono ?_
          rintro e w3 ⟨rfl, rfl⟩
          obtain ⟨f1, f2⟩ := HX.out _ hb2
          go_wp2_with fail
          go_at_call 41
          refine (ci _).mono ?_
          rintro e w4 ⟨rfl, hq⟩
          have hb4 := below_call hb2 hq
          clear hq hb2 f1 f2
          obtain ⟨f1, f2⟩ := HX.out _ hb4
          have hB4 := below_call hb0 hb4
          have s2 : Src (w4.alloc (.cells #[.string p, .int .i64 K, .string D] 51)) (.slice (some ⟨w4.heap.size, 0, none⟩) 1 1) [⟨p, ⟨K, D⟩⟩] := src_one
          have hB5 := hB4.alloc hB4.size (.cells #[.string p, .int .i64 K, .string D] 51)
          have hE := HL.out.below hB5
          have s1 := src_head (c := k) (k := k) hE (fun h => by cases h) (by omega)
          have s3 : Src (w4.alloc (.cells #[.string p, .int .i64 K, .string D] 51)) (.slice (some ⟨b, off, none⟩) 0 0) (l.drop k) := src_end HLN.out (by omega)
          have cc := concat3 (w4.alloc (.cells #[.string p, .int .i64 K, .string D] 51)) _ _ _ _ _ _ s1 s2 s3 (by rw [List.length_take, List.length_drop]; simp only [List.length_cons, List.length_nil]; omega)
          have hsz : (w4.alloc (.cells #[.string p, .int .i64 K, .string D] 51)).heap.size = w4.heap.size + 1 := by simp
          rw [hsz] at cc
          have hs4 := hB4.size
          clear s1 s2 s3 hE cm cp cs ci hsz
          go_wp2_with fail
          go_region_with (go_at_call 45; refine cc.mono ?_; rintro e w6 ⟨v6, rfl, ho, hb6⟩)
          all_goals
            go_wp2_with fail
            go_ret2
            exact ⟨v6, rfl, row_base ho (by omega), hB5.trans (hb6.mono (by omega))⟩
end Go.Proofs.Ythokkobmlhbfgaa.En
