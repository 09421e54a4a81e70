/- Texts of this seat, one behind the other. -/
import Derived.Test.YtkenmldiojeooaaGreatT5
import Derived.Test.YtkenmldiojeooaaGreatRows
namespace Go.Proofs.YtkenmldiojeooaaGreat.Rc
open Go.RowKit Tx Pm Pr En
set_option linter.unusedVariables false
set_option linter.unusedSimpArgs false
theorem concat3n (w : World) (v1 v2 v3 : Value) (l1 l2 l3 : List Et) (h1 : Src w v1 l1) (h2 : Src w v2 l2) (h3 : Src w v3 l3) (hlen : l1.length + l2.length + l3.length ≤ 3000000000) :
    Calls Tryz.prog 37 #[.slice (some ⟨w.heap.size, 0, none⟩) 3 3] (w.alloc (.cells #[v1, v2, v3] 22)) fun e w' => ∃ v, e = .returned v ∧ Own w' w.heap.size v (l1 ++ l2 ++ l3) ∧ Below w.heap.size w w' := by
  have hB : Below w.heap.size w (w.alloc (.cells #[v1, v2, v3] 22)) := (Below.refl _ w).alloc (Nat.le_refl _) _
  have h := concat_any w.heap.size 3 3 [v1, v2, v3] [l1, l2, l3] (w.alloc (.cells #[v1, v2, v3] 22)) (by simp) rfl rfl (by omega)
    (fun j v hj => by
      have := cell_three_new w v1 v2 v3 22 j v hj
      rw [WideShapes.add_plain] at this
      simpa using this)
    (fun j v l hv hl => by
      match j, hv, hl with
      | 0, hv, hl => injection hv with hv; injection hl with hl; subst hv hl; exact h1.below hB
      | 1, hv, hl => injection hv with hv; injection hl with hl; subst hv hl; exact h2.below hB
      | 2, hv, hl => injection hv with hv; injection hl with hl; subst hv hl; exact h3.below hB
      | j + 3, hv, hl => simp at hv)
    (by simp only [total]; omega)
  refine h.mono ?_
  rintro e w' ⟨v, rfl, ho, hb⟩
  refine ⟨v, rfl, ?_, hB.trans (hb.mono (by simp))⟩
  have e1 : [l1, l2, l3].flatten = l1 ++ l2 ++ l3 := by simp
  rw [e1] at ho
  exact row_base ho (by simp)
def KidsOf (top : ByteArray) (L : List Et) (ps : List ByteArray) : Prop := (∀ q, q ∈ ps → ∃ x, x ∈ L ∧ x.path ≠ top ∧ Right top x.path q) ∧ (∀ x, x ∈ L → x.path ≠ top → ∃ q, q ∈ ps ∧ Right top x.path q)
theorem kids_skip {top : ByteArray} {L : List Et} {ps : List ByteArray} {x : Et} (h : KidsOf top L ps) (hx : x.path = top) : KidsOf top (L ++ [x]) ps := by
  refine ⟨fun q hq => ?_, fun y hy hne => ?_⟩
  · obtain ⟨z, hz, r⟩ := h.1 q hq
    exact ⟨z, List.mem_append.2 (.inl hz), r⟩
  · rcases List.mem_append.1 hy with h1 | h1
    · exact h.2 y h1 hne
    · rw [List.mem_singleton.1 h1] at hne
      exact absurd hx hne
theorem kids_put {top q : ByteArray} {L : List Et} {ps : List ByteArray} {x : Et} (h : KidsOf top L ps) (hx : x.path ≠ top) (hr : Right top x.path q) : KidsOf top (L ++ [x]) (ps ++ [q]) := by
  refine ⟨fun p hp => ?_, fun y hy hne => ?_⟩
  · rcases List.mem_append.1 hp with h1 | h1
    · obtain ⟨z, hz, r⟩ := h.1 p h1
      exact ⟨z, List.mem_append.2 (.inl hz), r⟩
    · rw [List.mem_singleton.1 h1]
      exact ⟨x, List.mem_append.2 (.inr (List.mem_singleton.2 rfl)), hx, hr⟩
  · rcases List.mem_append.1 hy with h1 | h1
    · obtain ⟨p, hp, r⟩ := h.2 y h1 hne
      exact ⟨p, List.mem_append.2 (.inl hp), r⟩
    · rw [List.mem_singleton.1 h1]
      exact ⟨q, List.mem_append.2 (.inr (List.mem_singleton.2 rfl)), hr⟩
theorem take_next {α : Type} {l : List α} {k : Nat} {x : α} (h : l[k]? = some x) : l.take (k + 1) = l.take k ++ [x] := by
  obtain ⟨hk, he⟩ := List.getElem?_eq_some_iff.1 h
  rw [List.take_succ_eq_append_getElem hk, he]
set_option maxRecDepth 100000 in
set_option maxHeartbeats 8000000 in
theorem below_of {er : F3 Nat} {tx : F3 ByteArray} {cf : F3 Nat} (F : Fair er tx cf) (hQ : AsksQ er tx cf) {A H S : List Et} (ta : tcheck A = 0) (th : tcheck H = 0) (ts : tcheck S = 0) (top : ByteArray) (htop : top.size ≤ 1000)
    (hO : top = ⟨#[]⟩ ∨ Opn H S top.data.toList ∧ (tget H top).kind = 1 ∧ (tget S top).kind = 1 ∧ tsub H top ≠ tsub S top)
    (hkid : ∀ q, tb (par q.data.toList) = top → q ≠ ⟨#[]⟩ → (∃ e, e ∈ A ++ H ++ S ∧ e.path = q) → Opn H S q.data.toList → (tget H q).kind = 1 → (tget S q).kind = 1 → tsub H q ≠ tsub S q → BelAt (mg er tx cf) A H S q) :
    BelAt (mg er tx cf) A H S top := by
  intro aA aH aS na nh ns ca ch cs w hP
  obtain ⟨W1, hW1⟩ : ∃ W1, W1 = w.alloc (.cells #[.slice aA na ca, .slice aH nh ch, .slice aS ns cs] 53) := ⟨_, rfl⟩
  have hb0 : Below w.heap.size w W1 := by rw [hW1]; exact (Below.refl _ w).alloc (Nat.le_refl _) _
  have hX : ∀ W, Below W1.heap.size W1 W → Box3 w.heap.size (.slice aA na ca) (.slice aH nh ch) (.slice aS ns cs) W := fun W h => by rw [hW1] at h; exact box_keep h
  obtain ⟨la, lh, ls⟩ := hP.len ta th ts
  have hP1 := hP.below hb0
  obtain ⟨L, hL⟩ : ∃ L, L = tsub A top ++ tsub H top ++ tsub S top := ⟨_, rfl⟩
  have hLn : L.length ≤ 600 := by
    have h1 := hP.a.1
    have h2 := hP.h.1
    have h3 := hP.s.1
    rw [hL, List.length_append, List.length_append]
    omega
  have hLm : ∀ x, x ∈ L → x.path ≠ top → x.path ≠ ⟨#[]⟩ ∧ Blw top x.path ∧ x.path.size ≤ 1000 := by
    intro x hx hne
    rw [hL] at hx
    have key : ∀ {T : List Et}, tcheck T = 0 → x ∈ tsub T top → x.path ≠ ⟨#[]⟩ ∧ Blw top x.path ∧ x.path.size ≤ 1000 := fun hT h => by
      obtain ⟨k1, k2⟩ := List.mem_filter.1 h
      exact ⟨fun e => (tree_path_ne hT k1).2 (by rw [e]), ⟨k2, hne⟩, tree_size hT k1⟩
    rcases three_mem.1 hx with h | h | h
    · exact key ta h
    · exact key th h
    · exact key ts h
  have hKM : ∀ ks : List ByteArray, (∃ ps, KidsOf top L ps ∧ ∀ x, x ∈ ks ↔ x ∈ ps) → ∀ q, q ∈ ks ↔ ∃ e, e ∈ A ++ H ++ S ∧ e.path = q ∧ tb (par q.data.toList) = top := by
    rintro ks ⟨ps, ⟨k1, k2⟩, hm⟩ q
    rw [hL] at k1 k2
    rw [hm]
    exact kids_mem ta th ts k1 k2 q
  have CC := concat3n W1 (.slice aA na ca) (.slice aH nh ch) (.slice aS ns cs) (tsub A top) (tsub H top) (tsub S top) ⟨_, _, _, rfl, hP1.a, hP1.za⟩ ⟨_, _, _, rfl, hP1.h, hP1.zh⟩ ⟨_, _, _, rfl, hP1.s, hP1.zs⟩ (by rw [hL, List.length_append, List.length_append] at hLn; omega)
  rw [← hL] at CC
  have hsz : W1.heap.size = w.heap.size + 1 := by rw [hW1]; simp
  rw [hsz] at CC
  have HSZ := Lib.hid hsz
  clear hsz
  have sub_small : ∀ {T : List Et}, tcheck T = 0 → Small (tsub T top) := fun hT x hx => by
    have hm := (List.mem_filter.1 hx).1
    refine ⟨by have := tree_size hT hm; omega, ?_⟩
    obtain ⟨i, hi⟩ := List.getElem?_of_mem hm
    have hw := (tree_at hT hi).2.1
    unfold whole at hw
    split at hw
    · have := of_decide_eq_true hw; omega
    · rw [Bool.and_eq_true, decide_eq_true_eq] at hw; omega
  have CAT := fun (q : ByteArray) (hq : q.size ≤ 1000) W (h : Below W1.heap.size W1 W) => at_any aA aH aS na nh ns ca ch cs (tsub A top) (tsub H top) (tsub S top) q W ((hP1.below h).a) ((hP1.below h).h) ((hP1.below h).s) (by omega) (by omega) (by omega) (sub_small ta) (sub_small th) (sub_small ts) hq
  have CWE : ∀ q, (∃ e, e ∈ A ++ H ++ S ∧ e.path = q ∧ tb (par q.data.toList) = top) → q.size ≤ 1000 ∧ (∀ T, tsub (tsub T top) q = tsub T q) ∧ ∀ aA aH aS na nh ns ca ch cs W, Pt W aA aH aS na nh ns ca ch cs A H S q →
      Calls Tryz.prog 42 #[.agg #[.slice aA na ca, .slice aH nh ch, .slice aS ns cs], .string q] W (ItTo (itsD (mg er tx cf) A H S (AtP q)) W) := by
    rintro q ⟨e, he, hep, hpar⟩
    have hne : q ≠ ⟨#[]⟩ ∧ q.size ≤ 1000 := by
      rw [← hep]
      rcases three_mem.1 he with h | h | h
      · exact ⟨fun e2 => (tree_path_ne ta h).2 (by rw [e2]), tree_size ta h⟩
      · exact ⟨fun e2 => (tree_path_ne th h).2 (by rw [e2]), tree_size th h⟩
      · exact ⟨fun e2 => (tree_path_ne ts h).2 (by rw [e2]), tree_size ts h⟩
    have hop := opn_kid hpar hO
    refine ⟨hne.2, fun T => sub_sub (kid_below hne.1 hpar).1, fun aA aH aS na nh ns ca ch cs W hPq => ?_⟩
    exact weigh_any F hQ ta th ts q hne.1 hop ⟨e, he, hep⟩ (fun k1 k2 k3 => hkid q hpar hne.1 ⟨e, he, hep⟩ hop k1 k2 k3) aA aH aS na nh ns ca ch cs W hPq
  have HFL : Hid (∀ K : List ByteArray, K.Pairwise (fun a b => less a b = true) → (∀ q, q ∈ K ↔ ∃ e, e ∈ A ++ H ++ S ∧ e.path = q ∧ tb (par q.data.toList) = top) → itsD (mg er tx cf) A H S (Blw top) = K.flatMap fun q => itsD (mg er tx cf) A H S (AtP q)) :=
    fun K h1 h2 => below_flat ta th ts h1 h2
  have hlen := itsD_len (M := mg er tx cf) A H S (Blw top)
  have l1 := tree_len ta
  have l2 := tree_len th
  have l3 := tree_len ts
  have hlen2 : (itsD (mg er tx cf) A H S (Blw top)).length ≤ 600 := by omega
  obtain ⟨f, hf⟩ : ∃ f : ByteArray → List It, f = fun q => itsD (mg er tx cf) A H S (AtP q) := ⟨_, rfl⟩
  have hfq : ∀ q, itsD (mg er tx cf) A H S (AtP q) = f q := fun q => by rw [hf]
  simp only [hfq] at CWE HFL
  generalize itsD (mg er tx cf) A H S (Blw top) = R0 at HFL hlen2 ⊢
  have HB0 := Lib.hid hb0
  have HX := Lib.hid hX
  have HLM := Lib.hid hLm
  have HKM := Lib.hid hKM
  have HCC := Lib.hid CC
  have HAT := Lib.hid CAT
  have HWE := Lib.hid CWE
  clear hP hP1 hb0 hX hLm hKM CC CAT CWE sub_small hL hf hfq hlen l1 l2 l3 hkid hO ta th ts F hQ
  unfold ItTo
  go_enter Tryz.func28, Tryz.ntmps28
  go_wp2_with fail
  rw [← hW1]
  go_at_call 37
  refine HCC.out.mono ?_
  rintro e w4 ⟨v4, rfl, o4, b4⟩
  rw [← HSZ.out] at b4 o4
  have HB4 := Lib.hid b4
  obtain ⟨a4, c4, hv4, he4, _, _⟩ := Own.form o4
  subst hv4
  have HE4 := Lib.hid he4
  clear o4 b4 he4 HCC
  obtain ⟨N, hN⟩ : ∃ N, N = L.length := ⟨_, rfl⟩
  rw [← hN] at hLn ⊢
  have HN := Lib.hid hN
  clear hN
  go_wp2_with fail
  go_loopw [5, 20] (fun v i wr => ∃ (k : Nat) (ps : List ByteArray), k ≤ N ∧ i = .int .i64 k ∧ ps.length ≤ k ∧ Hid (KidsOf top (L.take k) ps) ∧ Texts wr w4.heap.size v ps ∧ Below w4.heap.size w4 wr) (fun _ i _ => N - (intOf i).toNat)
  case atStart => exact ⟨0, [], Nat.zero_le _, rfl, Nat.le_refl _, ⟨(fun q h => by cases h), (fun x h => by simp at h)⟩, World.ownsRow_nil _ _ _ _, Below.refl _ _⟩
  case round =>
    obtain ⟨k, ps, hk, rfl, hlen, hT, hown, hW⟩ := hrel
    by_cases hlt : k < N
    · obtain ⟨x, hx⟩ : ∃ x, L[k]? = some x := ⟨_, List.getElem?_eq_getElem (by rw [← HN.out]; exact hlt)⟩
      obtain ⟨b6, o6, rfl, hb6, hc6⟩ := HE4.out.2.resolve_left (by rw [← HN.out]; omega)
      obtain ⟨c1, c2, c3⟩ := hc6 k x hx
      have d1 := (hW.cell (p := ⟨b6, _, none⟩) hb6).trans c1
      have d2 := (hW.cell (p := ⟨b6, _, none⟩) hb6).trans c2
      have d3 := (hW.cell (p := ⟨b6, _, none⟩) hb6).trans c3
      have hltz : (k : Int) < (N : Int) := by omega
      have hnx := take_next hx
      have hxm := HLM.out x (List.mem_of_getElem? hx)
      have hskip := @kids_skip top (L.take k) ps x hT.out
      have hput := fun q => @kids_put top q (L.take k) ps x hT.out
      rw [← hnx] at hskip hput
      obtain ⟨P, K, D⟩ := x
      simp only at d1 d2 d3 hxm hskip hput
      have hW1 := hW.alloc hW.size (.cells #[.string P, .int .i64 K, .string D] 50)
      clear hx c1 c2 c3 hc6 hnx hT
      by_cases hpt : P = top
      · have HS := Lib.hid (hskip hpt)
        have e1 : (P.toList == top.toList) = true := by rw [hpt]; exact beq_self_eq_true _
        have e2 : (P.toList != top.toList) = false := by unfold bne; rw [e1]; rfl
        have hown1 := hown.below ((Below.refl _ wr).alloc (Nat.le_refl _) (.cells #[.string P, .int .i64 K, .string D] 50))
        clear hskip hput hxm hpt hown hW
        go_wp2_with fail
        go_roundw
        case rel => exact ⟨k + 1, ps, by omega, by go_num, by omega, HS.out, hown1, hW1⟩
        case measure => simp only [intOf]; omega
      · obtain ⟨x1, x2, x3⟩ := hxm hpt
        have e1 := bytes_ne hpt
        have e2 : (P.toList != top.toList) = true := by unfold bne; rw [e1]; rfl
        have HPU := Lib.hid (fun q => hput q hpt)
        have cr := fun W => rightBelow_any top P W x1 x2 x3
        have hown1 := hown.below ((Below.refl _ wr).alloc (Nat.le_refl _) (.cells #[.string P, .int .i64 K, .string D] 50))
        clear hskip hput hxm hpt hown hW x1 x2 x3
        go_wp2_with fail
        go_at_call 38
        refine (cr _).mono ?_
        rintro e w5 ⟨q, rfl, hq, b5⟩
        have HQ := Lib.hid (HPU.out q hq)
        have hW5 := below_call hW1 b5
        have hown5 := hown1.below b5
        clear hown1 hW1 b5 hq d1 d2 d3 cr HPU
        have hW6 := hW5.alloc hW5.size (.cells #[.string q] 9)
        have hown6 := hown5.below ((Below.refl _ w5).alloc (Nat.le_refl _) (.cells #[.string q] 9))
        have hc6 : (w5.alloc (.cells #[.string q] 9)).cell? ⟨w5.heap.size, 0, none⟩ = some (.string q) := by go_simp
        have hl6 : ps.length ≤ 1000000 := by omega
        clear hown5 hW5
        go_wp2_with (at_builtin; refine wp_app_text rfl _ _ rfl w4 _ ps w5.heap.size q rfl rfl hown6 hc6 hW6 hl6 ?_)
        intro v7 w7 hown7 hW7
        clear hown6 hc6 hW6
        go_wp2_with fail
        go_roundw
        case rel => exact ⟨k + 1, ps ++ [q], by omega, by go_num, by rw [List.length_append, List.length_singleton]; omega, HQ.out, hown7, hW7⟩
        case measure => simp only [intOf]; omega
    · obtain rfl : k = N := by omega
      have hT2 := hT.out
      rw [List.take_of_length_le (by rw [← HN.out]; exact Nat.le_refl _)] at hT2
      have HT := Lib.hid hT2
      have hkz : ¬ (k : Int) < (k : Int) := by omega
      clear hT hT2
      have cso := fun v W (h : Texts W w4.heap.size v ps) (hB : w4.heap.size ≤ W.heap.size) => sortS_any v ps W w4.heap.size h hB (by omega)
      have hWs := hW.size
      have cs := cso _ _ hown hWs
      clear cso
      go_wp2_with fail
      go_at_call 39
      refine cs.mono ?_
      rintro e w5 ⟨rfl, ts, hperm, hsrt, hown5, b5⟩
      have hW5 := hW.trans b5
      have hc := compS_any _ ts w5 w4.heap.size hown5 hW5.size (by rw [hperm.length_eq]; omega) hsrt
      have HPM := Lib.hid hperm
      clear hown hW b5 cs hsrt hown5 hperm
      go_wp2_with fail
      go_at_call 40
      refine hc.mono ?_
      rintro e w6 ⟨v6, ks, rfl, hrise, hmem, hown6, hkl, b6⟩
      have hW6 := hW5.trans b6
      have hkk := HKM.out ks ⟨ps, HT.out, fun x => (hmem x).trans HPM.out.mem_iff⟩
      have hfl := HFL.out ks hrise hkk
      have HFK := Lib.hid hfl
      have HKK := Lib.hid hkk
      have hkl2 : ks.length ≤ 600 := by have := HPM.out.length_eq; omega
      have HBW := Lib.hid (HB4.out.trans (hW6.mono HB4.out.size))
      obtain ⟨a6, c6, hv6, hs6, _, _⟩ := hown6.form
      subst hv6
      have HS6 := Lib.hid hs6
      obtain ⟨M, hM⟩ : ∃ M, M = ks.length := ⟨_, rfl⟩
      rw [← hM] at hkl2 ⊢
      have HM := Lib.hid hM
      clear hc hrise hmem hown6 hkl b6 hfl hkk HPM hs6 hM hW5 HT HFL HKM HLM hkz
      go_wp2_with fail
      go_loopw [8, 41] (fun v i wr => ∃ (k : Nat) (out : List It), k ≤ M ∧ i = .int .i64 k ∧ Hid (out = (ks.take k).flatMap f) ∧ Io wr w6.heap.size v out ∧ Below w6.heap.size w6 wr) (fun _ i _ => M - (intOf i).toNat)
      case atStart => exact ⟨0, [], Nat.zero_le _, rfl, rfl, io_nil _ _, Below.refl _ _⟩
      case round =>
        obtain ⟨k, out, hk, rfl, hT, hio, hW⟩ := hrel
        by_cases hlt : k < M
        · obtain ⟨q, hq⟩ : ∃ q, ks[k]? = some q := ⟨_, List.getElem?_eq_getElem (by rw [← HM.out]; exact hlt)⟩
          obtain ⟨b7, o7, rfl, hb7, hc7⟩ := HS6.out.2.resolve_left (by rw [← HM.out]; omega)
          have d1 := (hW.cell (p := ⟨b7, _, none⟩) hb7).trans (hc7 k q hq)
          have hltz : (k : Int) < (M : Int) := by omega
          obtain ⟨hqs, hss, hwe⟩ := HWE.out q ((HKK.out q).1 (List.mem_of_getElem? hq))
          have hBr := HBW.out.trans (hW.mono HBW.out.size)
          obtain ⟨x1, x2, x3⟩ := HX.out _ hBr
          have hat := HAT.out q hqs _ hBr
          unfold AtTo at hat
          rw [hss A, hss H, hss S] at hat
          have hnx : out ++ f q = (ks.take (k + 1)).flatMap f := by rw [take_next hq, List.flatMap_append, hT.out]; simp
          have hlo : out.length + (f q).length ≤ 600 := by
            have h1 := flat_take_len ks f (k + 1)
            rw [← hnx, List.length_append, ← HFK.out] at h1
            omega
          have HNX := Lib.hid hnx
          have HW7 := Lib.hid hwe
          clear hq hc7 hss hwe hnx hT hBr
          go_wp2_with fail
          go_at_call 41
          refine hat.mono ?_
          rintro e w8 ⟨aA', na', ca', aH', nh', ch', aS', ns', cs', rfl, r1, r2, r3, z1, z2, z3, b8⟩
          have hwe := HW7.out aA' aH' aS' na' nh' ns' ca' ch' cs' w8 ⟨r1, r2, r3, z1, z2, z3⟩
          have hW8 := below_call hW b8
          have hio8 := hio.below b8
          clear hat hio hW r1 r2 r3 z1 z2 z3 b8 HW7 x1 x2 x3 d1
          go_wp2_with fail
          go_at_call 42
          refine hwe.mono ?_
          rintro e w9 ⟨v9, rfl, o9, b9⟩
          have hW9 := below_call hW8 b9
          have hio9 := hio8.below b9
          have hl9 : out.length + (f q).length ≤ 1000000 := by omega
          clear hwe hW8 hio8 b9
          go_wp2_with (at_builtin; refine wp_app_items rfl _ _ rfl w6 _ v9 out (f q) _ rfl rfl hio9 o9 hW9 hl9 ?_)
          intro v10 w10 hio10 hW10
          clear hio9 o9 hW9
          go_wp2_with fail
          go_roundw
          case rel => exact ⟨k + 1, _, by omega, by go_num, HNX.out, hio10, hW10⟩
          case measure => simp only [intOf]; omega
        · obtain rfl : k = M := by omega
          have hT2 := hT.out
          rw [List.take_of_length_le (by rw [← HM.out]; exact Nat.le_refl _), ← HFK.out] at hT2
          have HT := Lib.hid hT2
          have hkz : ¬ (k : Int) < (k : Int) := by omega
          clear hT hT2
          go_wp2_with fail
          go_ret
          exact ⟨_, rfl, by rw [← HT.out]; exact hio.base (Nat.le_trans HB0.out.size HBW.out.size), HB0.out.trans ((HBW.out.trans (hW.mono HBW.out.size)).mono HB0.out.size)⟩
theorem below_all {er : F3 Nat} {tx : F3 ByteArray} {cf : F3 Nat} (F : Fair er tx cf) (hQ : AsksQ er tx cf) {A H S : List Et} (ta : tcheck A = 0) (th : tcheck H = 0) (ts : tcheck S = 0) : ∀ (n : Nat) (top : ByteArray), top.size ≤ 1000 → 1001 ≤ top.size + n →
    (top = ⟨#[]⟩ ∨ Opn H S top.data.toList ∧ (tget H top).kind = 1 ∧ (tget S top).kind = 1 ∧ tsub H top ≠ tsub S top) → BelAt (mg er tx cf) A H S top := by
  intro n
  induction n with
  | zero => intro top h1 h2; omega
  | succ n ih =>
    intro top h1 h2 hO
    refine below_of F hQ ta th ts top h1 hO fun q hpar hne hin hop k1 k2 k3 => ?_
    have hqs : q.size ≤ 1000 := by
      obtain ⟨e, he, rfl⟩ := hin
      rcases three_mem.1 he with h | h | h
      · exact tree_size ta h
      · exact tree_size th h
      · exact tree_size ts h
    have hlt : top.size < q.size := by
      have hl : top.data.toList.length < q.data.toList.length := by
        rw [← hpar, tb_list]
        rcases par_bas q.data.toList with ⟨_, h3, _⟩ | h3
        · rw [h3]
          have := list_ne hne
          exact List.length_pos_iff.2 this
        · have h4 := congrArg List.length h3
          rw [List.length_append, List.length_cons] at h4
          omega
      rwa [len_l, len_l] at hl
    exact ih q hqs (by omega) (.inr ⟨hop, k1, k2, k3⟩)
set_option maxRecDepth 100000 in
set_option maxHeartbeats 4000000 in
theorem rItems_any {er : F3 Nat} {tx : F3 ByteArray} {cf : F3 Nat} (F : Fair er tx cf) (hQ : AsksQ er tx cf) {A H S : List Et} (ta : tcheck A = 0) (th : tcheck H = 0) (ts : tcheck S = 0) (aA aH aS : Option Addr) (na nh ns ca ch cs : Nat) (w : World) (hA : Ents w aA na A) (hH : Ents w aH nh H) (hS : Ents w aS ns S) (zA : aA = none → ca = 0) (zH : aH = none → ch = 0) (zS : aS = none → cs = 0) :
    Calls Tryz.prog 12 #[.slice aA na ca, .slice aH nh ch, .slice aS ns cs] w (ItTo (items (mg er tx cf) A H S) w) := by
  have hb := below_all F hQ ta th ts 1001 ⟨#[]⟩ (Nat.zero_le _) (Nat.le_refl _) (.inl rfl) aA aH aS na nh ns ca ch cs w ⟨by rw [sub_nil]; exact hA, by rw [sub_nil]; exact hH, by rw [sub_nil]; exact hS, zA, zH, zS⟩
  rw [itsD_all ta th ts] at hb
  have HB := Lib.hid hb
  clear hb hA hH hS zA zH zS ta th ts F hQ
  go_enter Tryz.func12, Tryz.ntmps12
  go_wp2_with fail
  go_at_call 28
  refine HB.out.mono ?_
  rintro e w1 ⟨v, rfl, o, b⟩
  have HR : Hid (ItTo _ w (.returned v) w1) := ⟨v, rfl, o, b⟩
  clear o b
  go_wp2_with fail
  go_ret
  exact HR.out
end Go.Proofs.YtkenmldiojeooaaGreat.Rc

namespace Go.Proofs.YtkenmldiojeooaaGreat.Rc
open Go.RowKit Tx Pm Pr En
set_option linter.unusedVariables false
set_option linter.unusedSimpArgs false
abbrev MM : Nd → Nd → Nd → Bool := mg Mg.err3 Mg.mtx Mg.mcf
theorem mm_turn (a h s : Nd) : MM a s h = MM a h s := mg_turn fair a h s
theorem its_any {A H S : List Et} (ta : tcheck A = 0) (th : tcheck H = 0) (ts : tcheck S = 0) (aA aH aS : Option Addr) (na nh ns ca ch cs : Nat) (w : World) (hA : Ents w aA na A) (hH : Ents w aH nh H) (hS : Ents w aS ns S) (zA : aA = none → ca = 0) (zH : aH = none → ch = 0) (zS : aS = none → cs = 0) :
    Calls Tryz.prog 12 #[.slice aA na ca, .slice aH nh ch, .slice aS ns cs] w (ItTo (items MM A H S) w) := rItems_any fair asks_own ta th ts aA aH aS na nh ns ca ch cs w hA hH hS zA zH zS
def eA : Et := ⟨⟨#[97]⟩, ⟨2, ⟨#[104, 105]⟩⟩⟩
theorem awake_items (M : Nd → Nd → Nd → Bool) : items M [] [eA] [] = [(⟨#[97]⟩, 2)] := by
  have e1 : tsub [eA] ⟨#[97]⟩ = [eA] := (List.filter_cons_of_pos (p := fun x : Et => und x.path.data.toList (⟨#[97]⟩ : ByteArray).data.toList) (a := eA) (l := []) (und_self _)).trans rfl
  have e2 : tsub [] ⟨#[97]⟩ = [] := rfl
  have hs : said M [] [eA] [] ⟨#[97]⟩ = 2 := by
    unfold said
    rw [e1, e2, if_neg (by simp), if_neg (by rintro ⟨_, h⟩; exact absurd h (by decide)), if_neg (by simp), if_pos rfl]
  refine (items_its (M := M) [] [eA] []).one ⟨by simp, fun x => ?_⟩
  constructor
  · intro hx
    obtain rfl := List.mem_singleton.1 hx
    exact ⟨⟨eA, by simp, rfl⟩, opn_top (by decide +kernel), hs.symm, by decide⟩
  · rintro ⟨⟨e, he, hp⟩, _, h3, _⟩
    obtain rfl : e = eA := by simpa using he
    rw [← hp] at h3
    exact List.mem_singleton.2 (Prod.ext hp.symm (h3.trans hs))
theorem awake_tree : tcheck [eA] = 0 := by decide +kernel
theorem ents_one (w : World) : Ents (w.alloc (.cells #[.string ⟨#[97]⟩, .int .i64 2, .string ⟨#[104, 105]⟩] 50)) (some ⟨w.heap.size, 0, none⟩) 1 [eA] := by
  obtain ⟨a, n, c, h1, h2, _⟩ := src_one (w := w) (x := eA)
  injection h1 with h1 h3 _
  subst h1 h3
  exact h2
set_option maxRecDepth 100000 in
set_option maxHeartbeats 4000000 in
theorem awake_any17 (w : World) : Calls Tryz.prog 9 #[] w fun e w' => e = .returned (.bool true) ∧ Below w.heap.size w w' := by
  have hB : ∀ o, Below w.heap.size w (w.alloc o) := fun o => (Below.refl _ _).alloc (Nat.le_refl _) _
  have h := its_any (A := []) (H := [eA]) (S := []) rfl awake_tree rfl none (some ⟨w.heap.size, 0, none⟩) none 0 1 0 0 1 0 (w.alloc (.cells #[.string ⟨#[97]⟩, .int .i64 2, .string ⟨#[104, 105]⟩] 50)) ⟨rfl, .inl rfl⟩ (ents_one w) ⟨rfl, .inl rfl⟩ (fun _ => rfl) (fun h => by cases h) (fun _ => rfl)
  rw [awake_items] at h
  have H := Lib.hid h
  clear h
  go_enter Tryz.func9, Tryz.ntmps9
  go_wp2_with fail
  go_at_call 12
  refine H.out.mono ?_
  rintro e w1 ⟨v, rfl, o, b⟩
  have HB := Lib.hid (below_call (hB _) b)
  obtain ⟨a1, c1, rfl, r1⟩ := o.form
  obtain ⟨g, off, rfl, hg, hc⟩ := r1.2.resolve_left (by decide)
  obtain ⟨d1, d2⟩ := hc 0 _ rfl
  simp only [Nat.zero_mul, Nat.add_zero] at d1 d2
  have hgI := guardI
  clear o r1 hc b H hB
  go_wp2_with fail
  go_ret
  exact ⟨rfl, HB.out⟩
def TrTo (TA TH TS : Nat) (w : World) (e : Ending) (w' : World) : Prop := ∃ B, (B = true ↔ TA = 0 ∧ TH = 0 ∧ TS = 0) ∧ e = .returned (.bool B) ∧ Below w.heap.size w w'
set_option maxRecDepth 100000 in
set_option maxHeartbeats 4000000 in
theorem trees_any (aA aH aS : Option Addr) (na nh ns ca ch cs : Nat) (A H S : List Et) (w : World) (hA : Ents w aA na A) (hH : Ents w aH nh H) (hS : Ents w aS ns S) (ka : na ≤ 1048576) (kh : nh ≤ 1048576) (ks : ns ≤ 1048576) (sA : Small A) (sH : Small H) (sS : Small S) :
    Calls Tryz.prog 10 #[.slice aA na ca, .slice aH nh ch, .slice aS ns cs] w (TrTo (tcheck A) (tcheck H) (tcheck S) w) := by
  have CA := Lib.hid (fun W (h : Below w.heap.size w W) => refCheckT_any aA na ca A W (hA.below h) (by omega) sA)
  have CH := Lib.hid (fun W (h : Below w.heap.size w W) => refCheckT_any aH nh ch H W (hH.below h) (by omega) sH)
  have CS := Lib.hid (fun W (h : Below w.heap.size w W) => refCheckT_any aS ns cs S W (hS.below h) (by omega) sS)
  clear hA hH hS sA sH sS
  generalize tcheck A = TA at CA ⊢
  generalize tcheck H = TH at CH ⊢
  generalize tcheck S = TS at CS ⊢
  go_enter Tryz.func10, Tryz.ntmps10
  go_wp2_with fail
  go_at_call 27
  refine (CA.out _ (Below.refl _ _)).mono ?_
  rintro e w1 ⟨rfl, b1⟩
  have HB1 := Lib.hid b1
  clear b1 CA
  by_cases zA : TA = 0
  case neg =>
    have e1 : ((TA : Int) == 0) = false := beq_eq_false_iff_ne.2 (by omega)
    go_wp2_with fail
    go_ret
    exact ⟨false, Iff.intro (fun h => by cases h) (fun h => absurd h.1 zA), rfl, HB1.out⟩
  subst zA
  go_wp2_with fail
  go_at_call 27
  refine (CH.out _ HB1.out).mono ?_
  rintro e w2 ⟨rfl, b2⟩
  have HB2 := Lib.hid (below_call HB1.out b2)
  clear b2 CH HB1
  by_cases zH : TH = 0
  case neg =>
    have e1 : ((TH : Int) == 0) = false := beq_eq_false_iff_ne.2 (by omega)
    go_wp2_with fail
    go_ret
    exact ⟨false, Iff.intro (fun h => by cases h) (fun h => absurd h.2.1 zH), rfl, HB2.out⟩
  subst zH
  go_wp2_with fail
  go_at_call 27
  refine (CS.out _ HB2.out).mono ?_
  rintro e w3 ⟨rfl, b3⟩
  have HB3 := Lib.hid (below_call HB2.out b3)
  clear b3 CS HB2
  by_cases zS : TS = 0
  case neg =>
    have e1 : ((TS : Int) == 0) = false := beq_eq_false_iff_ne.2 (by omega)
    go_wp2_with fail
    go_ret
    exact ⟨false, Iff.intro (fun h => by cases h) (fun h => absurd h.2.2 zS), rfl, HB3.out⟩
  subst zS
  go_wp2_with fail
  go_ret
  exact ⟨true, Iff.intro (fun _ => ⟨rfl, rfl, rfl⟩) (fun _ => rfl), rfl, HB3.out⟩
set_option maxRecDepth 100000 in
set_option maxHeartbeats 4000000 in
theorem only_any (a : Option Addr) (n c : Nat) (R : List It) (x y : Nat) (w : World) (hx : x ≤ 5) (hy : y ≤ 5) (hR : ItR w a n R) (hn : n ≤ 1000000) (ho : ∀ i, i ∈ R → i.2 = x ∨ i.2 = y) :
    Calls Tryz.prog 21 #[.slice a n c, .int .i64 (x : Nat), .int .i64 (y : Nat)] w fun e w' => e = .returned (.bool true) ∧ Below w.heap.size w w' := by
  have HR := Lib.hid hR
  have HO := Lib.hid ho
  clear hR ho
  go_enter Tryz.func21, Tryz.ntmps21
  go_wp2_with fail
  go_loopw [7] (fun i wr => ∃ k : Nat, k ≤ n ∧ i = .int .i64 k ∧ Below w.heap.size w wr) (fun i _ => n - (intOf i).toNat)
  case atStart => exact ⟨0, Nat.zero_le _, rfl, Below.refl _ _⟩
  case round =>
    obtain ⟨k, hk, rfl, hW⟩ := hrel
    by_cases hlt : k < n
    · obtain ⟨g, off, rfl, hg, hc⟩ := HR.out.2.resolve_left (by omega)
      obtain ⟨i, hi⟩ : ∃ i, R[k]? = some i := ⟨_, List.getElem?_eq_getElem (by rw [HR.out.1]; exact hlt)⟩
      have d2 := (hW.cell (p := ⟨g, _, none⟩) hg).trans (hc k i hi).2
      have hv := HO.out i (List.mem_of_getElem? hi)
      have hltz : (k : Int) < (n : Int) := by omega
      obtain ⟨P, V⟩ := i
      simp only at d2 hv
      clear hi hc
      by_cases e1 : V = x
      · have f1 : ((V : Int) == (x : Int)) = true := beq_iff_eq.2 (by omega)
        clear hv
        go_wp2_with fail
        go_roundw
        case rel => exact ⟨k + 1, by omega, by go_num, hW⟩
        case measure => simp only [intOf]; omega
      · have f1 : ((V : Int) == (x : Int)) = false := beq_eq_false_iff_ne.2 (by omega)
        have e2 := hv.resolve_left e1
        have f2 : ((V : Int) == (y : Int)) = true := beq_iff_eq.2 (by omega)
        clear hv
        go_wp2_with fail
        go_roundw
        case rel => exact ⟨k + 1, by omega, by go_num, hW⟩
        case measure => simp only [intOf]; omega
    · obtain rfl : k = n := by omega
      have hkz : ¬ (k : Int) < (k : Int) := by omega
      go_wp2_with fail
      go_ret
      exact ⟨rfl, hW⟩
theorem its_len {A H S : List Et} (ta : tcheck A = 0) (th : tcheck H = 0) (ts : tcheck S = 0) : (items MM A H S).length ≤ 600 := by
  have := items_len (M := MM) A H S
  have := tree_len ta
  have := tree_len th
  have := tree_len ts
  omega
end Go.Proofs.YtkenmldiojeooaaGreat.Rc

namespace Go.Proofs.YtkenmldiojeooaaGreat.En
open Go.ChangeShapes Go.WideShapes Go.ChangeAt Go.RowKit Tx
set_option linter.unusedVariables false
theorem bulk_node {H : Type} (n : Nd) : Rows.uptoBulk (dN (H := H) n) = n.data.size + 3 := by
  have e : Rows.uptoBulk (dN (H := H) n) = 1 + (n.data.data.toList.length + 1 + 0) + 1 := rfl
  rw [e, len_l]
  omega
theorem bulk_ent {H : Type} (x : Et) : Rows.uptoBulk (dE (H := H) x) = x.path.size + x.node.data.size + 5 := by
  have e : Rows.uptoBulk (dE (H := H) x) = (x.path.data.toList.length + 1) + (Rows.uptoBulk (dN (H := H) x.node) + 0) + 1 := rfl
  rw [e, len_l, bulk_node]
  omega
theorem bulk_ents {H : Type} : ∀ l : List Et, l.length ≤ Rows.uptoBulkAll (l.map (dE (H := H))) ∧ ∀ x ∈ l, x.path.size ≤ Rows.uptoBulkAll (l.map (dE (H := H))) ∧ x.node.data.size ≤ Rows.uptoBulkAll (l.map (dE (H := H)))
  | [] => ⟨Nat.zero_le _, fun x hx => by cases hx⟩
  | y :: l => by
    obtain ⟨h1, h2⟩ := bulk_ents (H := H) l
    have e : Rows.uptoBulkAll ((y :: l).map (dE (H := H))) = Rows.uptoBulk (dE (H := H) y) + Rows.uptoBulkAll (l.map (dE (H := H))) := rfl
    rw [e, bulk_ent]
    refine ⟨by rw [List.length_cons]; omega, fun x hx => ?_⟩
    rcases List.mem_cons.1 hx with rfl | hx
    · exact ⟨by omega, by omega⟩
    · obtain ⟨a, b⟩ := h2 x hx
      exact ⟨by omega, by omega⟩
theorem arg_ents {H : Type} {enc : TypeId × Value → H} {w : World} {base : Nat} {spare : Nat → Bool} {held : Bool} {a : Option Addr} {n c : Nat} {d : DataW H} {p : List MemPlace} (h : DataW.Trod enc Tryz.prog w base spare held 22 (.slice a n c) d p) :
    ∃ l : List Et, Ents w a n l ∧ (a = none → c = 0) ∧ (∀ e ∈ l, isInt e.node.kind ∧ e.path.size ≤ maxLen ∧ e.node.data.size ≤ maxLen) ∧ n ≤ Rows.uptoBulk d ∧ ∀ e ∈ l, e.path.size ≤ Rows.uptoBulk d ∧ e.node.data.size ≤ Rows.uptoBulk d := by
  obtain ⟨fuel, hf⟩ := h
  rcases open_ents hf with ⟨hcs, _⟩ | ⟨x, len, cap, l, rest, pl, hcs, _, _, hx, he, hall⟩
  · simp [Value.cells] at hcs
    obtain ⟨rfl, rfl, rfl⟩ := hcs
    exact ⟨[], ⟨rfl, .inl rfl⟩, fun _ => rfl, (fun e he => by cases he), Nat.zero_le _, (fun e he => by cases he)⟩
  · simp [Value.cells] at hcs
    obtain ⟨rfl, rfl, rfl⟩ := hcs
    have hd : d = .slice (l.map dE) rest := congrArg Prod.fst hx
    have e : Rows.uptoBulk d = Rows.uptoBulkAll (l.map (dE (H := H))) + Rows.uptoBulkAll rest + 1 := by rw [hd]; rfl
    obtain ⟨h1, h2⟩ := bulk_ents (H := H) l
    rw [he.1] at h1
    refine ⟨l, he, (fun h => by cases h), hall, by omega, fun y hy => ?_⟩
    obtain ⟨h3, h4⟩ := h2 y hy
    exact ⟨by omega, by omega⟩
theorem two_of {α : Type} (l : List α) (h : l.length = 2) : ∃ x y, l = [x, y] := by
  match l, h with
  | [x, y], _ => exact ⟨x, y, rfl⟩
set_option maxRecDepth 100000 in
theorem arg_node {H : Type} {enc : TypeId × Value → H} {w : World} {base b0 : Nat} {spare : Nat → Bool} {held : Bool} {r : Reach} {v : Value} {d : DataW H} {p : List MemPlace} (hv : Value.okWide Tryz.prog w r b0 33 v) (h : DataW.Trod enc Tryz.prog w base spare held 33 v d p) :
    ∃ n : Nd, v = nv n ∧ d = dN n ∧ isInt n.kind ∧ n.data.size ≤ maxLen := by
  obtain ⟨cs, rfl, hsz⟩ := okWide_struct Tryz.underlying33 hv
  obtain ⟨l⟩ := cs
  have hl : l.length = 2 := hsz.trans cellsN
  clear hsz hv
  obtain ⟨c0, c1, rfl⟩ := two_of l hl
  obtain ⟨fuel, hf⟩ := h
  obtain ⟨n, rfl, rfl, hy, h1, h2⟩ := node_open hf
  exact ⟨n, rfl, congrArg Prod.fst hy, h1, h2⟩
end Go.Proofs.YtkenmldiojeooaaGreat.En
