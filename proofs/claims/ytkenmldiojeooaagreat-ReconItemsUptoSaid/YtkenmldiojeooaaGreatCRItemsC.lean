/-
  ReconItems, of the landed code: what is said of every three trees is the document's own answer; what is handed in stays; the answer is new memory. Condition: the bound of the second form (what comes in holds at most 1048576 values and letters).
-/
import Derived.Test.YtkenmldiojeooaaGreatT6
import Derived.Maps.AppendAt
import Derived.Deep.QuietTactic
import Derived.BigQuiet
import Derived.JoinedCond
import Derived.SizedLaws
import Derived.ChangeOld
import Derived.Deep.CondSized
namespace Go.Proofs.YtkenmldiojeooaaGreat.Rc
open Go.RowKit Tx Pm Pr En
set_option linter.unusedVariables false
set_option linter.unusedSimpArgs false
theorem wp_app_ents {w : World} {ops : Array Oper} {rest : List Oper} {o : Oper} {a : Act} {Q : Exit → Act → World → Prop} (hgd : o.guard = none) (s x : Operand)
    (ho : o.op = .call { callee := .builtin .append, args := #[s, x], argTypes := #[22, 22] })
    (w0 : World) (g n cap : Nat) (L : List Et) (hs : a.eval s = .slice (some ⟨g, 0, none⟩) n cap) (hL : L.length = n) (hown : Own w w0.heap.size (.slice (some ⟨g, 0, none⟩) n cap) L) (hB : Below w0.heap.size w0 w)
    (A : Option Addr) (m c : Nat) (l : List Et) (hx : a.eval x = .slice A m c) (he : Ents w A m l) (hnil : A = none → c = 0) (hn : n ≤ 3000000000) (hm : m ≤ 1000000000)
    (h : ∀ g2 cap2 w2, Own w2 w0.heap.size (.slice (some ⟨g2, 0, none⟩) (n + m) cap2) (L ++ l) → Below w0.heap.size w0 w2 → wpList Tryz.prog ops Q rest (a.put o.dst (.slice (some ⟨g2, 0, none⟩) (n + m) cap2)) w2) : wpList Tryz.prog ops Q (o :: rest) a w := by
  obtain ⟨i0, hi, hz0, hz1, hz2⟩ := info_parts infoE
  have hl := he.1
  have hO : w.ownsRow w0.heap.size 50 3 (.slice (some ⟨g, 0, none⟩) n cap) n (L.flatMap cells) := by
    unfold Own at hown
    rw [hL] at hown
    exact hown
  cases A with
  | none =>
    obtain rfl := hnil rfl
    have hm0 : m = 0 := by
      rcases he.2 with h0 | ⟨b, off, hh, _⟩
      · exact h0
      · cases hh
    subst hm0
    obtain rfl : l = [] := List.length_eq_zero_iff.1 hl
    refine wpList_append_own_none hgd s x 22 ho w0.heap.size 50 i0 3 Tryz.underlying22 hi (.slice (some ⟨g, 0, none⟩) n cap) n _ hs hO hx ?_
    exact h g cap w (by rw [List.append_nil]; exact hown) hB
  | some ad =>
    have hcl : ∀ j u, (l.flatMap cells)[j]? = some u → w.cell? (ad.add j) = some u := by
      rcases he.2 with h0 | ⟨b, off, hh, hb, hc⟩
      · obtain rfl : l = [] := List.length_eq_zero_iff.1 (by omega)
        intro j u hj; cases hj
      · injection hh with hh
        subst hh
        exact ents_flat fun k y hy => hc k y hy
    refine wpList_append_own_at w hgd s x 22 ho w0.heap.size 50 i0 (.agg #[.string ⟨#[]⟩, .int .i64 0, .string ⟨#[]⟩]) 3 40 Tryz.underlying22 hi hz0 hz1 hz2 rfl (by decide) (.slice (some ⟨g, 0, none⟩) n cap) n _ hs hO ad m c (l.flatMap cells) hx (by rw [flat_len, hl]) hcl (flat_one _) (by unfold maxLen; omega) (by omega) hB.size ?_
    intro v2 w2 ho2 hg2 hiff _
    obtain ⟨g2, cap2, rfl, _⟩ := own_some ho2 (fun e => by have := hiff.1 e; cases this.1)
    refine h g2 cap2 w2 ?_ (grow_below hB hB.size hO hg2)
    unfold Own
    rw [List.length_append, hL, hl, List.flatMap_append]
    exact ho2
end Go.Proofs.YtkenmldiojeooaaGreat.Rc

namespace Go.Proofs.YtkenmldiojeooaaGreat.Rc
open Go.RowKit Tx Pm Pr En
set_option linter.unusedVariables false
set_option linter.unusedSimpArgs false
theorem cell_two_new (w : World) (a b : Value) (t : TypeId) : ∀ j u, [a, b][j]? = some u → (w.alloc (.cells #[a, b] t)).cell? ((⟨w.heap.size, 0, none⟩ : Addr).add j) = some u := by
  intro j u hj
  rw [WideShapes.add_plain]
  have h := heap_alloc_new w (.cells #[a, b] t)
  match j, hj with
  | 0, hj => injection hj with hj; subst hj; exact (cells_two h).1
  | 1, hj => injection hj with hj; subst hj; exact (cells_two h).2.1
set_option maxRecDepth 100000 in
set_option maxHeartbeats 4000000 in
theorem refItems_any {er : F3 Nat} {tx : F3 ByteArray} {cf : F3 Nat} (F : Fair er tx cf) (hR : AsksM er tx cf) (aA aH aS : Option Addr) (na nh ns ca ch cs : Nat) (A H S : List Et) (ta : tcheck A = 0) (th : tcheck H = 0) (ts : tcheck S = 0) (sA : small A) (sH : small H) (sS : small S)
    (w : World) (hA : Ents w aA na A) (hH : Ents w aH nh H) (hS : Ents w aS ns S) (nA : aA = none → ca = 0) (nH : aH = none → ch = 0) (nS : aS = none → cs = 0) (ka : na ≤ 1000) (kh : nh ≤ 1000) (ks : ns ≤ 1000) :
    Calls Tryz.prog 13 #[.slice aA na ca, .slice aH nh ch, .slice aS ns cs] w (ItTo (items (mg er tx cf) A H S) w) := by
  have hB0 : Below w.heap.size w (w.alloc (.cells #[] 50)) := (Below.refl _ w).alloc (Nat.le_refl _) _
  have hown0 : Own (w.alloc (.cells #[] 50)) w.heap.size (.slice (some ⟨w.heap.size, 0, none⟩) 0 0) [] := own_of (World.ownsRow_made (base := w.heap.size) (e := 50) (size := 3) w #[] 0 (Nat.le_refl _) (Nat.zero_le _) rfl) rfl
  have hl1 := hA.1
  have hl2 := hH.1
  have hl3 := hS.1
  have PA := Lib.hid (fun W (hb : Below w.heap.size w W) => hA.below hb)
  have PH := Lib.hid (fun W (hb : Below w.heap.size w W) => hH.below hb)
  have PS := Lib.hid (fun W (hb : Below w.heap.size w W) => hS.below hb)
  have NA := Lib.hid nA
  have NH := Lib.hid nH
  have NS := Lib.hid nS
  clear hA hH hS nA nH nS
  go_enter Tryz.func13, Tryz.ntmps13
  go_wp2_with (at_builtin; refine wp_app_ents rfl _ _ rfl w w.heap.size 0 0 [] rfl rfl hown0 hB0 aA na ca A rfl (PA.out _ hB0) NA.out (by omega) (by omega) ?_)
  intro g1 cap1 w1 o1 b1
  clear hown0 hB0
  go_wp2_with (at_builtin; refine wp_app_ents rfl _ _ rfl w g1 na cap1 A rfl hl1 o1 b1 aH nh ch H rfl (PH.out _ b1) NH.out (by omega) (by omega) ?_)
  intro g2 cap2 w2 o2 b2
  clear o1
  go_wp2_with (at_builtin; refine wp_app_ents rfl _ _ rfl w g2 (na + nh) cap2 (A ++ H) rfl (by rw [List.length_append, hl1, hl2]) o2 b2 aS ns cs S rfl (PS.out _ b2) NS.out (by omega) (by omega) ?_)
  intro g3 cap3 w3 o3 b3
  clear o2
  rw [← List.append_assoc] at o3
  obtain ⟨a3, c3, hv3, e3, _⟩ := Own.form o3
  obtain ⟨n3, hn3⟩ : ∃ n3, n3 = na + nh + ns := ⟨_, rfl⟩
  have hl4 : (A ++ H ++ S).length = n3 := by rw [List.length_append, List.length_append, hl1, hl2, hl3, hn3]
  rw [← hn3] at hv3 ⊢
  rw [hl4] at hv3 e3
  injection hv3 with hv3 _ hv4
  subst hv3 hv4
  have cso := refSort_any (some ⟨g3, 0, none⟩) n3 cap3 _ _ e3 (by omega)
  have hn3b : n3 ≤ 3000 := by omega
  clear o3 hn3
  go_wp2_with fail
  go_at_call 29
  refine cso.mono ?_
  rintro e w4 ⟨v4, rfl, o4, b4⟩
  have b4 := bl_then b3 b4
  obtain ⟨ALL, hALL⟩ : ∃ ALL, ALL = tsort (A ++ H ++ S) := ⟨_, rfl⟩
  rw [← hALL] at o4
  have hLn : ALL.length = n3 := by rw [hALL, tsort_len, hl4]
  obtain ⟨a6, c6, hv6, he6, _, _⟩ := Own.form o4
  subst hv6
  rw [hLn] at he6 ⊢
  clear o4 cso e3
  have HAL := Lib.hid hALL
  have hits : items (mg er tx cf) A H S = itsK (mg er tx cf) A H S ALL n3 := by
    unfold items
    rw [← HAL.out, ← hl4, List.length_append, List.length_append]
  have HIT := Lib.hid hits
  have hpath : ∀ x ∈ ALL, x.path.size ≤ 8000000000000 := by
    intro x hx
    rw [HAL.out] at hx
    have hch : chk x.path.data.toList 5 = 0 := by
      rcases three_mem.1 (mem_tsort hx) with h | h | h
      · exact (tree_path_ne ta h).1
      · exact (tree_path_ne th h).1
      · exact (tree_path_ne ts h).1
    have := chk_len5 hch
    rw [len_l] at this
    omega
  have HPT := Lib.hid hpath
  have b4w : ∀ {W : World}, Below w4.heap.size w4 W → Below w.heap.size w W := fun h => bl_then b4 h
  have COP := Lib.hid (fun (p : ByteArray) (W : World) (hp : p.size ≤ 8000000000000) (hb : Below w.heap.size w W) => refOpen_any aH aS nh ns ch cs H S sH sS (by omega) (by omega) (p.size + 1) p W (by omega) hp (PH.out W hb) (PS.out W hb))
  have CSA := Lib.hid (fun (p : ByteArray) (W : World) (hp : p.size ≤ 8000000000000) (hb : Below w.heap.size w W) => refSaid_any F hR aA aH aS na nh ns ca ch cs A H S ta th ts sA sH sS (by omega) (by omega) (by omega) p W hp (PA.out W hb) (PH.out W hb) (PS.out W hb))
  clear hits hpath hALL hl4 PA PH PS NA NH NS ta th ts sA sH sS hR
  have hn3 : n3 ≤ 3000 := hn3b
  clear hn3b
  have HLN := Lib.hid hLn
  clear hLn hl1 hl2 hl3
  by_cases hn0 : n3 = 0
  · subst hn0
    clear he6
    go_wp2_with fail
    go_loop [8, 9] (fun v i => i = .int .i64 0 ∧ v = .slice none 0 0) (fun _ _ => 0)
    case atStart => exact ⟨rfl, rfl⟩
    case round =>
      obtain ⟨rfl, rfl⟩ := hrel
      go_wp2_with fail
      go_ret
      exact ⟨_, rfl, by rw [HIT.out]; exact io_nil _ _, b4⟩
  obtain ⟨b6, o6, rfl, hb6, hc6⟩ := he6.2.resolve_left hn0
  have HC := Lib.hid hc6
  clear hc6 he6 hn0
  go_wp2_with fail
  go_loopw [8, 9] (fun v i wr => ∃ (k : Nat) (out : List It), k ≤ n3 ∧ i = .int .i64 k ∧ Hid (itsK (mg er tx cf) A H S ALL k = out) ∧ out.length ≤ k ∧ Io wr w4.heap.size v out ∧ Below w4.heap.size w4 wr) (fun _ i _ => n3 - (intOf i).toNat)
  case atStart => exact ⟨0, [], Nat.zero_le _, rfl, rfl, Nat.le_refl _, io_nil _ _, Below.refl _ _⟩
  case round =>
    obtain ⟨k, out, hk, rfl, hT, hlen, hio, hW⟩ := hrel
    by_cases hlt : k < n3
    · obtain ⟨x, hx⟩ : ∃ x, ALL[k]? = some x := ⟨_, List.getElem?_eq_getElem (by rw [HLN.out]; exact hlt)⟩
      have d1 := (hW.cell (p := ⟨b6, _, none⟩) hb6).trans (HC.out k x hx).1
      have hps := HPT.out x (List.mem_of_getElem? hx)
      have hno : ¬ (Fresh ALL k x ∧ Opn H S x.path.data.toList ∧ said (mg er tx cf) A H S x.path ≠ 0) → itsK (mg er tx cf) A H S ALL (k + 1) = out := fun h => by rw [itsK_succ, itAt_no hx h, List.append_nil]; exact hT.out
      have hyes : Fresh ALL k x → Opn H S x.path.data.toList → said (mg er tx cf) A H S x.path ≠ 0 → itsK (mg er tx cf) A H S ALL (k + 1) = out ++ [(x.path, said (mg er tx cf) A H S x.path)] := fun h1 h2 h3 => by rw [itsK_succ, itAt_yes hx h1 h2 h3, hT.out]
      have co := fun W hb => COP.out x.path W hps hb
      have cs2 := fun W hb => CSA.out x.path W hps hb
      have hprev : k = 0 ∨ ∃ j z, k = j + 1 ∧ ALL[j]? = some z ∧ wr.cell? ⟨b6, o6 + j * 3, none⟩ = some (.string z.path) := by
        cases k with
        | zero => exact .inl rfl
        | succ j =>
          obtain ⟨z, hz⟩ : ∃ z, ALL[j]? = some z := ⟨_, List.getElem?_eq_getElem (by rw [HLN.out]; omega)⟩
          exact .inr ⟨j, z, rfl, hz, (hW.cell (p := ⟨b6, _, none⟩) hb6).trans (HC.out j z hz).1⟩
      have hfr0 : k = 0 → Fresh ALL k x := fun h => .inl h
      have hfr1 : ∀ j z, k = j + 1 → ALL[j]? = some z → z.path ≠ x.path → Fresh ALL k x := fun j z h1 h2 h3 => .inr fun y hy => by
        subst h1
        rw [Nat.add_sub_cancel, h2] at hy
        injection hy with hy
        rw [← hy]; exact h3
      have hfr2 : ∀ j z, k = j + 1 → ALL[j]? = some z → z.path = x.path → ¬ Fresh ALL k x := fun j z h1 h2 h3 hf => by
        rcases hf with h | h
        · omega
        · subst h1
          exact h z (by rw [Nat.add_sub_cancel]; exact h2) h3
      obtain ⟨P, X, Y⟩ := x
      simp only at d1 hps hno hyes co cs2
      have hsn := said_five (M := mg er tx cf) A H S P
      generalize said (mg er tx cf) A H S P = N at hno hyes cs2 hsn
      have CO := Lib.hid co
      have CS := Lib.hid cs2
      have HNO := Lib.hid hno
      have HYES := Lib.hid hyes
      clear hx co cs2 hno hyes hT
      rcases hprev with hk0 | ⟨j, z, hj, hz, hcell⟩
      · have HFR := Lib.hid (hfr0 hk0)
        have hkz : ¬ (0 : Int) < (k : Int) := by omega
        clear hfr0 hfr1 hfr2 hk0
        as_aux_lemma =>
          go_wp2_with fail
          go_at_call 30
          refine (CO.out _ (b4w hW)).mono ?_
          rintro e w5 ⟨B, hB, rfl, b5⟩
          have hW5 := bl_then hW b5
          have hio5 := hio.below b5
          clear hio
          cases B with
          | false =>
            have HN2 := Lib.hid (HNO.out (fun h => by (cases hB.2 h.2.1)))
            go_wp2_with fail
            go_roundw
            case rel => exact ⟨k + 1, out, by omega, by go_num, HN2.out, by omega, hio5, hW5⟩
            case measure => simp [intOf]; omega
          | true =>
            have hop := hB.1 (by trivial)
            have HOP := Lib.hid hop
            clear hB hop
            go_wp2_with fail
            go_at_call 31
            refine (CS.out _ (b4w hW5)).mono ?_
            rintro e w6 ⟨rfl, b6⟩
            have hW6 := bl_then hW5 b6
            have hio6 := hio5.below b6
            clear hio5
            by_cases hN : N = 0
            · have HN2 := Lib.hid (HNO.out (fun h => h.2.2 hN))
              have hNz : ¬ (0 : Int) < (N : Int) := by omega
              clear hN
              go_wp2_with fail
              go_roundw
              case rel => exact ⟨k + 1, out, by omega, by go_num, HN2.out, by omega, hio6, hW6⟩
              case measure => simp [intOf]; omega
            · have HN2 := Lib.hid (HYES.out HFR.out HOP.out hN)
              have hNz : (0 : Int) < (N : Int) := by omega
              clear hN
              have hio7 := hio6.below ((Below.refl w6.heap.size w6).alloc (Nat.le_refl _) (.cells #[.string P, .int .i64 (N : Nat)] 31))
              have hW6a := hW6.alloc hW6.size (.cells #[.string P, .int .i64 (N : Nat)] 31)
              have hone := io_one w6 P N
              have hll : out.length + [(P, N)].length ≤ 1000000 := by rw [List.length_singleton]; omega
              go_wp2_with (at_builtin; refine wp_app_items rfl _ _ rfl w4 _ _ out [(P, N)] _ rfl rfl hio7 hone hW6a hll ?_)
              intro v2 w7 hio8 hW7
              clear hone hW6a hio7 hio6 hll
              go_wp2_with fail
              go_roundw
              case rel => exact ⟨_, _, by omega, by go_num, HN2.out, by rw [List.length_append, List.length_singleton]; omega, hio8, hW7⟩
              case measure => simp [intOf]; omega
      · by_cases hzp : z.path = P
        · have HN2 := Lib.hid (HNO.out (fun h => hfr2 j z hj hz hzp h.1))
          rw [hzp] at hcell
          subst hj
          have hsub : ((j + 1 : Nat) : Int) - 1 = j := by omega
          clear hfr0 hfr1 hfr2 hz hzp
          go_wp2_with fail
          go_roundw
          case rel => exact ⟨j + 1 + 1, out, by omega, by go_num, HN2.out, by omega, hio, hW⟩
          case measure => simp [intOf]; omega
        · have HFR := Lib.hid (hfr1 j z hj hz hzp)
          obtain ⟨Z, hZ⟩ : ∃ Z, Z = z.path := ⟨_, rfl⟩
          rw [← hZ] at hcell hzp
          subst hj
          have hsub : ((j + 1 : Nat) : Int) - 1 = j := by omega
          have ez := bytes_ne hzp
          clear hfr0 hfr1 hfr2 hz hzp hZ
          as_aux_lemma =>
            go_wp2_with fail
            go_at_call 30
            refine (CO.out _ (b4w hW)).mono ?_
            rintro e w5 ⟨B, hB, rfl, b5⟩
            have hW5 := bl_then hW b5
            have hio5 := hio.below b5
            clear hio
            cases B with
            | false =>
              have HN2 := Lib.hid (HNO.out (fun h => by (cases hB.2 h.2.1)))
              go_wp2_with fail
              go_roundw
              case rel => exact ⟨j + 1 + 1, out, by omega, by go_num, HN2.out, by omega, hio5, hW5⟩
              case measure => simp [intOf]; omega
            | true =>
              have hop := hB.1 (by trivial)
              have HOP := Lib.hid hop
              clear hB hop
              go_wp2_with fail
              go_at_call 31
              refine (CS.out _ (b4w hW5)).mono ?_
              rintro e w6 ⟨rfl, b6⟩
              have hW6 := bl_then hW5 b6
              have hio6 := hio5.below b6
              clear hio5
              by_cases hN : N = 0
              · have HN2 := Lib.hid (HNO.out (fun h => h.2.2 hN))
                have hNz : ¬ (0 : Int) < (N : Int) := by omega
                clear hN
                go_wp2_with fail
                go_roundw
                case rel => exact ⟨j + 1 + 1, out, by omega, by go_num, HN2.out, by omega, hio6, hW6⟩
                case measure => simp [intOf]; omega
              · have HN2 := Lib.hid (HYES.out HFR.out HOP.out hN)
                have hNz : (0 : Int) < (N : Int) := by omega
                clear hN
                have hio7 := hio6.below ((Below.refl w6.heap.size w6).alloc (Nat.le_refl _) (.cells #[.string P, .int .i64 (N : Nat)] 31))
                have hW6a := hW6.alloc hW6.size (.cells #[.string P, .int .i64 (N : Nat)] 31)
                have hone := io_one w6 P N
                have hll : out.length + [(P, N)].length ≤ 1000000 := by rw [List.length_singleton]; omega
                go_wp2_with (at_builtin; refine wp_app_items rfl _ _ rfl w4 _ _ out [(P, N)] _ rfl rfl hio7 hone hW6a hll ?_)
                intro v2 w7 hio8 hW7
                clear hone hW6a hio7 hio6 hll
                go_wp2_with fail
                go_roundw
                case rel => exact ⟨_, _, by omega, by go_num, HN2.out, by rw [List.length_append, List.length_singleton]; omega, hio8, hW7⟩
                case measure => simp [intOf]; omega
    · obtain rfl : k = n3 := by omega
      have HE := Lib.hid (HIT.out.trans hT.out)
      clear hT
      go_wp2_with fail
      go_ret
      exact ⟨_, rfl, by rw [HE.out]; exact hio.base b4.size, bl_then b4 hW⟩
end Go.Proofs.YtkenmldiojeooaaGreat.Rc

namespace Go.Proofs.YtkenmldiojeooaaGreat.Ea
open Go.RowKit Tx En Ap
set_option linter.unusedVariables false
theorem own_frozen {w : World} {base g n cap size : Nat} {e : TypeId} {xs : List Value} (h : w.ownsRow base e size (.slice (some ⟨g, 0, none⟩) n cap) n xs) (k : Nat) : w.frozen? ⟨g, k, none⟩ = false := by
  rcases h.2 with ⟨h0, _⟩ | ⟨g', cap', cur, hv, _, hh, _⟩
  · cases h0
  · injection hv with hg
    injection hg with hg
    injection hg with hg
    subst hg
    simp [World.frozen?, hh]
theorem own_cell {w : World} {base g n cap size : Nat} {e : TypeId} {xs : List Value} (h : w.ownsRow base e size (.slice (some ⟨g, 0, none⟩) n cap) n xs) {k : Nat} {u : Value} (hk : xs[k]? = some u) : w.cell? ⟨g, k, none⟩ = some u := by
  have := h.cells (g := g) rfl k u hk
  rwa [WideShapes.add_plain, Nat.zero_add] at this
theorem own_put {w : World} {base g n cap size : Nat} {e : TypeId} {xs : List Value} (h : w.ownsRow base e size (.slice (some ⟨g, 0, none⟩) n cap) n xs) (k : Nat) (u : Value) :
    (w.setCell ⟨g, k, none⟩ u).ownsRow base e size (.slice (some ⟨g, 0, none⟩) n cap) n (xs.set k u) := by
  refine ⟨by rw [List.length_set]; exact h.1, ?_⟩
  rcases h.2 with ⟨h0, _⟩ | ⟨g', cap', cur, hv, hb, hh, hn, hc, hs, ht⟩
  · cases h0
  · injection hv with hg _ hcap
    injection hg with hg
    injection hg with hg
    subst hg
    subst hcap
    refine .inr ⟨g, cap, cur.setIfInBounds k u, rfl, hb, ?_, hn, hc, by simpa using hs, ?_⟩
    · simp [World.setCell, Array.getElem?_modify, hh]
    · rw [Array.toList_setIfInBounds, List.take_set, ht]
theorem own_far {w : World} {base n size : Nat} {e : TypeId} {v : Value} {xs : List Value} (h : w.ownsRow base e size v n xs) {g k : Nat} (hne : v.ownBlock ≠ some g) (u : Value) : (w.setCell ⟨g, k, none⟩ u).ownsRow base e size v n xs := by
  have hg : w.grownBy (w.setCell ⟨g, k, none⟩ u) (some g) := ⟨rfl, rfl, rfl, by simp [World.setCell], fun j _ hj => Below.heap_setCell w ⟨g, k, none⟩ u j (fun e => hj (by rw [e]))⟩
  exact h.kept hg (.inr hne)
theorem flat_set : ∀ (l : List Et) (k : Nat) (x : Et), k < l.length → (((l.flatMap cells).set (k * 3) (.string x.path)).set (k * 3 + 1) (.int .i64 x.node.kind)).set (k * 3 + 1 + 1) (.string x.node.data) = (l.set k x).flatMap cells
  | [], k, x, h => by simp at h
  | y :: l, 0, x, h => by
    simp [cells]
  | y :: l, k + 1, x, h => by
    have ih := flat_set l k x (by simpa using h)
    have e1 : (k + 1) * 3 = (cells y).length + k * 3 := by show _ = 3 + _; omega
    rw [List.set_cons_succ, List.flatMap_cons, List.flatMap_cons, ← ih, e1]
    have hle : ∀ (q : Nat) (u : Value) (m : List Value), (cells y ++ m).set ((cells y).length + q) u = cells y ++ m.set q u := by
      intro q u m
      rw [List.set_append_right _ _ (by omega), Nat.add_sub_cancel_left]
    rw [hle, Nat.add_assoc, hle, Nat.add_assoc, hle]
theorem own_store {w : World} {base g n cap : Nat} {e : TypeId} {xs : List Et} (h : w.ownsRow base e 3 (.slice (some ⟨g, 0, none⟩) n cap) n (xs.flatMap cells)) {k : Nat} (hk : k < xs.length) (x : Et) :
    (((w.setCell ⟨g, k * 3, none⟩ (.string x.path)).setCell ⟨g, k * 3 + 1, none⟩ (.int .i64 x.node.kind)).setCell ⟨g, k * 3 + 1 + 1, none⟩ (.string x.node.data)).ownsRow base e 3 (.slice (some ⟨g, 0, none⟩) n cap) n ((xs.set k x).flatMap cells) := by
  rw [← flat_set xs k x hk]
  exact own_put (own_put (own_put h _ _) _ _) _ _
end Go.Proofs.YtkenmldiojeooaaGreat.Ea

namespace Go.Proofs.YtkenmldiojeooaaGreat.Ea
open Go.RowKit Tx En Ap
set_option linter.unusedVariables false
def wasE (j : Nat) : Et := ⟨⟨#[]⟩, ⟨1000 + (j : Int), ⟨#[]⟩⟩⟩
def newE (j : Nat) : Et := ⟨⟨#[]⟩, ⟨2000 + (j : Int), ⟨#[]⟩⟩⟩
structure Ls where
  m : Nat
  A : Nat → Option Addr
  N : Nat → Nat
  C : Nat → Nat
  bo : Nat
  B : Nat
namespace Ls
variable (L : Ls)
def val (j : Nat) : Value := .slice (L.A j) (L.N j) (L.C j)
def cells (w : World) : Prop := ∀ j, j < L.m → w.cell? ⟨L.bo, j, none⟩ = some (.slice (L.A j) (L.N j) (L.C j))
def far : Prop := (∀ i j, i < L.m → j < L.m → i ≠ j → ∀ x, L.A i = some x → L.A j ≠ some x) ∧ ∀ j, j < L.m → ∀ g, L.A j = some ⟨g, 0, none⟩ → g ≠ L.bo
end Ls
def sw (j : Nat) : Value := .int .i64 (1000 + (j : Int))
def row (L : Ls) (j k : Nat) : List Et := List.replicate (L.N j) (wasE j) ++ List.replicate k (newE j)
structure Inv (L : Ls) (w0 : World) (H i r : Nat) (w : World) (v6 : Value) (vs : List Value) (b c : Nat → Nat) : Prop where
  cells : L.cells w
  held : ∀ j, j < L.m → ∀ l, l < L.N j → ∃ g, L.A j = some ⟨g, 0, none⟩ ∧ w.cell? ⟨g, l * 3 + 1, none⟩ = some (sw j)
  rows : ∀ j, r ≤ j → j < L.m → w.ownsRow L.B 50 3 (.slice (L.A j) (L.N j) (L.C j)) (L.N j) ((row L j 0).flatMap En.cells)
  outer : w.ownsRow L.B 22 1 v6 i vs
  high : ∀ g, v6.ownBlock = some g → H ≤ g
  long : ∀ j, j < i → vs[j]? = some (.slice (some ⟨b j, 0, none⟩) (L.N j + 20) (c j)) ∧ w.ownsRow L.B 50 3 (.slice (some ⟨b j, 0, none⟩) (L.N j + 20) (c j)) (L.N j + 20) ((row L j 20).flatMap En.cells) ∧ (L.A j = some ⟨b j, 0, none⟩ ∨ H ≤ b j)
  apart : ∀ j k, j < i → k < i → j ≠ k → b j ≠ b k
  low : ∀ j, j < L.m → ∀ g, L.A j = some ⟨g, 0, none⟩ → g < H
  bo : L.bo < H
  size : H ≤ w.heap.size
  below : Below L.B w0 w
  base : L.B ≤ H
structure Cur (L : Ls) (H i k : Nat) (w : World) (v : Value) (b : Nat → Nat) : Prop where
  own : w.ownsRow L.B 50 3 v (L.N i + k) ((row L i k).flatMap En.cells)
  at_ : ∀ g, v.ownBlock = some g → (L.A i = some ⟨g, 0, none⟩ ∨ H ≤ g) ∧ ∀ j, j < i → b j ≠ g
end Go.Proofs.YtkenmldiojeooaaGreat.Ea

namespace Go.Proofs.YtkenmldiojeooaaGreat.Ea
open Go.RowKit Tx En Ap
set_option linter.unusedVariables false
end Go.Proofs.YtkenmldiojeooaaGreat.Ea

namespace Go.Proofs.YtkenmldiojeooaaGreat.En
open Go.RowKit Tx Pm Pr
set_option linter.unusedVariables false
set_option maxRecDepth 100000 in
set_option maxHeartbeats 1000000 in
theorem roomy_zero (x : Addr) (c : Nat) (w : World) :
    Calls Tryz.prog 11 #[.slice (some x) 0 c] w (RoomyTo [] w) := by
  obtain ⟨i0, hi, hz0, hz1, hz2⟩ := info_parts infoE
  have hB : ∀ o, Below w.heap.size w (w.alloc o) := fun o => (Below.refl _ _).alloc (Nat.le_refl _) _
  have hown0 := World.ownsRow_made (base := w.heap.size) (e := 50) (size := 3) w #[] 0 (Nat.le_refl _) (Nat.zero_le _) rfl
  have hB0 := hB (.cells #[] 50)
  have he : (w.alloc (.cells #[] 50)).heap.size = w.heap.size + 1 := by simp
  go_enter Tryz.func11, Tryz.ntmps11
  go_wp2_with ((at_builtin; refine wpList_append_own _ rfl _ _ 22 rfl w.heap.size 50 i0 (.agg #[.string ⟨#[]⟩, .int .i64 0, .string ⟨#[]⟩]) 3 40 Tryz.underlying22 hi hz0 hz1 hz2 rfl (by decide) _ _ _ rfl (hown0.alloc _) ⟨w.heap.size + 1, 0, none⟩ 1 1 (cells spare) rfl rfl ?c1 ?c2 ?c3 ?c4 ?c5 ?_))
  case c1 =>
    rw [← he]
    exact cell_three_new _ _ _ _ _
  case c2 => exact cells_one spare
  case c3 => unfold maxLen; omega
  case c4 => omega
  case c5 => simp; omega
  intro v2 w2 hown2 hgrow2 _
  have hB2 := below_step hB0 hown0 hgrow2
  obtain ⟨g, cap, rfl, hcap, hcap2⟩ := own_shape hown2 (by omega)
  have hO : Own w2 w.heap.size (.slice (some ⟨g, 0, none⟩) (([] : List Et).length + 1) cap) ([] ++ [spare]) := by
    unfold Own
    exact hown2
  have hR := hB2
  unfold maxLen at hcap2
  clear hown2 hgrow2 hB2 hB hown0
  go_wp2_with fail
  go_ret
  exact ⟨g, cap, rfl, hO, hR⟩
theorem refRoomy_all (a : Option Addr) (n c : Nat) (l : List Et) (w : World) (hl : Ents w a n l) (hnil : a = none → c = 0) (hn : n ≤ 1000000000000) :
    Calls Tryz.prog 11 #[.slice a n c] w (RoomyTo l w) := by
  by_cases h0 : n = 0
  · subst h0
    obtain rfl : l = [] := List.length_eq_zero_iff.1 hl.1
    cases a with
    | none =>
      obtain rfl := hnil rfl
      exact roomy_none w
    | some x => exact roomy_zero x c w
  · obtain ⟨b, off, rfl, hb, hc⟩ := hl.2.resolve_left h0
    exact roomy_some b off n c l w hl.1 (.inl hb) hc hn
theorem roomy_form {l : List Et} {w w' : World} {e : Ending} (h : RoomyTo l w e w') : ∃ g cap, e = .returned (.slice (some ⟨g, 0, none⟩) l.length cap) ∧ Own w' w.heap.size (.slice (some ⟨g, 0, none⟩) (l.length + 1) cap) (l ++ [spare]) ∧ Ents w' (some ⟨g, 0, none⟩) (l.length + 1) (l ++ [spare]) ∧ Ents w' (some ⟨g, 0, none⟩) l.length l ∧ l.length + 1 ≤ cap ∧ cap ≤ 9223372036854775807 ∧ w.heap.size ≤ g ∧ g < w'.heap.size ∧ Below w.heap.size w w' := by
  obtain ⟨g, cap, he, ho, hb⟩ := h
  obtain ⟨a, k, hv, hen, h1, h2⟩ := Own.form ho
  injection hv with hv1 hv2 hv3
  subst hv1
  subst hv3
  rw [List.length_append] at hen h1
  have hen2 := hen.take (m := l.length) (by simp)
  rw [List.take_append_of_le_length (Nat.le_refl _), List.take_of_length_le (Nat.le_refl _)] at hen2
  unfold maxLen at h2
  refine ⟨g, cap, he, ho, hen, hen2, h1, h2, ?_, ?_, hb⟩
  · rcases ho.2 with ⟨hv, _⟩ | ⟨g', cap', cur, hv, hg, hh, _⟩
    · cases hv
    · injection hv with hv
      injection hv with hv
      injection hv with hv
      subst hv
      exact hg
  · rcases ho.2 with ⟨hv, _⟩ | ⟨g', cap', cur, hv, hg, hh, _⟩
    · cases hv
    · injection hv with hv
      injection hv with hv
      injection hv with hv
      subst hv
      exact (Array.getElem?_eq_some_iff.1 hh).1
end Go.Proofs.YtkenmldiojeooaaGreat.En

namespace Go.Proofs.YtkenmldiojeooaaGreat.reconItems
open Go.ChangeMaps (open_string shut_string)
open Go.ChangeShapes Go.WideShapes Go.ChangeAt Go.RowKit Tx Pm Pr En Rc
set_option linter.unusedVariables false
set_option linter.unusedSimpArgs false
theorem it_set {w : World} {a : Option Addr} {n : Nat} {R : List It} {b k : Nat} {v : Value} (h : ItR w a n R) (hne : ∀ x, a = some x → x.block ≠ b) : ItR (w.setCell ⟨b, k, none⟩ v) a n R := by
  refine ⟨h.1, ?_⟩
  rcases h.2 with h0 | ⟨b', off, ha, hlt, hc⟩
  · exact .inl h0
  · have hb := hne _ ha
    refine .inr ⟨b', off, ha, by simpa using hlt, fun j x hx => ?_⟩
    obtain ⟨c1, c2⟩ := hc j x hx
    exact ⟨(World.cell?_setCell_other _ _ _ _ (fun e => hb (congrArg Addr.block e).symm)).trans c1, (World.cell?_setCell_other _ _ _ _ (fun e => hb (congrArg Addr.block e).symm)).trans c2⟩
theorem io_far {w : World} {B : Nat} {a : Option Addr} {n c : Nat} {R : List It} (h : Io w B (.slice a n c) R) : ∀ x, a = some x → B ≤ x.block := by
  intro x hx
  subst hx
  rcases h.2 with ⟨h0, _⟩ | ⟨g, cap, cur, hv, hb, _⟩
  · injection h0 with h0; cases h0
  · injection hv with hv
    injection hv with hv
    rw [hv]; exact hb
def Bk2 (w : World) (g n : Nat) : Prop := ∃ cs, w.heap[g]? = some (.cells cs 31) ∧ n * 2 ≤ cs.size
theorem Bk2.cells {w : World} {g n : Nat} (h : Bk2 w g n) {k : Nat} (hk : k < n) : (∃ u, w.cell? ⟨g, k * 2, none⟩ = some u) ∧ (∃ u, w.cell? ⟨g, k * 2 + 1, none⟩ = some u) ∧ ∀ j, w.frozen? ⟨g, j, none⟩ = false := by
  obtain ⟨cs, h1, h2⟩ := h
  refine ⟨⟨cs[k * 2]'(by omega), ?_⟩, ⟨cs[k * 2 + 1]'(by omega), ?_⟩, fun j => frozen_of_row w g j _ _ h1⟩
  · simp [World.cell?, h1]
  · simp [World.cell?, h1]
theorem Bk2.set {w : World} {g n : Nat} (h : Bk2 w g n) (k : Nat) (v : Value) : Bk2 (w.setCell ⟨g, k, none⟩ v) g n := by
  obtain ⟨cs, h1, h2⟩ := h
  exact ⟨_, Go.heap_setCell_same _ g k _ _ v h1, by simpa using h2⟩
theorem io_bk {w : World} {B : Nat} {g off n c : Nat} {R : List It} (h : Io w B (.slice (some ⟨g, off, none⟩) n c) R) (hR : R.length = n) : off = 0 ∧ Bk2 w g n := by
  rcases h.2 with ⟨h0, _⟩ | ⟨g', cap, cur, hv, hb, hh, hn, hc, hs, _⟩
  · injection h0 with h0; cases h0
  · injection hv with hv
    injection hv with hv
    injection hv with h1 h2
    subst h1 h2
    exact ⟨rfl, cur, hh, by rw [hs]; omega⟩
set_option maxRecDepth 100000 in
set_option maxHeartbeats 8000000 in
theorem walk (A0 : Option Addr) (n0 c0 : Nat) (l0 : List Et) (A1 : Option Addr) (n1 c1 : Nat) (l1 : List Et) (A2 : Option Addr) (n2 c2 : Nat) (l2 : List Et) (w : World) (e0 : Ents w A0 n0 l0) (z0 : A0 = none → c0 = 0) (m0 : n0 ≤ 1048576) (s0 : Small l0) (e1 : Ents w A1 n1 l1) (z1 : A1 = none → c1 = 0) (m1 : n1 ≤ 1048576) (s1 : Small l1) (e2 : Ents w A2 n2 l2) (z2 : A2 = none → c2 = 0) (m2 : n2 ≤ 1048576) (s2 : Small l2) :
    Calls Tryz.prog 3 #[.slice A0 n0 c0, .slice A1 n1 c1, .slice A2 n2 c2] w fun e w' => e = .returned (.bool true) ∧ Below w.heap.size w w' := by
  have CT := Lib.hid (fun W (h : Below w.heap.size w W) => trees_any A0 A1 A2 n0 n1 n2 c0 c1 c2 l0 l1 l2 W (e0.below h) (e1.below h) (e2.below h) m0 m1 m2 s0 s1 s2)
  have E0 := Lib.hid (fun W (h : Below w.heap.size w W) => e0.below h)
  have E1 := Lib.hid (fun W (h : Below w.heap.size w W) => e1.below h)
  have E2 := Lib.hid (fun W (h : Below w.heap.size w W) => e2.below h)
  have Z0 := Lib.hid z0
  have S0 := Lib.hid s0
  have Z1 := Lib.hid z1
  have S1 := Lib.hid s1
  have Z2 := Lib.hid z2
  have S2 := Lib.hid s2
  clear e0 z0 s0 e1 z1 s1 e2 z2 s2
  go_enter Tryz.func3, Tryz.ntmps3
  go_wp2_with fail
  go_at_call 9
  refine (awake_any17 _).mono ?_
  rintro e w1 ⟨rfl, b1⟩
  have HB1 := Lib.hid b1
  clear b1
  go_wp2_with fail
  go_at_call 10
  refine (CT.out _ HB1.out).mono ?_
  rintro e w2 ⟨B, hB, rfl, b2⟩
  have HB2 := Lib.hid (below_call HB1.out b2)
  have HBB := Lib.hid hB
  clear b2 hB CT HB1
  cases B with
  | false =>
    clear E0 Z0 S0 E1 Z1 S1 E2 Z2 S2 
    go_wp2_with fail
    go_at_call 9
    refine (awake_any17 _).mono ?_
    rintro e w3 ⟨rfl, b3⟩
    have HB3 := Lib.hid (below_call HB2.out b3)
    clear b3
    go_wp2_with fail
    go_ret
    exact ⟨rfl, HB3.out⟩
  | true =>
    obtain ⟨ta, th, ts⟩ := HBB.out.1 rfl
    clear HBB
    have hn0 : l0.length = n0 := (E0.out w (Below.refl _ _)).1
    have RO0 := Lib.hid (fun W (h : Below w.heap.size w W) => refRoomy_all A0 n0 c0 l0 W (E0.out W h) Z0.out (by omega))
    have HD0 := Lib.hid (fun g cap W (h : Below w.heap.size w W) (hr : Ents W (some ⟨g, 0, none⟩) (n0 + 1) (l0 ++ [spare])) (h1 : n0 + 1 ≤ cap) (h2 : cap ≤ 9223372036854775807) => refHeld_any g cap c0 n0 A0 l0 W hr (E0.out W h) h1 h2 (by omega))
    have hn1 : l1.length = n1 := (E1.out w (Below.refl _ _)).1
    have RO1 := Lib.hid (fun W (h : Below w.heap.size w W) => refRoomy_all A1 n1 c1 l1 W (E1.out W h) Z1.out (by omega))
    have HD1 := Lib.hid (fun g cap W (h : Below w.heap.size w W) (hr : Ents W (some ⟨g, 0, none⟩) (n1 + 1) (l1 ++ [spare])) (h1 : n1 + 1 ≤ cap) (h2 : cap ≤ 9223372036854775807) => refHeld_any g cap c1 n1 A1 l1 W hr (E1.out W h) h1 h2 (by omega))
    have hn2 : l2.length = n2 := (E2.out w (Below.refl _ _)).1
    have RO2 := Lib.hid (fun W (h : Below w.heap.size w W) => refRoomy_all A2 n2 c2 l2 W (E2.out W h) Z2.out (by omega))
    have HD2 := Lib.hid (fun g cap W (h : Below w.heap.size w W) (hr : Ents W (some ⟨g, 0, none⟩) (n2 + 1) (l2 ++ [spare])) (h1 : n2 + 1 ≤ cap) (h2 : cap ≤ 9223372036854775807) => refHeld_any g cap c2 n2 A2 l2 W hr (E2.out W h) h1 h2 (by omega))
    have u0 : small l0 := fun x hx => by have := tree_size ta hx; omega
    have u1 : small l1 := fun x hx => by have := tree_size th hx; omega
    have u2 : small l2 := fun x hx => by have := tree_size ts hx; omega
    have y0 := Rc.tree_len ta
    have yh := Rc.tree_len th
    have ys := Rc.tree_len ts
    have I1 := Lib.hid (fun g3 c3 g4 c4 g5 c5 W (t3 : Ents W (some ⟨g3, 0, none⟩) n0 l0) (t4 : Ents W (some ⟨g4, 0, none⟩) n1 l1) (t5 : Ents W (some ⟨g5, 0, none⟩) n2 l2) => its_any ta th ts (some ⟨g3, 0, none⟩) (some ⟨g4, 0, none⟩) (some ⟨g5, 0, none⟩) n0 n1 n2 c3 c4 c5 W t3 t4 t5 (fun h => by cases h) (fun h => by cases h) (fun h => by cases h))
    have RI := Lib.hid (fun W (h : Below w.heap.size w W) => refItems_any fair asks_doc A0 A1 A2 n0 n1 n2 c0 c1 c2 l0 l1 l2 ta th ts u0 u1 u2 W (E0.out W h) (E1.out W h) (E2.out W h) Z0.out Z1.out Z2.out (by omega) (by omega) (by omega))
    have y1 := its_len ta th ts
    change (items (mg Mg.err3 Mg.mtx Mg.mcf) l0 l1 l2).length ≤ 600 at y1
    generalize items (mg Mg.err3 Mg.mtx Mg.mcf) l0 l1 l2 = R at I1 RI y1
    clear ta th ts u0 u1 u2 y0 yh ys E0 E1 E2 Z0 Z1 Z2 S0 S1 S2
    go_wp2_with fail
    go_at_call 11
    refine (RO0.out _ HB2.out).mono ?_
    rintro e w3 hr
    obtain ⟨g3, d3, rfl, _, f3, t3, k3, m3, _, _, b3⟩ := roomy_form hr
    rw [hn0] at f3 t3 k3 ⊢
    have HB3 := Lib.hid (below_call HB2.out b3)
    clear hr b3 RO0 HB2
    go_wp2_with fail
    go_at_call 11
    refine (RO1.out _ HB3.out).mono ?_
    rintro e w4 hr
    obtain ⟨g4, d4, rfl, _, f4, t4, k4, m4, _, _, b4⟩ := roomy_form hr
    rw [hn1] at f4 t4 k4 ⊢
    have HB4 := Lib.hid (below_call HB3.out b4)
    have f3 := f3.below b4
    have t3 := t3.below b4
    clear hr b4 RO1 HB3
    go_wp2_with fail
    go_at_call 11
    refine (RO2.out _ HB4.out).mono ?_
    rintro e w5 hr
    obtain ⟨g5, d5, rfl, _, f5, t5, k5, m5, _, _, b5⟩ := roomy_form hr
    rw [hn2] at f5 t5 k5 ⊢
    have HB5 := Lib.hid (below_call HB4.out b5)
    have f3 := f3.below b5
    have t3 := t3.below b5
    have f4 := f4.below b5
    have t4 := t4.below b5
    clear hr b5 RO2 HB4
    have ii := I1.out g3 d3 g4 d4 g5 d5 w5 t3 t4 t5
    go_wp2_with fail
    go_at_call 12
    refine ii.mono ?_
    rintro e w6 ⟨v6, rfl, o6, b6⟩
    have HB6 := Lib.hid (below_call HB5.out b6)
    have hs5 := HB5.out.size
    have G6 : ∀ g, v6.ownBlock = some g → g < w6.heap.size := fun g hg => (World.ownsRow.lt o6 g hg).2
    have f3 := f3.below b6
    have f4 := f4.below b6
    have f5 := f5.below b6
    have t3 := t3.below b6
    have t4 := t4.below b6
    have t5 := t5.below b6
    clear ii b6 HB5
    have ii := I1.out g3 d3 g4 d4 g5 d5 w6 t3 t4 t5
    go_wp2_with fail
    go_at_call 12
    refine ii.mono ?_
    rintro e w7 ⟨v7, rfl, o7, b7⟩
    have HB7 := Lib.hid (below_call HB6.out b7)
    have f3 := f3.below b7
    have f4 := f4.below b7
    have f5 := f5.below b7
    have o6 := o6.below b7
    have hs6 := b7.size
    clear I1 t3 t4 t5 ii b7 HB6
    go_wp2_with fail
    go_at_call 13
    refine (RI.out _ HB7.out).mono ?_
    rintro e w8 ⟨v8, rfl, o8, b8⟩
    have HB8 := Lib.hid (below_call HB7.out b8)
    have f3 := f3.below b8
    have f4 := f4.below b8
    have f5 := f5.below b8
    have o6 := o6.below b8
    have o7 := o7.below b8
    obtain ⟨a6, k6, rfl, r6⟩ := o6.form
    obtain ⟨a7, k7, rfl, r7⟩ := o7.form
    obtain ⟨a8, k8, rfl, r8⟩ := o8.form
    have far7 := io_far o7
    have far8 := io_far o8
    have hs8 := b8.size
    have hbk : ∀ g off, a6 = some ⟨g, off, none⟩ → off = 0 ∧ Bk2 w8 g R.length ∧ g < w6.heap.size ∧ w.heap.size ≤ g := fun g off e => by
      subst e
      obtain ⟨h1, h2⟩ := io_bk o6 rfl
      exact ⟨h1, h2, G6 _ rfl, Nat.le_trans hs5 (io_far o6 _ rfl)⟩
    obtain ⟨N, hN⟩ : ∃ N, N = R.length := ⟨_, rfl⟩
    rw [← hN] at r6 r7 r8 y1 hbk ⊢
    clear b8 RI o6 o7 o8 HB7 hN
    have cs := refSame17_any a6 a8 N N k6 k8 R R w8 r6 r8 (by omega) (by omega)
    go_wp2_with fail
    go_at_call 14
    refine cs.mono ?_
    rintro e w9 ⟨B, hB, rfl, b9⟩
    obtain rfl : B = true := hB.2 rfl
    have HB9 := Lib.hid (below_call HB8.out b9)
    have K9 : Below w8.heap.size w8 w9 := b9
    have r6 := r6.below b9
    have r7 := r7.below b9
    have r8 := r8.below b9
    have f3 := f3.below b9
    have f4 := f4.below b9
    have f5 := f5.below b9
    clear cs hB b9 HB8
    have cs := refSame17_any a7 a8 N N k7 k8 R R w9 r7 r8 (by omega) (by omega)
    go_wp2_with fail
    go_at_call 14
    refine cs.mono ?_
    rintro e w10 ⟨B, hB, rfl, b10⟩
    obtain rfl : B = true := hB.2 rfl
    have HB10 := Lib.hid (below_call HB9.out b10)
    have K10 : Below w8.heap.size w8 w10 := below_call K9 b10
    clear K9
    have r6 := r6.below b10
    have r7 := r7.below b10
    have r8 := r8.below b10
    have f3 := f3.below b10
    have f4 := f4.below b10
    have f5 := f5.below b10
    clear cs hB b10 HB9
    have cs := HD0.out g3 d3 w10 HB10.out f3 k3 m3
    go_wp2_with fail
    go_at_call 15
    refine cs.mono ?_
    rintro e w11 ⟨rfl, b11⟩
    have HB11 := Lib.hid (below_call HB10.out b11)
    have K11 : Below w8.heap.size w8 w11 := below_call K10 b11
    clear K10
    have r6 := r6.below b11
    have r7 := r7.below b11
    have r8 := r8.below b11
    have f4 := f4.below b11
    have f5 := f5.below b11
    clear cs b11 HB10 HD0
    have cs := HD1.out g4 d4 w11 HB11.out f4 k4 m4
    go_wp2_with fail
    go_at_call 15
    refine cs.mono ?_
    rintro e w12 ⟨rfl, b12⟩
    have HB12 := Lib.hid (below_call HB11.out b12)
    have K12 : Below w8.heap.size w8 w12 := below_call K11 b12
    clear K11
    have r6 := r6.below b12
    have r7 := r7.below b12
    have r8 := r8.below b12
    have f5 := f5.below b12
    clear cs b12 HB11 HD1
    have cs := HD2.out g5 d5 w12 HB12.out f5 k5 m5
    go_wp2_with fail
    go_at_call 15
    refine cs.mono ?_
    rintro e w13 ⟨rfl, b13⟩
    have HB13 := Lib.hid (below_call HB12.out b13)
    have K13 : Below w8.heap.size w8 w13 := below_call K12 b13
    clear K12
    have r6 := r6.below b13
    have r7 := r7.below b13
    have r8 := r8.below b13
    clear cs b13 HB12 HD2
    have hbk13 : ∀ g off, a6 = some ⟨g, off, none⟩ → off = 0 ∧ Bk2 w13 g N ∧ w.heap.size ≤ g ∧ (∀ x, a7 = some x → x.block ≠ g) ∧ (∀ x, a8 = some x → x.block ≠ g) := fun g off e => by
      obtain ⟨h1, h2, h3, h4⟩ := hbk g off e
      obtain ⟨cs, q1, q2⟩ := h2
      refine ⟨h1, ⟨cs, (K13.block g (Array.getElem?_eq_some_iff.1 q1).1).trans q1, q2⟩, h4, fun x hx => ?_, fun x hx => ?_⟩
      · have := far7 x hx; omega
      · have := far8 x hx; omega
    have HBK := Lib.hid hbk13
    clear hbk hbk13 far7 far8 K13
    go_wp2_with fail
    go_loopw [13] (fun i wr => ∃ k : Nat, k ≤ N ∧ i = .int .i64 k ∧ ItR wr a7 N R ∧ ItR wr a8 N R ∧ Below w.heap.size w wr ∧ Hid (∀ g off, a6 = some ⟨g, off, none⟩ → Bk2 wr g N)) (fun i _ => N - (intOf i).toNat)
    case atStart => exact ⟨0, Nat.zero_le _, rfl, r7, r8, HB13.out, fun g off e => (HBK.out g off e).2.1⟩
    case round =>
      obtain ⟨k, hk, rfl, hr7, hr8, hW, hG⟩ := hrel
      by_cases hlt : k < N
      · obtain ⟨g6, of6, rfl, _, _⟩ := r6.2.resolve_left (by omega)
        obtain ⟨rfl, _, hlow, h7, h8⟩ := HBK.out g6 of6 rfl
        have hb6 := hG.out g6 0 rfl
        obtain ⟨⟨x1, q1⟩, ⟨x2, q2⟩, q3⟩ := hb6.cells hlt
        have hltz : (k : Int) < (N : Int) := by omega
        have HR7 := Lib.hid (it_set (k := k * 2 + 1) (v := .int .i64 9) (it_set (k := k * 2) (v := .string ⟨#[]⟩) hr7 h7) h7)
        have HR8 := Lib.hid (it_set (k := k * 2 + 1) (v := .int .i64 9) (it_set (k := k * 2) (v := .string ⟨#[]⟩) hr8 h8) h8)
        have HBN := Lib.hid ((hb6.set (k * 2) (.string ⟨#[]⟩)).set (k * 2 + 1) (.int .i64 9))
        have HWN : Hid (Below w.heap.size w ((wr.setCell ⟨g6, k * 2, none⟩ (.string ⟨#[]⟩)).setCell ⟨g6, k * 2 + 1, none⟩ (.int .i64 9))) := (hW.setCell (by exact hlow) _).setCell (by exact hlow) _
        clear hr7 hr8 hW hG h7 h8 hb6 r6 r7 r8
        go_wp2_with fail
        go_roundw
        case rel => exact ⟨k + 1, by omega, by go_num, HR7.out, HR8.out, HWN.out, fun g off e => by injection e with e; injection e with e1 e2; subst e1; exact HBN.out⟩
        case measure => simp only [intOf]; omega
      · obtain rfl : k = N := by omega
        have hkz : ¬ (k : Int) < (k : Int) := by omega
        have cs := refSame17_any a7 a8 k k k7 k8 R R wr hr7 hr8 (by omega) (by omega)
        have HBW := Lib.hid hW
        clear hr7 hr8 hW hG r6 r7 r8 HBK
        go_wp2_with fail
        go_at_call 14
        refine cs.mono ?_
        rintro e w14 ⟨B, hB, rfl, b14⟩
        obtain rfl : B = true := hB.2 rfl
        have HB14 := Lib.hid (below_call HBW.out b14)
        clear cs hB b14
        go_wp2_with fail
        go_ret
        exact ⟨rfl, HB14.out⟩
theorem own : ownKnob Tryz.prog.godebug = none := by kernel_rfl
theorem laidOut : laidOutB Tryz.prog = true := by kernel_rfl
set_option maxRecDepth 100000 in
theorem contract (H : Type) (enc : TypeId × Value → H) (W : World) (base : Nat) (args : Array Value) (ds gs : List (DataW H)) (before : List MemPlace)
    (hval0 : ∀ (j : Nat) t v, Tryz.f3.params[j]? = some t → args[j]? = some v → Value.okWide Tryz.prog W .any base t v)
    (hW : DataW.Whole enc Tryz.prog Tryz.f3.params.toList Rows.reconItemsSpec.vars false W args.toList ds gs before)
    (hk : Rows.uptoSmall H (ds ++ gs) = true)
    (hsz0 : (DataW.weightsEach Tryz.prog (Tryz.f3.params.toList ++ Rows.reconItemsSpec.plain.varTypes Tryz.prog) (ds ++ gs)).all (· ≤ reachBytes) = true) :
    Calls Tryz.prog 3 args W fun e W' => ∃ v, e = .returned v ∧ Rows.reconItemsSpec.post enc Tryz.prog Tryz.f3 false true false false W args v W' := by
  have hval : ∀ (j : Nat) t v, Tryz.f3.params[j]? = some t → args[j]? = some v → Value.okWide Tryz.prog W .any base t v := hval0
  have hsz := hsz0
  clear hsz0
  have hW' := hW
  obtain ⟨p, q, hA0, hV, rfl, hfz, hnd⟩ := hW
  have hA : DataW.TrodAll enc Tryz.prog W 0 (fun _ => true) true Tryz.f3.params.toList args.toList ds p := hA0
  rw [Tryz.params3] at hA hval hsz
  obtain ⟨v0, vs0, d0, ds0, p0, q0, hargs, rfl, rfl, h0, r0⟩ := trodAll_cons hA
  obtain ⟨v1, vs1, d1, ds1, p1, q1, rfl, rfl, rfl, h1, r1⟩ := trodAll_cons r0
  obtain ⟨v2, vs2, d2, ds2, p2, q2, rfl, rfl, rfl, h2, r2⟩ := trodAll_cons r1
  obtain ⟨rfl, rfl, rfl⟩ := trodAll_nil r2
  obtain rfl : args = #[v0, v1, v2] := by cases args; simp_all
  obtain ⟨rfl, rfl⟩ := trodVars_none hV
  obtain ⟨A0, n0, c0, rfl⟩ := okWide_slice Tryz.underlying22 (hval 0 22 v0 rfl rfl)
  have k0 := h0
  have lt0 : ∀ x ∈ p0, x.block < W.heap.size := by obtain ⟨m, hm⟩ := k0; exact DataW.trod_lt m _ _ _ hm
  obtain ⟨A1, n1, c1, rfl⟩ := okWide_slice Tryz.underlying22 (hval 1 22 v1 rfl rfl)
  have k1 := h1
  have lt1 : ∀ x ∈ p1, x.block < W.heap.size := by obtain ⟨m, hm⟩ := k1; exact DataW.trod_lt m _ _ _ hm
  obtain ⟨A2, n2, c2, rfl⟩ := okWide_slice Tryz.underlying22 (hval 2 22 v2 rfl rfl)
  have k2 := h2
  have lt2 : ∀ x ∈ p2, x.block < W.heap.size := by obtain ⟨m, hm⟩ := k2; exact DataW.trod_lt m _ _ _ hm
  clear hA0 hval0
  obtain ⟨l0, e0, z0, _, m0, sm0⟩ := arg_ents k0
  obtain ⟨l1, e1, z1, _, m1, sm1⟩ := arg_ents k1
  obtain ⟨l2, e2, z2, _, m2, sm2⟩ := arg_ents k2
  have hbulk : Rows.uptoBulk d0 ≤ 1048576 ∧ Rows.uptoBulk d1 ≤ 1048576 ∧ Rows.uptoBulk d2 ≤ 1048576 := by
    have h := of_decide_eq_true hk
    rw [List.append_nil] at h
    have x : Rows.uptoBulkAll [d0, d1, d2] = Rows.uptoBulk d0 + (Rows.uptoBulk d1 + (Rows.uptoBulk d2 + 0)) := rfl
    rw [x] at h
    omega
  refine (walk A0 n0 c0 l0 A1 n1 c1 l1 A2 n2 c2 l2 W e0 z0 (by omega) (fun x hx => by have := sm0 x hx; omega) e1 z1 (by omega) (fun x hx => by have := sm1 x hx; omega) e2 z2 (by omega) (fun x hx => by have := sm2 x hx; omega)).mono fun e W' ⟨he, belF⟩ => ?_
  subst he
  exact ⟨_, rfl, _, _, _, [], _, [], hW', trodAll_mk1 (shut_bool Tryz.underlying4 _), (trodAll_cons_mk (Below.trod laidOut (by kernel_rfl) (of_decide_eq_true (by kernel_rfl)) k0 belF lt0) (trodAll_cons_mk (Below.trod laidOut (by kernel_rfl) (of_decide_eq_true (by kernel_rfl)) k1 belF lt1) (trodAll_cons_mk (Below.trod laidOut (by kernel_rfl) (of_decide_eq_true (by kernel_rfl)) k2 belF lt2) trodAll_mk0))), rfl, belF.frame _, fun h => by cases h⟩
set_option maxRecDepth 100000 in
theorem lifted (os : Os) (started : os.Started) (H : Type) (enc : TypeId × Value → H) (F : Stop.Interp) :
    ReturnsInHanded {} Tryz.checked os 3 .any ((Rows.OpenSpec.upto Rows.reconItemsSpec).pre6 enc Tryz.prog Tryz.f3 Rows.reconItemsUptoRow.domain false) (((Rows.OpenSpec.upto Rows.reconItemsSpec).at F).post enc Tryz.prog Tryz.f3 false true false false) := by
  refine returnsInHanded_of_cond_sized (C := Tryz.checked) (s := Rows.OpenSpec.upto Rows.reconItemsSpec) (k := Rows.uptoSmall) rfl own started (by kernel_rfl) Tryz.func3
    (OpenSpec.witness (enc := enc) (C := Tryz.checked) (s := Rows.OpenSpec.upto Rows.reconItemsSpec) (k := Rows.uptoSmall) rfl false ⟨#[], #[.slice none 0 0, .slice none 0 0, .slice none 0 0], []⟩ 8 (by kernel_rfl) (by kernel_rfl) (by kernel_rfl)
      (x := ([.nil, .nil, .nil], [], [])) (by kernel_rfl) rfl (by kernel_rfl)) ?_
  intro W base args ds gs before hval hW _ hk hsz0 _
  exact contract H enc W base args ds gs before hval hW hk hsz0
theorem over : Rows.reconItemsUptoRow.holds Tryz.pinned (Rows.OpenSpec.upto Rows.reconItemsSpec) :=
  OpenClaim.holds_of_cond 3 Tryz.f3 rfl rfl rfl rfl rfl rfl rfl ⟨rfl, rfl, rfl, rfl, rfl⟩ rfl rfl rfl rfl rfl (by kernel_rfl) Tryz.func3 (by kernel_rfl)
    (of_decide_eq_true (by kernel_rfl)) (by unfold Func.isWrapper; first | (rw [if_pos (by decide +kernel)]; kernel_rfl) | (rw [if_neg (by decide +kernel)]; exact ⟨rfl, rfl⟩))
    (fun os started H enc _ F => lifted os started H enc F)
end Go.Proofs.YtkenmldiojeooaaGreat.reconItems

namespace Go.Proofs.YtkenmldiojeooaaGreat
theorem reconItemsUpto_holds : Rows.ReconItemsUptoSaid := reconItems.over
#print axioms reconItemsUpto_holds
end Go.Proofs.YtkenmldiojeooaaGreat
