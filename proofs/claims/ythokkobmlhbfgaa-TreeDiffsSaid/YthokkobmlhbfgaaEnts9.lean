/- What the document's own Diff answers: contract. -/
import Derived.Test.YthokkobmlhbfgaaEnts8
import Derived.Test.YthokkobmlhbfgaaEnts2
namespace Go.Proofs.Ythokkobmlhbfgaa.En
open Go.RowKit Tx Pm Pr
set_option linter.unusedVariables false

/-- Is the path at i told? -/
def told (la lb all : List Et) (i : Nat) : Prop := ∃ x, all[i]? = some x ∧ (i = 0 ∨ ∀ y, all[i - 1]? = some y → y.path ≠ x.path) ∧ tget la x.path ≠ tget lb x.path
open Classical in
noncomputable def diffAt (la lb all : List Et) (i : Nat) : List ByteArray := match all[i]? with
  | none => []
  | some x => if told la lb all i then [x.path] else []
noncomputable def diffs (la lb all : List Et) (k : Nat) : List ByteArray := (List.range k).flatMap (diffAt la lb all)
/-- Diff. -/
noncomputable def tdiff (la lb : List Et) : List ByteArray := diffs la lb (tsort (la ++ lb)) (la.length + lb.length)
theorem diffs_succ (la lb all : List Et) (k : Nat) : diffs la lb all (k + 1) = diffs la lb all k ++ diffAt la lb all k := by
  rw [diffs, List.range_succ, List.flatMap_append]
  simp [diffs]
theorem diffAt_yes {la lb all : List Et} {i : Nat} {x : Et} (h : all[i]? = some x) (ht : told la lb all i) : diffAt la lb all i = [x.path] := by
  rw [diffAt, h]
  exact if_pos ht
theorem diffAt_no {la lb all : List Et} {i : Nat} {x : Et} (h : all[i]? = some x) (ht : ¬ told la lb all i) : diffAt la lb all i = [] := by
  rw [diffAt, h]
  exact if_neg ht
theorem diffs_len (la lb all : List Et) : ∀ k, (diffs la lb all k).length ≤ k
  | 0 => Nat.le_refl _
  | k + 1 => by
    have := diffs_len la lb all k
    rw [diffs_succ, List.length_append]
    have h2 : (diffAt la lb all k).length ≤ 1 := by
      unfold diffAt
      split
      · exact Nat.zero_le _
      · split
        · exact Nat.le_refl _
        · exact Nat.zero_le _
    omega
theorem stop_none {P : Program} {w : World} {ops : Array Oper} {rest : List Oper} {o : Oper} {a : Act} {Q : Exit → Act → World → Prop} (hgd : o.guard = none) (s x : Operand) (t : TypeId)
    (ho : o.op = .call { callee := .builtin .append, args := #[s, x], argTypes := #[t, t] })
    (base : Nat) (e : TypeId) (i : TypeInfo) (size : Nat) (ht : P.underlying t = some (.slice e)) (hi : P.info? e = some i)
    (v : Value) (n : Nat) (xs : List Value) (hs : a.eval s = v) (hown : w.ownsRow base e size v n xs) (hx : a.eval x = .slice none 0 0)
    (h : ∀ v' w', w'.ownsRow base e size v' n xs → Below w.heap.size w w' → wpList P ops Q rest (a.put o.dst v') w') : wpList P ops Q (o :: rest) a w :=
  wpList_append_own_none hgd s x t ho base e i size ht hi v n xs hs hown hx (h v w hown (Below.refl _ _))
theorem own_cap {w : World} {B n g cap : Nat} {xs : List Value} (h : w.ownsRow B 51 3 (.slice (some ⟨g, 0, none⟩) n cap) n xs) : n ≤ cap ∧ cap ≤ maxLen := by
  rcases h.2 with ⟨h0, _⟩ | ⟨g', cap', cur, hv, _, _, hn, hc, _⟩
  · cases h0
  · injection hv with _ _ hv
    subst hv
    exact ⟨hn, hc⟩
theorem texts_base {w : World} {B C : Nat} {v : Value} {l : List ByteArray} (h : Texts w C v l) (hB : B ≤ C) : Texts w B v l := by
  refine ⟨h.1, ?_⟩
  rcases h.2 with h0 | ⟨g', cap', cur, hv, hg, r⟩
  · exact .inl h0
  · exact .inr ⟨g', cap', cur, hv, Nat.le_trans hB hg, r⟩
def DiffTo (l : List ByteArray) (w : World) (e : Ending) (w' : World) : Prop := ∃ v, e = .returned v ∧ Texts w' w.heap.size v l ∧ Below w.heap.size w w'

set_option maxRecDepth 100000 in
set_option maxHeartbeats 4000000 in
theorem refDiff_any (a : Option Addr) (n c : Nat) (la : List Et) (b : Option Addr) (m c2 : Nat) (lb : List Et) (w : World) (ha : Ents w a n la) (hb : Ents w b m lb) (hnilb : b = none → c2 = 0) (hn : n ≤ 1000000000) (hm : m ≤ 1000000000) :
    Calls Try.prog 25 #[.slice a n c, .slice b m c2] w (DiffTo (tdiff la lb) w) := by
  obtain ⟨i0, hi, hz0, hz1, hz2⟩ := info_parts infoE
  obtain ⟨s0, si, sz0, sz1, sz2⟩ := info_parts info9
  have hlna := ha.1
  have hlnb := hb.1
  have cga := fun p W (h : Below w.heap.size w W) => refGet_any a n c la p W (ha.below h) (by omega)
  have cgb := fun p W (h : Below w.heap.size w W) => refGet_any b m c2 lb p W (hb.below h) (by omega)
  have HA := Lib.hid ha
  have HB := Lib.hid hb
  clear ha hb
  go_enter Try.func25, Try.ntmps25
  go_upto_region 2 with fail
  go_cut [6] from 9 to 51 (fun v wq => Own wq w.heap.size v (tsort (la ++ lb)) ∧ Below w.heap.size w wq)
  case first =>
    have HNB := Lib.hid hnilb
    clear hnilb
    have hB0 : Below w.heap.size w (w.alloc (.cells #[] 51)) := (Below.refl _ w).alloc (Nat.le_refl _) _
    have hown0 := World.ownsRow_made (base := w.heap.size) (e := 51) (size := 3) w #[] 0 (Nat.le_refl _) (Nat.zero_le _) rfl
    have hfa := flat_len la
    have hfb := flat_len lb
    rw [hlna] at hfa
    rw [hlnb] at hfb
    by_cases h0 : n = 0
    · subst h0
      obtain rfl : la = [] := List.length_eq_zero_iff.1 hlna
      cases a with
      | none =>
        by_cases h1 : m = 0
        · subst h1
          obtain rfl : lb = [] := List.length_eq_zero_iff.1 hlnb
          cases b with
          | none =>
            have hO : Own (w.alloc (.cells #[] 51)) w.heap.size (.slice (some ⟨w.heap.size, 0, none⟩) 0 0) ([] ++ []) := own_of hown0 rfl
            have he : Ents (w.alloc (.cells #[] 51)) (some ⟨w.heap.size, 0, none⟩) 0 ([] ++ []) := ⟨rfl, .inl rfl⟩
            have cso := refSort_any (some ⟨w.heap.size, 0, none⟩) 0 0 _ _ he (by omega)
            go_wp2_with fail
            go_at_call 43
            refine cso.mono ?_
            rintro e w6 ⟨v6, rfl, ho6, hb6⟩
            go_wp2_with fail
            go_meet
            exact ⟨row_base ho6 hB0.size, hB0.trans (hb6.mono hB0.size)⟩
          | some y =>
            have hO : Own (w.alloc (.cells #[] 51)) w.heap.size (.slice (some ⟨w.heap.size, 0, none⟩) 0 0) ([] ++ []) := own_of hown0 rfl
            have he : Ents (w.alloc (.cells #[] 51)) (some ⟨w.heap.size, 0, none⟩) 0 ([] ++ []) := ⟨rfl, .inl rfl⟩
            have cso := refSort_any (some ⟨w.heap.size, 0, none⟩) 0 0 _ _ he (by omega)
            go_wp2_with fail
            go_at_call 43
            refine cso.mono ?_
            rintro e w6 ⟨v6, rfl, ho6, hb6⟩
            go_wp2_with fail
            go_meet
            exact ⟨row_base ho6 hB0.size, hB0.trans (hb6.mono hB0.size)⟩
        · obtain ⟨bb, ob, rfl, hbb, hcb⟩ := HB.out.2.resolve_left h1
          have hfl : Hid (∀ W, Below w.heap.size w W → ∀ j u, (lb.flatMap cells)[j]? = some u → W.cell? ((⟨bb, ob, none⟩ : Addr).add j) = some u) := fun W hW => ents_flat (fun k x hx => ⟨(hW.cell (p := ⟨bb, _, none⟩) hbb).trans (hcb k x hx).1, (hW.cell (p := ⟨bb, _, none⟩) hbb).trans (hcb k x hx).2.1, (hW.cell (p := ⟨bb, _, none⟩) hbb).trans (hcb k x hx).2.2⟩)
          clear hcb
          go_wp2_with (at_builtin; refine wpList_append_own _ rfl _ _ 22 rfl w.heap.size 51 i0 (.agg #[.string ⟨#[]⟩, .int .i64 0, .string ⟨#[]⟩]) 3 40 Try.underlying22 hi hz0 hz1 hz2 rfl (by decide) _ _ _ rfl hown0 ⟨bb, ob, none⟩ m c2 (lb.flatMap cells) rfl hfb ?c1 ?c2 ?c3 ?c4 ?c5 ?_)
          case c1 => exact hfl.out _ hB0
          case c2 => exact flat_one _
          case c3 => unfold maxLen; omega
          case c4 => omega
          case c5 => simp
          intro v2 w2 hown2 hgrow2 _
          have hB2 := grow_below hB0 hB0.size hown0 hgrow2
          have hO : Own w2 w.heap.size v2 ([] ++ lb) := by
            unfold Own
            rw [List.nil_append, hlnb]
            simpa using hown2
          clear hown2 hgrow2 hown0 hB0
          have hO2 := hO
          obtain ⟨a5, c5, hv5, he5, _, _⟩ := Own.form hO
          subst hv5
          obtain ⟨n5, hn5⟩ : ∃ n5, n5 = ([] ++ lb).length := ⟨_, rfl⟩
          have cso := refSort_any a5 _ c5 _ _ he5 (by rw [List.nil_append, hlnb]; omega)
          rw [← hn5] at cso
          rw [← hn5]
          clear hO hO2 he5 hn5
          go_wp2_with fail
          go_at_call 43
          refine cso.mono ?_
          rintro e w6 ⟨v6, rfl, ho6, hb6⟩
          go_wp2_with fail
          go_meet
          exact ⟨row_base ho6 hB2.size, hB2.trans (hb6.mono hB2.size)⟩
      | some z =>
        by_cases h1 : m = 0
        · subst h1
          obtain rfl : lb = [] := List.length_eq_zero_iff.1 hlnb
          cases b with
          | none =>
            have hO : Own (w.alloc (.cells #[] 51)) w.heap.size (.slice (some ⟨w.heap.size, 0, none⟩) 0 0) ([] ++ []) := own_of hown0 rfl
            have he : Ents (w.alloc (.cells #[] 51)) (some ⟨w.heap.size, 0, none⟩) 0 ([] ++ []) := ⟨rfl, .inl rfl⟩
            have cso := refSort_any (some ⟨w.heap.size, 0, none⟩) 0 0 _ _ he (by omega)
            go_wp2_with fail
            go_at_call 43
            refine cso.mono ?_
            rintro e w6 ⟨v6, rfl, ho6, hb6⟩
            go_wp2_with fail
            go_meet
            exact ⟨row_base ho6 hB0.size, hB0.trans (hb6.mono hB0.size)⟩
          | some y =>
            have hO : Own (w.alloc (.cells #[] 51)) w.heap.size (.slice (some ⟨w.heap.size, 0, none⟩) 0 0) ([] ++ []) := own_of hown0 rfl
            have he : Ents (w.alloc (.cells #[] 51)) (some ⟨w.heap.size, 0, none⟩) 0 ([] ++ []) := ⟨rfl, .inl rfl⟩
            have cso := refSort_any (some ⟨w.heap.size, 0, none⟩) 0 0 _ _ he (by omega)
            go_wp2_with fail
            go_at_call 43
            refine cso.mono ?_
            rintro e w6 ⟨v6, rfl, ho6, hb6⟩
            go_wp2_with fail
            go_meet
            exact ⟨row_base ho6 hB0.size, hB0.trans (hb6.mono hB0.size)⟩
        · obtain ⟨bb, ob, rfl, hbb, hcb⟩ := HB.out.2.resolve_left h1
          have hfl : Hid (∀ W, Below w.heap.size w W → ∀ j u, (lb.flatMap cells)[j]? = some u → W.cell? ((⟨bb, ob, none⟩ : Addr).add j) = some u) := fun W hW => ents_flat (fun k x hx => ⟨(hW.cell (p := ⟨bb, _, none⟩) hbb).trans (hcb k x hx).1, (hW.cell (p := ⟨bb, _, none⟩) hbb).trans (hcb k x hx).2.1, (hW.cell (p := ⟨bb, _, none⟩) hbb).trans (hcb k x hx).2.2⟩)
          clear hcb
          go_wp2_with (at_builtin; refine wpList_append_own _ rfl _ _ 22 rfl w.heap.size 51 i0 (.agg #[.string ⟨#[]⟩, .int .i64 0, .string ⟨#[]⟩]) 3 40 Try.underlying22 hi hz0 hz1 hz2 rfl (by decide) _ _ _ rfl hown0 ⟨bb, ob, none⟩ m c2 (lb.flatMap cells) rfl hfb ?c1 ?c2 ?c3 ?c4 ?c5 ?_)
          case c1 => exact hfl.out _ hB0
          case c2 => exact flat_one _
          case c3 => unfold maxLen; omega
          case c4 => omega
          case c5 => simp
          intro v2 w2 hown2 hgrow2 _
          have hB2 := grow_below hB0 hB0.size hown0 hgrow2
          have hO : Own w2 w.heap.size v2 ([] ++ lb) := by
            unfold Own
            rw [List.nil_append, hlnb]
            simpa using hown2
          clear hown2 hgrow2 hown0 hB0
          have hO2 := hO
          obtain ⟨a5, c5, hv5, he5, _, _⟩ := Own.form hO
          subst hv5
          obtain ⟨n5, hn5⟩ : ∃ n5, n5 = ([] ++ lb).length := ⟨_, rfl⟩
          have cso := refSort_any a5 _ c5 _ _ he5 (by rw [List.nil_append, hlnb]; omega)
          rw [← hn5] at cso
          rw [← hn5]
          clear hO hO2 he5 hn5
          go_wp2_with fail
          go_at_call 43
          refine cso.mono ?_
          rintro e w6 ⟨v6, rfl, ho6, hb6⟩
          go_wp2_with fail
          go_meet
          exact ⟨row_base ho6 hB2.size, hB2.trans (hb6.mono hB2.size)⟩
    · obtain ⟨ba, oa, rfl, hba, hca⟩ := HA.out.2.resolve_left h0
      have hfla : Hid (∀ W, Below w.heap.size w W → ∀ j u, (la.flatMap cells)[j]? = some u → W.cell? ((⟨ba, oa, none⟩ : Addr).add j) = some u) := fun W hW => ents_flat (fun k x hx => ⟨(hW.cell (p := ⟨ba, _, none⟩) hba).trans (hca k x hx).1, (hW.cell (p := ⟨ba, _, none⟩) hba).trans (hca k x hx).2.1, (hW.cell (p := ⟨ba, _, none⟩) hba).trans (hca k x hx).2.2⟩)
      clear hca
      go_wp2_with (at_builtin; refine wpList_append_own _ rfl _ _ 22 rfl w.heap.size 51 i0 (.agg #[.string ⟨#[]⟩, .int .i64 0, .string ⟨#[]⟩]) 3 40 Try.underlying22 hi hz0 hz1 hz2 rfl (by decide) _ _ _ rfl hown0 ⟨ba, oa, none⟩ n c (la.flatMap cells) rfl hfa ?c1 ?c2 ?c3 ?c4 ?c5 ?_)
      case c1 => exact hfla.out _ hB0
      case c2 => exact flat_one _
      case c3 => unfold maxLen; omega
      case c4 => omega
      case c5 => simp
      intro v1 w1 hown1 hgrow1 hiff
      have hB1 := grow_below hB0 hB0.size hown0 hgrow1
      obtain ⟨g1, cap1, rfl, _⟩ := own_some hown1 hiff
      clear hgrow1 hfla
      by_cases h1 : m = 0
      · subst h1
        obtain rfl : lb = [] := List.length_eq_zero_iff.1 hlnb
        cases b with
        | none =>
          obtain rfl := HNB.out rfl
          go_wp2_with (at_builtin; refine stop_none rfl _ _ 22 rfl w.heap.size 51 i0 3 Try.underlying22 hi (.slice (some ⟨g1, 0, none⟩) n cap1) _ _ rfl hown1 rfl ?_)
          intro v2 w2 hown2 hbel2
          have hB2 := hB1.trans (hbel2.mono hB1.size)
          have hO : Own w2 w.heap.size v2 (la ++ []) := by
            rw [List.append_nil]
            exact own_of (by simpa using hown2) hlna
          clear hown2 hbel2 hown0 hB0 hown1
          have hO2 := hO
          obtain ⟨a5, c5, hv5, he5, _, _⟩ := Own.form hO
          subst hv5
          obtain ⟨n5, hn5⟩ : ∃ n5, n5 = (la ++ []).length := ⟨_, rfl⟩
          have cso := refSort_any a5 _ c5 _ _ he5 (by rw [List.append_nil, hlna]; omega)
          rw [← hn5] at cso
          rw [← hn5]
          clear hO hO2 he5 hn5
          go_wp2_with fail
          go_at_call 43
          refine cso.mono ?_
          rintro e w6 ⟨v6, rfl, ho6, hb6⟩
          go_wp2_with fail
          go_meet
          exact ⟨row_base ho6 hB2.size, hB2.trans (hb6.mono hB2.size)⟩
        | some y =>
          go_wp2_with (at_builtin; refine wpList_append_own _ rfl _ _ 22 rfl w.heap.size 51 i0 (.agg #[.string ⟨#[]⟩, .int .i64 0, .string ⟨#[]⟩]) 3 40 Try.underlying22 hi hz0 hz1 hz2 rfl (by decide) _ _ _ rfl hown1 y 0 c2 [] rfl rfl ?c1 ?c2 ?c3 ?c4 ?c5 ?_)
          case c1 => exact fun j u hj => by cases hj
          case c2 => exact fun u hu => by cases hu
          case c3 => unfold maxLen; omega
          case c4 => omega
          case c5 => exact hB1.size
          intro v2 w2 hown2 hgrow2 _
          have hB2 := grow_below hB1 hB1.size hown1 hgrow2
          have hO : Own w2 w.heap.size v2 (la ++ []) := by
            rw [List.append_nil]
            exact own_of (by simpa using hown2) hlna
          clear hown2 hgrow2 hown0 hB0 hown1
          have hO2 := hO
          obtain ⟨a5, c5, hv5, he5, _, _⟩ := Own.form hO
          subst hv5
          obtain ⟨n5, hn5⟩ : ∃ n5, n5 = (la ++ []).length := ⟨_, rfl⟩
          have cso := refSort_any a5 _ c5 _ _ he5 (by rw [List.append_nil, hlna]; omega)
          rw [← hn5] at cso
          rw [← hn5]
          clear hO hO2 he5 hn5
          go_wp2_with fail
          go_at_call 43
          refine cso.mono ?_
          rintro e w6 ⟨v6, rfl, ho6, hb6⟩
          go_wp2_with fail
          go_meet
          exact ⟨row_base ho6 hB2.size, hB2.trans (hb6.mono hB2.size)⟩
      · obtain ⟨bb, ob, rfl, hbb, hcb⟩ := HB.out.2.resolve_left h1
        have hfl : Hid (∀ W, Below w.heap.size w W → ∀ j u, (lb.flatMap cells)[j]? = some u → W.cell? ((⟨bb, ob, none⟩ : Addr).add j) = some u) := fun W hW => ents_flat (fun k x hx => ⟨(hW.cell (p := ⟨bb, _, none⟩) hbb).trans (hcb k x hx).1, (hW.cell (p := ⟨bb, _, none⟩) hbb).trans (hcb k x hx).2.1, (hW.cell (p := ⟨bb, _, none⟩) hbb).trans (hcb k x hx).2.2⟩)
        clear hcb
        go_wp2_with (at_builtin; refine wpList_append_own _ rfl _ _ 22 rfl w.heap.size 51 i0 (.agg #[.string ⟨#[]⟩, .int .i64 0, .string ⟨#[]⟩]) 3 40 Try.underlying22 hi hz0 hz1 hz2 rfl (by decide) _ _ _ rfl hown1 ⟨bb, ob, none⟩ m c2 (lb.flatMap cells) rfl hfb ?c1 ?c2 ?c3 ?c4 ?c5 ?_)
        case c1 => exact hfl.out _ hB1
        case c2 => exact flat_one _
        case c3 => unfold maxLen; omega
        case c4 => omega
        case c5 => exact hB1.size
        intro v2 w2 hown2 hgrow2 _
        have hB2 := grow_below hB1 hB1.size hown1 hgrow2
        have hO : Own w2 w.heap.size v2 (la ++ lb) := by
          unfold Own
          rw [List.length_append, List.flatMap_append, hlna, hlnb]
          simpa using hown2
        clear hown2 hgrow2 hown0 hB0 hown1
        have hO2 := hO
        obtain ⟨a5, c5, hv5, he5, _, _⟩ := Own.form hO
        subst hv5
        obtain ⟨n5, hn5⟩ : ∃ n5, n5 = (la ++ lb).length := ⟨_, rfl⟩
        have cso := refSort_any a5 _ c5 _ _ he5 (by rw [List.length_append, hlna, hlnb]; omega)
        rw [← hn5] at cso
        rw [← hn5]
        clear hO hO2 he5 hn5
        go_wp2_with fail
        go_at_call 43
        refine cso.mono ?_
        rintro e w6 ⟨v6, rfl, ho6, hb6⟩
        go_wp2_with fail
        go_meet
        exact ⟨row_base ho6 hB2.size, hB2.trans (hb6.mono hB2.size)⟩
  case rest =>
    rename World => W1
    obtain ⟨hown, hB⟩ := hcut
    obtain ⟨ALL, hALL⟩ : ∃ ALL, ALL = tsort (la ++ lb) := ⟨_, rfl⟩
    rw [← hALL] at hown
    have hLn : ALL.length = n + m := by rw [hALL, tsort_len, List.length_append, hlna, hlnb]
    have htd : tdiff la lb = diffs la lb ALL ALL.length := by rw [tdiff, ← hALL, hLn, hlna, hlnb]
    have HTD := Lib.hid htd
    obtain ⟨a6, c6, hv6, he6, _, _⟩ := Own.form hown
    subst hv6
    obtain ⟨L, hL⟩ : ∃ L, L = ALL.length := ⟨_, rfl⟩
    rw [← hL] at he6 hLn
    rw [← hL]
    have HL := Lib.hid hL
    clear htd hALL hown hL
    by_cases hL0 : L = 0
    · have hd : diffs la lb ALL ALL.length = [] := by rw [← HL.out, hL0]; rfl
      have HD := Lib.hid hd
      clear hd hLn he6
      subst hL0
      go_wp2_with fail
      go_loop [5, 7] (fun v i => i = .int .i64 0 ∧ v = .slice none 0 0) (fun _ _ => 0)
      case atStart => exact ⟨rfl, rfl⟩
      case round =>
        obtain ⟨rfl, rfl⟩ := hrel
        go_wp2_with fail
        go_ret
        exact ⟨_, rfl, by rw [HTD.out, HD.out]; exact World.ownsRow_nil _ _ _ _, hB⟩
    · obtain ⟨b6, o6, rfl, hb6, hc6⟩ := he6.2.resolve_left hL0
      have HC := Lib.hid hc6
      have hLb : L ≤ 2000000000 := by omega
      have HLN := Lib.hid hLn
      clear hc6 he6 hL0 hLn
      go_wp2_with fail
      go_loopw [5, 7] (fun v i wr => ∃ (k : Nat) (out : List ByteArray), k ≤ L ∧ i = .int .i64 k ∧ Hid (out = diffs la lb ALL k) ∧ out.length ≤ k ∧ Texts wr W1.heap.size v out ∧ Below W1.heap.size W1 wr) (fun _ i _ => L - (intOf i).toNat)
      case atStart => exact ⟨0, [], Nat.zero_le _, rfl, rfl, Nat.le_refl _, World.ownsRow_nil _ _ _ _, Below.refl _ _⟩
      case round =>
        obtain ⟨k, out, hk, rfl, hT, hlen, htx, hW⟩ := hrel
        by_cases hlt : k < L
        · obtain ⟨x, hx⟩ : ∃ x, ALL[k]? = some x := ⟨_, List.getElem?_eq_getElem (by rw [← HL.out]; exact hlt)⟩
          have d1 := (hW.cell (p := ⟨b6, _, none⟩) hb6).trans (HC.out k x hx).1
          have hsucc := diffs_succ la lb ALL k
          rw [← hT.out] at hsucc
          have hyes := diffAt_yes (la := la) (lb := lb) hx
          have hno := diffAt_no (la := la) (lb := lb) hx
          have htold : told la lb ALL k ↔ ((k = 0 ∨ ∀ y, ALL[k - 1]? = some y → y.path ≠ x.path) ∧ tget la x.path ≠ tget lb x.path) := by
            constructor
            · rintro ⟨x', hx', h1, h2⟩
              rw [hx] at hx'
              injection hx' with hx'
              subst hx'
              exact ⟨h1, h2⟩
            · rintro ⟨h1, h2⟩
              exact ⟨x, hx, h1, h2⟩
          obtain ⟨P, X, Y⟩ := x
          simp only at d1 hyes hno htold
          have HS := Lib.hid (And.intro hsucc (And.intro hyes hno))
          have HTO := Lib.hid htold
          have hprev : k = 0 ∨ ∃ j z, k = j + 1 ∧ ALL[j]? = some z ∧ wr.cell? ⟨b6, o6 + j * 3, none⟩ = some (.string z.path) := by
            cases k with
            | zero => exact .inl rfl
            | succ j =>
              obtain ⟨z, hz⟩ : ∃ z, ALL[j]? = some z := ⟨_, List.getElem?_eq_getElem (by rw [← HL.out]; omega)⟩
              exact .inr ⟨j, z, rfl, hz, (hW.cell (p := ⟨b6, _, none⟩) hb6).trans (HC.out j z hz).1⟩
          have hBw : Below w.heap.size w wr := hB.trans (hW.mono hB.size)
          have ca := fun W h => cga P W h
          have cb := fun W h => cgb P W h
          unfold nv at ca cb
          obtain ⟨G1, hG1⟩ : ∃ G1, G1 = tget la P := ⟨_, rfl⟩
          obtain ⟨G2, hG2⟩ : ∃ G2, G2 = tget lb P := ⟨_, rfl⟩
          rw [← hG1, ← hG2] at HTO
          rw [← hG1] at ca
          rw [← hG2] at cb
          obtain ⟨K1, D1⟩ := G1
          obtain ⟨K2, D2⟩ := G2
          simp only at ca cb
          clear hsucc hyes hno htold hT hx hG1 hG2
          have hgN := guardN
          go_upto_region 7 with fail
          go_cut [5, 46] from 15 to 50 (fun v cv wq => ∃ T : Bool, cv = .bool T ∧ Hid (T = true ↔ told la lb ALL k) ∧ Texts wq W1.heap.size v out ∧ Below W1.heap.size W1 wq)
          case first =>
            have hcase : (k = 0 ∨ ∃ j z, k = j + 1 ∧ wr.cell? ⟨b6, o6 + j * 3, none⟩ = some (.string z) ∧ z ≠ P) ∧ (k = 0 ∨ ∀ y, ALL[k - 1]? = some y → y.path ≠ P) ∨ (∃ j, k = j + 1 ∧ wr.cell? ⟨b6, o6 + j * 3, none⟩ = some (.string P)) ∧ ¬ told la lb ALL k := by
              rcases hprev with h | ⟨j, z, h1, h2, h3⟩
              · exact .inl ⟨.inl h, .inl h⟩
              · by_cases hz : z.path = P
                · refine .inr ⟨⟨j, h1, by rw [h3, hz]⟩, fun ht => ?_⟩
                  rcases (HTO.out.1 ht).1 with h | h
                  · omega
                  · subst h1
                    exact h z h2 hz
                · refine .inl ⟨.inr ⟨j, z.path, h1, h3, hz⟩, .inr fun y hy => ?_⟩
                  subst h1
                  rw [Nat.add_sub_cancel, h2] at hy
                  injection hy with hy
                  rw [← hy]
                  exact hz
            clear hprev
            rcases hcase with ⟨hgo, hfresh⟩ | ⟨⟨j, hj, hcell⟩, hnt⟩
            · have HF := Lib.hid hfresh
              clear hfresh
              rcases hgo with hk0 | ⟨j, z, hj, hcell, hz⟩
              · subst hk0
                go_wp2_with fail
                go_at_call 17
                refine (ca _ hBw).mono ?_
                rintro e w2 ⟨rfl, hb2⟩
                have hBw2 := hBw.trans (hb2.mono hBw.size)
                have hW2 := hW.trans (hb2.mono hW.size)
                go_wp2_with fail
                go_at_call 17
                refine (cb _ hBw2).mono ?_
                rintro e w3 ⟨rfl, hb3⟩
                have hW3 := hW2.trans (hb3.mono hW2.size)
                have htx3 := (htx.below hb2).below hb3
                clear hb2 hb3 hBw2 hW2
                by_cases e1 : K1 = K2
                · by_cases e2 : D1.toList = D2.toList
                  · have HNT := Lib.hid (show ¬ told la lb ALL _ from fun ht => (HTO.out.1 ht).2 (by rw [e1, to_list.1 e2]))
                    obtain rfl := to_list.1 e2
                    subst e1
                    clear e2
                    go_wp2_with fail
                    go_meet
                    exact ⟨false, rfl, Iff.intro (fun h => by cases h) (fun h => absurd h HNT.out), htx3, hW3⟩
                  · have HNT := Lib.hid (show told la lb ALL _ from HTO.out.2 ⟨HF.out, fun h => by injection h with h1 h2; exact e2 (to_list.2 h2)⟩)
                    subst e1
                    go_wp2_with fail
                    go_meet
                    exact ⟨true, rfl, Iff.intro (fun h => HNT.out) (fun h => rfl), htx3, hW3⟩
                · have HNT := Lib.hid (show told la lb ALL _ from HTO.out.2 ⟨HF.out, fun h => by injection h with h1 h2; exact e1 h1⟩)
                  go_wp2_with fail
                  go_meet
                  exact ⟨true, rfl, Iff.intro (fun h => HNT.out) (fun h => rfl), htx3, hW3⟩
              · subst hj
                have ez := bytes_ne hz
                have ez2 : (z.toList != P.toList) = true := by unfold bne; rw [ez]; rfl
                clear hz
                go_wp2_with fail
                go_at_call 17
                refine (ca _ hBw).mono ?_
                rintro e w2 ⟨rfl, hb2⟩
                have hBw2 := hBw.trans (hb2.mono hBw.size)
                have hW2 := hW.trans (hb2.mono hW.size)
                go_wp2_with fail
                go_at_call 17
                refine (cb _ hBw2).mono ?_
                rintro e w3 ⟨rfl, hb3⟩
                have hW3 := hW2.trans (hb3.mono hW2.size)
                have htx3 := (htx.below hb2).below hb3
                clear hb2 hb3 hBw2 hW2
                by_cases e1 : K1 = K2
                · by_cases e2 : D1.toList = D2.toList
                  · have HNT := Lib.hid (show ¬ told la lb ALL _ from fun ht => (HTO.out.1 ht).2 (by rw [e1, to_list.1 e2]))
                    obtain rfl := to_list.1 e2
                    subst e1
                    clear e2
                    go_wp2_with fail
                    go_meet
                    exact ⟨false, rfl, Iff.intro (fun h => by cases h) (fun h => absurd h HNT.out), htx3, hW3⟩
                  · have HNT := Lib.hid (show told la lb ALL _ from HTO.out.2 ⟨HF.out, fun h => by injection h with h1 h2; exact e2 (to_list.2 h2)⟩)
                    subst e1
                    go_wp2_with fail
                    go_meet
                    exact ⟨true, rfl, Iff.intro (fun h => HNT.out) (fun h => rfl), htx3, hW3⟩
                · have HNT := Lib.hid (show told la lb ALL _ from HTO.out.2 ⟨HF.out, fun h => by injection h with h1 h2; exact e1 h1⟩)
                  go_wp2_with fail
                  go_meet
                  exact ⟨true, rfl, Iff.intro (fun h => HNT.out) (fun h => rfl), htx3, hW3⟩
            · subst hj
              have HNT := Lib.hid hnt
              clear hnt
              go_wp2_with fail
              go_meet
              exact ⟨false, rfl, Iff.intro (fun h => by cases h) (fun h => absurd h HNT.out), htx, hW⟩
          case rest =>
            clear htx hW hBw d1 hprev
            obtain ⟨TT, rfl, HTT, htx, hW⟩ := hcut
            obtain ⟨hs1, hs2, hs3⟩ := HS.out
            have hsz := hW.size
            cases TT with
            | false =>
              have hn1 : out = diffs la lb ALL (k + 1) := by rw [hs1, hs3 (fun h => by have := HTT.out.2 h; cases this), List.append_nil]
              have HN := Lib.hid hn1
              clear hs1 hs2 hs3 hn1 ca cb
              go_wp2_with fail
              go_roundw
              case rel => exact ⟨k + 1, out, by omega, by go_num, HN, by omega, htx, hW⟩
              case measure => simp [intOf]; omega
            | true =>
              have hn1 : out ++ [P] = diffs la lb ALL (k + 1) := by rw [hs1, hs2 (HTT.out.1 rfl)]
              have HN := Lib.hid hn1
              clear hs1 hs2 hs3 hn1 ca cb
              have hown := htx
              unfold Texts at hown
              go_wp2_with (at_builtin; refine wpList_append_own _ rfl _ _ 36 rfl W1.heap.size 9 s0 (.string ⟨#[]⟩) 1 16 Try.underlying36 si sz0 sz1 sz2 rfl (by decide) _ _ _ rfl (hown.alloc _) ⟨wc.heap.size, 0, none⟩ 1 1 [sv P] rfl rfl ?c1 ?c2 ?c3 ?c4 ?c5 ?_)
              case c1 => first | exact cell_one_new _ _ _ | exact fun j u h => h
              case c2 => first | exact sv_one [P] | rfl
              case c3 => unfold maxLen; omega
              case c4 => omega
              case c5 => first | (simp; omega) | omega
              intro v' w2 hown' hgrow _
              have hW2 := below_step hW hown hgrow
              have htx2 : Texts w2 W1.heap.size v' (out ++ [P]) := by
                unfold Texts
                rw [List.length_append, List.map_append]
                exact hown'
              clear hown hown' hgrow hW htx
              go_wp2_with fail
              go_roundw
              case rel => exact ⟨k + 1, out ++ [P], by omega, by go_num, HN, by simp; omega, htx2, hW2⟩
              case measure => simp [intOf]; omega
        · obtain rfl : k = L := by omega
          have h := hT.out
          have HE : Hid (tdiff la lb = out) := by
            show _ = _
            rw [HTD.out, ← HL.out, h]
          clear hT h
          go_wp2_with fail
          go_ret
          exact ⟨_, rfl, by rw [HE.out]; exact texts_base htx hB.size, hB.trans (hW.mono hB.size)⟩
end Go.Proofs.Ythokkobmlhbfgaa.En
