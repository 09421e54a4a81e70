/- What the document's own Replace answers: contract. -/
import Derived.Test.YthokkobmlhbfgaaEnts7
namespace Go.Proofs.Ythokkobmlhbfgaa.En
open Go.RowKit Tx Pm Pr
set_option linter.unusedVariables false

/-- What isn't at p or below it. -/
def tnot (l : List Et) (p : ByteArray) : List Et := l.filter (fun x => !und x.path.data.toList p.data.toList)
theorem tnot_take (l : List Et) (p : ByteArray) (k : Nat) (x : Et) (h : l[k]? = some x) : tnot (l.take (k + 1)) p = tnot (l.take k) p ++ (if und x.path.data.toList p.data.toList = true then [] else [x]) := by
  obtain ⟨hk, he⟩ := List.getElem?_eq_some_iff.1 h
  rw [List.take_succ_eq_append_getElem hk, he, tnot, List.filter_append, List.filter_cons, List.filter_nil]
  cases hp : und x.path.data.toList p.data.toList
  · simp [tnot]
  · simp [tnot]
theorem tnot_len (l : List Et) (p : ByteArray) : (tnot l p).length ≤ l.length := List.length_filter_le _ _
theorem mem_insAt (x y : Et) : ∀ l : List Et, y ∈ insAt x l → y = x ∨ y ∈ l
  | [], h => by
    rw [insAt] at h
    exact .inl (List.mem_singleton.1 h)
  | z :: l, h => by
    rw [insAt] at h
    split at h
    · rcases List.mem_cons.1 h with h | h
      · exact .inr (by rw [h]; simp)
      · rcases mem_insAt x y l h with h | h
        · exact .inl h
        · exact .inr (List.mem_cons_of_mem _ h)
    · rcases List.mem_cons.1 h with h | h
      · exact .inl h
      · exact .inr h
theorem mem_tsort {y : Et} {l : List Et} (h : y ∈ tsort l) : y ∈ l := by
  have : ∀ (l o : List Et), y ∈ l.foldl (fun o x => insAt x o) o → y ∈ o ∨ y ∈ l := by
    intro l
    induction l with
    | nil => intro o h; exact .inl h
    | cons x l ih =>
      intro o h
      rw [List.foldl_cons] at h
      rcases ih _ h with h | h
      · rcases mem_insAt x y o h with h | h
        · exact .inr (by rw [h]; simp)
        · exact .inl h
      · exact .inr (List.mem_cons_of_mem _ h)
  rcases this l [] h with h | h
  · cases h
  · exact h
/-- Is every one of sub at p or below it? -/
def allUnder (sub : List Et) (p : ByteArray) : Bool := sub.all (fun x => und x.path.data.toList p.data.toList)
def replCode (l : List Et) (p : ByteArray) (sub : List Et) : Nat :=
  if chk p.data.toList 5 ≠ 0 then 10
  else if allUnder sub p = false then 1
  else if 200 < (tnot l p).length + sub.length then 4
  else tcheck (tsort (tnot l p ++ sub))
/-- Replace. -/
def trepl (l : List Et) (p : ByteArray) (sub : List Et) : List Et × Nat := (if replCode l p sub = 0 then tsort (tnot l p ++ sub) else [], replCode l p sub)
theorem trepl_bad {l sub : List Et} {p : ByteArray} {e : Nat} (h : replCode l p sub = e) (he : e ≠ 0) : trepl l p sub = ([], e) := by
  rw [trepl, h, if_neg he]
theorem trepl_good {l sub : List Et} {p : ByteArray} (h : replCode l p sub = 0) : trepl l p sub = (tsort (tnot l p ++ sub), 0) := by
  rw [trepl, h, if_pos rfl]

set_option maxRecDepth 100000 in
set_option maxHeartbeats 4000000 in
theorem refReplace_any (a : Option Addr) (n c : Nat) (l : List Et) (p : ByteArray) (a2 : Option Addr) (m c2 : Nat) (sub : List Et) (w : World) (hl : Ents w a n l) (hl2 : Ents w a2 m sub) (hn : n ≤ 1000000000) (hm : m ≤ 1000000000) (hs : Small l) (hs2 : Small sub) (hp : p.size ≤ 8000000000000) :
    Calls Try.prog 30 #[.slice a n c, .string p, .slice a2 m c2] w (PairTo (trepl l p sub) w) := by
  obtain ⟨i0, hi, hz0, hz1, hz2⟩ := info_parts infoE
  have hln := hl.1
  have hln2 := hl2.1
  have cc := fun W => refCheck_any p 5 W (by omega) (by omega) (by omega)
  by_cases hchk : chk p.data.toList 5 ≠ 0
  · have hr := trepl_bad (l := l) (sub := sub) (show replCode l p sub = 10 by rw [replCode, if_pos hchk]) (by decide)
    have e1 : (((chk p.data.toList 5 : Nat) : Int) == 0) = false := beq_eq_false_iff_ne.2 (by omega)
    have e2 : (!(((chk p.data.toList 5 : Nat) : Int) == 0)) = true := by rw [e1]; rfl
    clear hchk
    go_enter Try.func30, Try.ntmps30
    go_wp2_with (go_at_call 31; refine (cc _).mono ?_; rintro e w1 ⟨rfl, hb1⟩)
    go_ret2
    exact pair_nil hr rfl hb1
  have hchk0 : chk p.data.toList 5 = 0 := by omega
  rw [hchk0] at cc
  have hrc : replCode l p sub = (if allUnder sub p = false then 1 else if 200 < (tnot l p).length + sub.length then 4 else tcheck (tsort (tnot l p ++ sub))) := by rw [replCode, if_neg hchk]
  have hsm : ∀ x ∈ tsort (tnot l p ++ sub), x.path.size ≤ 8000000000000 ∧ x.node.data.size ≤ 8000000000000 := by
    intro x hx
    rcases List.mem_append.1 (mem_tsort hx) with h | h
    · exact hs x (List.mem_filter.1 h).1
    · exact hs2 x h
  have HRC := Lib.hid hrc
  have HSM := Lib.hid hsm
  have HS := Lib.hid hs
  have HS2 := Lib.hid hs2
  have HL2 := Lib.hid hl2
  clear hchk hchk0 hrc hsm hs hs2 hl2
  go_enter Try.func30, Try.ntmps30
  go_wp2_with fail
  go_at_call 31
  refine (cc _).mono ?_
  rintro e w1 ⟨rfl, hb1⟩
  clear cc
  have hlw := hl
  go_upto_block 0 with fail
  go_cut [8, 9] from 11 to 66 (fun v _ wq => Own wq w.heap.size v (tnot l p) ∧ Below w.heap.size w wq)
  case first =>
    by_cases h0 : n = 0
    · subst h0
      obtain rfl : l = [] := List.length_eq_zero_iff.1 hln
      clear hlw hl
      go_wp2_with fail
      go_loop [8, 9] (fun v i => i = .int .i64 0 ∧ v = .slice none 0 0) (fun _ _ => 0)
      case atStart => exact ⟨rfl, rfl⟩
      case round =>
        obtain ⟨rfl, rfl⟩ := hrel
        go_wp2_with fail
        go_meet
        exact ⟨World.ownsRow_nil _ _ _ _, hb1⟩
    · obtain ⟨b, off, rfl, hb, hc⟩ := hlw.2.resolve_left h0
      have HC := Lib.hid hc
      have HE0 := Lib.hid hln
      clear hc h0 hlw hl hln
      go_wp2_with fail
      go_loopw [8, 9] (fun v i wr => ∃ (k : Nat) (out : List Et), k ≤ n ∧ i = .int .i64 k ∧ Hid (out = tnot (l.take k) p) ∧ out.length ≤ k ∧ Own wr w.heap.size v out ∧ Below w.heap.size w wr) (fun _ i _ => n - (intOf i).toNat)
      case atStart => exact ⟨0, [], Nat.zero_le _, rfl, rfl, Nat.le_refl _, World.ownsRow_nil _ _ _ _, hb1⟩
      case round =>
        obtain ⟨k, out, hk, rfl, hT, hlen, hown, hB⟩ := hrel
        clear hb1
        by_cases hlt : k < n
        · obtain ⟨x, hx⟩ : ∃ x, l[k]? = some x := ⟨_, List.getElem?_eq_getElem (by rw [HE0.out]; exact hlt)⟩
          obtain ⟨c1, c2, c3⟩ := HC.out k x hx
          have d1 := (hB.cell (p := ⟨b, _, none⟩) hb).trans c1
          have d2 := (hB.cell (p := ⟨b, _, none⟩) hb).trans c2
          have d3 := (hB.cell (p := ⟨b, _, none⟩) hb).trans c3
          have hxs := (HS.out x (List.mem_of_getElem? hx)).1
          have hnx := tnot_take l p k x hx
          rw [← hT.out] at hnx
          obtain ⟨P, X, Y⟩ := x
          simp only at d1 d2 d3 hnx hxs
          have cu := fun W => refUnder_any P p W (by omega) (by omega)
          have hsz := hB.size
          by_cases hpp : und P.data.toList p.data.toList = true
          · rw [if_pos hpp, List.append_nil] at hnx
            rw [hpp] at cu
            have HN := Lib.hid hnx.symm
            clear hnx hpp hT hx c1 c2 c3
            go_wp2_with (go_at_call 39; refine (cu _).mono ?_; rintro e w1 ⟨rfl, rfl⟩)
            go_roundw
            case rel => exact ⟨k + 1, out, by omega, by go_num, HN, by omega, hown, hB⟩
            case measure => simp [intOf]; omega
          · rw [if_neg hpp] at hnx
            rw [Bool.eq_false_iff.2 hpp] at cu
            have HN := Lib.hid hnx
            clear hnx hpp hT hx c1 c2 c3
            unfold Own at hown
            go_wp2_with fail
            go_at_call 39
            refine (cu _).mono ?_
            rintro e w1 ⟨rfl, rfl⟩
            go_wp2_with (at_builtin; refine wpList_append_own _ rfl _ _ 22 rfl w.heap.size 51 i0 (.agg #[.string ⟨#[]⟩, .int .i64 0, .string ⟨#[]⟩]) 3 40 Try.underlying22 hi hz0 hz1 hz2 rfl (by decide) _ _ _ rfl (hown.alloc _) ⟨wr.heap.size, 0, none⟩ 1 1 [.string P, .int .i64 X, .string Y] rfl rfl ?c1 ?c2 ?c3 ?c4 ?c5 ?_)
            case c1 => exact cell_three_new _ _ _ _ _
            case c2 => exact cells_one ⟨P, X, Y⟩
            case c3 => unfold maxLen; omega
            case c4 => omega
            case c5 => simp; omega
            intro v' w2 hown' hgrow _
            have hb5 := below_step hB hown hgrow
            have ht2 : Own w2 w.heap.size v' (out ++ [⟨P, X, Y⟩]) := by
              unfold Own
              rw [List.length_append, List.flatMap_append]
              exact hown'
            clear hown hown' hgrow hB
            go_wp2_with fail
            go_roundw
            case rel => exact ⟨k + 1, _, by omega, by go_num, HN.out.symm, by simp; omega, ht2, hb5⟩
            case measure => simp [intOf]; omega
        · obtain rfl : k = n := by omega
          have h := hT.out
          rw [List.take_of_length_le (by rw [HE0.out]; omega)] at h
          subst h
          clear hT
          go_wp2_with fail
          go_meet
          exact ⟨hown, hB⟩
  case rest =>
    clear hb1 hlw hl
    obtain ⟨hown1, hB1⟩ := hcut
    have hnl := tnot_len l p
    rw [hln] at hnl
    clear hln
    obtain ⟨T1, hT1⟩ : ∃ T1, T1 = tnot l p := ⟨_, rfl⟩
    rw [← hT1] at hown1 hnl HRC HSM
    have HT1 := Lib.hid hT1
    clear hT1 HS
    go_upto_block 2 with fail
    go_cut [8, 10] from 11 to 66 (fun v _ wq => Own wq w.heap.size v (T1 ++ sub) ∧ allUnder sub p = true ∧ Below w.heap.size w wq)
    case first =>
      have hl2 := HL2.out
      by_cases h0 : m = 0
      · subst h0
        obtain rfl : sub = [] := List.length_eq_zero_iff.1 hln2
        clear hl2
        rw [← List.append_nil T1] at hown1
        go_wp2_with fail
        go_loopw [8, 10] (fun v i wr => i = .int .i64 0 ∧ Own wr w.heap.size v (T1 ++ []) ∧ Below w.heap.size w wr) (fun _ _ _ => 0)
        case atStart => exact ⟨rfl, hown1, hB1⟩
        case round =>
          clear hown1 hB1
          obtain ⟨rfl, hown1, hB1⟩ := hrel
          go_wp2_with fail
          go_meet
          exact ⟨hown1, rfl, hB1⟩
      · obtain ⟨b, off, rfl, hb, hc⟩ := hl2.2.resolve_left h0
        have HC := Lib.hid hc
        have HE0 := Lib.hid hln2
        clear hc h0 hl2 hln2
        go_wp2_with fail
        go_loopw [8, 10] (fun v i wr => ∃ (k : Nat) (out : List Et), k ≤ m ∧ i = .int .i64 k ∧ Hid (out = T1 ++ sub.take k) ∧ Hid (allUnder (sub.take k) p = true) ∧ out.length ≤ n + k ∧ Own wr w.heap.size v out ∧ Below w.heap.size w wr) (fun _ i _ => m - (intOf i).toNat)
        case atStart => exact ⟨0, T1, Nat.zero_le _, rfl, (List.append_nil T1).symm, rfl, hnl, hown1, hB1⟩
        case round =>
          clear hown1 hB1
          obtain ⟨k, out, hk, rfl, hT, hall, hlen, hown, hB⟩ := hrel
          by_cases hlt : k < m
          · obtain ⟨x, hx⟩ : ∃ x, sub[k]? = some x := ⟨_, List.getElem?_eq_getElem (by rw [HE0.out]; exact hlt)⟩
            obtain ⟨c1, c2, c3⟩ := HC.out k x hx
            have d1 := (hB.cell (p := ⟨b, _, none⟩) hb).trans c1
            have d2 := (hB.cell (p := ⟨b, _, none⟩) hb).trans c2
            have d3 := (hB.cell (p := ⟨b, _, none⟩) hb).trans c3
            have hmem := List.mem_of_getElem? hx
            have hxs := (HS2.out x hmem).1
            have htk : sub.take (k + 1) = sub.take k ++ [x] := by
              obtain ⟨hk2, he2⟩ := List.getElem?_eq_some_iff.1 hx
              rw [List.take_succ_eq_append_getElem hk2, he2]
            obtain ⟨P, X, Y⟩ := x
            simp only at d1 d2 d3 hxs
            have cu := fun W => refUnder_any P p W (by omega) (by omega)
            have hsz := hB.size
            by_cases hpp : und P.data.toList p.data.toList = true
            · have hnx : T1 ++ sub.take (k + 1) = out ++ [⟨P, X, Y⟩] := by rw [htk, hT.out, List.append_assoc]
              have hall2 : allUnder (sub.take (k + 1)) p = true := by
                have := hall.out
                unfold allUnder at this ⊢
                rw [htk, List.all_append, this]
                simp [hpp]
              have HN := Lib.hid hnx
              have HA := Lib.hid hall2
              rw [hpp] at cu
              clear hnx hpp hT hx c1 c2 c3 hall hall2 htk hmem
              unfold Own at hown
              go_wp2_with fail
              go_at_call 39
              refine (cu _).mono ?_
              rintro e w1 ⟨rfl, rfl⟩
              go_wp2_with (at_builtin; refine wpList_append_own _ rfl _ _ 22 rfl w.heap.size 51 i0 (.agg #[.string ⟨#[]⟩, .int .i64 0, .string ⟨#[]⟩]) 3 40 Try.underlying22 hi hz0 hz1 hz2 rfl (by decide) _ _ _ rfl (hown.alloc _) ⟨wr.heap.size, 0, none⟩ 1 1 [.string P, .int .i64 X, .string Y] rfl rfl ?c1 ?c2 ?c3 ?c4 ?c5 ?_)
              case c1 => exact cell_three_new _ _ _ _ _
              case c2 => exact cells_one ⟨P, X, Y⟩
              case c3 => unfold maxLen; omega
              case c4 => omega
              case c5 => simp; omega
              intro v' w2 hown' hgrow _
              have hb5 := below_step hB hown hgrow
              have ht2 : Own w2 w.heap.size v' (out ++ [⟨P, X, Y⟩]) := by
                unfold Own
                rw [List.length_append, List.flatMap_append]
                exact hown'
              clear hown hown' hgrow hB
              go_wp2_with fail
              go_roundw
              case rel => exact ⟨k + 1, _, by omega, by go_num, HN.out.symm, HA, by simp; omega, ht2, hb5⟩
              case measure => simp [intOf]; omega
            · have hbad : allUnder sub p = false := by
                apply Bool.eq_false_iff.2
                intro h
                have := List.all_eq_true.1 h _ hmem
                exact hpp this
              have hr := trepl_bad (l := l) (sub := sub) (show replCode l p sub = 1 by rw [HRC.out, if_pos hbad]) (by decide)
              rw [Bool.eq_false_iff.2 hpp] at cu
              clear hpp hT hx c1 c2 c3 hall htk hmem hbad
              go_wp2_with fail
              go_at_call 39
              refine (cu _).mono ?_
              rintro e w1 ⟨rfl, rfl⟩
              go_wp2_with fail
              go_ret2
              exact pair_nil hr rfl hB
          · obtain rfl : k = m := by omega
            have h := hT.out
            have h2 := hall.out
            rw [List.take_of_length_le (by rw [HE0.out]; omega)] at h h2
            subst h
            clear hT hall
            go_wp2_with fail
            go_meet
            exact ⟨hown, h2, hB⟩
    case rest =>
      clear hown1 hB1
      obtain ⟨hown, hall, hB⟩ := hcut
      have hrc := HRC.out
      rw [if_neg (by rw [hall]; simp)] at hrc
      have hlT : (T1 ++ sub).length = T1.length + sub.length := List.length_append
      rw [← hlT] at hrc
      have hlb : (T1 ++ sub).length ≤ 2000000000 := by rw [hlT]; omega
      clear HRC hall hlT HL2 HS2
      have hgood : replCode l p sub = 0 → trepl l p sub = (tsort (T1 ++ sub), 0) := fun h => by rw [trepl_good h, HT1.out]
      have hbadd : ∀ e, replCode l p sub = e → e ≠ 0 → trepl l p sub = ([], e) := fun e h h2 => trepl_bad h h2
      obtain ⟨O2, hO2⟩ : ∃ O2, O2 = T1 ++ sub := ⟨_, rfl⟩
      rw [← hO2] at hrc hlb hown hgood HSM
      clear hO2 HT1
      obtain ⟨a5, c5, hv5, he5, _, _⟩ := Own.form hown
      subst hv5
      have cso := refSort_any a5 O2.length c5 O2 wc he5 (by omega)
      obtain ⟨n5, hn5⟩ : ∃ n5, n5 = O2.length := ⟨_, rfl⟩
      rw [← hn5] at cso hrc hlb
      rw [← hn5]
      have HN5 := Lib.hid hn5
      clear he5 hown hn5
      by_cases hbig : 200 < n5
      · rw [if_pos hbig] at hrc
        have hr := hbadd 4 hrc (by decide)
        have hb2 : (200 : Int) < (n5 : Int) := by omega
        clear hbig hrc hgood hbadd cso
        go_wp2_with fail
        go_ret2
        exact pair_nil hr rfl hB
      · rw [if_neg hbig] at hrc
        have hb2 : ¬ (200 : Int) < (n5 : Int) := by omega
        have hb3 : (n5 : Int) ≤ 200 := by omega
        have HRC2 := Lib.hid hrc
        have HG := Lib.hid hgood
        have HBD := Lib.hid hbadd
        clear hbig hrc hgood hbadd
        go_wp2_with fail
        go_at_call 43
        refine cso.mono ?_
        rintro e w6 ⟨v6, rfl, ho6, hb6⟩
        have hB6 := hB.trans (hb6.mono hB.size)
        have ho6' := row_base ho6 hB.size
        obtain ⟨a6, c6, hv6, he6, _, _⟩ := Own.form ho6
        subst hv6
        obtain ⟨T2, hT2⟩ : ∃ T2, T2 = tsort O2 := ⟨_, rfl⟩
        rw [← hT2] at ho6' he6 HSM HRC2 HG
        have hl6 := he6.1
        have hlt2 : T2.length ≤ 9223372036854775806 := by rw [hT2, tsort_len, ← HN5.out]; omega
        rw [← hT2]
        have cch := fun W (h : Below w6.heap.size w6 W) => refCheckT_any a6 T2.length c6 T2 W (he6.below h) hlt2 (fun x hx => HSM.out x hx)
        obtain ⟨n6, hn6⟩ : ∃ n6, n6 = T2.length := ⟨_, rfl⟩
        rw [← hn6] at cch ho6'
        rw [← hn6]
        have HO := Lib.hid ho6'
        have HN6 := Lib.hid hn6
        clear cso ho6 ho6' he6 hl6 hlt2 hT2 hn6 HSM hb6
        by_cases hok : tcheck T2 = 0
        · have hr := HG.out (by rw [HRC2.out, hok])
          rw [hok] at cch
          clear hok HRC2 HG HBD
          go_wp2_with fail
          go_at_call 11
          refine (cch _ (Below.refl _ _)).mono ?_
          rintro e w7 ⟨rfl, hb7⟩
          have hB7 := hB6.trans (hb7.mono hB6.size)
          go_wp2_with fail
          go_ret2
          exact ⟨_, by rw [hr]; rfl, by rw [hr]; exact own_of (row_below HO.out hb7) HN6.out.symm, hB7⟩
        · have hr := HBD.out _ HRC2.out hok
          have e1 : (((tcheck T2 : Nat) : Int) == 0) = false := beq_eq_false_iff_ne.2 (by omega)
          have e2 : (((tcheck T2 : Nat) : Int) != 0) = true := by unfold bne; rw [e1]; rfl
          clear hok HRC2 HG HBD
          go_wp2_with fail
          go_at_call 11
          refine (cch _ (Below.refl _ _)).mono ?_
          rintro e w7 ⟨rfl, hb7⟩
          have hB7 := hB6.trans (hb7.mono hB6.size)
          go_wp2_with fail
          go_at_call 11
          refine (cch _ hb7).mono ?_
          rintro e w8 ⟨rfl, hb8⟩
          have hB8 := hB7.trans (hb8.mono hB7.size)
          go_wp2_with fail
          go_ret2
          exact pair_nil hr rfl hB8
end Go.Proofs.Ythokkobmlhbfgaa.En
