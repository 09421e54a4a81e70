/- The library's Grow and Concat of entries: contracts. -/
import Derived.Test.YthokkobmlhbfgaaTI8
import Derived.Lib.AppendZeros
namespace Go.Proofs.Ythokkobmlhbfgaa.En
open Go.RowKit Tx Pm Pr
set_option linter.unusedVariables false

theorem zeros_size (k n : Nat) (z : Array Value) (hz : z.size = 3) : (Builtin.zeroCells z n ++ Builtin.zeroCells z k).size = (n + k) * 3 := by
  rw [Array.size_append, size_zeroCells, size_zeroCells, hz, Nat.add_mul]

set_option maxRecDepth 100000 in
set_option maxHeartbeats 2000000 in
theorem grow_any (n : Nat) (w : World) (hn : n ≤ 1000000000000) :
    Calls Try.prog 62 #[.slice none 0 0, .int .i64 (n : Nat)] w (PartTo [] w) := by
  obtain ⟨i0, hi, hz0, hz1, hz2⟩ := info_parts infoE
  by_cases h0 : n = 0
  · subst h0
    go_enter Try.func62, Try.ntmps62
    go_wp2_with fail
    go_ret
    exact ⟨_, rfl, World.ownsRow_nil _ _ _ _, Below.refl _ _⟩
  · have hr := Lib.run_append_nil_zeros (P := Try.prog) w 22 3 22 51 i0 (.agg #[.string ⟨#[]⟩, .int .i64 0, .string ⟨#[]⟩]) .i64 .i64 Try.underlying22 Try.underlying3 hi hz0 n (by omega) (by omega) (by omega) (by rw [hz2]; omega)
    have hge := grownCap_ge w n 0 51
    have hle := grownCap_le_maxLen w n 0 51 (by unfold maxLen; omega)
    generalize grownCap w n 0 51 = cap at hr hge hle
    have hown := World.ownsRow_made (base := w.heap.size) (e := 51) (size := 3) w.drew (Builtin.zeroCells (Value.agg #[.string ⟨#[]⟩, .int .i64 0, .string ⟨#[]⟩]).cells n ++ Builtin.zeroCells (Value.agg #[.string ⟨#[]⟩, .int .i64 0, .string ⟨#[]⟩]).cells (cap - n)) cap (Nat.le_refl _) hle (by rw [zeros_size _ _ _ rfl, show n + (cap - n) = cap by omega])
    have hB : Below w.heap.size w (w.drew.alloc (.cells (Builtin.zeroCells (Value.agg #[.string ⟨#[]⟩, .int .i64 0, .string ⟨#[]⟩]).cells n ++ Builtin.zeroCells (Value.agg #[.string ⟨#[]⟩, .int .i64 0, .string ⟨#[]⟩]).cells (cap - n)) 51)) := (Below.refl _ _).drew.alloc (Nat.le_refl _) _
    unfold maxLen at hle
    have hpos : (n : Int) > 0 := by omega
    generalize w.drew.alloc (.cells (Builtin.zeroCells (Value.agg #[.string ⟨#[]⟩, .int .i64 0, .string ⟨#[]⟩]).cells n ++ Builtin.zeroCells (Value.agg #[.string ⟨#[]⟩, .int .i64 0, .string ⟨#[]⟩]).cells (cap - n)) 51) = w1 at hr hown hB
    go_enter Try.func62, Try.ntmps62
    go_wp2_with (at_builtin; refine Lib.wpList_append_run _ rfl _ _ _ _ rfl _ _ rfl rfl _ _ hr ?_)
    go_ret
    exact ⟨_, rfl, hown, hB⟩

/-- The value reads as a list of entries. -/
def Src (w : World) (v : Value) (l : List Et) : Prop := ∃ a n c, v = .slice a n c ∧ Ents w a n l ∧ (a = none → c = 0)
theorem Src.below {w w1 : World} {v : Value} {l : List Et} (h : Src w v l) (hb : Below w.heap.size w w1) : Src w1 v l := by
  obtain ⟨a, n, c, h1, h2, h3⟩ := h
  exact ⟨a, n, c, h1, h2.below hb, h3⟩
def total : List (List Et) → Nat
  | [] => 0
  | l :: r => l.length + total r
theorem total_take (ls : List (List Et)) (k : Nat) (l : List Et) (h : ls[k]? = some l) : total (ls.take (k + 1)) = total (ls.take k) + l.length := by
  induction ls generalizing k with
  | nil => cases h
  | cons y ls ih =>
    cases k with
    | zero =>
      injection h with h
      subst h
      simp [total]
    | succ k =>
      have := ih k h
      rw [List.take_succ_cons, List.take_succ_cons, total, total, this]
      omega
theorem total_le (ls : List (List Et)) (k : Nat) : total (ls.take k) ≤ total ls := by
  induction ls generalizing k with
  | nil => simp
  | cons y l ih =>
    cases k with
    | zero => simp [total]
    | succ k => have := ih k; rw [List.take_succ_cons, total, total]; omega
theorem total_len (ls : List (List Et)) : ls.flatten.length = total ls := by
  induction ls with
  | nil => rfl
  | cons l ls ih => rw [List.flatten_cons, List.length_append, ih, total]
theorem flatten_take (ls : List (List Et)) (k : Nat) (l : List Et) (h : ls[k]? = some l) : (ls.take (k + 1)).flatten = (ls.take k).flatten ++ l := by
  obtain ⟨hk, he⟩ := List.getElem?_eq_some_iff.1 h
  rw [List.take_succ_eq_append_getElem hk, he, List.flatten_append, List.flatten_cons, List.flatten_nil, List.append_nil]

set_option maxRecDepth 100000 in
set_option maxHeartbeats 8000000 in
theorem concat_any (b m cc : Nat) (vs : List Value) (ls : List (List Et)) (w : World) (hb : b < w.heap.size) (hvl : vs.length = m) (hll : ls.length = m) (hm : m ≤ 1000)
    (hcell : ∀ (j : Nat) (v : Value), vs[j]? = some v → w.cell? ⟨b, j, none⟩ = some v) (hsrc : ∀ (j : Nat) (v : Value) (l : List Et), vs[j]? = some v → ls[j]? = some l → Src w v l) (htot : total ls ≤ 3000000000) :
    Calls Try.prog 45 #[.slice (some ⟨b, 0, none⟩) m cc] w (PartTo ls.flatten w) := by
  obtain ⟨i0, hi, hz0, hz1, hz2⟩ := info_parts infoE
  have HC := Lib.hid hcell
  have HS := Lib.hid hsrc
  have HT := Lib.hid hll
  have HV := Lib.hid hvl
  clear hcell hsrc hll hvl
  go_enter Try.func45, Try.ntmps45
  go_wp2_with fail
  go_loop [3, 11] (fun s i => ∃ k T : Nat, k ≤ m ∧ i = .int .i64 k ∧ s = .int .i64 (T : Nat) ∧ Hid (T = total (ls.take k))) (fun _ i => m - (intOf i).toNat)
  case atStart => exact ⟨0, 0, Nat.zero_le _, rfl, rfl, rfl⟩
  case round =>
    obtain ⟨k, T, hk, rfl, rfl, hT⟩ := hrel
    by_cases hlt : k < m
    · obtain ⟨v, hv⟩ : ∃ v, vs[k]? = some v := ⟨_, List.getElem?_eq_getElem (by have := HV.out; omega)⟩
      obtain ⟨l, hl⟩ : ∃ l, ls[k]? = some l := ⟨_, List.getElem?_eq_getElem (by have := HT.out; omega)⟩
      have c1 := HC.out k v hv
      obtain ⟨a, n, c, rfl, he, _⟩ := HS.out k v l hv hl
      have hnx := total_take ls k l hl
      have hle := total_le ls (k + 1)
      rw [hnx, ← hT.out, he.1] at hle
      rw [← hT.out, he.1] at hnx
      have HN := Lib.hid hnx
      clear hnx hT hv hl he
      go_wp2_with fail
      go_round
      case rel => exact ⟨k + 1, T + n, by omega, by go_num, by go_num, HN.out.symm⟩
      case measure => simp [intOf]; omega
    · obtain rfl : k = m := by omega
      have hT0 := hT.out
      rw [List.take_of_length_le (by have := HT.out; omega)] at hT0
      have cg := fun W => grow_any T W (by omega)
      have hT3 : T ≤ 3000000000 := by omega
      clear hT hT0 hlt
      go_wp2_with fail
      go_at_call 62
      refine (cg _).mono ?_
      rintro e w1 ⟨v0, rfl, ho0, hb0⟩
      clear cg
      go_wp2_with fail
      go_loopw [6, 27] (fun v i wr => ∃ k' : Nat, k' ≤ k ∧ i = .int .i64 k' ∧ Own wr w.heap.size v (ls.take k').flatten ∧ Below w.heap.size w wr) (fun _ i _ => k - (intOf i).toNat)
      case atStart => exact ⟨0, Nat.zero_le _, rfl, ho0, hb0⟩
      case round =>
        obtain ⟨j, hj, rfl, hown, hB⟩ := hrel
        by_cases hlt : j < k
        · obtain ⟨v, hv⟩ : ∃ v, vs[j]? = some v := ⟨_, List.getElem?_eq_getElem (by have := HV.out; omega)⟩
          obtain ⟨l, hl⟩ : ∃ l, ls[j]? = some l := ⟨_, List.getElem?_eq_getElem (by have := HT.out; omega)⟩
          have c1 := (hB.cell (p := ⟨b, _, none⟩) hb).trans (HC.out j v hv)
          obtain ⟨a, n, c, rfl, he, hnil⟩ := (HS.out j v l hv hl).below hB
          have hfl := flatten_take ls j l hl
          have hlen := total_len (ls.take j)
          have hle := total_le ls (j + 1)
          rw [total_take ls j l hl, he.1] at hle
          have hsz := hB.size
          obtain ⟨L, hL⟩ : ∃ L, L = (ls.take j).flatten := ⟨_, rfl⟩
          rw [← hL] at hown hfl hlen
          have HN := Lib.hid hfl
          have HLN := Lib.hid hlen
          clear hlen
          have hf2 := flat_len l
          rw [he.1] at hf2
          have hln := he.1
          clear hfl hv hl hL
          unfold Own at hown
          cases a with
          | none =>
            obtain rfl := hnil rfl
            have hn0 : n = 0 := by
              rcases he.2 with h | ⟨_, _, h, _⟩
              · exact h
              · cases h
            subst hn0
            obtain rfl : l = [] := List.length_eq_zero_iff.1 hln
            clear he hnil hf2
            go_wp2_with (at_builtin; refine stop_none rfl _ _ 22 rfl w.heap.size 51 i0 3 Try.underlying22 hi _ _ _ rfl hown rfl ?_)
            intro v' w2 hown' hb2
            have hb3 := below_call hB hb2
            clear hown hB
            go_wp2_with fail
            go_roundw
            case rel => exact ⟨j + 1, by omega, by go_num, by rw [HN.out, List.append_nil]; exact hown', hb3⟩
            case measure => simp [intOf]; omega
          | some x =>
            have hnews : ∀ q u, (l.flatMap cells)[q]? = some u → wr.cell? (x.add q) = some u := by
              rcases he.2 with h | ⟨bb, off, h, _, hc⟩
              · intro q u hq
                obtain rfl : l = [] := List.length_eq_zero_iff.1 (by omega)
                simp at hq
              · injection h with h
                subst h
                exact ents_flat hc
            have HW := Lib.hid hnews
            clear he hnil hnews
            go_wp2_with (at_builtin; refine wpList_append_own _ rfl _ _ 22 rfl w.heap.size 51 i0 (.agg #[.string ⟨#[]⟩, .int .i64 0, .string ⟨#[]⟩]) 3 40 Try.underlying22 hi hz0 hz1 hz2 rfl (by decide) _ _ _ rfl hown x n c (l.flatMap cells) rfl hf2 HW.out (flat_one l) ?c1 ?c2 hsz ?_)
            case c1 => have := HLN.out; unfold maxLen; omega
            case c2 => have := HLN.out; omega
            intro v' w2 hown' hgrow _
            have hb3 : Below w.heap.size w w2 := hB.grown hgrow hsz (fun k hk => (hown.lt k hk).1)
            have ht2 : Own w2 w.heap.size v' (L ++ l) := by
              unfold Own
              rw [List.length_append, List.flatMap_append, hln]
              exact hown'
            clear hown hown' hgrow hB
            go_wp2_with fail
            go_roundw
            case rel => exact ⟨j + 1, by omega, by go_num, by rw [HN.out]; exact ht2, hb3⟩
            case measure => simp [intOf]; omega
        · obtain rfl : j = k := by omega
          rw [List.take_of_length_le (by have := HT.out; omega)] at hown
          go_wp2_with fail
          go_ret
          exact ⟨_, rfl, hown, hB⟩
end Go.Proofs.Ythokkobmlhbfgaa.En
