/- Lists of entries: the document's own Roomy. -/
import Derived.Test.YthokkobmlhbfgaaEnts4
import Derived.Laws.AppendOwnNone
namespace Go.Proofs.Ythokkobmlhbfgaa.En
open Go.RowKit Tx Pm Pr
set_option linter.unusedVariables false

theorem flat_len (l : List Et) : (l.flatMap cells).length = l.length * 3 := by
  induction l with
  | nil => rfl
  | cons x l ih =>
    rw [List.flatMap_cons, List.length_append, ih, List.length_cons]
    show 3 + _ = _
    omega
theorem flat_one (l : List Et) : ∀ u ∈ l.flatMap cells, u.oneCell' = true := by
  intro u hu
  obtain ⟨x, _, hx⟩ := List.mem_flatMap.1 hu
  exact cells_one x u hx
theorem ents_flat {w : World} {b off : Nat} {l : List Et} (hc : ∀ k x, l[k]? = some x → w.cell? ⟨b, off + k * 3, none⟩ = some (.string x.path) ∧ w.cell? ⟨b, off + k * 3 + 1, none⟩ = some (.int .i64 x.node.kind) ∧ w.cell? ⟨b, off + k * 3 + 1 + 1, none⟩ = some (.string x.node.data)) :
    ∀ j u, (l.flatMap cells)[j]? = some u → w.cell? ((⟨b, off, none⟩ : Addr).add j) = some u := by
  intro j u hj
  rw [WideShapes.add_plain]
  have hjl := (List.getElem?_eq_some_iff.1 hj).1
  rw [flat_len] at hjl
  have hk : j / 3 < l.length := by omega
  obtain ⟨x, hx⟩ : ∃ x, l[j / 3]? = some x := ⟨_, List.getElem?_eq_getElem hk⟩
  have hf := flat_at l (j / 3) x (j % 3) hx (by omega)
  rw [show j / 3 * 3 + j % 3 = j by omega, hj] at hf
  obtain ⟨h1, h2, h3⟩ := hc _ x hx
  rcases show j % 3 = 0 ∨ j % 3 = 1 ∨ j % 3 = 2 by omega with h | h | h
  · rw [h] at hf
    injection hf with hf
    rw [hf, ← h1]
    congr 2
    omega
  · rw [h] at hf
    injection hf with hf
    rw [hf, ← h2]
    congr 2
    omega
  · rw [h] at hf
    injection hf with hf
    rw [hf, ← h3]
    congr 2
    omega
/-- The mark behind a roomy list. -/
def spare : Et := ⟨⟨#[115, 112, 97, 114, 101]⟩, ⟨0, ⟨#[]⟩⟩⟩
def RoomyTo (l : List Et) (w : World) (e : Ending) (w' : World) : Prop := ∃ g cap, e = .returned (.slice (some ⟨g, 0, none⟩) l.length cap) ∧ Own w' w.heap.size (.slice (some ⟨g, 0, none⟩) (l.length + 1) cap) (l ++ [spare]) ∧ Below w.heap.size w w'
theorem own_shape {w : World} {B : Nat} {v : Value} {n : Nat} {xs : List Value} {e : TypeId} (h : w.ownsRow B e 3 v n xs) (hn : 0 < n) : ∃ g cap, v = .slice (some ⟨g, 0, none⟩) n cap ∧ n ≤ cap ∧ cap ≤ maxLen := by
  rcases h.2 with ⟨rfl, h0⟩ | ⟨g, cap, cur, rfl, hg, hh2, hn, hc, _⟩
  · omega
  · exact ⟨g, cap, rfl, hn, hc⟩

set_option maxRecDepth 100000 in
set_option maxHeartbeats 1000000 in
theorem roomy_some (b off n c : Nat) (l : List Et) (w : World) (hln : l.length = n) (hb : b < w.heap.size ∨ n = 0) (hc : ∀ k x, l[k]? = some x → w.cell? ⟨b, off + k * 3, none⟩ = some (.string x.path) ∧ w.cell? ⟨b, off + k * 3 + 1, none⟩ = some (.int .i64 x.node.kind) ∧ w.cell? ⟨b, off + k * 3 + 1 + 1, none⟩ = some (.string x.node.data)) (hn : n ≤ 1000000000000) :
    Calls Try.prog 8 #[.slice (some ⟨b, off, none⟩) n c] w (RoomyTo l w) := by
  obtain ⟨i0, hi, hz0, hz1, hz2⟩ := info_parts infoE
  have hB : ∀ o, Below w.heap.size w (w.alloc o) := fun o => (Below.refl _ _).alloc (Nat.le_refl _) _
  have hfl : Hid (∀ o j u, (l.flatMap cells)[j]? = some u → (w.alloc o).cell? ((⟨b, off, none⟩ : Addr).add j) = some u) := by
    intro o
    apply ents_flat
    intro k x hx
    have hb' : b < w.heap.size := by
      have := (List.getElem?_eq_some_iff.1 hx).1
      omega
    exact ⟨((hB o).cell (p := ⟨b, _, none⟩) hb').trans (hc k x hx).1, ((hB o).cell (p := ⟨b, _, none⟩) hb').trans (hc k x hx).2.1, ((hB o).cell (p := ⟨b, _, none⟩) hb').trans (hc k x hx).2.2⟩
  have hfl2 := flat_len l
  rw [hln] at hfl2
  have hown0 := World.ownsRow_made (base := w.heap.size) (e := 51) (size := 3) w #[] 0 (Nat.le_refl _) (Nat.zero_le _) rfl
  clear hc
  go_enter Try.func8, Try.ntmps8
  go_wp2_with (at_builtin; refine wpList_append_own _ rfl _ _ 22 rfl w.heap.size 51 i0 (.agg #[.string ⟨#[]⟩, .int .i64 0, .string ⟨#[]⟩]) 3 40 Try.underlying22 hi hz0 hz1 hz2 rfl (by decide) _ _ _ rfl hown0 ⟨b, off, none⟩ n c (l.flatMap cells) rfl hfl2 ?c1 ?c2 ?c3 ?c4 ?c5 ?_)
  case c1 => exact hfl.out _
  case c2 => exact flat_one l
  case c3 => unfold maxLen; omega
  case c4 => omega
  case c5 => simp
  intro v' w1 hown1 hgrow1 _
  have hB1 : Below w.heap.size w w1 := (hB _).grown hgrow1 (by simp) (fun k hk => (hown0.lt k hk).1)
  have hsz1 := hB1.size
  clear hgrow1 hown0 hfl hfl2
  go_wp2_with (at_builtin; refine wpList_append_own _ rfl _ _ 22 rfl w.heap.size 51 i0 (.agg #[.string ⟨#[]⟩, .int .i64 0, .string ⟨#[]⟩]) 3 40 Try.underlying22 hi hz0 hz1 hz2 rfl (by decide) _ _ _ rfl (hown1.alloc _) ⟨w1.heap.size, 0, none⟩ 1 1 (cells spare) rfl rfl ?c1 ?c2 ?c3 ?c4 ?c5 ?_)
  case c1 => exact cell_three_new _ _ _ _ _
  case c2 => exact cells_one spare
  case c3 => unfold maxLen; omega
  case c4 => omega
  case c5 => simp; omega
  intro v2 w2 hown2 hgrow2 _
  have hB2 := below_step hB1 hown1 hgrow2
  obtain ⟨g, cap, rfl, hcap, hcap2⟩ := own_shape hown2 (by omega)
  have hO : Own w2 w.heap.size (.slice (some ⟨g, 0, none⟩) (l.length + 1) cap) (l ++ [spare]) := by
    unfold Own
    rw [List.length_append, List.flatMap_append, hln]
    exact hown2
  have hR := hB2
  unfold maxLen at hcap2
  clear hown1 hown2 hgrow2 hB1 hB
  go_wp2_with fail
  go_ret
  refine ⟨g, cap, ?_, hO, hR⟩
  rw [hln]
  rfl

set_option maxRecDepth 100000 in
set_option maxHeartbeats 1000000 in
theorem roomy_none (w : World) :
    Calls Try.prog 8 #[.slice none 0 0] w (RoomyTo [] w) := by
  obtain ⟨i0, hi, hz0, hz1, hz2⟩ := info_parts infoE
  have hB : ∀ o, Below w.heap.size w (w.alloc o) := fun o => (Below.refl _ _).alloc (Nat.le_refl _) _
  have hown0 := World.ownsRow_made (base := w.heap.size) (e := 51) (size := 3) w #[] 0 (Nat.le_refl _) (Nat.zero_le _) rfl
  have hB0 := hB (.cells #[] 51)
  have he : (w.alloc (.cells #[] 51)).heap.size = w.heap.size + 1 := by simp
  go_enter Try.func8, Try.ntmps8
  go_wp2_with (first | (at_builtin; refine wpList_append_own_none _ rfl _ _ 22 rfl w.heap.size 51 i0 3 Try.underlying22 hi _ _ _ rfl hown0 rfl ?_) | (at_builtin; refine wpList_append_own _ rfl _ _ 22 rfl w.heap.size 51 i0 (.agg #[.string ⟨#[]⟩, .int .i64 0, .string ⟨#[]⟩]) 3 40 Try.underlying22 hi hz0 hz1 hz2 rfl (by decide) _ _ _ rfl (hown0.alloc _) ⟨w.heap.size + 1, 0, none⟩ 1 1 (cells spare) rfl rfl ?c1 ?c2 ?c3 ?c4 ?c5 ?_))
  case c1 =>
    rw [← he]
    exact cell_three_new _ _ _ _ _
  case c2 => exact cells_one spare
  case c3 => unfold maxLen; omega
  case c4 => omega
  case c5 => simp; omega
  intro v2 w2 hown2 hgrow2 _
  have hB2 := below_step hB0 hown0 hgrow2
  obtain ⟨g, cap, rfl, hcap, hcap2⟩ := own_shape hown2 (by omega)
  have hO : Own w2 w.heap.size (.slice (some ⟨g, 0, none⟩) (([] : List Et).length + 1) cap) ([] ++ [spare]) := by
    unfold Own
    exact hown2
  have hR := hB2
  unfold maxLen at hcap2
  clear hown2 hgrow2 hB2 hB hown0
  go_wp2_with fail
  go_ret
  exact ⟨g, cap, rfl, hO, hR⟩

/-- Roomy, of whatever list (a nil slice is written as Go writes it). -/
theorem refRoomy_any (a : Option Addr) (n c : Nat) (l : List Et) (w : World) (hl : Ents w a n l) (hnil : a = none → c = 0) (hspot : ∀ x, a = some x → x = ⟨x.block, x.off, none⟩) (hn : n ≤ 1000000000000) :
    Calls Try.prog 8 #[.slice a n c] w (RoomyTo l w) := by
  obtain ⟨hln, hc⟩ := hl
  cases a with
  | none =>
    have hn0 : n = 0 := by
      rcases hc with h | ⟨b, off, h, _⟩
      · exact h
      · cases h
    obtain rfl := hnil rfl
    subst hn0
    obtain rfl : l = [] := List.length_eq_zero_iff.1 hln
    exact roomy_none w
  | some x =>
    rw [hspot x rfl]
    rcases hc with h | ⟨b, off, h, hb, hc⟩
    · subst h
      obtain rfl : l = [] := List.length_eq_zero_iff.1 hln
      exact roomy_some x.block x.off 0 c [] w rfl (.inr rfl) (fun k y hy => by cases hy) (by omega)
    · injection h with h
      subst h
      exact roomy_some b off n c l w hln (.inl hb) hc hn

theorem Ents.take {w : World} {a : Option Addr} {n m : Nat} {l : List Et} (h : Ents w a n l) (hm : m ≤ n) : Ents w a m (l.take m) := by
  refine ⟨by rw [List.length_take, h.1]; omega, ?_⟩
  rcases h.2 with h0 | ⟨b, off, ha, hlt, hc⟩
  · exact .inl (by omega)
  · refine .inr ⟨b, off, ha, hlt, fun k x hx => hc k x ?_⟩
    rw [List.getElem?_take] at hx
    split at hx
    · exact hx
    · cases hx

set_option maxRecDepth 100000 in
set_option maxHeartbeats 1000000 in
theorem refHeld_any (g cap c n : Nat) (a : Option Addr) (l : List Et) (w : World) (hr : Ents w (some ⟨g, 0, none⟩) (n + 1) (l ++ [spare])) (ht : Ents w a n l) (hcap : n + 1 ≤ cap) (hcm : cap ≤ 9223372036854775807) (hn : n ≤ 1000000000000) :
    Calls Try.prog 14 #[.slice (some ⟨g, 0, none⟩) n cap, .slice a n c] w fun e w' => e = .returned (.bool true) ∧ Below w.heap.size w w' := by
  have hln := ht.1
  have h1 : Ents w (some ⟨g, 0, none⟩) n l := by
    have := hr.take (m := n) (by omega)
    rw [List.take_append_of_le_length (by omega), List.take_of_length_le (by omega)] at this
    exact this
  have cs := refSame_any (some ⟨g, 0, none⟩) a n n cap c l l w h1 ht (by omega) (by omega)
  obtain ⟨b, off, hb0, hb, hc⟩ := hr.2.resolve_left (by omega)
  injection hb0 with hb0
  injection hb0 with hg ho _
  subst hg
  subst ho
  have h3 := (hc n spare (by rw [List.getElem?_append_right (by omega), hln, Nat.sub_self]; rfl)).1
  unfold spare at h3
  simp only at h3
  rw [Nat.zero_add] at h3
  clear hc ht hr h1 hln
  go_enter Try.func14, Try.ntmps14
  go_wp2_with fail
  go_at_call 18
  refine cs.mono ?_
  rintro e w1 ⟨B, hB, rfl, hbl⟩
  obtain rfl := hB.2 rfl
  have h4 := (hbl.cell (p := ⟨g, _, none⟩) hb).trans h3
  have hn1 : (n : Int) < (n : Int) + 1 := by omega
  clear h3 cs
  go_wp2_with fail
  go_ret
  exact ⟨rfl, hbl⟩
end Go.Proofs.Ythokkobmlhbfgaa.En
