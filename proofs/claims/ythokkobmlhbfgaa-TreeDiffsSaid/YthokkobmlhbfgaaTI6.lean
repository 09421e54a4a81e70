/- The entries whose paths hold to a rule; Sub: contracts. -/
import Derived.Test.YthokkobmlhbfgaaTI5
namespace Go.Proofs.Ythokkobmlhbfgaa.En
open Go.RowKit Tx Pm Pr
set_option linter.unusedVariables false

theorem filter_take (f : Et → Bool) (l : List Et) (k : Nat) (x : Et) (h : l[k]? = some x) : (l.take (k + 1)).filter f = (l.take k).filter f ++ (if f x = true then [x] else []) := by
  rw [take_snoc h, List.filter_append, List.filter_cons, List.filter_nil]
def PartTo (l : List Et) (w : World) (e : Ending) (w' : World) : Prop := ∃ v, e = .returned v ∧ Own w' w.heap.size v l ∧ Below w.heap.size w w'
/-- A block of three cells that was laid, and what calls leave of it. -/
theorem three_of {w0 w1 : World} {u v x : Value} {t : TypeId} (h : Below (w0.alloc (.cells #[u, v, x] t)).heap.size (w0.alloc (.cells #[u, v, x] t)) w1) : w1.cell? ⟨w0.heap.size, 0, none⟩ = some u ∧ w1.cell? ⟨w0.heap.size, 1, none⟩ = some v ∧ w1.cell? ⟨w0.heap.size, 2, none⟩ = some x := by
  have hlt : w0.heap.size < (w0.alloc (.cells #[u, v, x] t)).heap.size := by simp
  refine ⟨(h.cell (p := ⟨w0.heap.size, _, none⟩) hlt).trans ?_, (h.cell (p := ⟨w0.heap.size, _, none⟩) hlt).trans ?_, (h.cell (p := ⟨w0.heap.size, _, none⟩) hlt).trans ?_⟩ <;> simp

set_option maxRecDepth 100000 in
set_option maxHeartbeats 4000000 in
theorem part_any (g : Nat) (cb : Array Value) (eg : ∀ args w, (callFunc g args).run Try.prog w = .ok (.enter g args) w) (f : Et → Bool) (a : Option Addr) (n c : Nat) (l : List Et) (w : World) (hl : Ents w a n l) (hn : n ≤ 1000000000000)
    (hf : ∀ W x, Below w.heap.size w W → x ∈ l → Calls Try.prog g (#[.string x.path] ++ cb) W fun e w' => e = .returned (.bool (f x)) ∧ Below W.heap.size W w') :
    Calls Try.prog 34 #[.slice a n c, .func (.func g) #[] cb] w (PartTo (l.filter f) w) := by
  obtain ⟨i0, hi, hz0, hz1, hz2⟩ := info_parts infoE
  obtain ⟨hln, hc⟩ := hl
  by_cases h0 : n = 0
  · subst h0
    obtain rfl : l = [] := List.length_eq_zero_iff.1 hln
    clear hc hf
    go_enter Try.func34, Try.ntmps34
    go_wp2_with fail
    go_loop [5, 10] (fun o i => i = .int .i64 0 ∧ o = .slice none 0 0) (fun _ _ => 0)
    case atStart => exact ⟨rfl, rfl⟩
    case round =>
      obtain ⟨rfl, rfl⟩ := hrel
      go_wp2_with fail
      go_ret
      exact ⟨_, rfl, World.ownsRow_nil _ _ _ _, Below.refl _ _⟩
  · obtain ⟨b, off, rfl, hb, hc⟩ := hc.resolve_left h0
    have HC := Lib.hid hc
    have HF := Lib.hid hf
    clear hc h0 hf
    go_enter Try.func34, Try.ntmps34
    go_wp2_with fail
    go_loopw [5, 10] (fun v i wr => ∃ (k : Nat) (out : List Et), k ≤ n ∧ i = .int .i64 k ∧ Hid (out = (l.take k).filter f) ∧ out.length ≤ k ∧ Own wr w.heap.size v out ∧ Below w.heap.size w wr) (fun _ i _ => n - (intOf i).toNat)
    case atStart => exact ⟨0, [], Nat.zero_le _, rfl, rfl, Nat.le_refl _, World.ownsRow_nil _ _ _ _, Below.refl _ _⟩
    case round =>
      obtain ⟨k, out, hk, rfl, hT, hlen, hown, hB⟩ := hrel
      by_cases hlt : k < n
      · obtain ⟨x, hx⟩ : ∃ x, l[k]? = some x := ⟨_, List.getElem?_eq_getElem (by omega)⟩
        obtain ⟨c1, c2, c3⟩ := HC.out k x hx
        have d1 := (hB.cell (p := ⟨b, _, none⟩) hb).trans c1
        have d2 := (hB.cell (p := ⟨b, _, none⟩) hb).trans c2
        have d3 := (hB.cell (p := ⟨b, _, none⟩) hb).trans c3
        have hnx := filter_take f l k x hx
        rw [← hT.out] at hnx
        have hsz := hB.size
        have hB0 := hB.alloc hsz (.cells #[.string x.path, .int .i64 x.node.kind, .string x.node.data] 51)
        have cu := HF.out _ x hB0 (List.mem_of_getElem? hx)
        obtain ⟨F, hF⟩ : ∃ F, F = f x := ⟨_, rfl⟩
        rw [← hF] at cu hnx
        obtain ⟨P, K, D⟩ := x
        simp only at d1 d2 d3 hB0 cu
        clear hF hT hx c1 c2 c3 hln
        cases F with
        | true =>
          rw [if_pos rfl] at hnx
          have HN := Lib.hid hnx
          clear hnx
          go_wp2_with fail
          go_at_fn g
          refine cu.mono ?_
          rintro e w1 ⟨rfl, hb1⟩
          have hB1 := below_call hB0 hb1
          obtain ⟨f1, f2, f3⟩ := three_of hb1
          have hown1 := (hown.below ((Below.refl _ wr).alloc (Nat.le_refl _) _)).below hb1
          unfold Own at hown1
          clear d1 d2 d3 hown cu
          go_wp2_with (at_builtin; refine wpList_append_own _ rfl _ _ 22 rfl w.heap.size 51 i0 (.agg #[.string ⟨#[]⟩, .int .i64 0, .string ⟨#[]⟩]) 3 40 Try.underlying22 hi hz0 hz1 hz2 rfl (by decide) _ _ _ rfl (hown1.alloc _) ⟨w1.heap.size, 0, none⟩ 1 1 [.string P, .int .i64 K, .string D] rfl rfl ?c1 ?c2 ?c3 ?c4 ?c5 ?_)
          case c1 => exact cell_three_new _ _ _ _ _
          case c2 => exact cells_one ⟨P, K, D⟩
          case c3 => unfold maxLen; omega
          case c4 => omega
          case c5 => have := hB1.size; simp; omega
          intro v' w2 hown' hgrow _
          have hb3 := below_step hB1 hown1 hgrow
          have ht2 : Own w2 w.heap.size v' (out ++ [⟨P, K, D⟩]) := by
            unfold Own
            rw [List.length_append, List.flatMap_append]
            exact hown'
          clear hown1 hown' hgrow hB hb1 hB1 hB0
          go_wp2_with fail
          go_roundw
          case rel => exact ⟨k + 1, _, by omega, by go_num, HN.out.symm, by simp; omega, ht2, hb3⟩
          case measure => simp [intOf]; omega
        | false =>
          rw [if_neg (by decide), List.append_nil] at hnx
          have HN := Lib.hid hnx.symm
          clear hnx
          go_wp2_with fail
          go_at_fn g
          refine cu.mono ?_
          rintro e w1 ⟨rfl, hb1⟩
          have hB1 := below_call hB0 hb1
          have hown1 := (hown.below ((Below.refl _ wr).alloc (Nat.le_refl _) _)).below hb1
          clear d1 d2 d3 hown cu
          go_wp2_with fail
          go_roundw
          case rel => exact ⟨k + 1, out, by omega, by go_num, HN, by omega, hown1, hB1⟩
          case measure => simp [intOf]; omega
      · obtain rfl : k = n := by omega
        have h := hT.out
        rw [List.take_of_length_le (by omega)] at h
        have HE := Lib.hid h
        clear hT h hln
        go_wp2_with fail
        go_ret
        exact ⟨_, rfl, by rw [← HE.out]; exact hown, hB⟩
end Go.Proofs.Ythokkobmlhbfgaa.En
