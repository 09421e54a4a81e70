/- Package delta's appendNumber, appendCopied, appendPut: contracts. -/
import Derived.Test.YtpfgijmhoenpkaaHApply
namespace Go.Proofs.Ytpfgijmhoenpkaa.Dl
open Go.RowKit Wm Wr Dm
set_option linter.unusedVariables false

/-- Where a text's bytes go behind a row of one's own: into the row, or into a new block. -/
theorem app_block {w w' : World} {B n : Nat} {v v' : Value} {xs : List Value} {s : ByteArray} {ty : TypeId} {i : TypeInfo} (hi : Try.prog.info? 5 = some i) (hz : i.zero = some (.int .u8 0)) (hs1 : i.size = 1) (hby : i.bytes = 1)
    (hown : w.ownsRow B 5 1 v n xs) (hn : n + s.size ≤ 100000000000000) (hr : (Builtin.append_ #[32, 9] ty #[v, .string s]).run Try.prog w = .ok v' w') (hnil : v' = .slice none 0 0 ↔ v = .slice none 0 0 ∧ s.size = 0) :
    v'.ownBlock = v.ownBlock ∨ v'.ownBlock = some w.heap.size := by
  have hxl : xs.length = n := by simpa using hown.1
  rcases hown.2 with ⟨rfl, rfl⟩ | ⟨g, cap, cur, rfl, hbg, hg, hnc, hcm, hcs, htake⟩
  · by_cases hm : s.size = 0
    · rw [hnil.2 ⟨rfl, hm⟩]
      exact .inl rfl
    · have h2 := run_append_nil_string (P := Try.prog) w 32 9 ty 5 i (.int .u8 0) Try.underlying32 Try.underlying9 hi hz s (by omega) (by omega) (by rw [hby]; omega)
      rw [hr] at h2
      injection h2 with h2 _
      rw [h2]
      exact .inr rfl
  · by_cases hroom : n + s.size ≤ cap
    · have h2 := Lib.run_append_room_string (P := Try.prog) w 32 9 ty 5 i Try.underlying32 Try.underlying9 hi hs1 g n cap cur hg s hroom (by rw [hcs]; omega)
      rw [hr] at h2
      injection h2 with h2 _
      rw [h2]
      exact .inl rfl
    · have h2 := Lib.run_append_grow_string (P := Try.prog) w 32 9 ty 5 i (.int .u8 0) Try.underlying32 Try.underlying9 hi hz ⟨g, 0, none⟩ n cap xs (by rw [hs1]; simpa using hxl) (hown.cells (g := g) rfl) s (by omega) (by omega) (by rw [hby]; exact growslice_fits (by omega) (by omega))
      rw [hr] at h2
      injection h2 with h2 _
      rw [h2]
      exact .inr rfl
/-- The append of a text, with the new row's place. -/
theorem wp_app {w : World} {ops : Array Oper} {rest : List Oper} {o : Oper} {a : Act} {Q : Exit → Act → World → Prop} (hgd : o.guard = none) (sl x : Operand)
    (ho : o.op = .call { callee := .builtin .append, args := #[sl, x], argTypes := #[32, 9] }) (B : Nat) (v : Value) (l : List UInt8) (hs : a.eval sl = v) (hown : By w B v l) (s : ByteArray) (hx : a.eval x = .string s) (hn : l.length + s.size ≤ 100000000000000) (hB : B ≤ w.heap.size)
    (h : ∀ v' w', By w' B v' (l ++ s.data.toList) → w.grownBy w' v.ownBlock → (v'.ownBlock = v.ownBlock ∨ v'.ownBlock = some w.heap.size) → wpList Try.prog ops Q rest (a.put o.dst v') w') : wpList Try.prog ops Q (o :: rest) a w := by
  obtain ⟨i0, hi, hz0, hz1, hz2⟩ := info_parts info5
  refine wpList_plain hgd fun K hK => ?_
  obtain ⟨v', w', hr, h2, h3, h4⟩ := Lib.run_append_own_string (P := Try.prog) w B 32 9 o.type 5 i0 Try.underlying32 Try.underlying9 hi hz0 hz1 hz2 v l.length (l.map bv) hown s (by unfold maxLen; omega) (by omega) hB
  have hb := app_block hi hz0 hz1 hz2 hown hn hr h4
  unfold Oper.wp
  simp [execOp, ho, resolve, invoke, builtin, hs, hx, hr, Result.andThen]
  exact hK _ _ (h v' w' (By.more h2) h3 hb)

theorem vs_l (n : Nat) : (vs n).data.toList = vb n := vs_list n
set_option maxRecDepth 100000 in
theorem appNum_any (v : Value) (l : List UInt8) (n B : Nat) (w : World) (h : By w B v l) (hB : B ≤ w.heap.size) (hl : l.length ≤ 10000000000000) (hn : n ≤ 4611686018427387904) :
    Calls Try.prog 14 #[v, .int .i64 (n : Int)] w fun e w' => ∃ v', e = .returned v' ∧ By w' B v' (l ++ vb n) ∧ Below B w w' ∧ (v'.ownBlock = v.ownBlock ∨ ∃ k, v'.ownBlock = some k ∧ w.heap.size ≤ k) ∧ ∀ k, k < w.heap.size → some k ≠ v.ownBlock → w'.heap[k]? = w.heap[k]? := by
  obtain ⟨i0, hi, hz0, hz1, hz2⟩ := info_parts info5
  have cp := putUint_any (n : Int) w (by omega) (by omega)
  have hus : us (n : Int) = vs n := by unfold us; rw [if_neg (by omega)]; rfl
  have hue : ue (n : Int) = 0 := by unfold ue; rw [if_neg (by omega)]
  rw [hus, hue] at cp
  have hvl : (vs n).size ≤ 10 := vs_le (by omega)
  have hvs := vs_l n
  generalize vs n = X at cp hvl hvs
  have HVS := Lib.hid hvs
  clear hus hue hvs
  go_enter Try.func14, Try.ntmps14
  go_wp2_with fail
  go_at_call 24
  refine cp.mono ?_
  rintro e w1 ⟨rfl, hb1⟩
  have h1 := h.kept hb1
  have hs1 : B ≤ w1.heap.size := Nat.le_trans hB hb1.size
  have k3 : l.length + X.size ≤ 100000000000000 := by omega
  clear cp
  go_wp2_with (at_builtin; refine wp_app rfl _ _ rfl B _ l rfl h1 _ rfl k3 hs1 ?_)
  intro v' w2 h2 hg2 hbk
  have hB2 : Below B w w2 := (hb1.mono hB).grown hg2 hs1 (fun k hk => (h1.lt k hk).1)
  have hO : By w2 B v' (l ++ vb n) := by rw [← HVS.out]; exact h2
  have hk2 : v'.ownBlock = v.ownBlock ∨ ∃ k, v'.ownBlock = some k ∧ w.heap.size ≤ k := hbk.imp id (fun e => ⟨_, e, hb1.size⟩)
  have hall : ∀ k, k < w.heap.size → some k ≠ v.ownBlock → w2.heap[k]? = w.heap[k]? := fun k hk hne => (hg2.block k (Nat.lt_of_lt_of_le hk hb1.size) hne).trans (hb1.block k hk)
  have HK2 := Lib.hid hk2
  have HALL := Lib.hid hall
  clear h2 hg2 hbk hk2 hall
  go_wp2_with fail
  go_ret
  exact ⟨_, rfl, hO, hB2, HK2.out, HALL.out⟩

set_option maxRecDepth 100000 in
theorem appCop_any (i n : Nat) (w : World) (hi : i ≤ 4611686018427387904) (hn : n ≤ 2000000000000000000) :
    Calls Try.prog 16 #[.slice none 0 0, .int .i64 (i : Int), .int .i64 (n : Int)] w fun e w' => ∃ v', e = .returned v' ∧ By w' w.heap.size v' (cop i n) ∧ Below w.heap.size w w' := by
  have c1 := appNum_any (.slice none 0 0) [] (2 * n + 1) w.heap.size w (By.nil _ _) (Nat.le_refl _) (Nat.zero_le _) (by omega)
  have e1 : ((2 * n + 1 : Nat) : Int) = 2 * (n : Int) + 1 := by omega
  rw [List.nil_append, e1] at c1
  have hv1 : (vb (2 * n + 1)).length ≤ 10 := vb_len (by omega)
  have c2 := fun v W (h : By W w.heap.size v (vb (2 * n + 1))) (hB : w.heap.size ≤ W.heap.size) => appNum_any v _ i w.heap.size W h hB (by omega) hi
  unfold cop
  generalize vb (2 * n + 1) = X at c1 c2 ⊢
  clear hv1 e1
  go_enter Try.func16, Try.ntmps16
  go_wp2_with fail
  go_at_call 14
  refine c1.mono ?_
  rintro e w1 ⟨v1, rfl, h1, hb1, _, _⟩
  have c3 := c2 v1 w1 h1 hb1.size
  clear c1 c2
  go_wp2_with fail
  go_at_call 14
  refine c3.mono ?_
  rintro e w2 ⟨v2, rfl, h2, hb2, _, _⟩
  have hb3 := hb1.trans hb2
  go_wp2_with fail
  go_ret
  exact ⟨_, rfl, h2, hb3⟩

set_option maxRecDepth 100000 in
theorem appPut_any (v : Value) (l : List UInt8) (s : ByteArray) (B : Nat) (w : World) (h : By w B v l) (hB : B ≤ w.heap.size) (hl : l.length ≤ 9000000000000) (hs : s.size ≤ 1000000000000) :
    Calls Try.prog 17 #[v, .string s] w fun e w' => ∃ v', e = .returned v' ∧ By w' B v' (l ++ Dm.put s.data.toList) ∧ Below B w w' ∧ ∀ k, k < w.heap.size → some k ≠ v.ownBlock → w'.heap[k]? = w.heap[k]? := by
  obtain ⟨i0, hi, hz0, hz1, hz2⟩ := info_parts info5
  by_cases h0 : s.size = 0
  · have hem : s.toList.isEmpty = true := isEmpty_is (decide_eq_true h0)
    have hp : l ++ Dm.put s.data.toList = l := by unfold Dm.put; rw [if_pos (empty_is h0), List.append_nil]
    rw [hp]
    clear hp h0
    go_enter Try.func17, Try.ntmps17
    go_wp2_with fail
    go_ret
    exact ⟨_, rfl, h, Below.refl _ _, fun _ _ _ => rfl⟩
  · have hem : s.toList.isEmpty = false := isEmpty_is (decide_eq_false h0)
    have hne : s.data.toList ≠ [] := fun e => h0 (by rw [← Wm.len_l, e]; rfl)
    have c1 := appNum_any v l (2 * s.size) B w h hB (by omega) (by omega)
    have e1 : ((2 * s.size : Nat) : Int) = 2 * (s.size : Int) := by omega
    have hv1 : (vb (2 * s.size)).length ≤ 10 := vb_len (by omega)
    have hp : l ++ Dm.put s.data.toList = (l ++ vb (2 * s.size)) ++ s.data.toList := by unfold Dm.put; rw [if_neg hne, Wm.len_l, List.append_assoc]
    rw [e1] at c1
    rw [hp]
    have hl2 : (l ++ vb (2 * s.size)).length ≤ 9000000000010 := by rw [List.length_append]; omega
    generalize l ++ vb (2 * s.size) = X at c1 hl2 ⊢
    clear hp hv1 e1 hne
    go_enter Try.func17, Try.ntmps17
    go_wp2_with fail
    go_at_call 14
    refine c1.mono ?_
    rintro e w1 ⟨v1, rfl, h1, hb1, hk1, ha1⟩
    have hs1 : B ≤ w1.heap.size := Nat.le_trans hB hb1.size
    have HK1 := Lib.hid hk1
    have HA1 := Lib.hid ha1
    have k3 : X.length + s.size ≤ 100000000000000 := by omega
    clear c1 hk1 ha1
    go_wp2_with (at_builtin; refine wp_app rfl _ _ rfl B _ X rfl h1 _ rfl k3 hs1 ?_)
    intro v' w2 h2 hg2 hbk
    have hB2 : Below B w w2 := hb1.grown hg2 hs1 (fun k hk => (h1.lt k hk).1)
    have hall : ∀ k, k < w.heap.size → some k ≠ v.ownBlock → w2.heap[k]? = w.heap[k]? := fun k hk hne => (hg2.block k (Nat.lt_of_lt_of_le hk hb1.size) (fun e => by
      rcases HK1.out with h | ⟨q, h, hq⟩
      · exact hne (e.trans h)
      · rw [h] at e; injection e with e; omega)).trans (HA1.out k hk hne)
    have HALL := Lib.hid hall
    clear hg2 hbk hall
    go_wp2_with fail
    go_ret
    exact ⟨_, rfl, h2, hB2, HALL.out⟩
end Go.Proofs.Ytpfgijmhoenpkaa.Dl
