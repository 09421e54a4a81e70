/- Texts of this seat, one behind the other. -/
import Derived.Test.YtcbnpdognadilaaQ1
import Derived.RegionTactic
import Derived.BigRegion
import Derived.Deep.CutRange
import Derived.StillTailTactics
import Derived.Shelf.Sort.Plain
import Derived.Test.YtcbnpdognadilaaProg
import Derived.Lib.OwnBridge
import Derived.Shelf.Slices.In.SortNone
import Derived.Sort.OwnSorted
import Derived.Deep.QuietTactic
import Derived.BigQuiet
/- Package disk's calls that look at one path: volume, mustBeFile, inFolder, Kind, Stamp, Steps, Down. -/
namespace Go.Proofs.Ytcbnpdognadilaa.Dk
open Go.RowKit Tx Pm Pl Pr
set_option linter.unusedVariables false

theorem vol_cut (p : ByteArray) : vol p = tb (cutA p.data.toList) := by
  unfold vol
  rw [spl_cut]
  rfl
theorem below_drewN (w : World) (n : Nat) : Below w.heap.size w (w.drewN n) := by
  induction n with
  | zero => exact Below.refl _ _
  | succ n ih => exact ih.drew
set_option maxRecDepth 100000 in
theorem iVol_any (p : ByteArray) (w : World) (hp : p.size ≤ 8000000000000) :
    Calls Try.prog 44 #[.string p] w fun e w' => e = .returned (.string (vol p)) ∧ ∃ n, w' = w.drewN n := by
  have c1 := fun W => cut_any p W (by omega)
  rw [vol_cut]
  go_enter Try.func44, Try.ntmps44
  go_wp2_with (go_at_call 56; refine (c1 _).mono ?_; rintro e w' ⟨rfl, n, rfl⟩)
  go_ret
  exact ⟨rfl, _, rfl⟩
/-- What is wrong, if no file stands there. -/
def mbf (L : List It) (p : ByteArray) : Nat := if kind L p = 0 then 11 else if kind L p = 1 then 12 else 0
theorem fld0 (k : Int) (s t : ByteArray) (st n : Int) (w : World) : (Instr.field 48 (.agg #[.int .i64 k, .string s, .string t, .int .i64 st, .int .i64 n]) 0).run Try.prog w = .ok (.int .i64 k) w := by kernel_rfl
theorem fld1 (k : Int) (s t : ByteArray) (st n : Int) (w : World) : (Instr.field 48 (.agg #[.int .i64 k, .string s, .string t, .int .i64 st, .int .i64 n]) 1).run Try.prog w = .ok (.string s) w := by kernel_rfl
theorem fld2 (k : Int) (s t : ByteArray) (st n : Int) (w : World) : (Instr.field 48 (.agg #[.int .i64 k, .string s, .string t, .int .i64 st, .int .i64 n]) 2).run Try.prog w = .ok (.string t) w := by kernel_rfl
theorem fld4 (k : Int) (s t : ByteArray) (st n : Int) (w : World) : (Instr.field 48 (.agg #[.int .i64 k, .string s, .string t, .int .i64 st, .int .i64 n]) 4).run Try.prog w = .ok (.int .i64 n) w := by kernel_rfl
theorem kind_lit (L : List It) (p : ByteArray) : ∃ K : Int, K = (kind L p : Nat) ∧ ((K = 0 ∧ kind L p = 0) ∨ (K = 1 ∧ kind L p = 1) ∨ (K = 2 ∧ kind L p = 2)) := by
  rcases kind_le L p with h | h | h <;> exact ⟨_, rfl, by omega⟩
set_option maxRecDepth 100000 in
theorem iMbf_any (b bi bl : Nat) (l : Int) (s : St) (p : ByteArray) (w : World) (h : Ia b bi bl l w s) (hp : p.size ≤ 8000000000000) :
    Calls Try.prog 41 #[.pointer (some ⟨b, 0, none⟩), .string p] w fun e w' => e = .returned (.int .i64 (mbf s.L p : Nat)) ∧ w = w' := by
  have hl := h.look (maxLen_of hp)
  obtain ⟨c0, c1, c2, c3, c4, c5⟩ := h.cell
  have f0 := fld0
  unfold mbf
  generalize kind s.L p = K at hl ⊢
  clear h c1 c2 c3 c4 c5
  by_cases h0 : K = 0
  · subst h0
    rw [if_pos rfl]
    go_enter Try.func41, Try.ntmps41
    go_wp2
    go_ret
    exact ⟨rfl, rfl⟩
  · rw [if_neg h0]
    by_cases h1 : K = 1
    · subst h1
      rw [if_pos rfl]
      go_enter Try.func41, Try.ntmps41
      go_wp2
      go_ret
      exact ⟨rfl, rfl⟩
    · rw [if_neg h1]
      have e0 : ((K : Int) == 0) = false := beq_eq_false_iff_ne.2 (by omega)
      have e1 : ((K : Int) == 1) = false := beq_eq_false_iff_ne.2 (by omega)
      clear h0 h1
      go_enter Try.func41, Try.ntmps41
      go_wp2
      go_ret
      exact ⟨rfl, rfl⟩
set_option maxRecDepth 100000 in
theorem iKind_any (b bi bl : Nat) (l : Int) (s : St) (p : ByteArray) (w : World) (h : Ia b bi bl l w s) (hp : p.size ≤ 8000000000000) :
    Calls Try.prog 24 #[.pointer (some ⟨b, 0, none⟩), .string p] w fun e w' => e = .returned (.int .i64 (kind s.L p : Nat)) ∧ w = w' := by
  have hl := h.look (maxLen_of hp)
  obtain ⟨c0, c1, c2, c3, c4, c5⟩ := h.cell
  have f0 := fld0
  generalize kind s.L p = K at hl ⊢
  clear h c1 c2 c3 c4 c5
  go_enter Try.func24, Try.ntmps24
  go_wp2
  go_ret
  exact ⟨rfl, rfl⟩
theorem stamp_old (s : St) (p : ByteArray) : stampS s p = (old s.L p).stamp := by
  unfold stampS old
  cases find s.L p <;> rfl
set_option maxRecDepth 100000 in
theorem iStamp_any (b bi bl : Nat) (l : Int) (s : St) (p : ByteArray) (w : World) (h : Ia b bi bl l w s) (hp : p.size ≤ 8000000000000) :
    Calls Try.prog 26 #[.pointer (some ⟨b, 0, none⟩), .string p] w fun e w' => e = .returned (.int .i64 (stampS s p : Nat)) ∧ w = w' := by
  have hl := h.look (maxLen_of hp)
  obtain ⟨c0, c1, c2, c3, c4, c5⟩ := h.cell
  have f0 := fld4
  rw [stamp_old]
  generalize (old s.L p).stamp = N at hl ⊢
  clear h c1 c2 c3 c4 c5
  go_enter Try.func26, Try.ntmps26
  go_wp2
  go_ret
  exact ⟨rfl, rfl⟩
set_option maxRecDepth 100000 in
theorem iSteps_any (b bi bl : Nat) (l : Int) (s : St) (w : World) (h : Ia b bi bl l w s) :
    Calls Try.prog 18 #[.pointer (some ⟨b, 0, none⟩)] w fun e w' => e = .returned (.int .i64 (s.steps : Nat)) ∧ w = w' := by
  obtain ⟨c0, c1, c2, c3, c4, c5⟩ := h.cell
  clear h c0 c1 c2 c4 c5
  go_enter Try.func18, Try.ntmps18
  go_wp2
  go_ret
  exact ⟨rfl, rfl⟩
set_option maxRecDepth 100000 in
theorem iDown_any (b bi bl : Nat) (l : Int) (s : St) (w : World) (h : Ia b bi bl l w s) :
    Calls Try.prog 16 #[.pointer (some ⟨b, 0, none⟩)] w fun e w' => e = .returned (.bool s.down) ∧ w = w' := by
  obtain ⟨c0, c1, c2, c3, c4, c5⟩ := h.cell
  clear h c0 c1 c2 c3 c4
  go_enter Try.func16, Try.ntmps16
  go_wp2
  go_ret
  exact ⟨rfl, rfl⟩
theorem tb_nil {l : List UInt8} (h : l = []) : tb l = ⟨#[]⟩ := by rw [h]; rfl
theorem tb_ne {l : List UInt8} (h : l ≠ []) : tb l ≠ ⟨#[]⟩ := fun e => h (by
  have := congrArg (fun x : ByteArray => x.data.toList) e
  simpa [tb] using this)
theorem par_len (l : List UInt8) : (tb (par l)).size ≤ l.length := by
  unfold par
  simp [tb, ByteArray.size]
  exact Nat.min_le_right _ _
set_option maxRecDepth 100000 in
theorem iHome_any (b bi bl : Nat) (l : Int) (s : St) (p : ByteArray) (w : World) (h : Ia b bi bl l w s) (hp : p.size ≤ 8000000000000) :
    Calls Try.prog 52 #[.pointer (some ⟨b, 0, none⟩), .string p] w fun e w' => e = .returned (.bool (home s.L p)) ∧ Below w.heap.size w w' := by
  have cp := pParent_any p w (by omega)
  have hq := par_len p.data.toList
  rw [len_l] at hq
  have hl := fun W (hW : Below w.heap.size w W) => (h.below hW).look (p := tb (par p.data.toList)) (maxLen_of (by omega))
  have hc := fun W (hW : Below w.heap.size w W) => (h.below hW).cell.1
  have f0 := fld0
  unfold home
  by_cases h0 : par p.data.toList = []
  · have e0 : (tb (par p.data.toList)).toList.isEmpty = true := is_empty (tb_nil h0)
    rw [tb_nil h0] at cp
    have e1 : (decide (par p.data.toList = []) || decide (kind s.L (tb (par p.data.toList)) = 1)) = true := by simp [h0]
    rw [e1]
    clear hl hc h e0 e1 h0 hq
    go_enter Try.func52, Try.ntmps52
    go_wp2_with (go_at_call 50; refine cp.mono ?_; rintro e w1 ⟨rfl, hb⟩)
    go_ret
    exact ⟨rfl, hb⟩
  · have e0 : (tb (par p.data.toList)).toList.isEmpty = false := not_empty (tb_ne h0)
    have e1 : (decide (par p.data.toList = []) || decide (kind s.L (tb (par p.data.toList)) = 1)) = decide (kind s.L (tb (par p.data.toList)) = 1) := by simp [h0]
    rw [e1]
    clear e1 h0 hq h
    generalize tb (par p.data.toList) = q at hl hc cp e0 ⊢
    generalize kind s.L q = K at hl ⊢
    have HL := Lib.hid hl
    have HC := Lib.hid hc
    clear hl hc
    by_cases h1 : K = 1
    · subst h1
      go_enter Try.func52, Try.ntmps52
      go_wp2_with (go_at_call 50; refine cp.mono ?_; rintro e w1 ⟨rfl, hb⟩; have c0 := HC.out _ hb; have l0 := HL.out _ hb)
      go_ret
      exact ⟨rfl, hb⟩
    · have e2 : ((K : Int) == 1) = false := beq_eq_false_iff_ne.2 (by omega)
      have e3 : decide (K = 1) = false := decide_eq_false h1
      rw [e3]
      clear h1 e3
      go_enter Try.func52, Try.ntmps52
      go_wp2_with (go_at_call 50; refine cp.mono ?_; rintro e w1 ⟨rfl, hb⟩; have c0 := HC.out _ hb; have l0 := HL.out _ hb)
      go_ret
      exact ⟨rfl, hb⟩
end Go.Proofs.Ytcbnpdognadilaa.Dk

/- Going through package disk's items in whatever order: what has come, as a list; the step of the range. -/
namespace Go.Proofs.Ytcbnpdognadilaa.Dk
open Go.RowKit Tx Pm
set_option linter.unusedVariables false

/-- The items that have come. -/
def came (L : List It) (left : Lit → Bool) : List It := L.filter (fun y => !left (kL y.path))
/-- Who is left behind the item at p. -/
def less (left : Lit → Bool) (p : ByteArray) : Lit → Bool := fun z => left z && !z.sameKey (kL p)
theorem less_same (left : Lit → Bool) (p : ByteArray) : less left p (kL p) = false := by
  unfold less
  rw [WideAt.sameKey_self (kL_key p)]
  simp
theorem less_other (left : Lit → Bool) {p q : ByteArray} (h : q ≠ p) : less left p (kL q) = left (kL q) := by
  unfold less
  rw [Go.Maps.sameKey_ne (fun e => h (kL_inj e))]
  simp
theorem came_step {left : Lit → Bool} {x : It} (hl : left (kL x.path) = true) : ∀ {L : List It}, Rises L → x ∈ L → (came L (less left x.path)).Perm (x :: came L left)
  | [], _, hx => by cases hx
  | y :: L, hr, hx => by
    obtain ⟨h1, h2⟩ := List.pairwise_cons.1 hr
    by_cases he : y.path = x.path
    · have hyx : x = y := by
        rcases List.mem_cons.1 hx with h | h
        · exact h
        · have := h1 x h
          rw [he, less_irrefl] at this
          cases this
      subst hyx
      have e1 : came L (less left x.path) = came L left := by
        unfold came
        refine List.filter_congr (fun z hz => ?_)
        rw [less_other left (fun e => by have := h1 z hz; rw [e, less_irrefl] at this; cases this)]
      have e2 : came (x :: L) (less left x.path) = x :: came L (less left x.path) := by
        unfold came
        rw [List.filter_cons_of_pos (by rw [less_same]; rfl)]
      have e3 : came (x :: L) left = came L left := by
        unfold came
        rw [List.filter_cons_of_neg (by rw [hl]; simp)]
      rw [e2, e3, e1]
    · have hxL : x ∈ L := by
        rcases List.mem_cons.1 hx with h | h
        · exact absurd (by rw [h]) he
        · exact h
      have ih := came_step hl h2 hxL
      cases hy : left (kL y.path) with
      | true =>
        have e2 : came (y :: L) (less left x.path) = came L (less left x.path) := by
          unfold came
          rw [List.filter_cons_of_neg (by rw [less_other left he, hy]; simp)]
        have e3 : came (y :: L) left = came L left := by
          unfold came
          rw [List.filter_cons_of_neg (by rw [hy]; simp)]
        rw [e2, e3]
        exact ih
      | false =>
        have e2 : came (y :: L) (less left x.path) = y :: came L (less left x.path) := by
          unfold came
          rw [List.filter_cons_of_pos (by rw [less_other left he, hy]; rfl)]
        have e3 : came (y :: L) left = y :: came L left := by
          unfold came
          rw [List.filter_cons_of_pos (by rw [hy]; rfl)]
        rw [e2, e3]
        exact (ih.cons y).trans (List.Perm.swap x y _)
theorem came_start {D : DataW Unit} {L : List It} (h : ReadsI D L) : came L (Go.Maps.has D) = [] := by
  unfold came
  refine List.filter_eq_nil_iff.2 (fun y hy => ?_)
  rw [readsI_has h]
  have : (find L y.path).isSome = true := List.find?_isSome.2 ⟨y, hy, by simp⟩
  rw [this]
  simp
theorem came_end {left : Lit → Bool} (L : List It) (h : ∀ z, left z = false) : came L left = L := by
  unfold came
  exact List.filter_eq_self.2 (fun y hy => by rw [h]; rfl)
theorem came_sub (L : List It) (left : Lit → Bool) : (came L left).Sublist L := List.filter_sublist

theorem key_is {v : ByteArray} {kl : Lit} (h : keyOf Try.prog 9 (.string v) = some kl) : kl = kL v ∧ v.size ≤ maxLen := by
  obtain ⟨s, h1, h2, h3⟩ := Go.WideMaps.string_of_keyOf Try.underlying9 h
  cases h1
  exact ⟨h2, h3⟩
theorem key_string {key : Value} {kl : Lit} (h : keyOf Try.prog 9 key = some kl) : ∃ x : ByteArray, key = .string x := by
  obtain ⟨s, h1, _⟩ := Go.WideMaps.string_of_keyOf Try.underlying9 h
  exact ⟨s, h1⟩
/-- The step of a range over the items. -/
theorem next_items (w : World) {ops : Array Oper} {rest : List Oper} {o : Oper} {a : Act} {Q : Exit → Act → World → Prop} (hg : o.guard = none) (it : Operand) (hop : o.op = Op.next it false) (b r n : Nat) (D : DataW Unit) (left : Lit → Bool) (cnt : Nat) (L : List It)
    (hit : a.eval it = .pointer (some ⟨r, 0, none⟩)) (h : w.ranges Try.prog 9 itemR b r n D left cnt) (hD : ReadsI D L)
    (hDone : (∀ z, left z = false) → wpList Try.prog ops Q rest (a.put o.dst (.tuple #[.bool false])) w)
    (hMore : ∀ (x : It) (w' : World) (cnt' : Nat), x ∈ L → left (kL x.path) = true → w'.ranges Try.prog 9 itemR b r n D (less left x.path) cnt' → cnt' < cnt → w.grownBy w' (some r) → w'.heap.size = w.heap.size →
      (Instr.entry (.pointer (some ⟨r, 0, none⟩))).run Try.prog w' = .ok (.tuple #[.string x.path, .agg #[.int .i64 (kOf x), .string x.data, .string x.kept, .int .i64 (stOf x), .int .i64 x.stamp]]) w' →
      wpList Try.prog ops Q rest (a.put o.dst (.tuple #[.bool true, .string x.path, .agg #[.int .i64 (kOf x), .string x.data, .string x.kept, .int .i64 (stOf x), .int .i64 x.stamp]])) w') :
    wpList Try.prog ops Q (o :: rest) a w := by
  refine wpList_next_ranges w hg it hop 9 strK itemR (Value.string) (fun c : Int × ByteArray × ByteArray × Int × Int => mv c.1 c.2.1 c.2.2.1 c.2.2.2.1 c.2.2.2.2)
    (fun key kl hk => key_string hk) (fun v y hv => by obtain ⟨k, s, t, st, m, rfl, _⟩ := itemR_inv hv; exact ⟨(k, s, t, st, m), rfl⟩)
    b r n D left cnt hit h (fun _ hl => hDone hl) (fun p c kl y w' cnt' hkey hlk hv hat hrg hlt hgr hsz hen => ?_)
  obtain ⟨k, s, t, st, m⟩ := c
  obtain ⟨rfl, hps⟩ := key_is hkey
  have hv : itemR (mv k s t st m) = some y := hv
  rw [itemR_mv] at hv
  injection hv with hv
  subst hv
  have hat : ∀ zd, D.atKey (kL p) zd = dv3 k s t st m := hat
  cases hf : find L p with
  | none =>
    have h1 := hat .nil
    rw [hD p, hf] at h1
    cases h1
  | some x =>
    have h1 := hat .nil
    rw [hD p, hf] at h1
    obtain ⟨rfl, rfl, rfl, rfl, rfl⟩ := dv3_inj h1
    obtain ⟨hm, rfl⟩ := find_mem hf
    exact hMore x w' cnt' hm hlk hrg hlt hgr hsz hen
/-- The items' range begins. -/
theorem range_items (w : World) {ops : Array Oper} {rest : List Oper} {o : Oper} {a : Act} {Q : Exit → Act → World → Prop} (hg : o.guard = none) (m : Operand) (hop : o.op = Op.range 42 m) (b : Nat) (L : List It)
    (hm : a.eval m = .map (some b)) (h : Mp w b L)
    (hK : ∀ (D : DataW Unit) (w' : World), ReadsI D L → w'.ranges Try.prog 9 itemR b w.heap.size L.length D (Go.Maps.has D) (Go.Maps.size D) → w.grownBy w' none → w'.heap.size = w.heap.size + 1 → wpList Try.prog ops Q rest (a.put o.dst (.pointer (some ⟨w.heap.size, 0, none⟩))) w') :
    wpList Try.prog ops Q (o :: rest) a w := by
  obtain ⟨D, ho, hr, _⟩ := h
  exact wpList_range_own w hg m _ hop 9 48 strK Try.underlying42 itemR b L.length D hm ho (fun w' h1 h2 h3 => hK D w' hr h1 h2 h3)
theorem below_grown {W w w' : World} {B r : Nat} (h : Below B W w) (hg : w.grownBy w' (some r)) (hB : B ≤ w.heap.size) (hr : B ≤ r) : Below B W w' := h.grown hg hB (fun j hj => by cases hj; exact hr)
end Go.Proofs.Ytcbnpdognadilaa.Dk

/- Package disk's Used: what all files of a volume have. -/
namespace Go.Proofs.Ytcbnpdognadilaa.Dk
open Go.RowKit Tx Pm
set_option linter.unusedVariables false

theorem ret_int {k : IntKind} {a b : Int} (h : a = b) : Ending.returned (.int k a) = .returned (.int k b) := by rw [h]
theorem used_perm {a b : List It} (h : a.Perm b) (v : ByteArray) : used a v = used b v := (h.map _).sum_nat
theorem used_cons (x : It) (l : List It) (v : ByteArray) : used (x :: l) v = (if vol x.path = v then x.data.size else 0) + used l v := by
  unfold used
  rw [List.map_cons, List.sum_cons]
theorem used_came (L : List It) (left : Lit → Bool) (v : ByteArray) : used (came L left) v ≤ whole L := by
  refine Nat.le_trans (used_le _ v) ?_
  have h := came_sub L left
  generalize came L left = c at h
  induction h with
  | slnil => exact Nat.le_refl _
  | cons x _ ih =>
    unfold whole at *
    rw [List.map_cons, List.sum_cons]
    omega
  | cons_cons x _ ih =>
    unfold whole at *
    rw [List.map_cons, List.sum_cons, List.map_cons, List.sum_cons]
    omega
theorem toList_eq_iff {a b : ByteArray} : a.toList = b.toList ↔ a = b := by
  rw [ByteArray.toList_eq, ByteArray.toList_eq]
  exact ⟨fun h => ByteArray.ext (Array.toList_inj.1 h), fun h => by rw [h]⟩
set_option maxRecDepth 100000 in
set_option maxHeartbeats 1000000 in
theorem iUsed_any (b bi bl : Nat) (l : Int) (s : St) (v : ByteArray) (w : World) (h : Ia b bi bl l w s) (hr : Rises s.L) (hf : Fit s) :
    Calls Try.prog 20 #[.pointer (some ⟨b, 0, none⟩), .string v] w fun e w' => e = .returned (.int .i64 (used s.L v : Nat)) ∧ Below w.heap.size w w' := by
  have hw := hf.2.2
  have hpp := hf.2.1
  have hub := fun left => used_came s.L left v
  obtain ⟨c0, _⟩ := h.cell
  have hm := h.items
  go_enter Try.func20, Try.ntmps20
  go_wp2_with (at_range; refine range_items _ rfl _ rfl bi s.L rfl hm ?_; intro D w0 hD hrg0 hg0 hs0)
  go_frame
  have HD := Lib.hid hD
  have HR := Lib.hid hr
  have HP := Lib.hid hpp
  have HU := Lib.hid hub
  have hsm : w.heap.size < w0.heap.size := by omega
  have HS := Lib.hid hs0
  clear hD hr hpp hub hs0
  go_loopw [5] (fun u wr => ∃ (left : Lit → Bool) (cnt T : Nat), wr.ranges Try.prog 9 itemR bi w.heap.size s.L.length D left cnt ∧ u = .int .i64 (T : Nat) ∧ Hid (T = used (came s.L left) v) ∧ Below w.heap.size w wr ∧ w.heap.size < wr.heap.size) (fun _ wr => wr.rangeLeft bi w.heap.size)
  case atStart => exact ⟨_, _, 0, hrg0, rfl, by show 0 = _; rw [came_start HD.out]; rfl, (Below.refl _ _).grown hg0 (Nat.le_refl _) (fun j hj => by cases hj), hsm⟩
  case round =>
    obtain ⟨left, cnt, T, hrg, rfl, hT, hbr, hlt⟩ := hrel
    go_wp2_with (at_next; refine next_items _ rfl _ rfl bi w.heap.size s.L.length D left cnt s.L rfl hrg HD.out ?_ ?_)
    · intro hl
      have hT' := hT.out
      rw [came_end s.L hl] at hT'
      have HT := Lib.hid hT'
      clear hl hT hT' hrg h
      go_wp2
      go_ret
      exact ⟨ret_int (by rw [HT.out]), hbr⟩
    · intro x w1 cnt1 hx hlx hrg1 hlt1 hg1 hs1 hen
      have hxp := HP.out x hx
      have hU1 := HU.out (less left x.path)
      have hst := used_perm (came_step hlx HR.out hx) v
      rw [used_cons, ← hT.out] at hst
      have hme : w1.rangeLeft bi w.heap.size < wr.rangeLeft bi w.heap.size := by rw [hrg1.left_eq, hrg.left_eq]; exact hlt1
      have hb1 : Below w.heap.size w w1 := below_grown hbr hg1 (Nat.le_of_lt hlt) (Nat.le_refl _)
      have hs2 : w.heap.size < w1.heap.size := by omega
      have hrg2 := hrg1.alloc (.cells #[.int .i64 (kOf x), .string x.data, .string x.kept, .int .i64 (stOf x), .int .i64 x.stamp] 48)
      have cv := fun W => iVol_any x.path W hxp
      have HME := Lib.hid hme
      clear hlx hs1 hx hme hrg hlt1 hT h hg1
      generalize less left x.path = left1 at hst hU1 hrg1 hrg2
      obtain ⟨V, hV⟩ : ∃ V, V = vol x.path := ⟨_, rfl⟩
      rw [← hV] at hst cv
      clear hV
      by_cases hvv : V = v
      · have e1 : (V.toList == v.toList) = true := by rw [hvv]; exact beq_self_eq_true _
        rw [if_pos hvv] at hst
        have hle : T + x.data.size ≤ 4000000000000000000 := by omega
        have HST := Lib.hid hst
        clear hst hvv hU1
        go_wp2_with (go_at_call 44; refine (cv _).mono ?_; rintro e w3 ⟨rfl, n3, rfl⟩)
        go_roundw
        case rel => exact ⟨left1, cnt1, T + x.data.size, hrg2, by go_num, (HST.out.trans (Nat.add_comm _ _)).symm, (hb1.alloc (Nat.le_of_lt hs2) _).trans (below_drewN _ _ |>.mono (by simp; omega)), by simp; omega⟩
        case measure => have e : (w1.alloc (.cells #[.int .i64 (kOf x), .string x.data, .string x.kept, .int .i64 (stOf x), .int .i64 x.stamp] 48)).rangeLeft bi w.heap.size = w1.rangeLeft bi w.heap.size := by rw [hrg2.left_eq, hrg1.left_eq]
                        show (w1.alloc _).rangeLeft _ _ < _
                        rw [e]
                        exact HME.out
      · have e1 : (V.toList == v.toList) = false := bytes_ne hvv
        rw [if_neg hvv, Nat.zero_add] at hst
        have HST := Lib.hid hst
        clear hst hvv hU1
        go_wp2_with (go_at_call 44; refine (cv _).mono ?_; rintro e w3 ⟨rfl, n3, rfl⟩)
        go_roundw
        case rel => exact ⟨left1, cnt1, T, hrg2, rfl, HST.out.symm, (hb1.alloc (Nat.le_of_lt hs2) _).trans (below_drewN _ _ |>.mono (by simp; omega)), by simp; omega⟩
        case measure => have e : (w1.alloc (.cells #[.int .i64 (kOf x), .string x.data, .string x.kept, .int .i64 (stOf x), .int .i64 x.stamp] 48)).rangeLeft bi w.heap.size = w1.rangeLeft bi w.heap.size := by rw [hrg2.left_eq, hrg1.left_eq]
                        show (w1.alloc _).rangeLeft _ _ < _
                        rw [e]
                        exact HME.out
end Go.Proofs.Ytcbnpdognadilaa.Dk

/- Package disk's isFull and ready. -/
namespace Go.Proofs.Ytcbnpdognadilaa.Dk
open Go.RowKit Tx Pm Pl Pr
set_option linter.unusedVariables false

/-- Whether a volume has no room for so many bytes more. -/
def full (s : St) (v : ByteArray) (more : Int) : Bool := match roomOf s.rooms v with
  | none => false
  | some r => decide (0 < more) && decide (r.n < (used s.L v : Nat) + more)
theorem roomOf_mem {R : List Rm} {v : ByteArray} {r : Rm} (h : roomOf R v = some r) : r ∈ R ∧ r.vol = v := ⟨List.mem_of_find?_eq_some h, by have := List.find?_some h; simpa using this⟩
theorem roomOf_of {R : List Rm} (hv : R.Pairwise (fun r r' => r.vol ≠ r'.vol)) {r : Rm} (hr : r ∈ R) : roomOf R r.vol = some r := by
  unfold roomOf
  induction R with
  | nil => cases hr
  | cons q R ih =>
    obtain ⟨h1, h2⟩ := List.pairwise_cons.1 hv
    rcases List.mem_cons.1 hr with rfl | hr
    · rw [List.find?_cons_of_pos (by simp)]
    · rw [List.find?_cons_of_neg (by simpa using h1 r hr)]
      exact ih h2 hr
theorem fits_full {s : St} (hg : Good s) (p : ByteArray) (more : Int) : fits s p more = !full s (vol p) more := by
  unfold fits full
  by_cases hm : more ≤ 0
  · rw [decide_eq_true hm, Bool.true_or]
    cases roomOf s.rooms (vol p) with
    | none => rfl
    | some r =>
      simp only
      rw [decide_eq_false (by omega), Bool.false_and]
      rfl
  · rw [decide_eq_false hm, Bool.false_or]
    cases hf : roomOf s.rooms (vol p) with
    | none =>
      refine List.all_eq_true.2 (fun r hr => ?_)
      have : r.vol ≠ vol p := fun e => by
        have := roomOf_of hg.vols hr
        rw [e, hf] at this
        cases this
      rw [decide_eq_false this, Bool.false_and]
      rfl
    | some r =>
      obtain ⟨hr, hrv⟩ := roomOf_mem hf
      simp only
      rw [decide_eq_true (show 0 < more by omega), Bool.true_and, Bool.eq_iff_iff, List.all_eq_true]
      constructor
      · intro h
        have := h r hr
        rw [decide_eq_true hrv, Bool.true_and] at this
        simp only [Bool.not_eq_true', decide_eq_false_iff_not] at this ⊢
        omega
      · intro h q hq
        by_cases hqv : q.vol = vol p
        · have h2 := roomOf_of hg.vols hq
          rw [hqv, hf] at h2
          cases h2
          rw [decide_eq_true hrv, Bool.true_and]
          simp only [Bool.not_eq_true', decide_eq_false_iff_not] at h ⊢
          omega
        · rw [decide_eq_false hqv, Bool.false_and]
          rfl
theorem vol_le (p : ByteArray) : (vol p).size ≤ p.size := by
  rw [vol_cut, tb_size]
  have := cutA_le p.data.toList
  rw [len_l] at this
  exact this
set_option maxRecDepth 100000 in
set_option maxHeartbeats 1000000 in
theorem iFull_any (b bi bl : Nat) (l : Int) (s : St) (v : ByteArray) (more : Int) (w : World) (h : Ia b bi bl l w s) (hr : Rises s.L) (hf : Fit s) (hv : v.size ≤ 8000000000000) (hm : -4000000000000000000 ≤ more ∧ more ≤ 4000000000000000000) :
    Calls Try.prog 53 #[.pointer (some ⟨b, 0, none⟩), .string v, .int .i64 more] w fun e w' => e = .returned (.bool (full s v more)) ∧ Below w.heap.size w w' := by
  have hl := h.limits.look (maxLen_of hv)
  have cu := iUsed_any b bi bl l s v w h hr hf
  have hu := Nat.le_trans (used_le s.L v) hf.2.2
  obtain ⟨_, c1, _⟩ := h.cell
  unfold full
  unfold limV at hl
  clear hf hr h
  generalize used s.L v = U at cu hu ⊢
  cases hR : roomOf s.rooms v with
  | none =>
    rw [hR] at hl
    simp only at hl ⊢
    clear hR cu
    go_enter Try.func53, Try.ntmps53
    go_wp2
    go_ret
    exact ⟨rfl, Below.refl _ _⟩
  | some r =>
    rw [hR] at hl
    simp only at hl ⊢
    clear hR
    generalize r.n = N at hl ⊢
    by_cases h0 : 0 < more
    · rw [decide_eq_true h0, Bool.true_and]
      go_enter Try.func53, Try.ntmps53
      go_wp2_with (go_at_call 20; refine cu.mono ?_; rintro e w1 ⟨rfl, hb⟩)
      go_ret
      exact ⟨rfl, hb⟩
    · rw [decide_eq_false h0, Bool.false_and]
      have h0' : more ≤ 0 := by omega
      clear h0 cu
      go_enter Try.func53, Try.ntmps53
      go_wp2
      go_ret
      exact ⟨rfl, Below.refl _ _⟩

/-- A path that isn't taken up. -/
def bad (m : Nat) (p : ByteArray) : Bool := decide (chk p.data.toList 6 ≠ 0) || decide ((spl p.data.toList).length ≤ m)
def rdy (s : St) (m : Nat) (l : List ByteArray) : Nat := if s.down then 14 else if l.any (bad m) then 10 else 0
theorem rdy_one (s : St) (m : Nat) (p : ByteArray) : rdy s m [p] = first s p m := by
  unfold rdy first bad
  rw [List.any_cons, List.any_nil, Bool.or_false]
  cases s.down with
  | true => rfl
  | false =>
    simp only [Bool.false_eq_true, if_false]
    by_cases h : chk p.data.toList 6 ≠ 0 ∨ (spl p.data.toList).length ≤ m
    · rw [if_pos h, if_pos (by simpa [Bool.or_eq_true] using h)]
    · rw [if_neg h, if_neg (by simpa [Bool.or_eq_true] using h)]
theorem rdy_two (s : St) (m : Nat) (p q : ByteArray) : rdy s m [p, q] = if first s p m ≠ 0 then first s p m else first s q m := by
  rw [← rdy_one, ← rdy_one]
  unfold rdy
  rw [List.any_cons, List.any_cons, List.any_cons, List.any_nil]
  cases s.down with
  | true => rfl
  | false => cases bad m p <;> cases bad m q <;> rfl
theorem bad_dep {p : ByteArray} {m : Nat} (h : chk p.data.toList 6 = 0) : bad m p = decide ((dep p.data.toList : Int) < ((m + 1 : Nat) : Int)) := by
  have hp : p.data.toList ≠ [] := fun e => by rw [e] at h; revert h; decide
  have hd : dep p.data.toList = (spl p.data.toList).length := by rw [dep, if_neg hp]
  unfold bad
  rw [h, hd, Bool.eq_iff_iff]
  simp
  omega
set_option maxRecDepth 100000 in
set_option maxHeartbeats 1000000 in
theorem iReady_any (b bi bl g n c m : Nat) (M l : Int) (s : St) (ps : List ByteArray) (w : World) (h : Ia b bi bl l w s) (hn : ps.length = n) (hm : m ≤ 1000) (hM : M = (m : Int) + 1) (hc : ∀ k p, ps[k]? = some p → w.cell? ⟨g, k, none⟩ = some (.string p)) (hg : g < w.heap.size) (hp : ∀ p ∈ ps, p.size ≤ 8000000000000) (hnm : n ≤ 1000) :
    Calls Try.prog 51 #[.pointer (some ⟨b, 0, none⟩), .int .i64 M, .slice (some ⟨g, 0, none⟩) n c] w fun e w' => e = .returned (.int .i64 (rdy s m ps : Nat)) ∧ Below w.heap.size w w' := by
  obtain ⟨c0, c1, c2, c3, c4, c5⟩ := h.cell
  unfold rdy
  clear h c0 c1 c2 c3 c4
  generalize s.down = D at c5 ⊢
  cases D with
  | true =>
    rw [if_pos rfl]
    clear hc hp hn
    go_enter Try.func51, Try.ntmps51
    go_wp2
    go_ret
    exact ⟨rfl, Below.refl _ _⟩
  | false =>
    rw [if_neg (by decide)]
    have HC := Lib.hid hc
    have HP := Lib.hid hp
    have HN := Lib.hid hn
    have HM := Lib.hid hM
    have hM2 : 1 ≤ M ∧ M ≤ 1001 := by omega
    obtain ⟨RES, hRES⟩ : ∃ RES, RES = if ps.any (bad m) = true then 10 else 0 := ⟨_, rfl⟩
    rw [← hRES]
    have HRES := Lib.hid hRES
    clear hc hp hn hM hRES
    go_enter Try.func51, Try.ntmps51
    go_wp2
    go_loopw [19] (fun i wr => ∃ k : Nat, k ≤ n ∧ i = .int .i64 k ∧ Hid ((ps.take k).any (bad m) = false) ∧ Below w.heap.size w wr) (fun i _ => n - (intOf i).toNat)
    case atStart => exact ⟨0, Nat.zero_le _, rfl, by show (ps.take 0).any _ = _; simp, Below.refl _ _⟩
    case round =>
      obtain ⟨k, hk, rfl, hT, hB⟩ := hrel
      by_cases hlt : k < n
      · obtain ⟨p, hx⟩ : ∃ p, ps[k]? = some p := ⟨_, List.getElem?_eq_getElem (by rw [HN.out]; exact hlt)⟩
        have f0 := (hB.cell (p := ⟨g, _, none⟩) hg).trans (HC.out k p hx)
        have hpm := List.mem_of_getElem? hx
        have hps := HP.out p hpm
        have cc := fun W => pCheck_any p 6 W (by omega) (by omega) (by omega)
        have cd := fun W => pDeep_any p W (by omega)
        have hch : chk p.data.toList 6 = 0 ∨ chk p.data.toList 6 = 10 := by unfold chk; split <;> simp
        have htk : (ps.take (k + 1)).any (bad m) = ((ps.take k).any (bad m) || bad m p) := by rw [take_more hx, List.any_append, List.any_cons, List.any_nil, Bool.or_false]
        rw [hT.out, Bool.false_or] at htk
        have hany : bad m p = true → ps.any (bad m) = true := fun hb => List.any_eq_true.2 ⟨p, hpm, hb⟩
        rcases hch with hch | hch
        · have hbd := bad_dep (m := m) hch
          rw [hch] at cc
          have e9 : ((m + 1 : Nat) : Int) = M := by rw [HM.out]; omega
          rw [e9] at hbd
          generalize dep p.data.toList = Dp at cd hbd
          by_cases hd : (Dp : Int) < M
          · rw [decide_eq_true hd] at hbd
            have HA := Lib.hid (hany hbd)
            clear htk hany hbd hch hx hT hpm hps e9
            go_wp2_with (first | (go_at_call 59; refine (cc _).mono ?_; rintro e w1 ⟨rfl, hb1⟩) | (go_at_call 60; refine (cd _).mono ?_; rintro e w2 ⟨rfl, hb2⟩))
            go_ret
            exact ⟨ret_int (by rw [HRES.out, HA.out]; rfl), below_call (below_call hB hb1) hb2⟩
          · rw [decide_eq_false hd] at hbd
            rw [hbd] at htk
            have HT := Lib.hid htk
            have hd' : M ≤ Dp := by omega
            clear htk hany hbd hch hx hT hpm hps hd e9
            go_wp2_with (first | (go_at_call 59; refine (cc _).mono ?_; rintro e w1 ⟨rfl, hb1⟩) | (go_at_call 60; refine (cd _).mono ?_; rintro e w2 ⟨rfl, hb2⟩))
            go_roundw
            case rel => exact ⟨k + 1, by omega, by go_num, HT, below_call (below_call hB hb1) hb2⟩
            case measure => simp [intOf]; omega
        · have hbd : bad m p = true := by unfold bad; rw [hch]; rfl
          rw [hch] at cc
          have HA := Lib.hid (hany hbd)
          clear htk hany hbd hch hx hT hpm hps cd
          go_wp2_with (go_at_call 59; refine (cc _).mono ?_; rintro e w1 ⟨rfl, hb1⟩)
          go_ret
          exact ⟨ret_int (by rw [HRES.out, HA.out]; rfl), below_call hB hb1⟩
      · obtain rfl : k = n := by omega
        have hT' := hT.out
        rw [List.take_of_length_le (by rw [HN.out]; exact Nat.le_refl _)] at hT'
        have HT := Lib.hid hT'
        clear hT hT'
        go_wp2
        go_ret
        exact ⟨ret_int (by rw [HRES.out, HT.out]; rfl), hB⟩
end Go.Proofs.Ytcbnpdognadilaa.Dk

/- More of what a drawn region holds: look-ups in maps, fields of values, closures that are made, structs that are built. -/
namespace Go.Proofs.Ytcbnpdognadilaa.Rg
open Go.RowKit
set_option linter.unusedVariables false
section
variable {P : Program} {ops : Array Oper} {R : Act → World → Prop} {S : World → Prop}
theorem y_look {o : Oper} {a : Act} {T : TypeId} {x y : Operand} {c : Bool} {vx vy v : Value} (ho : o.op = .lookup T x y c) (hx : a.eval x = vx) (hy : a.eval y = vy)
    (hv : ∀ w, S w → (Instr.lookup T vx vy c).run P w = .ok v w) : ∀ w, S w → (execOp a.eval o).run P w = .ok (.value v) w := by
  intro w hw
  obtain ⟨dst, op, ty, pos, after, guard⟩ := o
  simp only at ho
  subst ho
  have := hv w hw
  simp only [execOp, hx, hy, Sem.run_bind]
  rw [this]
  rfl
theorem y_fld {o : Oper} {a : Act} {T : TypeId} {k : Nat} {x : Operand} {vx v : Value} (ho : o.op = .field T x k) (hx : a.eval x = vx)
    (hv : ∀ w, S w → (Instr.field T vx k).run P w = .ok v w) : ∀ w, S w → (execOp a.eval o).run P w = .ok (.value v) w := by
  intro w hw
  obtain ⟨dst, op, ty, pos, after, guard⟩ := o
  simp only at ho
  subst ho
  have := hv w hw
  simp only [execOp, hx, Sem.run_bind]
  rw [this]
  rfl
theorem y_func {o : Oper} {a : Act} {f : Fn} {xs ys : Array Operand} {vs us : Array Value} (ho : o.op = .makeFunc f xs ys) (hx : xs.map a.eval = vs) (hy : ys.map a.eval = us) : ∀ w, S w → (execOp a.eval o).run P w = .ok (.value (.func f vs us)) w := by
  intro w hw
  obtain ⟨dst, op, ty, pos, after, guard⟩ := o
  simp only at ho
  subst ho
  subst hx
  subst hy
  rfl
/-- A look-up, one of those that are ready, in the world at hand. -/
theorem op_look (i : Nat) (d : Option Tmp) {T : TypeId} {x y : Operand} {c : Bool} {vx vy v : Value} {fuel : Nat} {listed : Array Bool} {a : Act} {w : World}
    (hi : decide (i < ops.size) = true) (hd : (opOf ops i).dst = d)
    (hw : Region.wanted (opOf ops i) (yielded ops a.tmps) = true) (ho : (opOf ops i).op = .lookup T x y c) (hx : a.eval x = vx) (hy : a.eval y = vy)
    (hv : (Instr.lookup T vx vy c).run P w = .ok v w) (hS : S w)
    (h : wpAnyH P .any ops (Only R) S fuel (listed.setIfInBounds i true) (a.put d v) w) :
    wpOp P ops (Only R) i (fun a' w' => S w' ∧ wpAnyH P .any ops (Only R) S fuel (listed.setIfInBounds i true) a' w') a w := by
  subst hd
  unfold wpOp
  rw [opOf_some hi]
  simp only [hw, if_true]
  refine .inl ?_
  have he : (execOp a.eval (opOf ops i)).run P w = .ok (.value v) w := y_look (S := fun W => W = w) ho hx hy (fun W hW => by rw [hW]; exact hv) w rfl
  unfold Oper.wp
  rw [he, Oper.upon_value]
  exact ⟨hS, h⟩
end
end Go.Proofs.Ytcbnpdognadilaa.Rg

/- Drawn regions of mayWrite and mayRename, step by step. -/
namespace Go.Proofs.Ytcbnpdognadilaa.Dk
open Go.RowKit Tx Pm Pl Pr
set_option linter.unusedVariables false

set_option maxRecDepth 100000 in
set_option maxHeartbeats 2000000 in
theorem regMayWrite (ops : Array Oper) (hops : ops = (Rg.opsOf Try.f30 8)) (id : Nat) (b bi bl : Nat) (l : Int) (s : St) (p d V X0 X1 : ByteArray) (K X2 X3 : Int) (B : Bool) {u3 u4 u5 u6 u7 u8 u9 u10 u11 u12 u13 u14 u15 u16 u17 u18 u19 u20 u21 u22 u23 u24 u25 u26 u27 u28 u29 u30 u31 u32 u33 u34 u35 u36 u37 u38 u39 u40 u41 u42 u43 u44 : Value} (w : World) (h : Ia b bi bl l w s)
    (hlk : ∀ W, Ia b bi bl l W s → (Instr.lookup 42 (.map (some bi)) (.string p) false).run Try.prog W = .ok (.agg #[.int .i64 K, .string X0, .string X1, .int .i64 X2, .int .i64 X3]) W)
    (hsub : IntKind.i64.wrap ((d.size : Int) - (X0.size : Int)) = (d.size : Int) - (X0.size : Int))
    (cv : ∀ W, Calls Try.prog 44 #[.string p] W fun e w' => e = .returned (.string V) ∧ ∃ n, w' = W.drewN n)
    (cf : ∀ W, Ia b bi bl l W s → Calls Try.prog 53 #[.pointer (some ⟨b, 0, none⟩), .string V, .int .i64 ((d.size : Int) - (X0.size : Int))] W fun e w' => e = .returned (.bool B) ∧ Below W.heap.size W w') :
    (Code.region id ops true).wp Try.prog (Rg.Only fun a' w' => a' = ⟨#[(.pointer (some ⟨b, 0, none⟩)), (.string p), (.string d), u3, u4, u5, u6, u7, u8, u9, u10, u11, u12, u13, u14, u15, u16, u17, u18, u19, u20, u21, u22, u23, u24, u25, u26, u27, u28, (.bool B), (.pointer (some ⟨b, 0, none⟩)), (.string p), (.string V), (.string d), (.int .i64 (d.size : Int)), (.pointer (some ⟨b, 0, none⟩)), (.pointer (some ⟨b, 0, none⟩)), (.pointer (some ⟨b, 0, none⟩)), (.map (some bi)), (.string p), (.agg #[.int .i64 K, .string X0, .string X1, .int .i64 X2, .int .i64 X3]), (.string X0), (.int .i64 (X0.size : Int)), (.int .i64 ((d.size : Int) - (X0.size : Int))), (.bool B)], []⟩ ∧ Below w.heap.size w w') ⟨#[(.pointer (some ⟨b, 0, none⟩)), (.string p), (.string d), u3, u4, u5, u6, u7, u8, u9, u10, u11, u12, u13, u14, u15, u16, u17, u18, u19, u20, u21, u22, u23, u24, u25, u26, u27, u28, u29, u30, u31, u32, u33, u34, u35, u36, u37, u38, u39, u40, u41, u42, u43, u44], []⟩ w := by
  subst hops
  have hNS : Region.noSelect (Rg.opsOf Try.f30 8) = true := by kernel_rfl
  have h0 : Ia b bi bl l w.drew s ∧ Below w.heap.size w w.drew := ⟨h.below (Below.refl _ _).drew, (Below.refl _ _).drew⟩
  refine wp_region_held_drew (S := fun W => Ia b bi bl l W s ∧ Below w.heap.size w W) (by kernel_rfl) h0 (fun hHeld => ?_)
  rw [show (Rg.opsOf Try.f30 8).size = 16 by kernel_rfl]
  refine Rg.take (ops := (Rg.opsOf Try.f30 8)) 0 (some 30) ((.pointer (some ⟨b, 0, none⟩))) hNS (by kernel_rfl) (by kernel_rfl) (by kernel_rfl) (by kernel_rfl) (by kernel_rfl) hHeld (Rg.y_move (x := (Operand.tmp 0)) (Or.inl (by kernel_rfl)) (by kernel_rfl)) ?_
  refine Rg.take (ops := (Rg.opsOf Try.f30 8)) 1 (some 31) ((.string p)) hNS (by kernel_rfl) (by kernel_rfl) (by kernel_rfl) (by kernel_rfl) (by kernel_rfl) hHeld (Rg.y_move (x := (Operand.tmp 1)) (Or.inl (by kernel_rfl)) (by kernel_rfl)) ?_
  refine Rg.take (ops := (Rg.opsOf Try.f30 8)) 3 (some 33) ((.string d)) hNS (by kernel_rfl) (by kernel_rfl) (by kernel_rfl) (by kernel_rfl) (by kernel_rfl) hHeld (Rg.y_move (x := (Operand.tmp 2)) (Or.inl (by kernel_rfl)) (by kernel_rfl)) ?_
  refine Rg.take (ops := (Rg.opsOf Try.f30 8)) 4 (some 34) ((.int .i64 (d.size : Int))) hNS (by kernel_rfl) (by kernel_rfl) (by kernel_rfl) (by kernel_rfl) (by kernel_rfl) hHeld (Rg.y_len (x := (Operand.tmp 33)) (ats := #[9]) (vx := (.string d)) (n := d.size) (by kernel_rfl) (by kernel_rfl) ?_) ?_
  · (intro ty w hSw; go_simp)
  refine Rg.take (ops := (Rg.opsOf Try.f30 8)) 5 (some 35) ((.pointer (some ⟨b, 0, none⟩))) hNS (by kernel_rfl) (by kernel_rfl) (by kernel_rfl) (by kernel_rfl) (by kernel_rfl) hHeld (Rg.y_move (x := (Operand.tmp 0)) (Or.inl (by kernel_rfl)) (by kernel_rfl)) ?_
  refine Rg.take (ops := (Rg.opsOf Try.f30 8)) 6 (some 36) ((.pointer (some ⟨b, 0, none⟩))) hNS (by kernel_rfl) (by kernel_rfl) (by kernel_rfl) (by kernel_rfl) (by kernel_rfl) hHeld (Rg.y_nil (x := (Operand.tmp 35)) (by kernel_rfl) (by kernel_rfl)) ?_
  refine Rg.take (ops := (Rg.opsOf Try.f30 8)) 7 (some 37) ((.pointer (some ⟨b, 0, none⟩))) hNS (by kernel_rfl) (by kernel_rfl) (by kernel_rfl) (by kernel_rfl) (by kernel_rfl) hHeld (Rg.y_field (T := 45) (k := 0) (x := (Operand.tmp 36)) (vx := (.pointer (some ⟨b, 0, none⟩))) (by kernel_rfl) (by kernel_rfl) ?_) ?_
  · (intro w hSw; clear hSw; go_simp)
  refine Rg.take (ops := (Rg.opsOf Try.f30 8)) 8 (some 38) ((.map (some bi))) hNS (by kernel_rfl) (by kernel_rfl) (by kernel_rfl) (by kernel_rfl) (by kernel_rfl) hHeld (Rg.y_load (T := 42) (x := (Operand.tmp 37)) (vx := (.pointer (some ⟨b, 0, none⟩))) (by kernel_rfl) (by kernel_rfl) ?_) ?_
  · (intro w hSw; have c0 := hSw.1.cell.1; clear hSw; go_simp)
  refine Rg.take (ops := (Rg.opsOf Try.f30 8)) 9 (some 39) ((.string p)) hNS (by kernel_rfl) (by kernel_rfl) (by kernel_rfl) (by kernel_rfl) (by kernel_rfl) hHeld (Rg.y_move (x := (Operand.tmp 1)) (Or.inl (by kernel_rfl)) (by kernel_rfl)) ?_
  refine Rg.take (ops := (Rg.opsOf Try.f30 8)) 10 (some 40) ((.agg #[.int .i64 K, .string X0, .string X1, .int .i64 X2, .int .i64 X3])) hNS (by kernel_rfl) (by kernel_rfl) (by kernel_rfl) (by kernel_rfl) (by kernel_rfl) hHeld (Rg.y_look (T := 42) (x := (Operand.tmp 38)) (y := (Operand.tmp 39)) (c := false) (vx := (.map (some bi))) (vy := (.string p)) (by kernel_rfl) (by kernel_rfl) (by kernel_rfl) ?_) ?_
  · (intro w hSw; exact hlk _ hSw.1)
  refine Rg.take (ops := (Rg.opsOf Try.f30 8)) 11 (some 41) ((.string X0)) hNS (by kernel_rfl) (by kernel_rfl) (by kernel_rfl) (by kernel_rfl) (by kernel_rfl) hHeld (Rg.y_fld (T := 48) (k := 1) (x := (Operand.tmp 40)) (vx := (.agg #[.int .i64 K, .string X0, .string X1, .int .i64 X2, .int .i64 X3])) (by kernel_rfl) (by kernel_rfl) ?_) ?_
  · (intro w hSw; exact fld1 _ _ _ _ _ w)
  refine Rg.take (ops := (Rg.opsOf Try.f30 8)) 12 (some 42) ((.int .i64 (X0.size : Int))) hNS (by kernel_rfl) (by kernel_rfl) (by kernel_rfl) (by kernel_rfl) (by kernel_rfl) hHeld (Rg.y_len (x := (Operand.tmp 41)) (ats := #[9]) (vx := (.string X0)) (n := X0.size) (by kernel_rfl) (by kernel_rfl) ?_) ?_
  · (intro ty w hSw; go_simp)
  refine Rg.take (ops := (Rg.opsOf Try.f30 8)) 13 (some 43) ((.int .i64 ((d.size : Int) - (X0.size : Int)))) hNS (by kernel_rfl) (by kernel_rfl) (by kernel_rfl) (by kernel_rfl) (by kernel_rfl) hHeld (Rg.y_bin (b := BinOp.sub) (T := 3) (R' := 3) (x := (Operand.tmp 34)) (y := (Operand.tmp 42)) (vx := (.int .i64 (d.size : Int))) (vy := (.int .i64 (X0.size : Int))) (by kernel_rfl) (by kernel_rfl) (by kernel_rfl) ?_) ?_
  · (intro w hSw; clear hSw; go_simp <;> exact hsub)
  refine Rg.call (ops := (Rg.opsOf Try.f30 8)) (fn := Try.f44) (xs := #[Operand.tmp 31]) (ats := #[9]) 2 (some 32) 44 #[(.string p)] (by kernel_rfl) (by kernel_rfl) (by kernel_rfl) (by kernel_rfl) (by kernel_rfl) Try.func44 (by kernel_rfl) (by kernel_rfl) (by kernel_rfl) ?_
  refine (cv _).mono ?_
  rintro e w5 ⟨rfl, n5, rfl⟩
  refine ⟨_, rfl, ⟨hHeld.1.below (below_drewN _ _), below_call hHeld.2 (below_drewN _ _)⟩, fun hHeld => ?_⟩
  refine Rg.call (ops := (Rg.opsOf Try.f30 8)) (fn := Try.f53) (xs := #[Operand.tmp 30, Operand.tmp 32, Operand.tmp 43]) (ats := #[22, 9, 3]) 14 (some 44) 53 #[(.pointer (some ⟨b, 0, none⟩)), (.string V), (.int .i64 ((d.size : Int) - (X0.size : Int)))] (by kernel_rfl) (by kernel_rfl) (by kernel_rfl) (by kernel_rfl) (by kernel_rfl) Try.func53 (by kernel_rfl) (by kernel_rfl) (by kernel_rfl) ?_
  refine (cf _ hHeld.1).mono ?_
  rintro e w6 ⟨rfl, hb6⟩
  refine ⟨_, rfl, ⟨hHeld.1.below hb6, below_call hHeld.2 hb6⟩, fun hHeld => ?_⟩
  refine Rg.take (ops := (Rg.opsOf Try.f30 8)) 15 (some 29) ((.bool B)) hNS (by kernel_rfl) (by kernel_rfl) (by kernel_rfl) (by kernel_rfl) (by kernel_rfl) hHeld (Rg.y_move (x := (Operand.tmp 44)) (Or.inr (by kernel_rfl)) (by kernel_rfl)) ?_
  refine Rg.done (ops := (Rg.opsOf Try.f30 8)) (by kernel_rfl) ?_
  exact ⟨by kernel_rfl, hHeld.2⟩

set_option maxRecDepth 100000 in
set_option maxHeartbeats 2000000 in
theorem regMayRename1 (ops : Array Oper) (hops : ops = (Rg.opsOf Try.f42 12)) (id : Nat) (b bi bl gf gg : Nat) (l : Int) (s : St) (t X Y V : ByteArray) (B : Bool) {u1 u3 u4 u5 u6 u7 u11 u12 u13 u14 u15 u16 u17 u18 u19 u20 u21 u22 u23 u24 u25 u26 u27 u28 u29 u30 u31 u32 u33 u34 u35 u36 u37 u38 u39 u40 u41 u42 u43 u44 u45 u46 u47 u48 u49 u50 u51 u52 u53 u54 u55 u56 u57 u58 u59 u60 u61 u62 u63 u64 u65 : Value} (w : World) (h : Ia b bi bl l w s)
    (hX : w.cell? ⟨gf, 1, none⟩ = some (.string X)) (hY : w.cell? ⟨gg, 1, none⟩ = some (.string Y))
    (hsub : IntKind.i64.wrap ((X.size : Int) - (Y.size : Int)) = (X.size : Int) - (Y.size : Int))
    (cv : ∀ W, Calls Try.prog 44 #[.string t] W fun e w' => e = .returned (.string V) ∧ ∃ n, w' = W.drewN n)
    (cf : ∀ W, Ia b bi bl l W s → Calls Try.prog 53 #[.pointer (some ⟨b, 0, none⟩), .string V, .int .i64 ((X.size : Int) - (Y.size : Int))] W fun e w' => e = .returned (.bool B) ∧ Below W.heap.size W w') :
    (Code.region id ops true).wp Try.prog (Rg.Only fun a' w' => a' = ⟨#[(.pointer (some ⟨b, 0, none⟩)), u1, (.string t), u3, u4, u5, u6, u7, (.pointer (some ⟨gf, 0, none⟩)), (.pointer (some ⟨gg, 0, none⟩)), (.bool true), u11, u12, u13, u14, u15, u16, u17, u18, u19, u20, u21, u22, u23, u24, u25, u26, u27, u28, u29, u30, u31, u32, u33, u34, u35, u36, u37, u38, u39, u40, u41, u42, u43, u44, u45, u46, u47, u48, u49, u50, (.bool B), (.bool true), (.bool true), (.pointer (some ⟨b, 0, none⟩)), (.string t), (.string V), (.pointer (some ⟨gf, 1, none⟩)), (.string X), (.int .i64 (X.size : Int)), (.pointer (some ⟨gg, 1, none⟩)), (.string Y), (.int .i64 (Y.size : Int)), (.int .i64 ((X.size : Int) - (Y.size : Int))), (.bool B), (.bool B)], []⟩ ∧ Below w.heap.size w w') ⟨#[(.pointer (some ⟨b, 0, none⟩)), u1, (.string t), u3, u4, u5, u6, u7, (.pointer (some ⟨gf, 0, none⟩)), (.pointer (some ⟨gg, 0, none⟩)), (.bool true), u11, u12, u13, u14, u15, u16, u17, u18, u19, u20, u21, u22, u23, u24, u25, u26, u27, u28, u29, u30, u31, u32, u33, u34, u35, u36, u37, u38, u39, u40, u41, u42, u43, u44, u45, u46, u47, u48, u49, u50, u51, u52, u53, u54, u55, u56, u57, u58, u59, u60, u61, u62, u63, u64, u65], []⟩ w := by
  subst hops
  have hNS : Region.noSelect (Rg.opsOf Try.f42 12) = true := by kernel_rfl
  have h0 : Ia b bi bl l w.drew s ∧ Below w.heap.size w w.drew ∧ w.drew.cell? ⟨gf, 1, none⟩ = some (.string X) ∧ w.drew.cell? ⟨gg, 1, none⟩ = some (.string Y) := ⟨h.below (Below.refl _ _).drew, (Below.refl _ _).drew, hX, hY⟩
  refine wp_region_held_drew (S := fun W => Ia b bi bl l W s ∧ Below w.heap.size w W ∧ W.cell? ⟨gf, 1, none⟩ = some (.string X) ∧ W.cell? ⟨gg, 1, none⟩ = some (.string Y)) (by kernel_rfl) h0 (fun hHeld => ?_)
  rw [show (Rg.opsOf Try.f42 12).size = 15 by kernel_rfl]
  refine Rg.take (ops := (Rg.opsOf Try.f42 12)) 0 (some 52) ((.bool true)) hNS (by kernel_rfl) (by kernel_rfl) (by kernel_rfl) (by kernel_rfl) (by kernel_rfl) hHeld (Rg.y_move (x := (Operand.tmp 10)) (Or.inl (by kernel_rfl)) (by kernel_rfl)) ?_
  refine Rg.take (ops := (Rg.opsOf Try.f42 12)) 1 (some 53) ((.bool true)) hNS (by kernel_rfl) (by kernel_rfl) (by kernel_rfl) (by kernel_rfl) (by kernel_rfl) hHeld (Rg.y_move (x := (Operand.tmp 52)) (Or.inl (by kernel_rfl)) (by kernel_rfl)) ?_
  refine Rg.take (ops := (Rg.opsOf Try.f42 12)) 2 (some 54) ((.pointer (some ⟨b, 0, none⟩))) hNS (by kernel_rfl) (by kernel_rfl) (by kernel_rfl) (by kernel_rfl) (by kernel_rfl) hHeld (Rg.y_move (x := (Operand.tmp 0)) (Or.inl (by kernel_rfl)) (by kernel_rfl)) ?_
  refine Rg.take (ops := (Rg.opsOf Try.f42 12)) 3 (some 55) ((.string t)) hNS (by kernel_rfl) (by kernel_rfl) (by kernel_rfl) (by kernel_rfl) (by kernel_rfl) hHeld (Rg.y_move (x := (Operand.tmp 2)) (Or.inl (by kernel_rfl)) (by kernel_rfl)) ?_
  refine Rg.take (ops := (Rg.opsOf Try.f42 12)) 5 (some 57) ((.pointer (some ⟨gf, 1, none⟩))) hNS (by kernel_rfl) (by kernel_rfl) (by kernel_rfl) (by kernel_rfl) (by kernel_rfl) hHeld (Rg.y_field (T := 48) (k := 1) (x := (Operand.tmp 8)) (vx := (.pointer (some ⟨gf, 0, none⟩))) (by kernel_rfl) (by kernel_rfl) ?_) ?_
  · (intro w hSw; clear hSw; go_simp)
  refine Rg.take (ops := (Rg.opsOf Try.f42 12)) 6 (some 58) ((.string X)) hNS (by kernel_rfl) (by kernel_rfl) (by kernel_rfl) (by kernel_rfl) (by kernel_rfl) hHeld (Rg.y_load (T := 9) (x := (Operand.tmp 57)) (vx := (.pointer (some ⟨gf, 1, none⟩))) (by kernel_rfl) (by kernel_rfl) ?_) ?_
  · (intro w hSw; obtain ⟨_, _, cx, cy⟩ := hSw; go_simp)
  refine Rg.take (ops := (Rg.opsOf Try.f42 12)) 7 (some 59) ((.int .i64 (X.size : Int))) hNS (by kernel_rfl) (by kernel_rfl) (by kernel_rfl) (by kernel_rfl) (by kernel_rfl) hHeld (Rg.y_len (x := (Operand.tmp 58)) (ats := #[9]) (vx := (.string X)) (n := X.size) (by kernel_rfl) (by kernel_rfl) ?_) ?_
  · (intro ty w hSw; go_simp)
  refine Rg.take (ops := (Rg.opsOf Try.f42 12)) 8 (some 60) ((.pointer (some ⟨gg, 1, none⟩))) hNS (by kernel_rfl) (by kernel_rfl) (by kernel_rfl) (by kernel_rfl) (by kernel_rfl) hHeld (Rg.y_field (T := 48) (k := 1) (x := (Operand.tmp 9)) (vx := (.pointer (some ⟨gg, 0, none⟩))) (by kernel_rfl) (by kernel_rfl) ?_) ?_
  · (intro w hSw; clear hSw; go_simp)
  refine Rg.take (ops := (Rg.opsOf Try.f42 12)) 9 (some 61) ((.string Y)) hNS (by kernel_rfl) (by kernel_rfl) (by kernel_rfl) (by kernel_rfl) (by kernel_rfl) hHeld (Rg.y_load (T := 9) (x := (Operand.tmp 60)) (vx := (.pointer (some ⟨gg, 1, none⟩))) (by kernel_rfl) (by kernel_rfl) ?_) ?_
  · (intro w hSw; obtain ⟨_, _, cx, cy⟩ := hSw; go_simp)
  refine Rg.take (ops := (Rg.opsOf Try.f42 12)) 10 (some 62) ((.int .i64 (Y.size : Int))) hNS (by kernel_rfl) (by kernel_rfl) (by kernel_rfl) (by kernel_rfl) (by kernel_rfl) hHeld (Rg.y_len (x := (Operand.tmp 61)) (ats := #[9]) (vx := (.string Y)) (n := Y.size) (by kernel_rfl) (by kernel_rfl) ?_) ?_
  · (intro ty w hSw; go_simp)
  refine Rg.take (ops := (Rg.opsOf Try.f42 12)) 11 (some 63) ((.int .i64 ((X.size : Int) - (Y.size : Int)))) hNS (by kernel_rfl) (by kernel_rfl) (by kernel_rfl) (by kernel_rfl) (by kernel_rfl) hHeld (Rg.y_bin (b := BinOp.sub) (T := 3) (R' := 3) (x := (Operand.tmp 59)) (y := (Operand.tmp 62)) (vx := (.int .i64 (X.size : Int))) (vy := (.int .i64 (Y.size : Int))) (by kernel_rfl) (by kernel_rfl) (by kernel_rfl) ?_) ?_
  · (intro w hSw; clear hSw; go_simp <;> exact hsub)
  refine Rg.call (ops := (Rg.opsOf Try.f42 12)) (fn := Try.f44) (xs := #[Operand.tmp 55]) (ats := #[9]) 4 (some 56) 44 #[(.string t)] (by kernel_rfl) (by kernel_rfl) (by kernel_rfl) (by kernel_rfl) (by kernel_rfl) Try.func44 (by kernel_rfl) (by kernel_rfl) (by kernel_rfl) ?_
  refine (cv _).mono ?_
  rintro e w5 ⟨rfl, n5, rfl⟩
  refine ⟨_, rfl, ⟨hHeld.1.below (below_drewN _ _), below_call hHeld.2.1 (below_drewN _ _), hHeld.2.2.1, hHeld.2.2.2⟩, fun hHeld => ?_⟩
  refine Rg.call (ops := (Rg.opsOf Try.f42 12)) (fn := Try.f53) (xs := #[Operand.tmp 54, Operand.tmp 56, Operand.tmp 63]) (ats := #[22, 9, 3]) 12 (some 64) 53 #[(.pointer (some ⟨b, 0, none⟩)), (.string V), (.int .i64 ((X.size : Int) - (Y.size : Int)))] (by kernel_rfl) (by kernel_rfl) (by kernel_rfl) (by kernel_rfl) (by kernel_rfl) Try.func53 (by kernel_rfl) (by kernel_rfl) (by kernel_rfl) ?_
  refine (cf _ hHeld.1).mono ?_
  rintro e w6 ⟨rfl, hb6⟩
  refine ⟨_, rfl, ⟨hHeld.1.below hb6, below_call hHeld.2.1 hb6, (hb6.cell (p := ⟨gf, 1, none⟩) (World.block_lt_of_cell? _ _ hHeld.2.2.1)).trans hHeld.2.2.1, (hb6.cell (p := ⟨gg, 1, none⟩) (World.block_lt_of_cell? _ _ hHeld.2.2.2)).trans hHeld.2.2.2⟩, fun hHeld => ?_⟩
  refine Rg.take (ops := (Rg.opsOf Try.f42 12)) 13 (some 65) ((.bool B)) hNS (by kernel_rfl) (by kernel_rfl) (by kernel_rfl) (by kernel_rfl) (by kernel_rfl) hHeld (Rg.y_pick (c := (Operand.tmp 53)) (x := (Operand.tmp 64)) (y := (Operand.const (Value.bool false))) (b := true) (by kernel_rfl) (by kernel_rfl) (by kernel_rfl)) ?_
  refine Rg.take (ops := (Rg.opsOf Try.f42 12)) 14 (some 51) ((.bool B)) hNS (by kernel_rfl) (by kernel_rfl) (by kernel_rfl) (by kernel_rfl) (by kernel_rfl) hHeld (Rg.y_move (x := (Operand.tmp 65)) (Or.inr (by kernel_rfl)) (by kernel_rfl)) ?_
  refine Rg.done (ops := (Rg.opsOf Try.f42 12)) (by kernel_rfl) ?_
  exact ⟨by kernel_rfl, hHeld.2.1⟩

set_option maxRecDepth 100000 in
set_option maxHeartbeats 2000000 in
theorem regMayRename0 (ops : Array Oper) (hops : ops = (Rg.opsOf Try.f42 12)) (id : Nat) (b bi bl gf gg : Nat) (l : Int) (s : St) (t X Y V : ByteArray) (B : Bool) {u1 u3 u4 u5 u6 u7 u11 u12 u13 u14 u15 u16 u17 u18 u19 u20 u21 u22 u23 u24 u25 u26 u27 u28 u29 u30 u31 u32 u33 u34 u35 u36 u37 u38 u39 u40 u41 u42 u43 u44 u45 u46 u47 u48 u49 u50 u51 u52 u53 u54 u55 u56 u57 u58 u59 u60 u61 u62 u63 u64 u65 : Value} (w : World) (h : Ia b bi bl l w s)
    (hX : w.cell? ⟨gf, 1, none⟩ = some (.string X)) (hY : w.cell? ⟨gg, 1, none⟩ = some (.string Y)) :
    (Code.region id ops true).wp Try.prog (Rg.Only fun a' w' => a' = ⟨#[(.pointer (some ⟨b, 0, none⟩)), u1, (.string t), u3, u4, u5, u6, u7, (.pointer (some ⟨gf, 0, none⟩)), (.pointer (some ⟨gg, 0, none⟩)), (.bool false), u11, u12, u13, u14, u15, u16, u17, u18, u19, u20, u21, u22, u23, u24, u25, u26, u27, u28, u29, u30, u31, u32, u33, u34, u35, u36, u37, u38, u39, u40, u41, u42, u43, u44, u45, u46, u47, u48, u49, u50, (Value.bool false), (.bool false), (.bool false), undef, undef, undef, undef, undef, undef, undef, undef, undef, undef, undef, (Value.bool false)], []⟩ ∧ Below w.heap.size w w') ⟨#[(.pointer (some ⟨b, 0, none⟩)), u1, (.string t), u3, u4, u5, u6, u7, (.pointer (some ⟨gf, 0, none⟩)), (.pointer (some ⟨gg, 0, none⟩)), (.bool false), u11, u12, u13, u14, u15, u16, u17, u18, u19, u20, u21, u22, u23, u24, u25, u26, u27, u28, u29, u30, u31, u32, u33, u34, u35, u36, u37, u38, u39, u40, u41, u42, u43, u44, u45, u46, u47, u48, u49, u50, u51, u52, u53, u54, u55, u56, u57, u58, u59, u60, u61, u62, u63, u64, u65], []⟩ w := by
  subst hops
  have hNS : Region.noSelect (Rg.opsOf Try.f42 12) = true := by kernel_rfl
  have h0 : Ia b bi bl l w.drew s ∧ Below w.heap.size w w.drew ∧ w.drew.cell? ⟨gf, 1, none⟩ = some (.string X) ∧ w.drew.cell? ⟨gg, 1, none⟩ = some (.string Y) := ⟨h.below (Below.refl _ _).drew, (Below.refl _ _).drew, hX, hY⟩
  refine wp_region_held_drew (S := fun W => Ia b bi bl l W s ∧ Below w.heap.size w W ∧ W.cell? ⟨gf, 1, none⟩ = some (.string X) ∧ W.cell? ⟨gg, 1, none⟩ = some (.string Y)) (by kernel_rfl) h0 (fun hHeld => ?_)
  rw [show (Rg.opsOf Try.f42 12).size = 15 by kernel_rfl]
  refine Rg.take (ops := (Rg.opsOf Try.f42 12)) 0 (some 52) ((.bool false)) hNS (by kernel_rfl) (by kernel_rfl) (by kernel_rfl) (by kernel_rfl) (by kernel_rfl) hHeld (Rg.y_move (x := (Operand.tmp 10)) (Or.inl (by kernel_rfl)) (by kernel_rfl)) ?_
  refine Rg.take (ops := (Rg.opsOf Try.f42 12)) 1 (some 53) ((.bool false)) hNS (by kernel_rfl) (by kernel_rfl) (by kernel_rfl) (by kernel_rfl) (by kernel_rfl) hHeld (Rg.y_move (x := (Operand.tmp 52)) (Or.inl (by kernel_rfl)) (by kernel_rfl)) ?_
  refine Rg.skip (ops := (Rg.opsOf Try.f42 12)) 2 (some 54) hNS (by kernel_rfl) (by kernel_rfl) (by kernel_rfl) (by kernel_rfl) (by kernel_rfl) hHeld ?_
  refine Rg.skip (ops := (Rg.opsOf Try.f42 12)) 3 (some 55) hNS (by kernel_rfl) (by kernel_rfl) (by kernel_rfl) (by kernel_rfl) (by kernel_rfl) hHeld ?_
  refine Rg.skip (ops := (Rg.opsOf Try.f42 12)) 4 (some 56) hNS (by kernel_rfl) (by kernel_rfl) (by kernel_rfl) (by kernel_rfl) (by kernel_rfl) hHeld ?_
  refine Rg.skip (ops := (Rg.opsOf Try.f42 12)) 5 (some 57) hNS (by kernel_rfl) (by kernel_rfl) (by kernel_rfl) (by kernel_rfl) (by kernel_rfl) hHeld ?_
  refine Rg.skip (ops := (Rg.opsOf Try.f42 12)) 6 (some 58) hNS (by kernel_rfl) (by kernel_rfl) (by kernel_rfl) (by kernel_rfl) (by kernel_rfl) hHeld ?_
  refine Rg.skip (ops := (Rg.opsOf Try.f42 12)) 7 (some 59) hNS (by kernel_rfl) (by kernel_rfl) (by kernel_rfl) (by kernel_rfl) (by kernel_rfl) hHeld ?_
  refine Rg.skip (ops := (Rg.opsOf Try.f42 12)) 8 (some 60) hNS (by kernel_rfl) (by kernel_rfl) (by kernel_rfl) (by kernel_rfl) (by kernel_rfl) hHeld ?_
  refine Rg.skip (ops := (Rg.opsOf Try.f42 12)) 9 (some 61) hNS (by kernel_rfl) (by kernel_rfl) (by kernel_rfl) (by kernel_rfl) (by kernel_rfl) hHeld ?_
  refine Rg.skip (ops := (Rg.opsOf Try.f42 12)) 10 (some 62) hNS (by kernel_rfl) (by kernel_rfl) (by kernel_rfl) (by kernel_rfl) (by kernel_rfl) hHeld ?_
  refine Rg.skip (ops := (Rg.opsOf Try.f42 12)) 11 (some 63) hNS (by kernel_rfl) (by kernel_rfl) (by kernel_rfl) (by kernel_rfl) (by kernel_rfl) hHeld ?_
  refine Rg.skip (ops := (Rg.opsOf Try.f42 12)) 12 (some 64) hNS (by kernel_rfl) (by kernel_rfl) (by kernel_rfl) (by kernel_rfl) (by kernel_rfl) hHeld ?_
  refine Rg.take (ops := (Rg.opsOf Try.f42 12)) 13 (some 65) ((Value.bool false)) hNS (by kernel_rfl) (by kernel_rfl) (by kernel_rfl) (by kernel_rfl) (by kernel_rfl) hHeld (Rg.y_pick (c := (Operand.tmp 53)) (x := (Operand.tmp 64)) (y := (Operand.const (Value.bool false))) (b := false) (by kernel_rfl) (by kernel_rfl) (by kernel_rfl)) ?_
  refine Rg.take (ops := (Rg.opsOf Try.f42 12)) 14 (some 51) ((Value.bool false)) hNS (by kernel_rfl) (by kernel_rfl) (by kernel_rfl) (by kernel_rfl) (by kernel_rfl) hHeld (Rg.y_move (x := (Operand.tmp 65)) (Or.inr (by kernel_rfl)) (by kernel_rfl)) ?_
  refine Rg.done (ops := (Rg.opsOf Try.f42 12)) (by kernel_rfl) ?_
  exact ⟨by kernel_rfl, hHeld.2.1⟩

end Go.Proofs.Ytcbnpdognadilaa.Dk

/- Why package disk's calls are refused. -/
namespace Go.Proofs.Ytcbnpdognadilaa.Dk
open Go.RowKit Tx Pm Pl Pr
set_option linter.unusedVariables false

theorem ready1 (b bi bl m : Nat) (M l : Int) (s : St) (p : ByteArray) (w : World) (h : Ia b bi bl l w s) (hm : m ≤ 1000) (hM : M = (m : Int) + 1) (hp : p.size ≤ 8000000000000) :
    Calls Try.prog 51 #[.pointer (some ⟨b, 0, none⟩), .int .i64 M, .slice (some ⟨w.heap.size, 0, none⟩) 1 1] (w.alloc (.cells #[.string p] 9)) fun e w' => e = .returned (.int .i64 (first s p m : Nat)) ∧ Below w.heap.size w w' := by
  have hb := (Below.refl _ w).alloc (Nat.le_refl _) (.cells #[.string p] 9)
  refine (iReady_any b bi bl w.heap.size 1 1 m M l s [p] _ (h.below hb) rfl hm hM (fun k q hk => ?_) (by simp) (fun q hq => ?_) (by omega)).mono ?_
  · rw [World.cell?_alloc_at _ _ _ _ rfl]
    match k, hk with
    | 0, hk => cases hk; rfl
  · rw [List.mem_singleton.1 hq]
    exact hp
  · rintro e w' ⟨rfl, h2⟩
    rw [rdy_one]
    exact ⟨rfl, below_call hb h2⟩
theorem ready2 (b bi bl m : Nat) (M l : Int) (s : St) (p q : ByteArray) (w : World) (h : Ia b bi bl l w s) (hm : m ≤ 1000) (hM : M = (m : Int) + 1) (hp : p.size ≤ 8000000000000) (hq : q.size ≤ 8000000000000) :
    Calls Try.prog 51 #[.pointer (some ⟨b, 0, none⟩), .int .i64 M, .slice (some ⟨w.heap.size, 0, none⟩) 2 2] (w.alloc (.cells #[.string p, .string q] 9)) fun e w' => e = .returned (.int .i64 ((if first s p m ≠ 0 then first s p m else first s q m : Nat) : Nat)) ∧ Below w.heap.size w w' := by
  have hb := (Below.refl _ w).alloc (Nat.le_refl _) (.cells #[.string p, .string q] 9)
  refine (iReady_any b bi bl w.heap.size 2 2 m M l s [p, q] _ (h.below hb) rfl hm hM (fun k x hk => ?_) (by simp) (fun x hx => ?_) (by omega)).mono ?_
  · rw [World.cell?_alloc_at _ _ _ _ rfl]
    match k, hk with
    | 0, hk => cases hk; rfl
    | 1, hk => cases hk; rfl
  · rcases List.mem_cons.1 hx with rfl | hx
    · exact hp
    · rw [List.mem_singleton.1 hx]
      exact hq
  · rintro e w' ⟨rfl, h2⟩
    rw [rdy_two]
    exact ⟨rfl, below_call hb h2⟩
theorem ne_eq {a : Nat} (h : a ≠ 0) : ((a : Int) == 0) = false := beq_eq_false_iff_ne.2 (by omega)

def mayMkdirS (s : St) (p : ByteArray) : Nat := if first s p 0 ≠ 0 then first s p 0 else if home s.L p = false then 11 else if kind s.L p = 2 then 12 else 0
def maySyncS (s : St) (p : ByteArray) : Nat := there s p
def mayWriteS (s : St) (p d : ByteArray) : Nat := if first s p 1 ≠ 0 then first s p 1 else if home s.L p = false then 11 else if kind s.L p = 1 then 12 else if full s (vol p) ((d.size : Int) - (old s.L p).data.size) = true then 13 else 0
def mayAppendS (s : St) (p d : ByteArray) : Nat := if there s p ≠ 0 then there s p else if full s (vol p) d.size = true then 13 else 0
def mayRenameS (s : St) (f t : ByteArray) : Nat := if first s f 1 ≠ 0 then first s f 1 else if first s t 1 ≠ 0 then first s t 1 else if kind s.L f = 0 then 11 else if home s.L t = false then 11 else if kind s.L f = 1 then 12 else if kind s.L t = 1 then 12 else
  if vol f ≠ vol t ∧ full s (vol t) (((old s.L f).data.size : Int) - (old s.L t).data.size) = true then 13 else 0

set_option maxRecDepth 100000 in
set_option maxHeartbeats 1000000 in
theorem iMayMkdir_any (b bi bl : Nat) (l : Int) (s : St) (p : ByteArray) (w : World) (h : Ia b bi bl l w s) (hp : p.size ≤ 8000000000000) :
    Calls Try.prog 28 #[.pointer (some ⟨b, 0, none⟩), .string p] w fun e w' => e = .returned (.int .i64 (mayMkdirS s p : Nat)) ∧ Below w.heap.size w w' := by
  have c1 := ready1 b bi bl 0 1 l s p w h (by omega) rfl hp
  have c2 := fun W (hW : Below w.heap.size w W) => iHome_any b bi bl l s p W (h.below hW) hp
  have HL := Lib.hid (fun W (hW : Below w.heap.size w W) => (h.below hW).look (maxLen_of hp))
  have HC := Lib.hid (fun W (hW : Below w.heap.size w W) => (h.below hW).cell.1)
  have f0 := fld0
  unfold mayMkdirS
  generalize first s p 0 = E at c1 ⊢
  generalize home s.L p = H at c2 ⊢
  generalize kind s.L p = K at HL ⊢
  clear h
  by_cases hE : E = 0
  · subst hE
    rw [if_neg (by decide)]
    cases H with
    | false =>
      rw [if_pos rfl]
      go_enter Try.func28, Try.ntmps28
      go_wp2_with (first | (go_at_call 51; refine c1.mono ?_; rintro e w1 ⟨rfl, hb1⟩; have l0 := HL.out _ hb1; have g0 := HC.out _ hb1) | (go_at_call 52; refine (c2 _ hb1).mono ?_; rintro e w2 ⟨rfl, hb2⟩; have hb3 := below_call hb1 hb2; have l1 := HL.out _ hb3; have g1 := HC.out _ hb3))
      go_ret
      exact ⟨rfl, hb3⟩
    | true =>
      rw [if_neg (by decide)]
      by_cases hK : K = 2
      · subst hK
        rw [if_pos rfl]
        go_enter Try.func28, Try.ntmps28
        go_wp2_with (first | (go_at_call 51; refine c1.mono ?_; rintro e w1 ⟨rfl, hb1⟩; have l0 := HL.out _ hb1; have g0 := HC.out _ hb1) | (go_at_call 52; refine (c2 _ hb1).mono ?_; rintro e w2 ⟨rfl, hb2⟩; have hb3 := below_call hb1 hb2; have l1 := HL.out _ hb3; have g1 := HC.out _ hb3))
        go_ret
        exact ⟨rfl, hb3⟩
      · rw [if_neg hK]
        have e1 : ((K : Int) == 2) = false := beq_eq_false_iff_ne.2 (by omega)
        clear hK
        go_enter Try.func28, Try.ntmps28
        go_wp2_with (first | (go_at_call 51; refine c1.mono ?_; rintro e w1 ⟨rfl, hb1⟩; have l0 := HL.out _ hb1; have g0 := HC.out _ hb1) | (go_at_call 52; refine (c2 _ hb1).mono ?_; rintro e w2 ⟨rfl, hb2⟩; have hb3 := below_call hb1 hb2; have l1 := HL.out _ hb3; have g1 := HC.out _ hb3))
        go_ret
        exact ⟨rfl, hb3⟩
  · rw [if_pos hE]
    have e1 := ne_eq hE
    clear hE
    go_enter Try.func28, Try.ntmps28
    go_wp2_with (first | (go_at_call 51; refine c1.mono ?_; rintro e w1 ⟨rfl, hb1⟩; have l0 := HL.out _ hb1; have g0 := HC.out _ hb1) | (go_at_call 52; refine (c2 _ hb1).mono ?_; rintro e w2 ⟨rfl, hb2⟩; have hb3 := below_call hb1 hb2; have l1 := HL.out _ hb3; have g1 := HC.out _ hb3))
    go_ret
    exact ⟨rfl, hb1⟩

theorem there_mbf (s : St) (p : ByteArray) : there s p = if first s p 1 ≠ 0 then first s p 1 else mbf s.L p := by
  unfold there mbf
  rfl
set_option maxRecDepth 100000 in
set_option maxHeartbeats 1000000 in
theorem iMaySync_any (b bi bl : Nat) (l : Int) (s : St) (p : ByteArray) (w : World) (h : Ia b bi bl l w s) (hp : p.size ≤ 8000000000000) :
    Calls Try.prog 33 #[.pointer (some ⟨b, 0, none⟩), .string p] w fun e w' => e = .returned (.int .i64 (there s p : Nat)) ∧ Below w.heap.size w w' := by
  have c1 := ready1 b bi bl 1 2 l s p w h (by omega) rfl hp
  have c2 := fun W (hW : Below w.heap.size w W) => iMbf_any b bi bl l s p W (h.below hW) hp
  rw [there_mbf]
  generalize first s p 1 = E at c1 ⊢
  generalize mbf s.L p = M at c2 ⊢
  clear h
  by_cases hE : E = 0
  · subst hE
    rw [if_neg (by decide)]
    go_enter Try.func33, Try.ntmps33
    go_wp2_with (first | (go_at_call 51; refine c1.mono ?_; rintro e w1 ⟨rfl, hb1⟩) | (go_at_call 41; refine (c2 _ hb1).mono ?_; rintro e w2 ⟨rfl, rfl⟩))
    go_ret
    exact ⟨rfl, hb1⟩
  · rw [if_pos hE]
    have e1 := ne_eq hE
    clear hE
    go_enter Try.func33, Try.ntmps33
    go_wp2_with (go_at_call 51; refine c1.mono ?_; rintro e w1 ⟨rfl, hb1⟩)
    go_ret
    exact ⟨rfl, hb1⟩

theorem old_le {s : St} (hf : Fit s) (p : ByteArray) : (old s.L p).data.size ≤ 4000000000000000000 := by
  rcases old_cases s.L p with e | ⟨hm, _⟩
  · rw [e]; show 0 ≤ _; omega
  · exact Nat.le_trans (le_whole hm) hf.2.2
theorem wrap_sub {a b : Nat} (ha : a ≤ 4000000000000000000) (hb : b ≤ 4000000000000000000) : IntKind.i64.wrap ((a : Int) - (b : Int)) = (a : Int) - (b : Int) := IntWalk.i64_in _ (by omega)
set_option maxRecDepth 100000 in
set_option maxHeartbeats 1000000 in
theorem iMayWrite_any (b bi bl : Nat) (l : Int) (s : St) (p d : ByteArray) (w : World) (h : Ia b bi bl l w s) (hR : Rises s.L) (hf : Fit s) (hp : p.size ≤ 8000000000000) (hd : d.size ≤ 1000000000000000000) :
    Calls Try.prog 30 #[.pointer (some ⟨b, 0, none⟩), .string p, .string d] w fun e w' => e = .returned (.int .i64 (mayWriteS s p d : Nat)) ∧ Below w.heap.size w w' := by
  have c1 := ready1 b bi bl 1 2 l s p w h (by omega) rfl hp
  have c2 := fun W (hW : Below w.heap.size w W) => iHome_any b bi bl l s p W (h.below hW) hp
  have ho := old_le hf p
  have hv := vol_le p
  have c3 := fun W (hW : Ia b bi bl l W s) => iFull_any b bi bl l s (vol p) ((d.size : Int) - (old s.L p).data.size) W hW hR hf (by omega) (by omega)
  have c4 := fun W => iVol_any p W hp
  have hsub := wrap_sub (a := d.size) (by omega) ho
  have HL := Lib.hid (fun W (hW : Below w.heap.size w W) => (h.below hW).look (maxLen_of hp))
  have hlk := fun W (hW : Ia b bi bl l W s) => hW.look (maxLen_of hp)
  have HC := Lib.hid (fun W (hW : Below w.heap.size w W) => (h.below hW).cell.1)
  have HI := Lib.hid (fun W (hW : Below w.heap.size w W) => h.below hW)
  have f0 := fld0
  unfold mayWriteS
  generalize full s (vol p) ((d.size : Int) - (old s.L p).data.size) = B at c3 ⊢
  generalize first s p 1 = E at c1 ⊢
  generalize home s.L p = H at c2 ⊢
  generalize kind s.L p = K at HL hlk ⊢
  generalize (old s.L p).data = X0 at HL hlk c3 hsub
  generalize (old s.L p).kept = X1 at HL hlk
  generalize stOf (old s.L p) = X2 at HL hlk
  generalize ((old s.L p).stamp : Int) = X3 at HL hlk
  generalize vol p = V at c3 c4
  have HLK := Lib.hid hlk
  have HS := Lib.hid hsub
  clear h hlk hsub ho hv hf hR
  by_cases hE : E = 0
  · subst hE
    rw [if_neg (by decide)]
    cases H with
    | false =>
      rw [if_pos rfl]
      go_enter Try.func30, Try.ntmps30
      go_wp2_with (first | (go_at_call 51; refine c1.mono ?_; rintro e w1 ⟨rfl, hb1⟩; have l0 := HL.out _ hb1; have g0 := HC.out _ hb1) | (go_at_call 52; refine (c2 _ hb1).mono ?_; rintro e w2 ⟨rfl, hb2⟩; have hb3 := below_call hb1 hb2; have l1 := HL.out _ hb3; have g1 := HC.out _ hb3))
      go_ret
      exact ⟨rfl, hb3⟩
    | true =>
      rw [if_neg (by decide)]
      by_cases hK : K = 1
      · subst hK
        rw [if_pos rfl]
        go_enter Try.func30, Try.ntmps30
        go_wp2_with (first | (go_at_call 51; refine c1.mono ?_; rintro e w1 ⟨rfl, hb1⟩; have l0 := HL.out _ hb1; have g0 := HC.out _ hb1) | (go_at_call 52; refine (c2 _ hb1).mono ?_; rintro e w2 ⟨rfl, hb2⟩; have hb3 := below_call hb1 hb2; have l1 := HL.out _ hb3; have g1 := HC.out _ hb3))
        go_ret
        exact ⟨rfl, hb3⟩
      · rw [if_neg hK]
        have e1 : ((K : Int) == 1) = false := beq_eq_false_iff_ne.2 (by omega)
        clear hK
        cases B with
        | true =>
          rw [if_pos rfl]
          go_enter Try.func30, Try.ntmps30
          go_wp2_with (first | (go_at_call 51; refine c1.mono ?_; rintro e w1 ⟨rfl, hb1⟩; have l0 := HL.out _ hb1; have g0 := HC.out _ hb1) | (go_at_call 52; refine (c2 _ hb1).mono ?_; rintro e w2 ⟨rfl, hb2⟩; have hb3 := below_call hb1 hb2; have l1 := HL.out _ hb3; have g1 := HC.out _ hb3))
          refine Rg.wp_only ?_ (regMayWrite _ (by kernel_rfl) _ b bi bl l s p d V X0 X1 K X2 X3 true _ (HI.out _ hb3) HLK.out HS.out c4 c3)
          rintro _ w9 ⟨rfl, hb9⟩
          have hb4 := below_call hb3 hb9
          go_wp2_with fail
          go_ret
          exact ⟨rfl, hb4⟩
        | false =>
          rw [if_neg (by decide)]
          go_enter Try.func30, Try.ntmps30
          go_wp2_with (first | (go_at_call 51; refine c1.mono ?_; rintro e w1 ⟨rfl, hb1⟩; have l0 := HL.out _ hb1; have g0 := HC.out _ hb1) | (go_at_call 52; refine (c2 _ hb1).mono ?_; rintro e w2 ⟨rfl, hb2⟩; have hb3 := below_call hb1 hb2; have l1 := HL.out _ hb3; have g1 := HC.out _ hb3))
          refine Rg.wp_only ?_ (regMayWrite _ (by kernel_rfl) _ b bi bl l s p d V X0 X1 K X2 X3 false _ (HI.out _ hb3) HLK.out HS.out c4 c3)
          rintro _ w9 ⟨rfl, hb9⟩
          have hb4 := below_call hb3 hb9
          go_wp2_with fail
          go_ret
          exact ⟨rfl, hb4⟩
  · rw [if_pos hE]
    have e1 := ne_eq hE
    clear hE
    go_enter Try.func30, Try.ntmps30
    go_wp2_with (first | (go_at_call 51; refine c1.mono ?_; rintro e w1 ⟨rfl, hb1⟩; have l0 := HL.out _ hb1; have g0 := HC.out _ hb1) | (go_at_call 52; refine (c2 _ hb1).mono ?_; rintro e w2 ⟨rfl, hb2⟩; have hb3 := below_call hb1 hb2; have l1 := HL.out _ hb3; have g1 := HC.out _ hb3))
    go_ret
    exact ⟨rfl, hb1⟩

set_option maxRecDepth 100000 in
set_option maxHeartbeats 1000000 in
theorem iMayAppend_any (b bi bl : Nat) (l : Int) (s : St) (p d : ByteArray) (w : World) (h : Ia b bi bl l w s) (hR : Rises s.L) (hf : Fit s) (hp : p.size ≤ 8000000000000) (hd : d.size ≤ 1000000000000000000) :
    Calls Try.prog 35 #[.pointer (some ⟨b, 0, none⟩), .string p, .string d] w fun e w' => e = .returned (.int .i64 (mayAppendS s p d : Nat)) ∧ Below w.heap.size w w' := by
  have c1 := iMaySync_any b bi bl l s p w h hp
  have hv := vol_le p
  have c3 := fun W (hW : Below w.heap.size w W) => iFull_any b bi bl l s (vol p) (d.size : Int) W (h.below hW) hR hf (by omega) (by omega)
  have c4 := fun W => iVol_any p W hp
  unfold mayAppendS
  generalize full s (vol p) (d.size : Int) = B at c3 ⊢
  generalize there s p = E at c1 ⊢
  generalize vol p = V at c3 c4
  clear h hv hf hR
  by_cases hE : E = 0
  · subst hE
    rw [if_neg (by decide)]
    cases B with
    | true =>
      rw [if_pos rfl]
      go_enter Try.func35, Try.ntmps35
      go_wp2_with (first | (go_at_call 33; refine c1.mono ?_; rintro e w1 ⟨rfl, hb1⟩) | (go_at_call 44; refine (c4 _).mono ?_; rintro e w2 ⟨rfl, n2, rfl⟩; have hb2 := below_call hb1 (below_drewN _ n2)) | (go_at_call 53; refine (c3 _ hb2).mono ?_; rintro e w3 ⟨rfl, hb3⟩))
      go_ret
      exact ⟨rfl, below_call hb2 hb3⟩
    | false =>
      rw [if_neg (by decide)]
      go_enter Try.func35, Try.ntmps35
      go_wp2_with (first | (go_at_call 33; refine c1.mono ?_; rintro e w1 ⟨rfl, hb1⟩) | (go_at_call 44; refine (c4 _).mono ?_; rintro e w2 ⟨rfl, n2, rfl⟩; have hb2 := below_call hb1 (below_drewN _ n2)) | (go_at_call 53; refine (c3 _ hb2).mono ?_; rintro e w3 ⟨rfl, hb3⟩))
      go_ret
      exact ⟨rfl, below_call hb2 hb3⟩
  · rw [if_pos hE]
    have e1 := ne_eq hE
    clear hE
    go_enter Try.func35, Try.ntmps35
    go_wp2_with (first | (go_at_call 33; refine c1.mono ?_; rintro e w1 ⟨rfl, hb1⟩) | (go_at_call 44; refine (c4 _).mono ?_; rintro e w2 ⟨rfl, n2, rfl⟩; have hb2 := below_call hb1 (below_drewN _ n2)) | (go_at_call 53; refine (c3 _ hb2).mono ?_; rintro e w3 ⟨rfl, hb3⟩))
    go_ret
    exact ⟨rfl, hb1⟩

end Go.Proofs.Ytcbnpdognadilaa.Dk

/- Why a rename is refused. -/
namespace Go.Proofs.Ytcbnpdognadilaa.Dk
open Go.RowKit Tx Pm Pl Pr
set_option linter.unusedVariables false

/-- A variable of one item. -/
structure Box5 (w : World) (g : Nat) (K : Int) (X0 X1 : ByteArray) (X2 X3 : Int) : Prop where
  lt : g < w.heap.size
  c0 : w.cell? ⟨g, 0, none⟩ = some (.int .i64 K)
  c1 : w.cell? ⟨g, 1, none⟩ = some (.string X0)
  c2 : w.cell? ⟨g, 2, none⟩ = some (.string X1)
  c3 : w.cell? ⟨g, 3, none⟩ = some (.int .i64 X2)
  c4 : w.cell? ⟨g, 4, none⟩ = some (.int .i64 X3)
theorem Box5.below {w w1 : World} {g : Nat} {K : Int} {X0 X1 : ByteArray} {X2 X3 : Int} (h : Box5 w g K X0 X1 X2 X3) (hb : Below w.heap.size w w1) : Box5 w1 g K X0 X1 X2 X3 :=
  ⟨Nat.lt_of_lt_of_le h.lt hb.size, (hb.cell (p := ⟨g, 0, none⟩) h.lt).trans h.c0, (hb.cell (p := ⟨g, 1, none⟩) h.lt).trans h.c1, (hb.cell (p := ⟨g, 2, none⟩) h.lt).trans h.c2, (hb.cell (p := ⟨g, 3, none⟩) h.lt).trans h.c3, (hb.cell (p := ⟨g, 4, none⟩) h.lt).trans h.c4⟩
theorem box5_of {w : World} {g : Nat} {K : Int} {X0 X1 : ByteArray} {X2 X3 : Int} {T : TypeId} {fz : Nat × Nat} (h : w.heap[g]? = some (.cells #[.int .i64 K, .string X0, .string X1, .int .i64 X2, .int .i64 X3] T fz)) : Box5 w g K X0 X1 X2 X3 := by
  refine ⟨(Array.getElem?_eq_some_iff.1 h).1, ?_, ?_, ?_, ?_, ?_⟩ <;> · unfold World.cell?; rw [h]; rfl
theorem two_first (w : World) (o o2 : Obj) : ((w.alloc o).alloc o2).drew.heap[w.heap.size]? = some o := by
  have h := (((Below.refl _ (w.alloc o)).alloc (Nat.le_refl _) o2).drew).block w.heap.size (by simp)
  exact h.trans (new_at w o rfl)
theorem two_second (w : World) (o o2 : Obj) : ((w.alloc o).alloc o2).drew.heap[w.heap.size + 1]? = some o2 := new_at (w.alloc o) o2 (by simp)
def firstR (s : St) (f t : ByteArray) : Nat := if first s f 1 ≠ 0 then first s f 1 else first s t 1
def mayRenS (s : St) (f t : ByteArray) : Nat := if firstR s f t ≠ 0 then firstR s f t else if kind s.L f = 0 then 11 else if home s.L t = false then 11 else if kind s.L f = 1 then 12 else if kind s.L t = 1 then 12 else
  if vol f ≠ vol t ∧ full s (vol t) (((old s.L f).data.size : Int) - (old s.L t).data.size) = true then 13 else 0
set_option maxRecDepth 100000 in
set_option maxHeartbeats 4000000 in
theorem iMayRename_any (b bi bl : Nat) (l : Int) (s : St) (f t : ByteArray) (w : World) (h : Ia b bi bl l w s) (hR : Rises s.L) (hf : Fit s) (hpf : f.size ≤ 8000000000000) (hpt : t.size ≤ 8000000000000) :
    Calls Try.prog 42 #[.pointer (some ⟨b, 0, none⟩), .string f, .string t] w fun e w' => e = .returned (.int .i64 (mayRenS s f t : Nat)) ∧ Below w.heap.size w w' := by
  have c1 := ready2 b bi bl 1 2 l s f t w h (by omega) rfl hpf hpt
  have c2 := fun W (hW : Below w.heap.size w W) => iHome_any b bi bl l s t W (h.below hW) hpt
  have ho1 := old_le hf f
  have ho2 := old_le hf t
  have hv := vol_le t
  have c3 := fun W (hW : Ia b bi bl l W s) => iFull_any b bi bl l s (vol t) (((old s.L f).data.size : Int) - (old s.L t).data.size) W hW hR hf (by omega) (by omega)
  have c4 := fun W => iVol_any f W hpf
  have c5 := fun W => iVol_any t W hpt
  have hsub := wrap_sub ho1 ho2
  have hb : b < w.heap.size := h.lt b (.inl rfl)
  have HL := Lib.hid (fun W (hW : Below w.heap.size w W) => (h.below hW).look (maxLen_of hpf))
  have HM := Lib.hid (fun W (hW : Below w.heap.size w W) => (h.below hW).look (maxLen_of hpt))
  have HC := Lib.hid (fun W (hW : Below w.heap.size w W) => (h.below hW).cell.1)
  have HI := Lib.hid (fun W (hW : Below w.heap.size w W) => h.below hW)
  unfold mayRenS
  rw [show (if first s f 1 ≠ 0 then first s f 1 else first s t 1) = firstR s f t from rfl] at c1
  generalize full s (vol t) (((old s.L f).data.size : Int) - (old s.L t).data.size) = B at c3 ⊢
  generalize firstR s f t = E at c1 ⊢
  generalize home s.L t = H at c2 ⊢
  generalize kind s.L f = K at HL ⊢
  generalize kind s.L t = M at HM ⊢
  generalize (old s.L f).data = X0 at HL c3 hsub
  generalize (old s.L f).kept = X1 at HL
  generalize stOf (old s.L f) = X2 at HL
  generalize ((old s.L f).stamp : Int) = X3 at HL
  generalize (old s.L t).data = Y0 at HM c3 hsub
  generalize (old s.L t).kept = Y1 at HM
  generalize stOf (old s.L t) = Y2 at HM
  generalize ((old s.L t).stamp : Int) = Y3 at HM
  generalize vol f = VF at c4 ⊢
  generalize vol t = VT at c3 c5 ⊢
  have HS := Lib.hid hsub
  obtain ⟨RES, hRES⟩ : ∃ RES, RES = if E ≠ 0 then E else if K = 0 then 11 else if H = false then 11 else if K = 1 then 12 else if M = 1 then 12 else if VF ≠ VT ∧ B = true then 13 else 0 := ⟨_, rfl⟩
  rw [← hRES]
  clear h hsub ho1 ho2 hv hf hR
  by_cases hE : E = 0
  · subst hE
    rw [if_neg (by decide)] at hRES
    have HRES := Lib.hid hRES
    clear hRES
    go_enter Try.func42, Try.ntmps42
    go_upto_region 4 with (go_at_call 51; refine c1.mono ?_; rintro e w1 ⟨rfl, hb1⟩)
    go_cut [8, 9] from 11 (fun v1 v2 wq => ∃ gf gg, v1 = .pointer (some ⟨gf, 0, none⟩) ∧ v2 = .pointer (some ⟨gg, 0, none⟩) ∧ Box5 wq gf K X0 X1 X2 X3 ∧ Box5 wq gg M Y0 Y1 Y2 Y3 ∧ Below w.heap.size w wq)
    case first =>
      have hbw : b < w1.heap.size := Nat.lt_of_lt_of_le hb hb1.size
      have B1 := Lib.hid (Below.refl w1.heap.size w1).drew
      have B2 := fun o => ((Below.refl _ w1).alloc (Nat.le_refl _) o).drew
      have B3 := fun o o2 => (((Below.refl _ w1).alloc (Nat.le_refl _) o).alloc (by simp) o2).drew
      have g0 := HC.out _ hb1
      have k1 := HL.out _ (below_call hb1 B1.out)
      have k2 := fun o => HL.out _ (below_call hb1 (B2 o))
      have k3 := fun o o2 => HL.out _ (below_call hb1 (B3 o o2))
      have m1 := HM.out _ (below_call hb1 B1.out)
      have m2 := fun o => HM.out _ (below_call hb1 (B2 o))
      have m3 := fun o o2 => HM.out _ (below_call hb1 (B3 o o2))
      have HB3 := Lib.hid (fun o o2 => below_call hb1 (B3 o o2))
      clear B2 B3 c1 c2 c3 c4 c5
      go_region
      all_goals (go_wp2_with fail; go_meet)
      · exact ⟨_, _, rfl, rfl, box5_of (two_first _ _ _), box5_of (two_second _ _ _), HB3.out _ _⟩
      · exact ⟨_, _, rfl, rfl, box5_of (two_second _ _ _), box5_of (two_first _ _ _), HB3.out _ _⟩
    case rest =>
      obtain ⟨gf, gg, rfl, rfl, hX, hY, hb2⟩ := hcut
      clear c1 hb1
      have HX := Lib.hid (fun W (hW : Below wc.heap.size wc W) => hX.below hW)
      have HY := Lib.hid (fun W (hW : Below wc.heap.size wc W) => hY.below hW)
      have c0X := hX.c0
      have c0Y := hY.c0
      have hgf := hX.lt
      have hgg := hY.lt
      clear hX hY
      have HSZ := Lib.hid hb2.size
      have hvw : ∀ n, Below wc.heap.size wc (wc.drewN n) := fun n => below_drewN wc n
      have HVW := Lib.hid hvw
      clear hvw
      have HCM := Lib.hid (fun W (hW : Below wc.heap.size wc W) => c2 W (below_call hb2 hW))
      clear c2
      have HVB := Lib.hid (fun n => below_drewN wc n)
      by_cases hV : VF = VT
      · have ev : (VF.toList == VT.toList) = true := by rw [hV]; exact beq_self_eq_true _
        have HV := Lib.hid hV
        clear hV
        clear HVW
        by_cases hK0 : K = 0
        · subst hK0
          have HR2 : Hid (RES = 11) := HRES.out.trans (if_pos rfl)
          clear HRES
          go_wp2_with (first | (go_at_call 44; first | ((with_reducible refine (c4 _).mono ?_); rintro e wv ⟨rfl, n4, rfl⟩) | ((with_reducible refine (c5 _).mono ?_); rintro e wv2 ⟨rfl, n5, rfl⟩)) | (go_at_call 52; refine (HCM.out _ (HVB.out _)).mono ?_; rintro e w3 ⟨rfl, hb3⟩; have hb4 := below_call (HVB.out _) hb3; have x0 := (HX.out _ hb4).c0; have y0 := (HY.out _ hb4).c0))
          go_ret
          exact ⟨ret_int (by rw [HR2.out]; rfl), below_call hb2 (HVB.out _)⟩
        · have HR1 := Lib.hid (HRES.out.trans (if_neg hK0))
          have k0 := ne_eq hK0
          clear hK0 HRES
          cases H with
          | false =>
            have HR2 : Hid (RES = 11) := HR1.out.trans (if_pos rfl)
            go_wp2_with (first | (go_at_call 44; first | ((with_reducible refine (c4 _).mono ?_); rintro e wv ⟨rfl, n4, rfl⟩) | ((with_reducible refine (c5 _).mono ?_); rintro e wv2 ⟨rfl, n5, rfl⟩)) | (go_at_call 52; refine (HCM.out _ (HVB.out _)).mono ?_; rintro e w3 ⟨rfl, hb3⟩; have hb4 := below_call (HVB.out _) hb3; have x0 := (HX.out _ hb4).c0; have y0 := (HY.out _ hb4).c0))
            go_ret
            exact ⟨ret_int (by rw [HR2.out]; rfl), below_call hb2 hb4⟩
          | true =>
            have HR3 := Lib.hid (HR1.out.trans (if_neg (by decide)))
            by_cases hK1 : K = 1
            · subst hK1
              have HR2 : Hid (RES = 12) := HR3.out.trans (if_pos rfl)
              clear HR1 HR3
              go_wp2_with (first | (go_at_call 44; first | ((with_reducible refine (c4 _).mono ?_); rintro e wv ⟨rfl, n4, rfl⟩) | ((with_reducible refine (c5 _).mono ?_); rintro e wv2 ⟨rfl, n5, rfl⟩)) | (go_at_call 52; refine (HCM.out _ (HVB.out _)).mono ?_; rintro e w3 ⟨rfl, hb3⟩; have hb4 := below_call (HVB.out _) hb3; have x0 := (HX.out _ hb4).c0; have y0 := (HY.out _ hb4).c0))
              go_ret
              exact ⟨ret_int (by rw [HR2.out]; rfl), below_call hb2 hb4⟩
            · have HR4 := Lib.hid (HR3.out.trans (if_neg hK1))
              have k1 : ((K : Int) == 1) = false := beq_eq_false_iff_ne.2 (by omega)
              clear hK1 HR1 HR3
              by_cases hM1 : M = 1
              · subst hM1
                have HR2 : Hid (RES = 12) := HR4.out.trans (if_pos rfl)
                clear HR4
                go_wp2_with (first | (go_at_call 44; first | ((with_reducible refine (c4 _).mono ?_); rintro e wv ⟨rfl, n4, rfl⟩) | ((with_reducible refine (c5 _).mono ?_); rintro e wv2 ⟨rfl, n5, rfl⟩)) | (go_at_call 52; refine (HCM.out _ (HVB.out _)).mono ?_; rintro e w3 ⟨rfl, hb3⟩; have hb4 := below_call (HVB.out _) hb3; have x0 := (HX.out _ hb4).c0; have y0 := (HY.out _ hb4).c0))
                go_ret
                exact ⟨ret_int (by rw [HR2.out]; rfl), below_call hb2 hb4⟩
              · have HR5 := Lib.hid (HR4.out.trans (if_neg hM1))
                have m1 : ((M : Int) == 1) = false := beq_eq_false_iff_ne.2 (by omega)
                clear hM1 HR4
                have HR2 : Hid (RES = 0) := HR5.out.trans (if_neg (fun e => e.1 HV.out))
                clear HR5
                go_upto_region 12 with (first | (go_at_call 44; first | ((with_reducible refine (c4 _).mono ?_); rintro e wv ⟨rfl, n4, rfl⟩) | ((with_reducible refine (c5 _).mono ?_); rintro e wv2 ⟨rfl, n5, rfl⟩)) | (go_at_call 52; refine (HCM.out _ (HVB.out _)).mono ?_; rintro e w3 ⟨rfl, hb3⟩; have hb4 := below_call (HVB.out _) hb3; have x0 := (HX.out _ hb4).c0; have y0 := (HY.out _ hb4).c0))
                refine Rg.wp_only ?_ (regMayRename0 _ (by kernel_rfl) _ b bi bl gf gg l s t X0 Y0 VT true _ (HI.out _ (below_call hb2 hb4)) (HX.out _ hb4).c1 (HY.out _ hb4).c1)
                rintro _ w9 ⟨rfl, hb9⟩
                go_wp2_with fail
                go_ret
                exact ⟨ret_int (by rw [HR2.out]; rfl), below_call (below_call hb2 hb4) hb9⟩
      · have ev : (VF.toList == VT.toList) = false := bytes_ne hV
        have HV := Lib.hid hV
        clear hV
        clear HVW
        by_cases hK0 : K = 0
        · subst hK0
          have HR2 : Hid (RES = 11) := HRES.out.trans (if_pos rfl)
          clear HRES
          go_wp2_with (first | (go_at_call 44; first | ((with_reducible refine (c4 _).mono ?_); rintro e wv ⟨rfl, n4, rfl⟩) | ((with_reducible refine (c5 _).mono ?_); rintro e wv2 ⟨rfl, n5, rfl⟩)) | (go_at_call 52; refine (HCM.out _ (HVB.out _)).mono ?_; rintro e w3 ⟨rfl, hb3⟩; have hb4 := below_call (HVB.out _) hb3; have x0 := (HX.out _ hb4).c0; have y0 := (HY.out _ hb4).c0))
          go_ret
          exact ⟨ret_int (by rw [HR2.out]; rfl), below_call hb2 (HVB.out _)⟩
        · have HR1 := Lib.hid (HRES.out.trans (if_neg hK0))
          have k0 := ne_eq hK0
          clear hK0 HRES
          cases H with
          | false =>
            have HR2 : Hid (RES = 11) := HR1.out.trans (if_pos rfl)
            go_wp2_with (first | (go_at_call 44; first | ((with_reducible refine (c4 _).mono ?_); rintro e wv ⟨rfl, n4, rfl⟩) | ((with_reducible refine (c5 _).mono ?_); rintro e wv2 ⟨rfl, n5, rfl⟩)) | (go_at_call 52; refine (HCM.out _ (HVB.out _)).mono ?_; rintro e w3 ⟨rfl, hb3⟩; have hb4 := below_call (HVB.out _) hb3; have x0 := (HX.out _ hb4).c0; have y0 := (HY.out _ hb4).c0))
            go_ret
            exact ⟨ret_int (by rw [HR2.out]; rfl), below_call hb2 hb4⟩
          | true =>
            have HR3 := Lib.hid (HR1.out.trans (if_neg (by decide)))
            by_cases hK1 : K = 1
            · subst hK1
              have HR2 : Hid (RES = 12) := HR3.out.trans (if_pos rfl)
              clear HR1 HR3
              go_wp2_with (first | (go_at_call 44; first | ((with_reducible refine (c4 _).mono ?_); rintro e wv ⟨rfl, n4, rfl⟩) | ((with_reducible refine (c5 _).mono ?_); rintro e wv2 ⟨rfl, n5, rfl⟩)) | (go_at_call 52; refine (HCM.out _ (HVB.out _)).mono ?_; rintro e w3 ⟨rfl, hb3⟩; have hb4 := below_call (HVB.out _) hb3; have x0 := (HX.out _ hb4).c0; have y0 := (HY.out _ hb4).c0))
              go_ret
              exact ⟨ret_int (by rw [HR2.out]; rfl), below_call hb2 hb4⟩
            · have HR4 := Lib.hid (HR3.out.trans (if_neg hK1))
              have k1 : ((K : Int) == 1) = false := beq_eq_false_iff_ne.2 (by omega)
              clear hK1 HR1 HR3
              by_cases hM1 : M = 1
              · subst hM1
                have HR2 : Hid (RES = 12) := HR4.out.trans (if_pos rfl)
                clear HR4
                go_wp2_with (first | (go_at_call 44; first | ((with_reducible refine (c4 _).mono ?_); rintro e wv ⟨rfl, n4, rfl⟩) | ((with_reducible refine (c5 _).mono ?_); rintro e wv2 ⟨rfl, n5, rfl⟩)) | (go_at_call 52; refine (HCM.out _ (HVB.out _)).mono ?_; rintro e w3 ⟨rfl, hb3⟩; have hb4 := below_call (HVB.out _) hb3; have x0 := (HX.out _ hb4).c0; have y0 := (HY.out _ hb4).c0))
                go_ret
                exact ⟨ret_int (by rw [HR2.out]; rfl), below_call hb2 hb4⟩
              · have HR5 := Lib.hid (HR4.out.trans (if_neg hM1))
                have m1 : ((M : Int) == 1) = false := beq_eq_false_iff_ne.2 (by omega)
                clear hM1 HR4
                cases B with
                | true =>
                  have HR2 : Hid (RES = 13) := HR5.out.trans (if_pos ⟨HV.out, rfl⟩)
                  clear HR5
                  go_upto_region 12 with (first | (go_at_call 44; first | ((with_reducible refine (c4 _).mono ?_); rintro e wv ⟨rfl, n4, rfl⟩) | ((with_reducible refine (c5 _).mono ?_); rintro e wv2 ⟨rfl, n5, rfl⟩)) | (go_at_call 52; refine (HCM.out _ (HVB.out _)).mono ?_; rintro e w3 ⟨rfl, hb3⟩; have hb4 := below_call (HVB.out _) hb3; have x0 := (HX.out _ hb4).c0; have y0 := (HY.out _ hb4).c0))
                  refine Rg.wp_only ?_ (regMayRename1 _ (by kernel_rfl) _ b bi bl gf gg l s t X0 Y0 VT true _ (HI.out _ (below_call hb2 hb4)) (HX.out _ hb4).c1 (HY.out _ hb4).c1 HS.out c5 c3)
                  rintro _ w9 ⟨rfl, hb9⟩
                  go_wp2_with fail
                  go_ret
                  exact ⟨ret_int (by rw [HR2.out]; rfl), below_call (below_call hb2 hb4) hb9⟩
                | false =>
                  have HR2 : Hid (RES = 0) := HR5.out.trans (if_neg (fun e => by cases e.2))
                  clear HR5
                  go_upto_region 12 with (first | (go_at_call 44; first | ((with_reducible refine (c4 _).mono ?_); rintro e wv ⟨rfl, n4, rfl⟩) | ((with_reducible refine (c5 _).mono ?_); rintro e wv2 ⟨rfl, n5, rfl⟩)) | (go_at_call 52; refine (HCM.out _ (HVB.out _)).mono ?_; rintro e w3 ⟨rfl, hb3⟩; have hb4 := below_call (HVB.out _) hb3; have x0 := (HX.out _ hb4).c0; have y0 := (HY.out _ hb4).c0))
                  refine Rg.wp_only ?_ (regMayRename1 _ (by kernel_rfl) _ b bi bl gf gg l s t X0 Y0 VT false _ (HI.out _ (below_call hb2 hb4)) (HX.out _ hb4).c1 (HY.out _ hb4).c1 HS.out c5 c3)
                  rintro _ w9 ⟨rfl, hb9⟩
                  go_wp2_with fail
                  go_ret
                  exact ⟨ret_int (by rw [HR2.out]; rfl), below_call (below_call hb2 hb4) hb9⟩
  · rw [if_pos hE] at hRES
    have e1 := ne_eq hE
    have HRES := Lib.hid hRES
    clear hE hRES
    go_enter Try.func42, Try.ntmps42
    go_wp2_with (go_at_call 51; refine c1.mono ?_; rintro e w1 ⟨rfl, hb1⟩)
    go_ret
    exact ⟨ret_int (by rw [HRES.out]), hb1⟩
end Go.Proofs.Ytcbnpdognadilaa.Dk

/- Drawn regions of Restart and Rot, step by step. -/
namespace Go.Proofs.Ytcbnpdognadilaa.Dk
open Go.RowKit Tx Pm Pl Pr
set_option linter.unusedVariables false

set_option maxRecDepth 100000 in
set_option maxHeartbeats 2000000 in
theorem regRestart (ops : Array Oper) (hops : ops = (Rg.opsOf Try.f14 7)) (id : Nat) (b bi bl j pick : Nat) (l loss K T M : Int) (s s2 : St) (p X Y Z : ByteArray) {u2 u3 u4 u5 u8 u9 u10 u11 u12 u13 u14 u15 u16 u17 u18 u19 u20 u21 u22 u23 u24 u25 u26 u27 u28 u29 u30 u31 u32 u33 u34 u35 u36 u37 u38 u39 : Value} (w : World) (h : Ia b bi bl l w s)
    (hlk : ∀ W, Ia b bi bl l W s → (Instr.lookup 42 (.map (some bi)) (.string p) false).run Try.prog W = .ok (.agg #[.int .i64 K, .string X, .string Y, .int .i64 T, .int .i64 M]) W)
    (hadd : IntKind.i64.wrap ((j : Int) + 1) = ((j + 1 : Nat) : Int))
    (cm : ∀ W, Calls Try.prog 40 #[.int .i64 loss, .int .i64 ((j + 1 : Nat) : Int)] W fun e w' => e = .returned (.int .u64 (pick : Nat)) ∧ w' = W)
    (cl : ∀ W, Calls Try.prog 39 #[.agg #[.int .i64 K, .string X, .string Y, .int .i64 T, .int .i64 M], .int .u64 (pick : Nat)] W fun e w' => e = .returned (.agg #[.int .i64 K, .string Z, .string Z, .int .i64 0, .int .i64 M]) ∧ Below W.heap.size W w')
    (cs : ∀ W, Ia b bi bl l W s → Calls Try.prog 32 #[.pointer (some ⟨b, 0, none⟩), .string p, .agg #[.int .i64 K, .string Z, .string Z, .int .i64 0, .int .i64 M]] W fun e w' => e = .returned (.tuple #[]) ∧ Ip b bi bl W s2 w') :
    (Code.region id ops true).wp Try.prog (Rg.Only fun a' w' => a' = ⟨#[(.pointer (some ⟨b, 0, none⟩)), (.int .i64 loss), u2, u3, u4, u5, (.int .i64 (j : Nat)), (.string p), u8, u9, u10, u11, u12, u13, u14, u15, u16, u17, u18, (.pointer (some ⟨b, 0, none⟩)), (.string p), (.pointer (some ⟨b, 0, none⟩)), (.pointer (some ⟨b, 0, none⟩)), (.pointer (some ⟨b, 0, none⟩)), (.map (some bi)), (.string p), (.agg #[.int .i64 K, .string X, .string Y, .int .i64 T, .int .i64 M]), (.int .i64 loss), (.int .i64 (j : Nat)), (.int .i64 ((j + 1 : Nat) : Int)), (.int .u64 (pick : Nat)), (.agg #[.int .i64 K, .string Z, .string Z, .int .i64 0, .int .i64 M]), (.tuple #[]), u33, u34, u35, u36, u37, u38, u39], []⟩ ∧ Ip b bi bl w s2 w') ⟨#[(.pointer (some ⟨b, 0, none⟩)), (.int .i64 loss), u2, u3, u4, u5, (.int .i64 (j : Nat)), (.string p), u8, u9, u10, u11, u12, u13, u14, u15, u16, u17, u18, u19, u20, u21, u22, u23, u24, u25, u26, u27, u28, u29, u30, u31, u32, u33, u34, u35, u36, u37, u38, u39], []⟩ w := by
  subst hops
  have hNS : Region.noSelect (Rg.opsOf Try.f14 7) = true := by kernel_rfl
  have h0 : Ia b bi bl l w.drew s := h.below (Below.refl _ _).drew
  refine wp_region_held_drew (S := fun W => ∃ l2 s9, Ia b bi bl l2 W s9) (by kernel_rfl) ⟨l, s, h0⟩ (fun hHeld => ?_)
  rw [show (Rg.opsOf Try.f14 7).size = 14 by kernel_rfl]
  refine Rg.take (ops := (Rg.opsOf Try.f14 7)) 0 (some 19) ((.pointer (some ⟨b, 0, none⟩))) hNS (by kernel_rfl) (by kernel_rfl) (by kernel_rfl) (by kernel_rfl) (by kernel_rfl) hHeld (Rg.y_move (x := (Operand.tmp 0)) (Or.inl (by kernel_rfl)) (by kernel_rfl)) ?_
  refine Rg.take (ops := (Rg.opsOf Try.f14 7)) 1 (some 20) ((.string p)) hNS (by kernel_rfl) (by kernel_rfl) (by kernel_rfl) (by kernel_rfl) (by kernel_rfl) hHeld (Rg.y_move (x := (Operand.tmp 7)) (Or.inl (by kernel_rfl)) (by kernel_rfl)) ?_
  refine Rg.take (ops := (Rg.opsOf Try.f14 7)) 2 (some 21) ((.pointer (some ⟨b, 0, none⟩))) hNS (by kernel_rfl) (by kernel_rfl) (by kernel_rfl) (by kernel_rfl) (by kernel_rfl) hHeld (Rg.y_move (x := (Operand.tmp 0)) (Or.inl (by kernel_rfl)) (by kernel_rfl)) ?_
  refine Rg.take (ops := (Rg.opsOf Try.f14 7)) 3 (some 22) ((.pointer (some ⟨b, 0, none⟩))) hNS (by kernel_rfl) (by kernel_rfl) (by kernel_rfl) (by kernel_rfl) (by kernel_rfl) hHeld (Rg.y_nil (x := (Operand.tmp 21)) (by kernel_rfl) (by kernel_rfl)) ?_
  refine Rg.take (ops := (Rg.opsOf Try.f14 7)) 4 (some 23) ((.pointer (some ⟨b, 0, none⟩))) hNS (by kernel_rfl) (by kernel_rfl) (by kernel_rfl) (by kernel_rfl) (by kernel_rfl) hHeld (Rg.y_field (T := 45) (k := 0) (x := (Operand.tmp 22)) (vx := (.pointer (some ⟨b, 0, none⟩))) (by kernel_rfl) (by kernel_rfl) ?_) ?_
  · (intro w hSw; clear hSw; go_simp)
  refine Rg.take (ops := (Rg.opsOf Try.f14 7)) 5 (some 24) ((.map (some bi))) hNS (by kernel_rfl) (by kernel_rfl) (by kernel_rfl) (by kernel_rfl) (by kernel_rfl) hHeld (Rg.y_load (T := 42) (x := (Operand.tmp 23)) (vx := (.pointer (some ⟨b, 0, none⟩))) (by kernel_rfl) (by kernel_rfl) ?_) ?_
  · (intro w hSw; obtain ⟨_, _, hSw⟩ := hSw; have c0 := hSw.cell.1; clear hSw; go_simp)
  refine Rg.take (ops := (Rg.opsOf Try.f14 7)) 6 (some 25) ((.string p)) hNS (by kernel_rfl) (by kernel_rfl) (by kernel_rfl) (by kernel_rfl) (by kernel_rfl) hHeld (Rg.y_move (x := (Operand.tmp 7)) (Or.inl (by kernel_rfl)) (by kernel_rfl)) ?_
  refine Rg.take (ops := (Rg.opsOf Try.f14 7)) 8 (some 27) ((.int .i64 loss)) hNS (by kernel_rfl) (by kernel_rfl) (by kernel_rfl) (by kernel_rfl) (by kernel_rfl) hHeld (Rg.y_move (x := (Operand.tmp 1)) (Or.inl (by kernel_rfl)) (by kernel_rfl)) ?_
  refine Rg.take (ops := (Rg.opsOf Try.f14 7)) 9 (some 28) ((.int .i64 (j : Nat))) hNS (by kernel_rfl) (by kernel_rfl) (by kernel_rfl) (by kernel_rfl) (by kernel_rfl) hHeld (Rg.y_move (x := (Operand.tmp 6)) (Or.inl (by kernel_rfl)) (by kernel_rfl)) ?_
  refine Rg.take (ops := (Rg.opsOf Try.f14 7)) 10 (some 29) ((.int .i64 ((j + 1 : Nat) : Int))) hNS (by kernel_rfl) (by kernel_rfl) (by kernel_rfl) (by kernel_rfl) (by kernel_rfl) hHeld (Rg.y_bin (b := BinOp.add) (T := 3) (R' := 3) (x := (Operand.tmp 28)) (y := (Operand.const (Value.int IntKind.i64 1))) (vx := (.int .i64 (j : Nat))) (vy := (Value.int IntKind.i64 1)) (by kernel_rfl) (by kernel_rfl) (by kernel_rfl) ?_) ?_
  · (intro w hSw; clear hSw; go_simp <;> exact hadd)
  refine Rg.two (ops := (Rg.opsOf Try.f14 7)) (i := 7) (j := 11) (by kernel_rfl) ?_ ?_
  · refine Rg.op_look (ops := (Rg.opsOf Try.f14 7)) 7 (some 26) (T := 42) (x := (Operand.tmp 24)) (y := (Operand.tmp 25)) (c := false) (vx := (.map (some bi))) (vy := (.string p)) (v := (.agg #[.int .i64 K, .string X, .string Y, .int .i64 T, .int .i64 M])) (by kernel_rfl) (by kernel_rfl) (by kernel_rfl) (by kernel_rfl) (by kernel_rfl) (by kernel_rfl) ?_ hHeld ?_
    · (exact hlk _ h0)
    refine Rg.call (ops := (Rg.opsOf Try.f14 7)) (fn := Try.f40) (xs := #[Operand.tmp 27, Operand.tmp 29]) (ats := #[3, 3]) 11 (some 30) 40 #[(.int .i64 loss), (.int .i64 ((j + 1 : Nat) : Int))] (by kernel_rfl) (by kernel_rfl) (by kernel_rfl) (by kernel_rfl) (by kernel_rfl) Try.func40 (by kernel_rfl) (by kernel_rfl) (by kernel_rfl) ?_
    refine (cm _).mono ?_
    rintro e w5 ⟨rfl, rfl⟩
    refine ⟨_, rfl, hHeld, fun hHeld => ?_⟩
    refine Rg.call (ops := (Rg.opsOf Try.f14 7)) (fn := Try.f39) (xs := #[Operand.tmp 26, Operand.tmp 30]) (ats := #[48, 53]) 12 (some 31) 39 #[(.agg #[.int .i64 K, .string X, .string Y, .int .i64 T, .int .i64 M]), (.int .u64 (pick : Nat))] (by kernel_rfl) (by kernel_rfl) (by kernel_rfl) (by kernel_rfl) (by kernel_rfl) Try.func39 (by kernel_rfl) (by kernel_rfl) (by kernel_rfl) ?_
    refine (cl _).mono ?_
    rintro e w6 ⟨rfl, hb6⟩
    refine ⟨_, rfl, ⟨l, s, h0.below hb6⟩, fun hHeld => ?_⟩
    refine Rg.call (ops := (Rg.opsOf Try.f14 7)) (fn := Try.f32) (xs := #[Operand.tmp 19, Operand.tmp 20, Operand.tmp 31]) (ats := #[22, 9, 48]) 13 (some 32) 32 #[(.pointer (some ⟨b, 0, none⟩)), (.string p), (.agg #[.int .i64 K, .string Z, .string Z, .int .i64 0, .int .i64 M])] (by kernel_rfl) (by kernel_rfl) (by kernel_rfl) (by kernel_rfl) (by kernel_rfl) Try.func32 (by kernel_rfl) (by kernel_rfl) (by kernel_rfl) ?_
    refine (cs _ (h0.below hb6)).mono ?_
    rintro e w7 ⟨rfl, h7⟩
    refine ⟨_, rfl, ⟨_, _, h7.choose_spec.1⟩, fun hHeld => ?_⟩
    refine Rg.done (ops := (Rg.opsOf Try.f14 7)) (by kernel_rfl) ?_
    exact ⟨by kernel_rfl, Ip.after (below_call (Below.refl _ w).drew hb6) h7⟩
  · refine Rg.op_call (ops := (Rg.opsOf Try.f14 7)) (fn := Try.f40) (xs := #[Operand.tmp 27, Operand.tmp 29]) (ats := #[3, 3]) 11 (some 30) 40 #[(.int .i64 loss), (.int .i64 ((j + 1 : Nat) : Int))] (by kernel_rfl) (by kernel_rfl) (by kernel_rfl) (by kernel_rfl) Try.func40 (by kernel_rfl) (by kernel_rfl) (by kernel_rfl) ?_
    refine (cm _).mono ?_
    rintro e w5 ⟨rfl, rfl⟩
    refine ⟨_, rfl, hHeld, fun hHeld => ?_⟩
    refine Rg.one (ops := (Rg.opsOf Try.f14 7)) (i := 7) (by kernel_rfl) ?_
    refine Rg.op_look (ops := (Rg.opsOf Try.f14 7)) 7 (some 26) (T := 42) (x := (Operand.tmp 24)) (y := (Operand.tmp 25)) (c := false) (vx := (.map (some bi))) (vy := (.string p)) (v := (.agg #[.int .i64 K, .string X, .string Y, .int .i64 T, .int .i64 M])) (by kernel_rfl) (by kernel_rfl) (by kernel_rfl) (by kernel_rfl) (by kernel_rfl) (by kernel_rfl) ?_ hHeld ?_
    · (exact hlk _ h0)
    refine Rg.call (ops := (Rg.opsOf Try.f14 7)) (fn := Try.f39) (xs := #[Operand.tmp 26, Operand.tmp 30]) (ats := #[48, 53]) 12 (some 31) 39 #[(.agg #[.int .i64 K, .string X, .string Y, .int .i64 T, .int .i64 M]), (.int .u64 (pick : Nat))] (by kernel_rfl) (by kernel_rfl) (by kernel_rfl) (by kernel_rfl) (by kernel_rfl) Try.func39 (by kernel_rfl) (by kernel_rfl) (by kernel_rfl) ?_
    refine (cl _).mono ?_
    rintro e w6 ⟨rfl, hb6⟩
    refine ⟨_, rfl, ⟨l, s, h0.below hb6⟩, fun hHeld => ?_⟩
    refine Rg.call (ops := (Rg.opsOf Try.f14 7)) (fn := Try.f32) (xs := #[Operand.tmp 19, Operand.tmp 20, Operand.tmp 31]) (ats := #[22, 9, 48]) 13 (some 32) 32 #[(.pointer (some ⟨b, 0, none⟩)), (.string p), (.agg #[.int .i64 K, .string Z, .string Z, .int .i64 0, .int .i64 M])] (by kernel_rfl) (by kernel_rfl) (by kernel_rfl) (by kernel_rfl) (by kernel_rfl) Try.func32 (by kernel_rfl) (by kernel_rfl) (by kernel_rfl) ?_
    refine (cs _ (h0.below hb6)).mono ?_
    rintro e w7 ⟨rfl, h7⟩
    refine ⟨_, rfl, ⟨_, _, h7.choose_spec.1⟩, fun hHeld => ?_⟩
    refine Rg.done (ops := (Rg.opsOf Try.f14 7)) (by kernel_rfl) ?_
    exact ⟨by kernel_rfl, Ip.after (below_call (Below.refl _ w).drew hb6) h7⟩

set_option maxRecDepth 100000 in
set_option maxHeartbeats 2000000 in
theorem regRot (ops : Array Oper) (hops : ops = (Rg.opsOf Try.f23 5)) (id : Nat) (bx : Nat) (X Y TX TY : ByteArray) (K T M bit : Int) {u0 u1 u3 u4 u5 u6 u7 u9 u10 u11 u12 u13 u14 u15 u16 u17 u18 u19 u20 u21 u22 u23 u24 u25 u26 u27 u28 u29 u30 u31 u32 u33 u34 : Value} (w : World) (hbox : Box5 w bx K X Y T M) (hwarm : ∀ W, Below w.heap.size w W → ∀ k, W.frozen? ⟨bx, k, none⟩ = false)
    (ct1 : ∀ W, Calls Try.prog 48 #[.string X, .int .i64 bit] W fun e w' => e = .returned (.string TX) ∧ Below W.heap.size W w')
    (ct2 : ∀ W, Calls Try.prog 48 #[.string Y, .int .i64 bit] W fun e w' => e = .returned (.string TY) ∧ Below W.heap.size W w') :
    (Code.region id ops true).wp Try.prog (Rg.Only fun a' w' => a' = ⟨#[u0, u1, (.int .i64 bit), u3, u4, u5, u6, u7, (.pointer (some ⟨bx, 0, none⟩)), u9, u10, u11, u12, u13, u14, u15, u16, u17, u18, u19, u20, (.pointer (some ⟨bx, 1, none⟩)), (.string X), (.int .i64 bit), (.string TX), (.pointer (some ⟨bx, 2, none⟩)), (.string Y), (.int .i64 bit), (.string TY), (.pointer (some ⟨bx, 1, none⟩)), (.pointer (some ⟨bx, 2, none⟩)), u31, u32, u33, u34], []⟩ ∧ ∃ w4, Below w.heap.size w w4 ∧ w' = (w4.setCell ⟨bx, 1, none⟩ (.string TX)).setCell ⟨bx, 2, none⟩ (.string TY)) ⟨#[u0, u1, (.int .i64 bit), u3, u4, u5, u6, u7, (.pointer (some ⟨bx, 0, none⟩)), u9, u10, u11, u12, u13, u14, u15, u16, u17, u18, u19, u20, u21, u22, u23, u24, u25, u26, u27, u28, u29, u30, u31, u32, u33, u34], []⟩ w := by
  subst hops
  have hNS : Region.noSelect (Rg.opsOf Try.f23 5) = true := by kernel_rfl
  have hBd : Below w.heap.size w w.drew := (Below.refl _ _).drew
  obtain ⟨_, q0, q1, q2, q3, q4⟩ := hbox.below hBd
  refine wp_region_held_drew (S := fun _ => True) (by kernel_rfl) trivial (fun hHeld => ?_)
  rw [show (Rg.opsOf Try.f23 5).size = 12 by kernel_rfl]
  refine Rg.take (ops := (Rg.opsOf Try.f23 5)) 0 (some 21) ((.pointer (some ⟨bx, 1, none⟩))) hNS (by kernel_rfl) (by kernel_rfl) (by kernel_rfl) (by kernel_rfl) (by kernel_rfl) hHeld (Rg.y_field (T := 48) (k := 1) (x := (Operand.tmp 8)) (vx := (.pointer (some ⟨bx, 0, none⟩))) (by kernel_rfl) (by kernel_rfl) ?_) ?_
  · (intro w hSw; go_simp)
  refine Rg.take (ops := (Rg.opsOf Try.f23 5)) 2 (some 23) ((.int .i64 bit)) hNS (by kernel_rfl) (by kernel_rfl) (by kernel_rfl) (by kernel_rfl) (by kernel_rfl) hHeld (Rg.y_move (x := (Operand.tmp 2)) (Or.inl (by kernel_rfl)) (by kernel_rfl)) ?_
  refine Rg.take (ops := (Rg.opsOf Try.f23 5)) 4 (some 25) ((.pointer (some ⟨bx, 2, none⟩))) hNS (by kernel_rfl) (by kernel_rfl) (by kernel_rfl) (by kernel_rfl) (by kernel_rfl) hHeld (Rg.y_field (T := 48) (k := 2) (x := (Operand.tmp 8)) (vx := (.pointer (some ⟨bx, 0, none⟩))) (by kernel_rfl) (by kernel_rfl) ?_) ?_
  · (intro w hSw; go_simp)
  refine Rg.take (ops := (Rg.opsOf Try.f23 5)) 6 (some 27) ((.int .i64 bit)) hNS (by kernel_rfl) (by kernel_rfl) (by kernel_rfl) (by kernel_rfl) (by kernel_rfl) hHeld (Rg.y_move (x := (Operand.tmp 2)) (Or.inl (by kernel_rfl)) (by kernel_rfl)) ?_
  refine Rg.two (ops := (Rg.opsOf Try.f23 5)) (i := 1) (j := 5) (by kernel_rfl) ?_ ?_
  · refine Rg.op_load (ops := (Rg.opsOf Try.f23 5)) 1 (some 22) (T := 9) (x := (Operand.tmp 21)) (vx := (.pointer (some ⟨bx, 1, none⟩))) (v := (.string X)) (by kernel_rfl) (by kernel_rfl) (by kernel_rfl) (by kernel_rfl) (by kernel_rfl) ?_ hHeld ?_
    · go_simp
    refine Rg.two (ops := (Rg.opsOf Try.f23 5)) (i := 3) (j := 5) (by kernel_rfl) ?_ ?_
    · refine Rg.op_call (ops := (Rg.opsOf Try.f23 5)) (fn := Try.f48) (xs := #[Operand.tmp 22, Operand.tmp 23]) (ats := #[9, 3]) 3 (some 24) 48 #[(.string X), (.int .i64 bit)] (by kernel_rfl) (by kernel_rfl) (by kernel_rfl) (by kernel_rfl) Try.func48 (by kernel_rfl) (by kernel_rfl) (by kernel_rfl) ?_
      refine (ct1 _).mono ?_
      rintro e w3 ⟨rfl, hb3⟩
      obtain ⟨_, g0, g1, g2, g3, g4⟩ := hbox.below (below_call hBd hb3)
      refine ⟨_, rfl, trivial, fun hHeld => ?_⟩
      refine Rg.one (ops := (Rg.opsOf Try.f23 5)) (i := 5) (by kernel_rfl) ?_
      refine Rg.op_load (ops := (Rg.opsOf Try.f23 5)) 5 (some 26) (T := 9) (x := (Operand.tmp 25)) (vx := (.pointer (some ⟨bx, 2, none⟩))) (v := (.string Y)) (by kernel_rfl) (by kernel_rfl) (by kernel_rfl) (by kernel_rfl) (by kernel_rfl) ?_ hHeld ?_
      · go_simp
      refine Rg.take (ops := (Rg.opsOf Try.f23 5)) 8 (some 29) ((.pointer (some ⟨bx, 1, none⟩))) hNS (by kernel_rfl) (by kernel_rfl) (by kernel_rfl) (by kernel_rfl) (by kernel_rfl) hHeld (Rg.y_field (T := 48) (k := 1) (x := (Operand.tmp 8)) (vx := (.pointer (some ⟨bx, 0, none⟩))) (by kernel_rfl) (by kernel_rfl) ?_) ?_
      · (intro w hSw; go_simp)
      refine Rg.call (ops := (Rg.opsOf Try.f23 5)) (fn := Try.f48) (xs := #[Operand.tmp 26, Operand.tmp 27]) (ats := #[9, 3]) 7 (some 28) 48 #[(.string Y), (.int .i64 bit)] (by kernel_rfl) (by kernel_rfl) (by kernel_rfl) (by kernel_rfl) (by kernel_rfl) Try.func48 (by kernel_rfl) (by kernel_rfl) (by kernel_rfl) ?_
      refine (ct2 _).mono ?_
      rintro e w4 ⟨rfl, hb4⟩
      obtain ⟨_, m0, m1, m2, m3, m4⟩ := hbox.below (below_call (below_call hBd hb3) hb4)
      have hw4 := hwarm _ (below_call (below_call hBd hb3) hb4)
      refine ⟨_, rfl, trivial, fun hHeld => ?_⟩
      refine Rg.store (ops := (Rg.opsOf Try.f23 5)) 9 (T := 9) (x := (Operand.tmp 29)) (y := (Operand.tmp 24)) (vx := (.pointer (some ⟨bx, 1, none⟩))) (vy := (.string TX)) (w1 := w4.setCell ⟨bx, 1, none⟩ (.string TX)) (by kernel_rfl) (by kernel_rfl) (by kernel_rfl) (by kernel_rfl) (by kernel_rfl) (by kernel_rfl) (by kernel_rfl) ?_ (trivial) (fun hHeld => ?_)
      · go_simp
      refine Rg.take (ops := (Rg.opsOf Try.f23 5)) 10 (some 30) ((.pointer (some ⟨bx, 2, none⟩))) hNS (by kernel_rfl) (by kernel_rfl) (by kernel_rfl) (by kernel_rfl) (by kernel_rfl) hHeld (Rg.y_field (T := 48) (k := 2) (x := (Operand.tmp 8)) (vx := (.pointer (some ⟨bx, 0, none⟩))) (by kernel_rfl) (by kernel_rfl) ?_) ?_
      · (intro w hSw; go_simp)
      refine Rg.store (ops := (Rg.opsOf Try.f23 5)) 11 (T := 9) (x := (Operand.tmp 30)) (y := (Operand.tmp 28)) (vx := (.pointer (some ⟨bx, 2, none⟩))) (vy := (.string TY)) (w1 := (w4.setCell ⟨bx, 1, none⟩ (.string TX)).setCell ⟨bx, 2, none⟩ (.string TY)) (by kernel_rfl) (by kernel_rfl) (by kernel_rfl) (by kernel_rfl) (by kernel_rfl) (by kernel_rfl) (by kernel_rfl) ?_ (trivial) (fun hHeld => ?_)
      · go_simp
      refine Rg.done (ops := (Rg.opsOf Try.f23 5)) (by kernel_rfl) ?_
      exact ⟨by kernel_rfl, w4, below_call (below_call hBd hb3) hb4, rfl⟩
    · refine Rg.op_load (ops := (Rg.opsOf Try.f23 5)) 5 (some 26) (T := 9) (x := (Operand.tmp 25)) (vx := (.pointer (some ⟨bx, 2, none⟩))) (v := (.string Y)) (by kernel_rfl) (by kernel_rfl) (by kernel_rfl) (by kernel_rfl) (by kernel_rfl) ?_ hHeld ?_
      · go_simp
      refine Rg.call (ops := (Rg.opsOf Try.f23 5)) (fn := Try.f48) (xs := #[Operand.tmp 22, Operand.tmp 23]) (ats := #[9, 3]) 3 (some 24) 48 #[(.string X), (.int .i64 bit)] (by kernel_rfl) (by kernel_rfl) (by kernel_rfl) (by kernel_rfl) (by kernel_rfl) Try.func48 (by kernel_rfl) (by kernel_rfl) (by kernel_rfl) ?_
      refine (ct1 _).mono ?_
      rintro e w3 ⟨rfl, hb3⟩
      obtain ⟨_, g0, g1, g2, g3, g4⟩ := hbox.below (below_call hBd hb3)
      refine ⟨_, rfl, trivial, fun hHeld => ?_⟩
      refine Rg.take (ops := (Rg.opsOf Try.f23 5)) 8 (some 29) ((.pointer (some ⟨bx, 1, none⟩))) hNS (by kernel_rfl) (by kernel_rfl) (by kernel_rfl) (by kernel_rfl) (by kernel_rfl) hHeld (Rg.y_field (T := 48) (k := 1) (x := (Operand.tmp 8)) (vx := (.pointer (some ⟨bx, 0, none⟩))) (by kernel_rfl) (by kernel_rfl) ?_) ?_
      · (intro w hSw; go_simp)
      refine Rg.call (ops := (Rg.opsOf Try.f23 5)) (fn := Try.f48) (xs := #[Operand.tmp 26, Operand.tmp 27]) (ats := #[9, 3]) 7 (some 28) 48 #[(.string Y), (.int .i64 bit)] (by kernel_rfl) (by kernel_rfl) (by kernel_rfl) (by kernel_rfl) (by kernel_rfl) Try.func48 (by kernel_rfl) (by kernel_rfl) (by kernel_rfl) ?_
      refine (ct2 _).mono ?_
      rintro e w4 ⟨rfl, hb4⟩
      obtain ⟨_, m0, m1, m2, m3, m4⟩ := hbox.below (below_call (below_call hBd hb3) hb4)
      have hw4 := hwarm _ (below_call (below_call hBd hb3) hb4)
      refine ⟨_, rfl, trivial, fun hHeld => ?_⟩
      refine Rg.store (ops := (Rg.opsOf Try.f23 5)) 9 (T := 9) (x := (Operand.tmp 29)) (y := (Operand.tmp 24)) (vx := (.pointer (some ⟨bx, 1, none⟩))) (vy := (.string TX)) (w1 := w4.setCell ⟨bx, 1, none⟩ (.string TX)) (by kernel_rfl) (by kernel_rfl) (by kernel_rfl) (by kernel_rfl) (by kernel_rfl) (by kernel_rfl) (by kernel_rfl) ?_ (trivial) (fun hHeld => ?_)
      · go_simp
      refine Rg.take (ops := (Rg.opsOf Try.f23 5)) 10 (some 30) ((.pointer (some ⟨bx, 2, none⟩))) hNS (by kernel_rfl) (by kernel_rfl) (by kernel_rfl) (by kernel_rfl) (by kernel_rfl) hHeld (Rg.y_field (T := 48) (k := 2) (x := (Operand.tmp 8)) (vx := (.pointer (some ⟨bx, 0, none⟩))) (by kernel_rfl) (by kernel_rfl) ?_) ?_
      · (intro w hSw; go_simp)
      refine Rg.store (ops := (Rg.opsOf Try.f23 5)) 11 (T := 9) (x := (Operand.tmp 30)) (y := (Operand.tmp 28)) (vx := (.pointer (some ⟨bx, 2, none⟩))) (vy := (.string TY)) (w1 := (w4.setCell ⟨bx, 1, none⟩ (.string TX)).setCell ⟨bx, 2, none⟩ (.string TY)) (by kernel_rfl) (by kernel_rfl) (by kernel_rfl) (by kernel_rfl) (by kernel_rfl) (by kernel_rfl) (by kernel_rfl) ?_ (trivial) (fun hHeld => ?_)
      · go_simp
      refine Rg.done (ops := (Rg.opsOf Try.f23 5)) (by kernel_rfl) ?_
      exact ⟨by kernel_rfl, w4, below_call (below_call hBd hb3) hb4, rfl⟩
  · refine Rg.op_load (ops := (Rg.opsOf Try.f23 5)) 5 (some 26) (T := 9) (x := (Operand.tmp 25)) (vx := (.pointer (some ⟨bx, 2, none⟩))) (v := (.string Y)) (by kernel_rfl) (by kernel_rfl) (by kernel_rfl) (by kernel_rfl) (by kernel_rfl) ?_ hHeld ?_
    · go_simp
    refine Rg.one (ops := (Rg.opsOf Try.f23 5)) (i := 1) (by kernel_rfl) ?_
    refine Rg.op_load (ops := (Rg.opsOf Try.f23 5)) 1 (some 22) (T := 9) (x := (Operand.tmp 21)) (vx := (.pointer (some ⟨bx, 1, none⟩))) (v := (.string X)) (by kernel_rfl) (by kernel_rfl) (by kernel_rfl) (by kernel_rfl) (by kernel_rfl) ?_ hHeld ?_
    · go_simp
    refine Rg.call (ops := (Rg.opsOf Try.f23 5)) (fn := Try.f48) (xs := #[Operand.tmp 22, Operand.tmp 23]) (ats := #[9, 3]) 3 (some 24) 48 #[(.string X), (.int .i64 bit)] (by kernel_rfl) (by kernel_rfl) (by kernel_rfl) (by kernel_rfl) (by kernel_rfl) Try.func48 (by kernel_rfl) (by kernel_rfl) (by kernel_rfl) ?_
    refine (ct1 _).mono ?_
    rintro e w3 ⟨rfl, hb3⟩
    obtain ⟨_, g0, g1, g2, g3, g4⟩ := hbox.below (below_call hBd hb3)
    refine ⟨_, rfl, trivial, fun hHeld => ?_⟩
    refine Rg.take (ops := (Rg.opsOf Try.f23 5)) 8 (some 29) ((.pointer (some ⟨bx, 1, none⟩))) hNS (by kernel_rfl) (by kernel_rfl) (by kernel_rfl) (by kernel_rfl) (by kernel_rfl) hHeld (Rg.y_field (T := 48) (k := 1) (x := (Operand.tmp 8)) (vx := (.pointer (some ⟨bx, 0, none⟩))) (by kernel_rfl) (by kernel_rfl) ?_) ?_
    · (intro w hSw; go_simp)
    refine Rg.call (ops := (Rg.opsOf Try.f23 5)) (fn := Try.f48) (xs := #[Operand.tmp 26, Operand.tmp 27]) (ats := #[9, 3]) 7 (some 28) 48 #[(.string Y), (.int .i64 bit)] (by kernel_rfl) (by kernel_rfl) (by kernel_rfl) (by kernel_rfl) (by kernel_rfl) Try.func48 (by kernel_rfl) (by kernel_rfl) (by kernel_rfl) ?_
    refine (ct2 _).mono ?_
    rintro e w4 ⟨rfl, hb4⟩
    obtain ⟨_, m0, m1, m2, m3, m4⟩ := hbox.below (below_call (below_call hBd hb3) hb4)
    have hw4 := hwarm _ (below_call (below_call hBd hb3) hb4)
    refine ⟨_, rfl, trivial, fun hHeld => ?_⟩
    refine Rg.store (ops := (Rg.opsOf Try.f23 5)) 9 (T := 9) (x := (Operand.tmp 29)) (y := (Operand.tmp 24)) (vx := (.pointer (some ⟨bx, 1, none⟩))) (vy := (.string TX)) (w1 := w4.setCell ⟨bx, 1, none⟩ (.string TX)) (by kernel_rfl) (by kernel_rfl) (by kernel_rfl) (by kernel_rfl) (by kernel_rfl) (by kernel_rfl) (by kernel_rfl) ?_ (trivial) (fun hHeld => ?_)
    · go_simp
    refine Rg.take (ops := (Rg.opsOf Try.f23 5)) 10 (some 30) ((.pointer (some ⟨bx, 2, none⟩))) hNS (by kernel_rfl) (by kernel_rfl) (by kernel_rfl) (by kernel_rfl) (by kernel_rfl) hHeld (Rg.y_field (T := 48) (k := 2) (x := (Operand.tmp 8)) (vx := (.pointer (some ⟨bx, 0, none⟩))) (by kernel_rfl) (by kernel_rfl) ?_) ?_
    · (intro w hSw; go_simp)
    refine Rg.store (ops := (Rg.opsOf Try.f23 5)) 11 (T := 9) (x := (Operand.tmp 30)) (y := (Operand.tmp 28)) (vx := (.pointer (some ⟨bx, 2, none⟩))) (vy := (.string TY)) (w1 := (w4.setCell ⟨bx, 1, none⟩ (.string TX)).setCell ⟨bx, 2, none⟩ (.string TY)) (by kernel_rfl) (by kernel_rfl) (by kernel_rfl) (by kernel_rfl) (by kernel_rfl) (by kernel_rfl) (by kernel_rfl) ?_ (trivial) (fun hHeld => ?_)
    · go_simp
    refine Rg.done (ops := (Rg.opsOf Try.f23 5)) (by kernel_rfl) ?_
    exact ⟨by kernel_rfl, w4, below_call (below_call hBd hb3) hb4, rfl⟩

end Go.Proofs.Ytcbnpdognadilaa.Dk

/- What the closures of package disk's calls do: one step each. -/
namespace Go.Proofs.Ytcbnpdognadilaa.Dk
open Go.RowKit Tx Pm Pl Pr
set_option linter.unusedVariables false

/-- A captured variable. -/
def Cap (w : World) (g : Nat) (v : Value) : Prop := w.cell? ⟨g, 0, none⟩ = some v
set_option maxRecDepth 100000 in
theorem iMkdirC_any (b bi bl bd bp : Nat) (l : Int) (s : St) (p : ByteArray) (w : World) (h : Ia b bi bl l w s) (hd : Cap w bd (.pointer (some ⟨b, 0, none⟩))) (hp : Cap w bp (.string p)) (hps : p.size ≤ 8000000000000) (hn : s.L.length ≤ 1000000000) :
    Calls Try.prog 29 #[.pointer (some ⟨bd, 0, none⟩), .pointer (some ⟨bp, 0, none⟩)] w fun e w' => e = .returned (.tuple #[]) ∧ Ip b bi bl w { s with L := ins s.L ⟨p, true, ⟨#[]⟩, ⟨#[]⟩, false, false, 0⟩ } w' := by
  obtain ⟨c0, _⟩ := h.cell
  unfold Cap at hd hp
  have h0 := h.below (Below.refl _ w).drew
  obtain ⟨w1, hrun, hm, ht⟩ := h0.items.store (x := ⟨p, true, ⟨#[]⟩, ⟨#[]⟩, false, false, 0⟩) (maxLen_of hps) (by unfold maxLen; omega)
  have hend : Ip b bi bl w { s with L := ins s.L ⟨p, true, ⟨#[]⟩, ⟨#[]⟩, false, false, 0⟩ } w1 := ⟨l, h0.turned hm ht, (Chg.of_below (Below.refl _ w).drew).then ((turned_chg ht).mono ft_i)⟩
  have HE := Lib.hid hend
  clear h h0 hm ht hend
  have hrun : (Instr.mapUpdate 42 (.map (some bi)) (.string p) (.agg #[.int .i64 1, .string ⟨#[]⟩, .string ⟨#[]⟩, .int .i64 0, .int .i64 0])).run Try.prog w.drew = .ok () w1 := hrun
  go_enter Try.func29, Try.ntmps29
  go_region
  all_goals (go_end0; exact ⟨rfl, HE.out⟩)

/-! set, step -/
theorem own_cells {b bi bl : Nat} {l : Int} {w : World} {s : St} (h : Ia b bi bl l w s) (k : Nat) (u : Value) {cs : Array Value} (hk : (#[.map (some bi), .map (some bl), .int .i64 l, .int .i64 s.steps, .int .i64 s.stamps, .bool s.down] : Array Value).setIfInBounds k u = cs) :
    (w.setCell ⟨b, k, none⟩ u).heap[b]? = some (.cells cs 45 (0, 0)) := by
  rw [set_block h.blk, hk]
set_option maxRecDepth 100000 in
theorem iSet_any (b bi bl : Nat) (l : Int) (s : St) (x : It) (N : Int) (p : ByteArray) (w : World) (h : Ia b bi bl l w s) (hxp : x.path = p) (hps : p.size ≤ 8000000000000) (hn : s.L.length ≤ 1000000000) (hst : s.stamps ≤ 1000000000000) :
    Calls Try.prog 32 #[.pointer (some ⟨b, 0, none⟩), .string p, .agg #[.int .i64 (kOf x), .string x.data, .string x.kept, .int .i64 (stOf x), .int .i64 N]] w fun e w' => e = .returned (.tuple #[]) ∧ Ip b bi bl w (putS s x) w' := by
  obtain ⟨c0, c1, c2, c3, c4, c5⟩ := h.cell
  have hwm := h.warm
  have hbl : b < w.heap.size := h.lt b (.inl rfl)
  have a1 : Ia b bi bl l (w.setCell ⟨b, 4, none⟩ (.int .i64 ((s.stamps : Int) + 1))) { s with stamps := s.stamps + 1 } :=
    h.poke (chg_set _) (own_cells h 4 _ rfl) rfl rfl h.left h.low
  have hc1 : Chg (Ft b bi bl) w (w.setCell ⟨b, 4, none⟩ (.int .i64 ((s.stamps : Int) + 1))) := (chg_set _).mono ft_b
  have hB2 := ((Below.refl _ (w.setCell ⟨b, 4, none⟩ (.int .i64 ((s.stamps : Int) + 1)))).alloc (Nat.le_refl _) (.cells #[.int .i64 (kOf x), .string x.data, .string x.kept, .int .i64 (stOf x), .int .i64 ((s.stamps : Int) + 1)] 48)).drew
  have a2 := a1.below hB2
  obtain ⟨w3, hrun, hm, ht⟩ := a2.items.store (x := stamped s x) (by rw [show (stamped s x).path = p from hxp]; exact maxLen_of hps) (by unfold maxLen; show s.L.length < _; omega)
  have hrun : (Instr.mapUpdate 42 (.map (some bi)) (.string p) (.agg #[.int .i64 (kOf x), .string x.data, .string x.kept, .int .i64 (stOf x), .int .i64 ((s.stamps : Int) + 1)])).run Try.prog
      ((w.setCell ⟨b, 4, none⟩ (.int .i64 ((s.stamps : Int) + 1))).alloc (.cells #[.int .i64 (kOf x), .string x.data, .string x.kept, .int .i64 (stOf x), .int .i64 ((s.stamps : Int) + 1)] 48)).drew = .ok () w3 := by
    rw [← hxp]
    exact hrun
  have hend : Ip b bi bl w (putS s x) w3 := ⟨l, a2.turned hm ht, (hc1.then (Chg.of_below hB2 |>.mono (fun _ hi => hi))).then ((turned_chg ht).mono ft_i)⟩
  have HE := Lib.hid hend
  generalize kOf x = K at hrun ⊢
  generalize stOf x = T at hrun ⊢
  clear h a1 a2 hc1 hB2 hm ht hend hxp
  go_enter Try.func32, Try.ntmps32
  go_wp2
  go_region
  all_goals (go_end0; exact ⟨rfl, HE.out⟩)
end Go.Proofs.Ytcbnpdognadilaa.Dk

/- Package disk's step: a call that isn't refused is a step, or the stop. -/
namespace Go.Proofs.Ytcbnpdognadilaa.Dk
open Go.RowKit Tx Pm Pl Pr
set_option linter.unusedVariables false

def stepR (s : St) (r : Nat) (s' : St) : Nat × St := if r ≠ 0 then (r, s) else if (done s).1 ≠ 0 then done s else (0, s')
set_option maxRecDepth 100000 in
theorem iStep_any (b bi bl : Nat) (l : Int) (s : St) (r : Nat) (f : FuncId) (cap : Array Value) (s' : St) (w : World) (h : Ia b bi bl l w s) (hd : r = 0 → s.down = false) (hst : s.steps ≤ 1000000000000)
    (hen : ∀ W, (callFunc f cap).run Try.prog W = .ok (.enter f cap) W)
    (cf : ∀ l1 W, r = 0 → (done s).1 = 0 → Ia b bi bl l1 W (done s).2 → Chg (· = b) w W → Calls Try.prog f cap W fun e w' => e = .returned (.tuple #[]) ∧ Ip b bi bl W s' w') :
    Calls Try.prog 27 #[.pointer (some ⟨b, 0, none⟩), .int .i64 r, .func (.func f) #[] cap] w fun e w' => e = .returned (.int .i64 ((stepR s r s').1 : Nat)) ∧ Ip b bi bl w (stepR s r s').2 w' := by
  obtain ⟨c0, c1, c2, c3, c4, c5⟩ := h.cell
  have hwm := h.warm
  have hlow := h.low
  unfold stepR
  by_cases hr : r = 0
  · subst hr
    rw [if_neg (by decide)]
    have hdn := hd rfl
    have hla : l = s.armed := h.left.resolve_left (by rw [hdn]; decide)
    by_cases h0 : l = 0
    · have hD : done s = (14, { s with down := true, armed := -1 }) := by unfold done; rw [if_pos (by omega)]
      rw [hD, if_pos (fun e => by cases e)]
      subst h0
      have a1 : Ia b bi bl 0 (w.setCell ⟨b, 5, none⟩ (.bool true)) { s with down := true, armed := -1 } := h.poke (chg_set _) (own_cells h 5 _ rfl) rfl rfl (.inl rfl) h.low
      have HE := Lib.hid (show Ip b bi bl w { s with down := true, armed := -1 } (w.setCell ⟨b, 5, none⟩ (.bool true)) from ⟨0, a1, (chg_set _).mono ft_b⟩)
      clear a1 h hd hD hla cf
      go_enter Try.func27, Try.ntmps27
      go_wp2
      go_ret
      exact ⟨rfl, HE.out⟩
    · have hD : done s = (0, { s with armed := if s.armed > 0 then s.armed - 1 else s.armed, steps := s.steps + 1 }) := by unfold done; rw [if_neg (by omega)]
      rw [hD] at cf
      rw [hD, if_neg (fun e => e rfl)]
      have e0 : (l == 0) = false := beq_eq_false_iff_ne.2 h0
      by_cases hl1 : l = -1
      · have hl2 : (-1 : Int) = s.armed := hl1 ▸ hla
        subst hl1
        have hx1 : max ((-1 : Int) - 1) (-1) = -1 := by omega
        have hx2 : max (-2 : Int) (-1) = -1 := by omega
        have hb1 : (w.setCell ⟨b, 2, none⟩ (.int .i64 (-1))).heap[b]? = some (.cells #[.map (some bi), .map (some bl), .int .i64 (-1), .int .i64 s.steps, .int .i64 s.stamps, .bool s.down] 45 (0, 0)) := own_cells h 2 _ rfl
        have hb2 : ((w.setCell ⟨b, 2, none⟩ (.int .i64 (-1))).setCell ⟨b, 3, none⟩ (.int .i64 ((s.steps : Int) + 1))).heap[b]? = some (.cells #[.map (some bi), .map (some bl), .int .i64 (-1), .int .i64 ((s.steps : Int) + 1), .int .i64 s.stamps, .bool s.down] 45 (0, 0)) := set_block hb1 _
        have hc2 : Chg (· = b) w ((w.setCell ⟨b, 2, none⟩ (.int .i64 (-1))).setCell ⟨b, 3, none⟩ (.int .i64 ((s.steps : Int) + 1))) := (chg_set _).then (chg_set _)
        have a2 : Ia b bi bl (-1) _ { s with armed := if s.armed > 0 then s.armed - 1 else s.armed, steps := s.steps + 1 } := h.poke hc2 hb2 rfl rfl (.inr (by show _ = (if s.armed > 0 then s.armed - 1 else s.armed); split <;> omega)) (by omega)
        have cf2 := cf (-1) _ rfl rfl a2 hc2
        have HC := Lib.hid hc2
        have g3 : (w.setCell ⟨b, 2, none⟩ (.int .i64 (-1))).cell? ⟨b, 3, none⟩ = some (.int .i64 s.steps) := by unfold World.cell?; rw [hb1]; rfl
        clear hl2 a2 h hd hD hla cf hc2 hb1 hb2 h0
        go_enter Try.func27, Try.ntmps27
        go_wp2_with fail
        refine cf2.mono ?_
        rintro e w5 ⟨rfl, l5, hat5, hc5⟩
        go_wp2
        go_ret
        exact ⟨rfl, l5, hat5, (HC.out.mono ft_b).then hc5⟩
      · have hl2 : 1 ≤ l := by omega
        have hx1 : max (l - 1) (-1) = l - 1 := by omega
        have hb1 : (w.setCell ⟨b, 2, none⟩ (.int .i64 (l - 1))).heap[b]? = some (.cells #[.map (some bi), .map (some bl), .int .i64 (l - 1), .int .i64 s.steps, .int .i64 s.stamps, .bool s.down] 45 (0, 0)) := own_cells h 2 _ rfl
        have hb2 : ((w.setCell ⟨b, 2, none⟩ (.int .i64 (l - 1))).setCell ⟨b, 3, none⟩ (.int .i64 ((s.steps : Int) + 1))).heap[b]? = some (.cells #[.map (some bi), .map (some bl), .int .i64 (l - 1), .int .i64 ((s.steps : Int) + 1), .int .i64 s.stamps, .bool s.down] 45 (0, 0)) := set_block hb1 _
        have hc2 : Chg (· = b) w ((w.setCell ⟨b, 2, none⟩ (.int .i64 (l - 1))).setCell ⟨b, 3, none⟩ (.int .i64 ((s.steps : Int) + 1))) := (chg_set _).then (chg_set _)
        have a2 : Ia b bi bl (l - 1) _ { s with armed := if s.armed > 0 then s.armed - 1 else s.armed, steps := s.steps + 1 } := h.poke hc2 hb2 rfl rfl (.inr (by show _ = (if s.armed > 0 then s.armed - 1 else s.armed); split <;> omega)) (by omega)
        have cf2 := cf (l - 1) _ rfl rfl a2 hc2
        have HC := Lib.hid hc2
        have g3 : (w.setCell ⟨b, 2, none⟩ (.int .i64 (l - 1))).cell? ⟨b, 3, none⟩ = some (.int .i64 s.steps) := by unfold World.cell?; rw [hb1]; rfl
        clear hl1 a2 h hd hD hla cf hc2 hb1 hb2 h0
        go_enter Try.func27, Try.ntmps27
        go_wp2_with fail
        refine cf2.mono ?_
        rintro e w5 ⟨rfl, l5, hat5, hc5⟩
        go_wp2
        go_ret
        exact ⟨rfl, l5, hat5, (HC.out.mono ft_b).then hc5⟩
  · rw [if_pos hr]
    have e0 : ((r : Int) == 0) = false := beq_eq_false_iff_ne.2 (by omega)
    have HE := Lib.hid (show Ip b bi bl w s w from ⟨l, h, Chg.refl _ _⟩)
    clear h hd cf hr
    go_enter Try.func27, Try.ntmps27
    go_wp2
    go_ret
    exact ⟨rfl, HE.out⟩
end Go.Proofs.Ytcbnpdognadilaa.Dk

/- The regions of package disk's six calls, step by step. -/
namespace Go.Proofs.Ytcbnpdognadilaa.Dk
open Go.RowKit Tx Pm Pl Pr
set_option linter.unusedVariables false

set_option maxRecDepth 100000 in
set_option maxHeartbeats 2000000 in
theorem regMkdir (ops : Array Oper) (hops : ops = (Rg.opsOf Try.f10 1)) (id : Nat) (bd bp : Nat) (dv : Value) (p : ByteArray) (r X : Nat) {u0 u1 u4 u5 u6 u7 u8 u9 u10 : Value} (w : World) (A B : World → Prop)
    (hS : (fun W => Cap W bd dv ∧ Cap W bp (.string p)) w.drew) (hm : Calls Try.prog 28 #[dv, .string p] w.drew fun e w' => e = .returned (.int .i64 (r : Nat)) ∧ A w') (hAS : ∀ W, A W → (fun W => Cap W bd dv ∧ Cap W bp (.string p)) W)
    (hst : ∀ W, A W → Calls Try.prog 27 #[dv, .int .i64 (r : Nat), .func (.func 29) #[] #[.pointer (some ⟨bd, 0, none⟩), .pointer (some ⟨bp, 0, none⟩)]] W fun e w' => e = .returned (.int .i64 (X : Nat)) ∧ B w') (hBS : ∀ W, B W → (fun W => Cap W bd dv ∧ Cap W bp (.string p)) W) :
    (Code.region id ops true).wp Try.prog (Rg.Only fun a' w' => a' = ⟨#[u0, u1, (.pointer (some ⟨bd, 0, none⟩)), (.pointer (some ⟨bp, 0, none⟩)), (.int .i64 (X : Nat)), dv, dv, (.string p), (.int .i64 (r : Nat)), .func (Fn.func 29) #[] #[(.pointer (some ⟨bd, 0, none⟩)), (.pointer (some ⟨bp, 0, none⟩))], (.int .i64 (X : Nat))], []⟩ ∧ B w') ⟨#[u0, u1, (.pointer (some ⟨bd, 0, none⟩)), (.pointer (some ⟨bp, 0, none⟩)), u4, u5, u6, u7, u8, u9, u10], []⟩ w := by
  subst hops
  have hNS : Region.noSelect (Rg.opsOf Try.f10 1) = true := by kernel_rfl
  refine wp_region_held_drew (S := (fun W => Cap W bd dv ∧ Cap W bp (.string p))) (by kernel_rfl) hS (fun hHeld => ?_)
  rw [show (Rg.opsOf Try.f10 1).size = 7 by kernel_rfl]
  refine Rg.take (ops := (Rg.opsOf Try.f10 1)) 0 (some 5) (dv) hNS (by kernel_rfl) (by kernel_rfl) (by kernel_rfl) (by kernel_rfl) (by kernel_rfl) hHeld (Rg.y_load (T := 22) (x := (Operand.tmp 2)) (vx := (.pointer (some ⟨bd, 0, none⟩))) (by kernel_rfl) (by kernel_rfl) ?_) ?_
  · (intro w hSw; obtain ⟨s0, s1⟩ := hSw; unfold Cap at *; go_simp)
  refine Rg.take (ops := (Rg.opsOf Try.f10 1)) 1 (some 6) (dv) hNS (by kernel_rfl) (by kernel_rfl) (by kernel_rfl) (by kernel_rfl) (by kernel_rfl) hHeld (Rg.y_load (T := 22) (x := (Operand.tmp 2)) (vx := (.pointer (some ⟨bd, 0, none⟩))) (by kernel_rfl) (by kernel_rfl) ?_) ?_
  · (intro w hSw; obtain ⟨s0, s1⟩ := hSw; unfold Cap at *; go_simp)
  refine Rg.take (ops := (Rg.opsOf Try.f10 1)) 2 (some 7) ((.string p)) hNS (by kernel_rfl) (by kernel_rfl) (by kernel_rfl) (by kernel_rfl) (by kernel_rfl) hHeld (Rg.y_load (T := 9) (x := (Operand.tmp 3)) (vx := (.pointer (some ⟨bp, 0, none⟩))) (by kernel_rfl) (by kernel_rfl) ?_) ?_
  · (intro w hSw; obtain ⟨s0, s1⟩ := hSw; unfold Cap at *; go_simp)
  refine Rg.take (ops := (Rg.opsOf Try.f10 1)) 4 (some 9) (.func (Fn.func 29) #[] #[(.pointer (some ⟨bd, 0, none⟩)), (.pointer (some ⟨bp, 0, none⟩))]) hNS (by kernel_rfl) (by kernel_rfl) (by kernel_rfl) (by kernel_rfl) (by kernel_rfl) hHeld (Rg.y_func (f := Fn.func 29) (xs := #[]) (ys := #[Operand.tmp 2, Operand.tmp 3]) (vs := #[]) (us := #[(.pointer (some ⟨bd, 0, none⟩)), (.pointer (some ⟨bp, 0, none⟩))]) (by kernel_rfl) (by kernel_rfl) (by kernel_rfl)) ?_
  refine Rg.call (ops := (Rg.opsOf Try.f10 1)) (fn := Try.f28) (xs := #[Operand.tmp 6, Operand.tmp 7]) (ats := #[22, 9]) 3 (some 8) 28 #[dv, (.string p)] (by kernel_rfl) (by kernel_rfl) (by kernel_rfl) (by kernel_rfl) (by kernel_rfl) Try.func28 (by kernel_rfl) (by kernel_rfl) (by kernel_rfl) ?_
  refine hm.mono ?_
  rintro e w5 ⟨rfl, hA5⟩
  refine ⟨_, rfl, hAS _ hA5, fun hHeld => ?_⟩
  refine Rg.call (ops := (Rg.opsOf Try.f10 1)) (fn := Try.f27) (xs := #[Operand.tmp 5, Operand.tmp 8, Operand.tmp 9]) (ats := #[22, 25, 1]) 5 (some 10) 27 #[dv, (.int .i64 (r : Nat)), .func (Fn.func 29) #[] #[(.pointer (some ⟨bd, 0, none⟩)), (.pointer (some ⟨bp, 0, none⟩))]] (by kernel_rfl) (by kernel_rfl) (by kernel_rfl) (by kernel_rfl) (by kernel_rfl) Try.func27 (by kernel_rfl) (by kernel_rfl) (by kernel_rfl) ?_
  refine (hst _ hA5).mono ?_
  rintro e w6 ⟨rfl, hB6⟩
  refine ⟨_, rfl, hBS _ hB6, fun hHeld => ?_⟩
  refine Rg.take (ops := (Rg.opsOf Try.f10 1)) 6 (some 4) ((.int .i64 (X : Nat))) hNS (by kernel_rfl) (by kernel_rfl) (by kernel_rfl) (by kernel_rfl) (by kernel_rfl) hHeld (Rg.y_move (x := (Operand.tmp 10)) (Or.inr (by kernel_rfl)) (by kernel_rfl)) ?_
  refine Rg.done (ops := (Rg.opsOf Try.f10 1)) (by kernel_rfl) ?_
  exact ⟨by kernel_rfl, hB6⟩

set_option maxRecDepth 100000 in
set_option maxHeartbeats 2000000 in
theorem regWrite (ops : Array Oper) (hops : ops = (Rg.opsOf Try.f11 1)) (id : Nat) (bd bp bq : Nat) (dv : Value) (p q : ByteArray) (r X : Nat) {u0 u1 u2 u6 u7 u8 u9 u10 u11 u12 u13 : Value} (w : World) (A B : World → Prop)
    (hS : (fun W => Cap W bd dv ∧ Cap W bp (.string p) ∧ Cap W bq (.string q)) w.drew) (hm : Calls Try.prog 30 #[dv, .string p, .string q] w.drew fun e w' => e = .returned (.int .i64 (r : Nat)) ∧ A w') (hAS : ∀ W, A W → (fun W => Cap W bd dv ∧ Cap W bp (.string p) ∧ Cap W bq (.string q)) W)
    (hst : ∀ W, A W → Calls Try.prog 27 #[dv, .int .i64 (r : Nat), .func (.func 31) #[] #[.pointer (some ⟨bd, 0, none⟩), .pointer (some ⟨bp, 0, none⟩), .pointer (some ⟨bq, 0, none⟩)]] W fun e w' => e = .returned (.int .i64 (X : Nat)) ∧ B w') (hBS : ∀ W, B W → (fun W => Cap W bd dv ∧ Cap W bp (.string p) ∧ Cap W bq (.string q)) W) :
    (Code.region id ops true).wp Try.prog (Rg.Only fun a' w' => a' = ⟨#[u0, u1, u2, (.pointer (some ⟨bd, 0, none⟩)), (.pointer (some ⟨bp, 0, none⟩)), (.pointer (some ⟨bq, 0, none⟩)), (.int .i64 (X : Nat)), dv, dv, (.string p), (.string q), (.int .i64 (r : Nat)), .func (Fn.func 31) #[] #[(.pointer (some ⟨bd, 0, none⟩)), (.pointer (some ⟨bp, 0, none⟩)), (.pointer (some ⟨bq, 0, none⟩))], (.int .i64 (X : Nat))], []⟩ ∧ B w') ⟨#[u0, u1, u2, (.pointer (some ⟨bd, 0, none⟩)), (.pointer (some ⟨bp, 0, none⟩)), (.pointer (some ⟨bq, 0, none⟩)), u6, u7, u8, u9, u10, u11, u12, u13], []⟩ w := by
  subst hops
  have hNS : Region.noSelect (Rg.opsOf Try.f11 1) = true := by kernel_rfl
  refine wp_region_held_drew (S := (fun W => Cap W bd dv ∧ Cap W bp (.string p) ∧ Cap W bq (.string q))) (by kernel_rfl) hS (fun hHeld => ?_)
  rw [show (Rg.opsOf Try.f11 1).size = 8 by kernel_rfl]
  refine Rg.take (ops := (Rg.opsOf Try.f11 1)) 0 (some 7) (dv) hNS (by kernel_rfl) (by kernel_rfl) (by kernel_rfl) (by kernel_rfl) (by kernel_rfl) hHeld (Rg.y_load (T := 22) (x := (Operand.tmp 3)) (vx := (.pointer (some ⟨bd, 0, none⟩))) (by kernel_rfl) (by kernel_rfl) ?_) ?_
  · (intro w hSw; obtain ⟨s0, s1, s2⟩ := hSw; unfold Cap at *; go_simp)
  refine Rg.take (ops := (Rg.opsOf Try.f11 1)) 1 (some 8) (dv) hNS (by kernel_rfl) (by kernel_rfl) (by kernel_rfl) (by kernel_rfl) (by kernel_rfl) hHeld (Rg.y_load (T := 22) (x := (Operand.tmp 3)) (vx := (.pointer (some ⟨bd, 0, none⟩))) (by kernel_rfl) (by kernel_rfl) ?_) ?_
  · (intro w hSw; obtain ⟨s0, s1, s2⟩ := hSw; unfold Cap at *; go_simp)
  refine Rg.take (ops := (Rg.opsOf Try.f11 1)) 2 (some 9) ((.string p)) hNS (by kernel_rfl) (by kernel_rfl) (by kernel_rfl) (by kernel_rfl) (by kernel_rfl) hHeld (Rg.y_load (T := 9) (x := (Operand.tmp 4)) (vx := (.pointer (some ⟨bp, 0, none⟩))) (by kernel_rfl) (by kernel_rfl) ?_) ?_
  · (intro w hSw; obtain ⟨s0, s1, s2⟩ := hSw; unfold Cap at *; go_simp)
  refine Rg.take (ops := (Rg.opsOf Try.f11 1)) 3 (some 10) ((.string q)) hNS (by kernel_rfl) (by kernel_rfl) (by kernel_rfl) (by kernel_rfl) (by kernel_rfl) hHeld (Rg.y_load (T := 9) (x := (Operand.tmp 5)) (vx := (.pointer (some ⟨bq, 0, none⟩))) (by kernel_rfl) (by kernel_rfl) ?_) ?_
  · (intro w hSw; obtain ⟨s0, s1, s2⟩ := hSw; unfold Cap at *; go_simp)
  refine Rg.take (ops := (Rg.opsOf Try.f11 1)) 5 (some 12) (.func (Fn.func 31) #[] #[(.pointer (some ⟨bd, 0, none⟩)), (.pointer (some ⟨bp, 0, none⟩)), (.pointer (some ⟨bq, 0, none⟩))]) hNS (by kernel_rfl) (by kernel_rfl) (by kernel_rfl) (by kernel_rfl) (by kernel_rfl) hHeld (Rg.y_func (f := Fn.func 31) (xs := #[]) (ys := #[Operand.tmp 3, Operand.tmp 4, Operand.tmp 5]) (vs := #[]) (us := #[(.pointer (some ⟨bd, 0, none⟩)), (.pointer (some ⟨bp, 0, none⟩)), (.pointer (some ⟨bq, 0, none⟩))]) (by kernel_rfl) (by kernel_rfl) (by kernel_rfl)) ?_
  refine Rg.call (ops := (Rg.opsOf Try.f11 1)) (fn := Try.f30) (xs := #[Operand.tmp 8, Operand.tmp 9, Operand.tmp 10]) (ats := #[22, 9, 9]) 4 (some 11) 30 #[dv, (.string p), (.string q)] (by kernel_rfl) (by kernel_rfl) (by kernel_rfl) (by kernel_rfl) (by kernel_rfl) Try.func30 (by kernel_rfl) (by kernel_rfl) (by kernel_rfl) ?_
  refine hm.mono ?_
  rintro e w5 ⟨rfl, hA5⟩
  refine ⟨_, rfl, hAS _ hA5, fun hHeld => ?_⟩
  refine Rg.call (ops := (Rg.opsOf Try.f11 1)) (fn := Try.f27) (xs := #[Operand.tmp 7, Operand.tmp 11, Operand.tmp 12]) (ats := #[22, 25, 1]) 6 (some 13) 27 #[dv, (.int .i64 (r : Nat)), .func (Fn.func 31) #[] #[(.pointer (some ⟨bd, 0, none⟩)), (.pointer (some ⟨bp, 0, none⟩)), (.pointer (some ⟨bq, 0, none⟩))]] (by kernel_rfl) (by kernel_rfl) (by kernel_rfl) (by kernel_rfl) (by kernel_rfl) Try.func27 (by kernel_rfl) (by kernel_rfl) (by kernel_rfl) ?_
  refine (hst _ hA5).mono ?_
  rintro e w6 ⟨rfl, hB6⟩
  refine ⟨_, rfl, hBS _ hB6, fun hHeld => ?_⟩
  refine Rg.take (ops := (Rg.opsOf Try.f11 1)) 7 (some 6) ((.int .i64 (X : Nat))) hNS (by kernel_rfl) (by kernel_rfl) (by kernel_rfl) (by kernel_rfl) (by kernel_rfl) hHeld (Rg.y_move (x := (Operand.tmp 13)) (Or.inr (by kernel_rfl)) (by kernel_rfl)) ?_
  refine Rg.done (ops := (Rg.opsOf Try.f11 1)) (by kernel_rfl) ?_
  exact ⟨by kernel_rfl, hB6⟩

set_option maxRecDepth 100000 in
set_option maxHeartbeats 2000000 in
theorem regAppend (ops : Array Oper) (hops : ops = (Rg.opsOf Try.f13 1)) (id : Nat) (bd bp bq : Nat) (dv : Value) (p q : ByteArray) (r X : Nat) {u0 u1 u2 u6 u7 u8 u9 u10 u11 u12 u13 : Value} (w : World) (A B : World → Prop)
    (hS : (fun W => Cap W bd dv ∧ Cap W bp (.string p) ∧ Cap W bq (.string q)) w.drew) (hm : Calls Try.prog 35 #[dv, .string p, .string q] w.drew fun e w' => e = .returned (.int .i64 (r : Nat)) ∧ A w') (hAS : ∀ W, A W → (fun W => Cap W bd dv ∧ Cap W bp (.string p) ∧ Cap W bq (.string q)) W)
    (hst : ∀ W, A W → Calls Try.prog 27 #[dv, .int .i64 (r : Nat), .func (.func 36) #[] #[.pointer (some ⟨bd, 0, none⟩), .pointer (some ⟨bp, 0, none⟩), .pointer (some ⟨bq, 0, none⟩)]] W fun e w' => e = .returned (.int .i64 (X : Nat)) ∧ B w') (hBS : ∀ W, B W → (fun W => Cap W bd dv ∧ Cap W bp (.string p) ∧ Cap W bq (.string q)) W) :
    (Code.region id ops true).wp Try.prog (Rg.Only fun a' w' => a' = ⟨#[u0, u1, u2, (.pointer (some ⟨bd, 0, none⟩)), (.pointer (some ⟨bp, 0, none⟩)), (.pointer (some ⟨bq, 0, none⟩)), (.int .i64 (X : Nat)), dv, dv, (.string p), (.string q), (.int .i64 (r : Nat)), .func (Fn.func 36) #[] #[(.pointer (some ⟨bd, 0, none⟩)), (.pointer (some ⟨bp, 0, none⟩)), (.pointer (some ⟨bq, 0, none⟩))], (.int .i64 (X : Nat))], []⟩ ∧ B w') ⟨#[u0, u1, u2, (.pointer (some ⟨bd, 0, none⟩)), (.pointer (some ⟨bp, 0, none⟩)), (.pointer (some ⟨bq, 0, none⟩)), u6, u7, u8, u9, u10, u11, u12, u13], []⟩ w := by
  subst hops
  have hNS : Region.noSelect (Rg.opsOf Try.f13 1) = true := by kernel_rfl
  refine wp_region_held_drew (S := (fun W => Cap W bd dv ∧ Cap W bp (.string p) ∧ Cap W bq (.string q))) (by kernel_rfl) hS (fun hHeld => ?_)
  rw [show (Rg.opsOf Try.f13 1).size = 8 by kernel_rfl]
  refine Rg.take (ops := (Rg.opsOf Try.f13 1)) 0 (some 7) (dv) hNS (by kernel_rfl) (by kernel_rfl) (by kernel_rfl) (by kernel_rfl) (by kernel_rfl) hHeld (Rg.y_load (T := 22) (x := (Operand.tmp 3)) (vx := (.pointer (some ⟨bd, 0, none⟩))) (by kernel_rfl) (by kernel_rfl) ?_) ?_
  · (intro w hSw; obtain ⟨s0, s1, s2⟩ := hSw; unfold Cap at *; go_simp)
  refine Rg.take (ops := (Rg.opsOf Try.f13 1)) 1 (some 8) (dv) hNS (by kernel_rfl) (by kernel_rfl) (by kernel_rfl) (by kernel_rfl) (by kernel_rfl) hHeld (Rg.y_load (T := 22) (x := (Operand.tmp 3)) (vx := (.pointer (some ⟨bd, 0, none⟩))) (by kernel_rfl) (by kernel_rfl) ?_) ?_
  · (intro w hSw; obtain ⟨s0, s1, s2⟩ := hSw; unfold Cap at *; go_simp)
  refine Rg.take (ops := (Rg.opsOf Try.f13 1)) 2 (some 9) ((.string p)) hNS (by kernel_rfl) (by kernel_rfl) (by kernel_rfl) (by kernel_rfl) (by kernel_rfl) hHeld (Rg.y_load (T := 9) (x := (Operand.tmp 4)) (vx := (.pointer (some ⟨bp, 0, none⟩))) (by kernel_rfl) (by kernel_rfl) ?_) ?_
  · (intro w hSw; obtain ⟨s0, s1, s2⟩ := hSw; unfold Cap at *; go_simp)
  refine Rg.take (ops := (Rg.opsOf Try.f13 1)) 3 (some 10) ((.string q)) hNS (by kernel_rfl) (by kernel_rfl) (by kernel_rfl) (by kernel_rfl) (by kernel_rfl) hHeld (Rg.y_load (T := 9) (x := (Operand.tmp 5)) (vx := (.pointer (some ⟨bq, 0, none⟩))) (by kernel_rfl) (by kernel_rfl) ?_) ?_
  · (intro w hSw; obtain ⟨s0, s1, s2⟩ := hSw; unfold Cap at *; go_simp)
  refine Rg.take (ops := (Rg.opsOf Try.f13 1)) 5 (some 12) (.func (Fn.func 36) #[] #[(.pointer (some ⟨bd, 0, none⟩)), (.pointer (some ⟨bp, 0, none⟩)), (.pointer (some ⟨bq, 0, none⟩))]) hNS (by kernel_rfl) (by kernel_rfl) (by kernel_rfl) (by kernel_rfl) (by kernel_rfl) hHeld (Rg.y_func (f := Fn.func 36) (xs := #[]) (ys := #[Operand.tmp 3, Operand.tmp 4, Operand.tmp 5]) (vs := #[]) (us := #[(.pointer (some ⟨bd, 0, none⟩)), (.pointer (some ⟨bp, 0, none⟩)), (.pointer (some ⟨bq, 0, none⟩))]) (by kernel_rfl) (by kernel_rfl) (by kernel_rfl)) ?_
  refine Rg.call (ops := (Rg.opsOf Try.f13 1)) (fn := Try.f35) (xs := #[Operand.tmp 8, Operand.tmp 9, Operand.tmp 10]) (ats := #[22, 9, 9]) 4 (some 11) 35 #[dv, (.string p), (.string q)] (by kernel_rfl) (by kernel_rfl) (by kernel_rfl) (by kernel_rfl) (by kernel_rfl) Try.func35 (by kernel_rfl) (by kernel_rfl) (by kernel_rfl) ?_
  refine hm.mono ?_
  rintro e w5 ⟨rfl, hA5⟩
  refine ⟨_, rfl, hAS _ hA5, fun hHeld => ?_⟩
  refine Rg.call (ops := (Rg.opsOf Try.f13 1)) (fn := Try.f27) (xs := #[Operand.tmp 7, Operand.tmp 11, Operand.tmp 12]) (ats := #[22, 25, 1]) 6 (some 13) 27 #[dv, (.int .i64 (r : Nat)), .func (Fn.func 36) #[] #[(.pointer (some ⟨bd, 0, none⟩)), (.pointer (some ⟨bp, 0, none⟩)), (.pointer (some ⟨bq, 0, none⟩))]] (by kernel_rfl) (by kernel_rfl) (by kernel_rfl) (by kernel_rfl) (by kernel_rfl) Try.func27 (by kernel_rfl) (by kernel_rfl) (by kernel_rfl) ?_
  refine (hst _ hA5).mono ?_
  rintro e w6 ⟨rfl, hB6⟩
  refine ⟨_, rfl, hBS _ hB6, fun hHeld => ?_⟩
  refine Rg.take (ops := (Rg.opsOf Try.f13 1)) 7 (some 6) ((.int .i64 (X : Nat))) hNS (by kernel_rfl) (by kernel_rfl) (by kernel_rfl) (by kernel_rfl) (by kernel_rfl) hHeld (Rg.y_move (x := (Operand.tmp 13)) (Or.inr (by kernel_rfl)) (by kernel_rfl)) ?_
  refine Rg.done (ops := (Rg.opsOf Try.f13 1)) (by kernel_rfl) ?_
  exact ⟨by kernel_rfl, hB6⟩

set_option maxRecDepth 100000 in
set_option maxHeartbeats 2000000 in
theorem regSync (ops : Array Oper) (hops : ops = (Rg.opsOf Try.f12 1)) (id : Nat) (bd bp : Nat) (dv : Value) (p : ByteArray) (r X : Nat) {u0 u1 u4 u5 u6 u7 u8 u9 u10 : Value} (w : World) (A B : World → Prop)
    (hS : (fun W => Cap W bd dv ∧ Cap W bp (.string p)) w.drew) (hm : Calls Try.prog 33 #[dv, .string p] w.drew fun e w' => e = .returned (.int .i64 (r : Nat)) ∧ A w') (hAS : ∀ W, A W → (fun W => Cap W bd dv ∧ Cap W bp (.string p)) W)
    (hst : ∀ W, A W → Calls Try.prog 27 #[dv, .int .i64 (r : Nat), .func (.func 34) #[] #[.pointer (some ⟨bd, 0, none⟩), .pointer (some ⟨bp, 0, none⟩)]] W fun e w' => e = .returned (.int .i64 (X : Nat)) ∧ B w') (hBS : ∀ W, B W → (fun W => Cap W bd dv ∧ Cap W bp (.string p)) W) :
    (Code.region id ops true).wp Try.prog (Rg.Only fun a' w' => a' = ⟨#[u0, u1, (.pointer (some ⟨bd, 0, none⟩)), (.pointer (some ⟨bp, 0, none⟩)), (.int .i64 (X : Nat)), dv, dv, (.string p), (.int .i64 (r : Nat)), .func (Fn.func 34) #[] #[(.pointer (some ⟨bd, 0, none⟩)), (.pointer (some ⟨bp, 0, none⟩))], (.int .i64 (X : Nat))], []⟩ ∧ B w') ⟨#[u0, u1, (.pointer (some ⟨bd, 0, none⟩)), (.pointer (some ⟨bp, 0, none⟩)), u4, u5, u6, u7, u8, u9, u10], []⟩ w := by
  subst hops
  have hNS : Region.noSelect (Rg.opsOf Try.f12 1) = true := by kernel_rfl
  refine wp_region_held_drew (S := (fun W => Cap W bd dv ∧ Cap W bp (.string p))) (by kernel_rfl) hS (fun hHeld => ?_)
  rw [show (Rg.opsOf Try.f12 1).size = 7 by kernel_rfl]
  refine Rg.take (ops := (Rg.opsOf Try.f12 1)) 0 (some 5) (dv) hNS (by kernel_rfl) (by kernel_rfl) (by kernel_rfl) (by kernel_rfl) (by kernel_rfl) hHeld (Rg.y_load (T := 22) (x := (Operand.tmp 2)) (vx := (.pointer (some ⟨bd, 0, none⟩))) (by kernel_rfl) (by kernel_rfl) ?_) ?_
  · (intro w hSw; obtain ⟨s0, s1⟩ := hSw; unfold Cap at *; go_simp)
  refine Rg.take (ops := (Rg.opsOf Try.f12 1)) 1 (some 6) (dv) hNS (by kernel_rfl) (by kernel_rfl) (by kernel_rfl) (by kernel_rfl) (by kernel_rfl) hHeld (Rg.y_load (T := 22) (x := (Operand.tmp 2)) (vx := (.pointer (some ⟨bd, 0, none⟩))) (by kernel_rfl) (by kernel_rfl) ?_) ?_
  · (intro w hSw; obtain ⟨s0, s1⟩ := hSw; unfold Cap at *; go_simp)
  refine Rg.take (ops := (Rg.opsOf Try.f12 1)) 2 (some 7) ((.string p)) hNS (by kernel_rfl) (by kernel_rfl) (by kernel_rfl) (by kernel_rfl) (by kernel_rfl) hHeld (Rg.y_load (T := 9) (x := (Operand.tmp 3)) (vx := (.pointer (some ⟨bp, 0, none⟩))) (by kernel_rfl) (by kernel_rfl) ?_) ?_
  · (intro w hSw; obtain ⟨s0, s1⟩ := hSw; unfold Cap at *; go_simp)
  refine Rg.take (ops := (Rg.opsOf Try.f12 1)) 4 (some 9) (.func (Fn.func 34) #[] #[(.pointer (some ⟨bd, 0, none⟩)), (.pointer (some ⟨bp, 0, none⟩))]) hNS (by kernel_rfl) (by kernel_rfl) (by kernel_rfl) (by kernel_rfl) (by kernel_rfl) hHeld (Rg.y_func (f := Fn.func 34) (xs := #[]) (ys := #[Operand.tmp 2, Operand.tmp 3]) (vs := #[]) (us := #[(.pointer (some ⟨bd, 0, none⟩)), (.pointer (some ⟨bp, 0, none⟩))]) (by kernel_rfl) (by kernel_rfl) (by kernel_rfl)) ?_
  refine Rg.call (ops := (Rg.opsOf Try.f12 1)) (fn := Try.f33) (xs := #[Operand.tmp 6, Operand.tmp 7]) (ats := #[22, 9]) 3 (some 8) 33 #[dv, (.string p)] (by kernel_rfl) (by kernel_rfl) (by kernel_rfl) (by kernel_rfl) (by kernel_rfl) Try.func33 (by kernel_rfl) (by kernel_rfl) (by kernel_rfl) ?_
  refine hm.mono ?_
  rintro e w5 ⟨rfl, hA5⟩
  refine ⟨_, rfl, hAS _ hA5, fun hHeld => ?_⟩
  refine Rg.call (ops := (Rg.opsOf Try.f12 1)) (fn := Try.f27) (xs := #[Operand.tmp 5, Operand.tmp 8, Operand.tmp 9]) (ats := #[22, 25, 1]) 5 (some 10) 27 #[dv, (.int .i64 (r : Nat)), .func (Fn.func 34) #[] #[(.pointer (some ⟨bd, 0, none⟩)), (.pointer (some ⟨bp, 0, none⟩))]] (by kernel_rfl) (by kernel_rfl) (by kernel_rfl) (by kernel_rfl) (by kernel_rfl) Try.func27 (by kernel_rfl) (by kernel_rfl) (by kernel_rfl) ?_
  refine (hst _ hA5).mono ?_
  rintro e w6 ⟨rfl, hB6⟩
  refine ⟨_, rfl, hBS _ hB6, fun hHeld => ?_⟩
  refine Rg.take (ops := (Rg.opsOf Try.f12 1)) 6 (some 4) ((.int .i64 (X : Nat))) hNS (by kernel_rfl) (by kernel_rfl) (by kernel_rfl) (by kernel_rfl) (by kernel_rfl) hHeld (Rg.y_move (x := (Operand.tmp 10)) (Or.inr (by kernel_rfl)) (by kernel_rfl)) ?_
  refine Rg.done (ops := (Rg.opsOf Try.f12 1)) (by kernel_rfl) ?_
  exact ⟨by kernel_rfl, hB6⟩

set_option maxRecDepth 100000 in
set_option maxHeartbeats 2000000 in
theorem regRename (ops : Array Oper) (hops : ops = (Rg.opsOf Try.f19 1)) (id : Nat) (bd bp bq : Nat) (dv : Value) (p q : ByteArray) (r X : Nat) {u0 u1 u2 u6 u7 u8 u9 u10 u11 u12 u13 : Value} (w : World) (A B : World → Prop)
    (hS : (fun W => Cap W bd dv ∧ Cap W bp (.string p) ∧ Cap W bq (.string q)) w.drew) (hm : Calls Try.prog 42 #[dv, .string p, .string q] w.drew fun e w' => e = .returned (.int .i64 (r : Nat)) ∧ A w') (hAS : ∀ W, A W → (fun W => Cap W bd dv ∧ Cap W bp (.string p) ∧ Cap W bq (.string q)) W)
    (hst : ∀ W, A W → Calls Try.prog 27 #[dv, .int .i64 (r : Nat), .func (.func 43) #[] #[.pointer (some ⟨bd, 0, none⟩), .pointer (some ⟨bp, 0, none⟩), .pointer (some ⟨bq, 0, none⟩)]] W fun e w' => e = .returned (.int .i64 (X : Nat)) ∧ B w') (hBS : ∀ W, B W → (fun W => Cap W bd dv ∧ Cap W bp (.string p) ∧ Cap W bq (.string q)) W) :
    (Code.region id ops true).wp Try.prog (Rg.Only fun a' w' => a' = ⟨#[u0, u1, u2, (.pointer (some ⟨bd, 0, none⟩)), (.pointer (some ⟨bp, 0, none⟩)), (.pointer (some ⟨bq, 0, none⟩)), (.int .i64 (X : Nat)), dv, dv, (.string p), (.string q), (.int .i64 (r : Nat)), .func (Fn.func 43) #[] #[(.pointer (some ⟨bd, 0, none⟩)), (.pointer (some ⟨bp, 0, none⟩)), (.pointer (some ⟨bq, 0, none⟩))], (.int .i64 (X : Nat))], []⟩ ∧ B w') ⟨#[u0, u1, u2, (.pointer (some ⟨bd, 0, none⟩)), (.pointer (some ⟨bp, 0, none⟩)), (.pointer (some ⟨bq, 0, none⟩)), u6, u7, u8, u9, u10, u11, u12, u13], []⟩ w := by
  subst hops
  have hNS : Region.noSelect (Rg.opsOf Try.f19 1) = true := by kernel_rfl
  refine wp_region_held_drew (S := (fun W => Cap W bd dv ∧ Cap W bp (.string p) ∧ Cap W bq (.string q))) (by kernel_rfl) hS (fun hHeld => ?_)
  rw [show (Rg.opsOf Try.f19 1).size = 8 by kernel_rfl]
  refine Rg.take (ops := (Rg.opsOf Try.f19 1)) 0 (some 7) (dv) hNS (by kernel_rfl) (by kernel_rfl) (by kernel_rfl) (by kernel_rfl) (by kernel_rfl) hHeld (Rg.y_load (T := 22) (x := (Operand.tmp 3)) (vx := (.pointer (some ⟨bd, 0, none⟩))) (by kernel_rfl) (by kernel_rfl) ?_) ?_
  · (intro w hSw; obtain ⟨s0, s1, s2⟩ := hSw; unfold Cap at *; go_simp)
  refine Rg.take (ops := (Rg.opsOf Try.f19 1)) 1 (some 8) (dv) hNS (by kernel_rfl) (by kernel_rfl) (by kernel_rfl) (by kernel_rfl) (by kernel_rfl) hHeld (Rg.y_load (T := 22) (x := (Operand.tmp 3)) (vx := (.pointer (some ⟨bd, 0, none⟩))) (by kernel_rfl) (by kernel_rfl) ?_) ?_
  · (intro w hSw; obtain ⟨s0, s1, s2⟩ := hSw; unfold Cap at *; go_simp)
  refine Rg.take (ops := (Rg.opsOf Try.f19 1)) 2 (some 9) ((.string p)) hNS (by kernel_rfl) (by kernel_rfl) (by kernel_rfl) (by kernel_rfl) (by kernel_rfl) hHeld (Rg.y_load (T := 9) (x := (Operand.tmp 4)) (vx := (.pointer (some ⟨bp, 0, none⟩))) (by kernel_rfl) (by kernel_rfl) ?_) ?_
  · (intro w hSw; obtain ⟨s0, s1, s2⟩ := hSw; unfold Cap at *; go_simp)
  refine Rg.take (ops := (Rg.opsOf Try.f19 1)) 3 (some 10) ((.string q)) hNS (by kernel_rfl) (by kernel_rfl) (by kernel_rfl) (by kernel_rfl) (by kernel_rfl) hHeld (Rg.y_load (T := 9) (x := (Operand.tmp 5)) (vx := (.pointer (some ⟨bq, 0, none⟩))) (by kernel_rfl) (by kernel_rfl) ?_) ?_
  · (intro w hSw; obtain ⟨s0, s1, s2⟩ := hSw; unfold Cap at *; go_simp)
  refine Rg.take (ops := (Rg.opsOf Try.f19 1)) 5 (some 12) (.func (Fn.func 43) #[] #[(.pointer (some ⟨bd, 0, none⟩)), (.pointer (some ⟨bp, 0, none⟩)), (.pointer (some ⟨bq, 0, none⟩))]) hNS (by kernel_rfl) (by kernel_rfl) (by kernel_rfl) (by kernel_rfl) (by kernel_rfl) hHeld (Rg.y_func (f := Fn.func 43) (xs := #[]) (ys := #[Operand.tmp 3, Operand.tmp 4, Operand.tmp 5]) (vs := #[]) (us := #[(.pointer (some ⟨bd, 0, none⟩)), (.pointer (some ⟨bp, 0, none⟩)), (.pointer (some ⟨bq, 0, none⟩))]) (by kernel_rfl) (by kernel_rfl) (by kernel_rfl)) ?_
  refine Rg.call (ops := (Rg.opsOf Try.f19 1)) (fn := Try.f42) (xs := #[Operand.tmp 8, Operand.tmp 9, Operand.tmp 10]) (ats := #[22, 9, 9]) 4 (some 11) 42 #[dv, (.string p), (.string q)] (by kernel_rfl) (by kernel_rfl) (by kernel_rfl) (by kernel_rfl) (by kernel_rfl) Try.func42 (by kernel_rfl) (by kernel_rfl) (by kernel_rfl) ?_
  refine hm.mono ?_
  rintro e w5 ⟨rfl, hA5⟩
  refine ⟨_, rfl, hAS _ hA5, fun hHeld => ?_⟩
  refine Rg.call (ops := (Rg.opsOf Try.f19 1)) (fn := Try.f27) (xs := #[Operand.tmp 7, Operand.tmp 11, Operand.tmp 12]) (ats := #[22, 25, 1]) 6 (some 13) 27 #[dv, (.int .i64 (r : Nat)), .func (Fn.func 43) #[] #[(.pointer (some ⟨bd, 0, none⟩)), (.pointer (some ⟨bp, 0, none⟩)), (.pointer (some ⟨bq, 0, none⟩))]] (by kernel_rfl) (by kernel_rfl) (by kernel_rfl) (by kernel_rfl) (by kernel_rfl) Try.func27 (by kernel_rfl) (by kernel_rfl) (by kernel_rfl) ?_
  refine (hst _ hA5).mono ?_
  rintro e w6 ⟨rfl, hB6⟩
  refine ⟨_, rfl, hBS _ hB6, fun hHeld => ?_⟩
  refine Rg.take (ops := (Rg.opsOf Try.f19 1)) 7 (some 6) ((.int .i64 (X : Nat))) hNS (by kernel_rfl) (by kernel_rfl) (by kernel_rfl) (by kernel_rfl) (by kernel_rfl) hHeld (Rg.y_move (x := (Operand.tmp 13)) (Or.inr (by kernel_rfl)) (by kernel_rfl)) ?_
  refine Rg.done (ops := (Rg.opsOf Try.f19 1)) (by kernel_rfl) ?_
  exact ⟨by kernel_rfl, hB6⟩

set_option maxRecDepth 100000 in
set_option maxHeartbeats 2000000 in
theorem regRemove (ops : Array Oper) (hops : ops = (Rg.opsOf Try.f22 1)) (id : Nat) (bd bp : Nat) (dv : Value) (p : ByteArray) (r X : Nat) {u0 u1 u4 u5 u6 u7 u8 u9 u10 : Value} (w : World) (A B : World → Prop)
    (hS : (fun W => Cap W bd dv ∧ Cap W bp (.string p)) w.drew) (hm : Calls Try.prog 46 #[dv, .string p] w.drew fun e w' => e = .returned (.int .i64 (r : Nat)) ∧ A w') (hAS : ∀ W, A W → (fun W => Cap W bd dv ∧ Cap W bp (.string p)) W)
    (hst : ∀ W, A W → Calls Try.prog 27 #[dv, .int .i64 (r : Nat), .func (.func 47) #[] #[.pointer (some ⟨bd, 0, none⟩), .pointer (some ⟨bp, 0, none⟩)]] W fun e w' => e = .returned (.int .i64 (X : Nat)) ∧ B w') (hBS : ∀ W, B W → (fun W => Cap W bd dv ∧ Cap W bp (.string p)) W) :
    (Code.region id ops true).wp Try.prog (Rg.Only fun a' w' => a' = ⟨#[u0, u1, (.pointer (some ⟨bd, 0, none⟩)), (.pointer (some ⟨bp, 0, none⟩)), (.int .i64 (X : Nat)), dv, dv, (.string p), (.int .i64 (r : Nat)), .func (Fn.func 47) #[] #[(.pointer (some ⟨bd, 0, none⟩)), (.pointer (some ⟨bp, 0, none⟩))], (.int .i64 (X : Nat))], []⟩ ∧ B w') ⟨#[u0, u1, (.pointer (some ⟨bd, 0, none⟩)), (.pointer (some ⟨bp, 0, none⟩)), u4, u5, u6, u7, u8, u9, u10], []⟩ w := by
  subst hops
  have hNS : Region.noSelect (Rg.opsOf Try.f22 1) = true := by kernel_rfl
  refine wp_region_held_drew (S := (fun W => Cap W bd dv ∧ Cap W bp (.string p))) (by kernel_rfl) hS (fun hHeld => ?_)
  rw [show (Rg.opsOf Try.f22 1).size = 7 by kernel_rfl]
  refine Rg.take (ops := (Rg.opsOf Try.f22 1)) 0 (some 5) (dv) hNS (by kernel_rfl) (by kernel_rfl) (by kernel_rfl) (by kernel_rfl) (by kernel_rfl) hHeld (Rg.y_load (T := 22) (x := (Operand.tmp 2)) (vx := (.pointer (some ⟨bd, 0, none⟩))) (by kernel_rfl) (by kernel_rfl) ?_) ?_
  · (intro w hSw; obtain ⟨s0, s1⟩ := hSw; unfold Cap at *; go_simp)
  refine Rg.take (ops := (Rg.opsOf Try.f22 1)) 1 (some 6) (dv) hNS (by kernel_rfl) (by kernel_rfl) (by kernel_rfl) (by kernel_rfl) (by kernel_rfl) hHeld (Rg.y_load (T := 22) (x := (Operand.tmp 2)) (vx := (.pointer (some ⟨bd, 0, none⟩))) (by kernel_rfl) (by kernel_rfl) ?_) ?_
  · (intro w hSw; obtain ⟨s0, s1⟩ := hSw; unfold Cap at *; go_simp)
  refine Rg.take (ops := (Rg.opsOf Try.f22 1)) 2 (some 7) ((.string p)) hNS (by kernel_rfl) (by kernel_rfl) (by kernel_rfl) (by kernel_rfl) (by kernel_rfl) hHeld (Rg.y_load (T := 9) (x := (Operand.tmp 3)) (vx := (.pointer (some ⟨bp, 0, none⟩))) (by kernel_rfl) (by kernel_rfl) ?_) ?_
  · (intro w hSw; obtain ⟨s0, s1⟩ := hSw; unfold Cap at *; go_simp)
  refine Rg.take (ops := (Rg.opsOf Try.f22 1)) 4 (some 9) (.func (Fn.func 47) #[] #[(.pointer (some ⟨bd, 0, none⟩)), (.pointer (some ⟨bp, 0, none⟩))]) hNS (by kernel_rfl) (by kernel_rfl) (by kernel_rfl) (by kernel_rfl) (by kernel_rfl) hHeld (Rg.y_func (f := Fn.func 47) (xs := #[]) (ys := #[Operand.tmp 2, Operand.tmp 3]) (vs := #[]) (us := #[(.pointer (some ⟨bd, 0, none⟩)), (.pointer (some ⟨bp, 0, none⟩))]) (by kernel_rfl) (by kernel_rfl) (by kernel_rfl)) ?_
  refine Rg.call (ops := (Rg.opsOf Try.f22 1)) (fn := Try.f46) (xs := #[Operand.tmp 6, Operand.tmp 7]) (ats := #[22, 9]) 3 (some 8) 46 #[dv, (.string p)] (by kernel_rfl) (by kernel_rfl) (by kernel_rfl) (by kernel_rfl) (by kernel_rfl) Try.func46 (by kernel_rfl) (by kernel_rfl) (by kernel_rfl) ?_
  refine hm.mono ?_
  rintro e w5 ⟨rfl, hA5⟩
  refine ⟨_, rfl, hAS _ hA5, fun hHeld => ?_⟩
  refine Rg.call (ops := (Rg.opsOf Try.f22 1)) (fn := Try.f27) (xs := #[Operand.tmp 5, Operand.tmp 8, Operand.tmp 9]) (ats := #[22, 25, 1]) 5 (some 10) 27 #[dv, (.int .i64 (r : Nat)), .func (Fn.func 47) #[] #[(.pointer (some ⟨bd, 0, none⟩)), (.pointer (some ⟨bp, 0, none⟩))]] (by kernel_rfl) (by kernel_rfl) (by kernel_rfl) (by kernel_rfl) (by kernel_rfl) Try.func27 (by kernel_rfl) (by kernel_rfl) (by kernel_rfl) ?_
  refine (hst _ hA5).mono ?_
  rintro e w6 ⟨rfl, hB6⟩
  refine ⟨_, rfl, hBS _ hB6, fun hHeld => ?_⟩
  refine Rg.take (ops := (Rg.opsOf Try.f22 1)) 6 (some 4) ((.int .i64 (X : Nat))) hNS (by kernel_rfl) (by kernel_rfl) (by kernel_rfl) (by kernel_rfl) (by kernel_rfl) hHeld (Rg.y_move (x := (Operand.tmp 10)) (Or.inr (by kernel_rfl)) (by kernel_rfl)) ?_
  refine Rg.done (ops := (Rg.opsOf Try.f22 1)) (by kernel_rfl) ?_
  exact ⟨by kernel_rfl, hB6⟩

end Go.Proofs.Ytcbnpdognadilaa.Dk

/- What the closures of Write, Append, Sync, Rename, Remove do. -/
namespace Go.Proofs.Ytcbnpdognadilaa.Dk
open Go.RowKit Tx Pm Pl Pr
set_option linter.unusedVariables false

theorem Mp.put {w : World} {bi : Nat} {L : List It} (h : Mp w bi L) {x : It} {p : ByteArray} {v : Value} (hx : x.path = p) (hv : iv3 x = v) (hp : p.size ≤ 8000000000000) (hn : L.length ≤ 1000000000) :
    ∃ w', (Instr.mapUpdate 42 (.map (some bi)) (.string p) v).run Try.prog w = .ok () w' ∧ Mp w' bi (ins L x) ∧ w.mapTurned w' bi := by
  subst hx
  subst hv
  exact h.store (maxLen_of hp) (by unfold maxLen; omega)
theorem kOf_file {x : It} (h : x.dir = false) : kOf x = 2 := by unfold kOf; rw [h]; rfl
set_option maxRecDepth 100000 in
set_option maxHeartbeats 1000000 in
theorem iWriteC_any (b bi bl bd bp bq : Nat) (l : Int) (s : St) (p d : ByteArray) (w : World) (h : Ia b bi bl l w s) (hd : Cap w bd (.pointer (some ⟨b, 0, none⟩))) (hp : Cap w bp (.string p)) (hq : Cap w bq (.string d)) (hps : p.size ≤ 8000000000000) (hn : s.L.length ≤ 1000000000) (hst : s.stamps ≤ 1000000000000)
    (ho : (old s.L p).dir = false) :
    Calls Try.prog 31 #[.pointer (some ⟨bd, 0, none⟩), .pointer (some ⟨bp, 0, none⟩), .pointer (some ⟨bq, 0, none⟩)] w fun e w' => e = .returned (.tuple #[]) ∧ Ip b bi bl w (putS s { old s.L p with data := d, loose := true, anew := true }) w' := by
  obtain ⟨c0, _⟩ := h.cell
  unfold Cap at hd hp hq
  have h0 := h.below (Below.refl _ w).drew
  have hl := h0.look (maxLen_of hps)
  have cs := iSet_any b bi bl l s { old s.L p with data := d, loose := true, anew := true } 0 p w.drew h0 (old_path _ _) hps hn hst
  have e1 : kOf { old s.L p with data := d, loose := true, anew := true } = 2 := kOf_file ho
  rw [e1] at cs
  have cs : Calls Try.prog 32 #[.pointer (some ⟨b, 0, none⟩), .string p, .agg #[.int .i64 2, .string d, .string (old s.L p).kept, .int .i64 2, .int .i64 0]] w.drew fun e w' => e = .returned (.tuple #[]) ∧ Ip b bi bl w.drew (putS s { old s.L p with data := d, loose := true, anew := true }) w' := cs
  have hf2 := fld2
  have hend : ∀ w', Ip b bi bl w.drew (putS s { old s.L p with data := d, loose := true, anew := true }) w' → Ip b bi bl w (putS s { old s.L p with data := d, loose := true, anew := true }) w' := fun w' hh => Ip.after (Below.refl _ w).drew hh
  have HE := Lib.hid hend
  generalize (putS s { old s.L p with data := d, loose := true, anew := true }) = s' at cs HE ⊢
  generalize (old s.L p).kept = X1 at cs hl
  generalize stOf (old s.L p) = X2 at hl
  clear h h0 hend e1 ho
  go_enter Try.func31, Try.ntmps31
  go_wp2
  go_still_tail 11, (by kernel_rfl)
  change wpList _ _ _ _ _ w.drew
  go_wp2_with (go_at_call 32; refine cs.mono ?_; rintro e w5 ⟨rfl, h5⟩)
  go_end0
  exact ⟨rfl, HE.out _ h5⟩
set_option maxRecDepth 100000 in
theorem iRemoveC_any (b bi bl bd bp : Nat) (l : Int) (s : St) (p : ByteArray) (w : World) (h : Ia b bi bl l w s) (hR : Rises s.L) (hd : Cap w bd (.pointer (some ⟨b, 0, none⟩))) (hp : Cap w bp (.string p)) (hps : p.size ≤ 8000000000000) :
    Calls Try.prog 47 #[.pointer (some ⟨bd, 0, none⟩), .pointer (some ⟨bp, 0, none⟩)] w fun e w' => e = .returned (.tuple #[]) ∧ Ip b bi bl w { s with L := drop s.L p } w' := by
  obtain ⟨c0, _⟩ := h.cell
  unfold Cap at hd hp
  have h0 := h.below (Below.refl _ w).drew
  obtain ⟨w1, hrun, hm, ht⟩ := h0.items.del hR (maxLen_of hps) 0
  have HE := Lib.hid (show Ip b bi bl w { s with L := drop s.L p } w1 from ⟨l, h0.turned hm ht, (Chg.of_below (Below.refl _ w).drew).then ((turned_chg ht).mono ft_i)⟩)
  clear h h0 hm ht
  go_enter Try.func47, Try.ntmps47
  go_region
  all_goals (go_end0; exact ⟨rfl, HE.out⟩)
set_option maxRecDepth 100000 in
set_option maxHeartbeats 1000000 in
theorem iSyncC_any (b bi bl bd bp : Nat) (l : Int) (s : St) (p : ByteArray) (w : World) (h : Ia b bi bl l w s) (hd : Cap w bd (.pointer (some ⟨b, 0, none⟩))) (hp : Cap w bp (.string p)) (hps : p.size ≤ 8000000000000) (hn : s.L.length ≤ 1000000000)
    (ho : kind s.L p = 2) :
    Calls Try.prog 34 #[.pointer (some ⟨bd, 0, none⟩), .pointer (some ⟨bp, 0, none⟩)] w fun e w' => e = .returned (.tuple #[]) ∧ Ip b bi bl w { s with L := ins s.L { old s.L p with kept := (old s.L p).data, loose := false, anew := false } } w' := by
  obtain ⟨c0, _⟩ := h.cell
  unfold Cap at hd hp
  have hl := (h.below (Below.refl _ w).drew).look (maxLen_of hps)
  have hl2 := fun o => (h.below ((Below.refl _ w).alloc (Nat.le_refl _) o).drew).look (maxLen_of hps)
  rw [ho] at hl hl2
  have hod : (old s.L p).dir = false := old_dir (by omega)
  have hbd : bd < w.heap.size := World.block_lt_of_cell? w _ hd
  have hbp : bp < w.heap.size := World.block_lt_of_cell? w _ hp
  have hb : b < w.heap.size := h.lt b (.inl rfl)
  generalize hX0 : (old s.L p).data = X0 at hl hl2
  have hB2 := ((Below.refl _ w).alloc (Nat.le_refl _) (.cells #[.int .i64 2, .string X0, .string X0, .int .i64 0, .int .i64 (old s.L p).stamp] 48)).drew.drew
  have a2 := h.below hB2
  have e1 : iv3 { old s.L p with kept := X0, loose := false, anew := false } = .agg #[.int .i64 2, .string X0, .string X0, .int .i64 0, .int .i64 (old s.L p).stamp] := by
    unfold iv3
    rw [show kOf { old s.L p with kept := X0, loose := false, anew := false } = 2 from kOf_file hod, ← hX0]
    rfl
  obtain ⟨w3, hrun, hm, ht⟩ := a2.items.put (x := { old s.L p with kept := X0, loose := false, anew := false }) (old_path s.L p) e1 hps hn
  have HE := Lib.hid (show Ip b bi bl w { s with L := ins s.L { old s.L p with kept := X0, loose := false, anew := false } } w3 from ⟨l, a2.turned hm ht, (Chg.of_below hB2).then ((turned_chg ht).mono ft_i)⟩)
  generalize stOf (old s.L p) = X2 at hl hl2
  generalize ((old s.L p).stamp : Int) = X3 at hl hl2 hrun
  generalize (old s.L p).kept = X4 at hl hl2
  clear h hB2 a2 hm ht e1 hod ho hX0
  go_enter Try.func34, Try.ntmps34
  go_wp2
  go_region
  all_goals go_wp2
  all_goals go_region
  all_goals (go_end0; exact ⟨rfl, HE.out⟩)
end Go.Proofs.Ytcbnpdognadilaa.Dk

/- What the closures of Append and Rename do. -/
namespace Go.Proofs.Ytcbnpdognadilaa.Dk
open Go.RowKit Tx Pm Pl Pr
set_option linter.unusedVariables false

set_option maxRecDepth 100000 in
set_option maxHeartbeats 2000000 in
theorem iAppendC_any (b bi bl bd bp bq : Nat) (l : Int) (s : St) (p d : ByteArray) (w : World) (h : Ia b bi bl l w s) (hd : Cap w bd (.pointer (some ⟨b, 0, none⟩))) (hp : Cap w bp (.string p)) (hq : Cap w bq (.string d)) (hps : p.size ≤ 8000000000000) (hn : s.L.length ≤ 1000000000) (hst : s.stamps ≤ 1000000000000)
    (ho : kind s.L p = 2) (hca : (old s.L p).loose = false → (old s.L p).anew = false) (hsz : (old s.L p).data.size + d.size ≤ 1000000000000000000) :
    Calls Try.prog 36 #[.pointer (some ⟨bd, 0, none⟩), .pointer (some ⟨bp, 0, none⟩), .pointer (some ⟨bq, 0, none⟩)] w fun e w' => e = .returned (.tuple #[]) ∧ Ip b bi bl w (putS s { old s.L p with data := (old s.L p).data ++ d, loose := true }) w' := by
  obtain ⟨c0, _⟩ := h.cell
  unfold Cap at hd hp hq
  have hbd : bd < w.heap.size := World.block_lt_of_cell? w _ hd
  have hbp : bp < w.heap.size := World.block_lt_of_cell? w _ hp
  have hbq : bq < w.heap.size := World.block_lt_of_cell? w _ hq
  have hb : b < w.heap.size := h.lt b (.inl rfl)
  have hl := (h.below (Below.refl _ w).drew).look (maxLen_of hps)
  have hl2 := fun o => (h.below ((Below.refl _ w).alloc (Nat.le_refl _) o).drew).look (maxLen_of hps)
  rw [ho] at hl hl2
  have hod : (old s.L p).dir = false := old_dir (by omega)
  have hst2 : stOf { old s.L p with data := (old s.L p).data ++ d, loose := true } = if stOf (old s.L p) = 0 then 1 else stOf (old s.L p) := by
    unfold stOf
    cases hlo : (old s.L p).loose with
    | false =>
      rw [hca hlo]
      rfl
    | true => cases (old s.L p).anew <;> rfl
  have hst3 : stOf (old s.L p) = 0 ∨ stOf (old s.L p) = 1 ∨ stOf (old s.L p) = 2 := by
    unfold stOf
    cases (old s.L p).loose <;> cases (old s.L p).anew <;> simp
  have cs := fun W (hW : Below w.heap.size w W) => iSet_any b bi bl l s { old s.L p with data := (old s.L p).data ++ d, loose := true } (old s.L p).stamp p W (h.below hW) (old_path _ _) hps hn hst
  rw [show kOf { old s.L p with data := (old s.L p).data ++ d, loose := true } = 2 from kOf_file hod, hst2] at cs
  simp only at cs
  have HE := Lib.hid (fun W w' (hW : Below w.heap.size w W) (hh : Ip b bi bl W (putS s { old s.L p with data := (old s.L p).data ++ d, loose := true }) w') => Ip.after hW hh)
  generalize (putS s { old s.L p with data := (old s.L p).data ++ d, loose := true }) = s' at cs HE ⊢
  generalize (old s.L p).data = X0 at hl hl2 cs hsz
  generalize (old s.L p).kept = X1 at hl hl2 cs
  generalize ((old s.L p).stamp : Int) = X3 at hl hl2 cs
  generalize stOf (old s.L p) = X2 at hl hl2 cs hst3
  clear h ho hca hod hst2
  have hBW : ∀ o, Below w.heap.size w (w.alloc o).drew := fun o => ((Below.refl _ w).alloc (Nat.le_refl _) o).drew
  have HC := Lib.hid cs
  have HB := Lib.hid hBW
  clear cs hBW
  rcases hst3 with rfl | rfl | rfl
  · go_enter Try.func36, Try.ntmps36
    go_wp2
    go_region
    all_goals go_wp2_with (go_at_call 32; refine (HC.out _ (HB.out _)).mono ?_; rintro e w5 ⟨rfl, h5⟩)
    all_goals (go_end0; exact ⟨rfl, HE.out _ _ (HB.out _) h5⟩)
  · go_enter Try.func36, Try.ntmps36
    go_wp2
    go_region
    all_goals go_wp2_with (go_at_call 32; refine (HC.out _ (HB.out _)).mono ?_; rintro e w5 ⟨rfl, h5⟩)
    all_goals (go_end0; exact ⟨rfl, HE.out _ _ (HB.out _) h5⟩)
  · go_enter Try.func36, Try.ntmps36
    go_wp2
    go_region
    all_goals go_wp2_with (go_at_call 32; refine (HC.out _ (HB.out _)).mono ?_; rintro e w5 ⟨rfl, h5⟩)
    all_goals (go_end0; exact ⟨rfl, HE.out _ _ (HB.out _) h5⟩)
theorem turned_cell {w w' : World} {b i : Nat} (h : w.mapTurned w' b) (hi : i ≠ b) (o : Nat) : w'.cell? ⟨i, o, none⟩ = w.cell? ⟨i, o, none⟩ := by
  unfold World.cell?
  simp only [turned_block h hi]
theorem cell_ne {w : World} {bi : Nat} {L : List It} (h : Mp w bi L) {g : Nat} {o : Nat} {v : Value} (hc : w.cell? ⟨g, o, none⟩ = some v) : g ≠ bi := by
  rintro rfl
  obtain ⟨D, ⟨es, clock, hb, _⟩, _⟩ := h
  unfold World.cell? at hc
  simp [hb] at hc
set_option maxRecDepth 100000 in
set_option maxHeartbeats 2000000 in
theorem iRenameC_any (b bi bl bd bp bq : Nat) (l : Int) (s : St) (f t : ByteArray) (w : World) (h : Ia b bi bl l w s) (hR : Rises s.L) (hd : Cap w bd (.pointer (some ⟨b, 0, none⟩))) (hp : Cap w bp (.string f)) (hq : Cap w bq (.string t)) (hfs : f.size ≤ 8000000000000) (hts : t.size ≤ 8000000000000) (hn : s.L.length ≤ 1000000000) (hst : s.stamps ≤ 1000000000000)
    (ho : kind s.L f = 2) :
    Calls Try.prog 43 #[.pointer (some ⟨bd, 0, none⟩), .pointer (some ⟨bp, 0, none⟩), .pointer (some ⟨bq, 0, none⟩)] w fun e w' => e = .returned (.tuple #[]) ∧ Ip b bi bl w (putS { s with L := drop s.L f } { old s.L f with path := t }) w' := by
  obtain ⟨c0, _⟩ := h.cell
  unfold Cap at hd hp hq
  have hbd : bd < w.heap.size := World.block_lt_of_cell? w _ hd
  have hbp : bp < w.heap.size := World.block_lt_of_cell? w _ hp
  have hbq : bq < w.heap.size := World.block_lt_of_cell? w _ hq
  have hb : b < w.heap.size := h.lt b (.inl rfl)
  have nd := cell_ne h.items hd
  have np := cell_ne h.items hp
  have nq := cell_ne h.items hq
  have nb := h.nb.1
  have nn : w.heap.size ≠ bi := fun e => by have := h.items.lt; omega
  have hl := (h.below (Below.refl _ w).drew).look (maxLen_of hfs)
  have hl2 := fun o => (h.below ((Below.refl _ w).alloc (Nat.le_refl _) o).drew).look (maxLen_of hfs)
  rw [ho] at hl hl2
  have hod : (old s.L f).dir = false := old_dir (by omega)
  have hB2 := ((Below.refl _ w).alloc (Nat.le_refl _) (.cells #[.int .i64 2, .string (old s.L f).data, .string (old s.L f).kept, .int .i64 (stOf (old s.L f)), .int .i64 (old s.L f).stamp] 48)).drew.drew
  have a2 := h.below hB2
  obtain ⟨w3, hrun, hm, ht⟩ := a2.items.del hR (maxLen_of hfs) 0
  have a3 : Ia b bi bl l w3 { s with L := drop s.L f } := a2.turned hm ht
  have hc3 : Chg (Ft b bi bl) w w3 := (Chg.of_below hB2).then ((turned_chg ht).mono ft_i)
  have hbox : w3.cell? ⟨w.heap.size, 0, none⟩ = some (.int .i64 2) ∧ w3.cell? ⟨w.heap.size, 1, none⟩ = some (.string (old s.L f).data) ∧ w3.cell? ⟨w.heap.size, 2, none⟩ = some (.string (old s.L f).kept) ∧ w3.cell? ⟨w.heap.size, 3, none⟩ = some (.int .i64 (stOf (old s.L f))) ∧ w3.cell? ⟨w.heap.size, 4, none⟩ = some (.int .i64 (old s.L f).stamp) := by
    refine ⟨?_, ?_, ?_, ?_, ?_⟩ <;> · rw [turned_cell ht nn]; exact World.cell?_alloc_at _ _ _ _ rfl
  have g0 : w3.cell? ⟨bd, 0, none⟩ = some (.pointer (some ⟨b, 0, none⟩)) := (turned_cell ht nd 0).trans ((World.cell?_alloc_past _ _ _ hbd).trans hd)
  have g1 : w3.cell? ⟨bq, 0, none⟩ = some (.string t) := (turned_cell ht nq 0).trans ((World.cell?_alloc_past _ _ _ hbq).trans hq)
  have cs := iSet_any b bi bl l { s with L := drop s.L f } { old s.L f with path := t } (old s.L f).stamp t w3 a3 rfl hts (Nat.le_trans (drop_in s.L f).2 hn) hst
  rw [show kOf { old s.L f with path := t } = 2 from kOf_file hod] at cs
  have cs : Calls Try.prog 32 #[.pointer (some ⟨b, 0, none⟩), .string t, .agg #[.int .i64 2, .string (old s.L f).data, .string (old s.L f).kept, .int .i64 (stOf (old s.L f)), .int .i64 (old s.L f).stamp]] w3 fun e w' => e = .returned (.tuple #[]) ∧ Ip b bi bl w3 (putS { s with L := drop s.L f } { old s.L f with path := t }) w' := cs
  have hfin : ∀ w', Ip b bi bl w3 (putS { s with L := drop s.L f } { old s.L f with path := t }) w' → Ip b bi bl w (putS { s with L := drop s.L f } { old s.L f with path := t }) w' := fun w' ⟨l2, h1, h2⟩ => ⟨l2, h1, hc3.then h2⟩
  have HE := Lib.hid hfin
  clear h ho hod hB2 a2 a3 hm ht hc3 hfin
  generalize (putS { s with L := drop s.L f } { old s.L f with path := t }) = s' at cs HE ⊢
  generalize (old s.L f).data = X0 at hl hl2 cs hrun hbox
  generalize (old s.L f).kept = X1 at hl hl2 cs hrun hbox
  generalize ((old s.L f).stamp : Int) = X3 at hl hl2 cs hrun hbox
  generalize stOf (old s.L f) = X2 at hl hl2 cs hrun hbox
  obtain ⟨k0, k1, k2, k3, k4⟩ := hbox
  go_enter Try.func43, Try.ntmps43
  go_wp2
  go_region
  all_goals go_wp2
  all_goals go_region
  all_goals go_wp2_with (go_at_call 32; refine cs.mono ?_; rintro e w5 ⟨rfl, h5⟩)
  all_goals (go_end0; exact ⟨rfl, HE.out _ h5⟩)
end Go.Proofs.Ytcbnpdognadilaa.Dk

/- Package disk's Mkdir, Write, Append, Sync, Rename: as the document says. -/
namespace Go.Proofs.Ytcbnpdognadilaa.Dk
open Go.RowKit Tx Pm Pl Pr
set_option linter.unusedVariables false

theorem cap_chg {w w1 : World} {F : Nat → Prop} {g : Nat} {v : Value} (h : Cap w g v) (hc : Chg F w w1) (hn : ¬ F g) : Cap w1 g v := by
  have hg := World.block_lt_of_cell? w _ h
  unfold Cap World.cell? at *
  rw [hc.block g hg hn]
  exact h
theorem cap_below {w w1 : World} {g : Nat} {v : Value} (h : Cap w g v) (hb : Below w.heap.size w w1) : Cap w1 g v := cap_chg (F := fun _ => False) h ⟨hb.os, hb.tape, hb.output, hb.size, fun i hi _ => hb.block i hi⟩ id
theorem cap_new (w : World) (v : Value) (T : TypeId) : Cap (w.alloc (.cells #[v] T)) w.heap.size v := by
  unfold Cap
  rw [World.cell?_alloc_at _ _ _ _ rfl]
  rfl
theorem first_down {s : St} {p : ByteArray} {m : Nat} (h : first s p m = 0) : s.down = false := by
  unfold first at h
  cases hd : s.down with
  | false => rfl
  | true => rw [hd] at h; cases h
theorem mkdir_step (s : St) (p : ByteArray) : mkdirS s p = stepR s (mayMkdirS s p) { (done s).2 with L := ins (done s).2.L ⟨p, true, ⟨#[]⟩, ⟨#[]⟩, false, false, 0⟩ } := by
  unfold mkdirS mayMkdirS stepR
  by_cases h1 : first s p 0 ≠ 0
  · rw [if_pos h1, if_pos h1, if_pos h1]
  · rw [if_neg h1, if_neg h1]
    by_cases h2 : home s.L p = false
    · rw [if_pos h2, if_pos h2, if_pos (by decide)]
    · rw [if_neg h2, if_neg h2]
      by_cases h3 : kind s.L p = 2
      · rw [if_pos h3, if_pos h3, if_pos (by decide)]
      · rw [if_neg h3, if_neg h3]
        rfl
theorem mayMkdir_down {s : St} {p : ByteArray} (h : mayMkdirS s p = 0) : s.down = false := by
  unfold mayMkdirS at h
  split at h
  · rename_i h1; exact absurd h h1
  · rename_i h1; exact first_down (p := p) (m := 0) (by omega)
theorem write_step {s : St} (hg : Good s) (p d : ByteArray) : writeS s p d = stepR s (mayWriteS s p d) (putS (done s).2 { old s.L p with data := d, loose := true, anew := true }) := by
  unfold writeS mayWriteS stepR
  rw [fits_full hg]
  by_cases h1 : first s p 1 ≠ 0
  · rw [if_pos h1, if_pos h1, if_pos h1]
  · rw [if_neg h1, if_neg h1]
    by_cases h2 : home s.L p = false
    · rw [if_pos h2, if_pos h2, if_pos (by decide)]
    · rw [if_neg h2, if_neg h2]
      by_cases h3 : kind s.L p = 1
      · rw [if_pos h3, if_pos h3, if_pos (by decide)]
      · rw [if_neg h3, if_neg h3]
        cases full s (vol p) ((d.size : Int) - (old s.L p).data.size) with
        | true => rfl
        | false => rfl
theorem mayWrite_ok {s : St} {p d : ByteArray} (h : mayWriteS s p d = 0) : s.down = false ∧ kind s.L p ≠ 1 := by
  unfold mayWriteS at h
  split at h
  · rename_i h1; exact absurd h h1
  rename_i h1
  split at h
  · cases h
  split at h
  · cases h
  rename_i h3
  exact ⟨first_down (p := p) (m := 1) (by omega), h3⟩
theorem append_step {s : St} (hg : Good s) (p d : ByteArray) : appendS s p d = stepR s (mayAppendS s p d) (putS (done s).2 { old s.L p with data := (old s.L p).data ++ d, loose := true }) := by
  unfold appendS mayAppendS stepR
  rw [fits_full hg]
  by_cases h1 : there s p ≠ 0
  · rw [if_pos h1, if_pos h1, if_pos h1]
  · rw [if_neg h1, if_neg h1]
    cases full s (vol p) (d.size : Int) with
    | true => rfl
    | false => rfl
theorem there_kind {s : St} {p : ByteArray} (h : there s p = 0) : s.down = false ∧ kind s.L p = 2 := by
  unfold there at h
  split at h
  · rename_i h1; exact absurd h h1
  rename_i h1
  split at h
  · cases h
  split at h
  · cases h
  rename_i h2 h3
  refine ⟨first_down (p := p) (m := 1) (by omega), ?_⟩
  rcases kind_le s.L p with e | e | e
  · exact absurd e h2
  · exact absurd e h3
  · exact e
theorem mayAppend_ok {s : St} {p d : ByteArray} (h : mayAppendS s p d = 0) : s.down = false ∧ kind s.L p = 2 := by
  unfold mayAppendS at h
  split at h
  · rename_i h1; exact absurd h h1
  · rename_i h1; exact there_kind (by omega)
theorem sync_step (s : St) (p : ByteArray) : syncS s p = stepR s (there s p) { (done s).2 with L := ins (done s).2.L { old s.L p with kept := (old s.L p).data, loose := false, anew := false } } := rfl
theorem rename_step {s : St} (hg : Good s) (f t : ByteArray) : renameS s f t = stepR s (mayRenS s f t) (putS { (done s).2 with L := drop (done s).2.L f } { old s.L f with path := t }) := by
  unfold renameS mayRenS stepR firstR
  by_cases h1 : first s f 1 ≠ 0
  · rw [if_pos h1, if_pos h1, if_pos h1, if_pos h1]
  rw [if_neg h1, if_neg h1]
  by_cases h2 : first s t 1 ≠ 0
  · rw [if_pos h2, if_pos h2, if_pos h2]
  rw [if_neg h2, if_neg h2]
  by_cases h3 : kind s.L f = 0
  · rw [if_pos (.inl h3), if_pos h3, if_pos (by decide)]
  rw [if_neg h3]
  by_cases h4 : home s.L t = false
  · rw [if_pos (.inr h4), if_pos h4, if_pos (by decide)]
  rw [if_neg (by rintro (h | h) <;> contradiction), if_neg h4]
  by_cases h5 : kind s.L f = 1
  · rw [if_pos (.inl h5), if_pos h5, if_pos (by decide)]
  rw [if_neg h5]
  by_cases h6 : kind s.L t = 1
  · rw [if_pos (.inr h6), if_pos h6, if_pos (by decide)]
  rw [if_neg (by rintro (h | h) <;> contradiction), if_neg h6]
  have e : (f ≠ t ∧ fits s t (moreS s.L f t) = false) ↔ (vol f ≠ vol t ∧ full s (vol t) (((old s.L f).data.size : Int) - (old s.L t).data.size) = true) := by
    rw [fits_full hg]
    by_cases hv : vol f = vol t
    · have hm : moreS s.L f t ≤ 0 := by
        unfold moreS
        rw [if_pos hv]
        split <;> omega
      have hf : full s (vol t) (moreS s.L f t) = false := by
        unfold full
        cases roomOf s.rooms (vol t) with
        | none => rfl
        | some r => simp only; rw [decide_eq_false (by omega), Bool.false_and]
      constructor
      · rintro ⟨_, h⟩
        rw [hf] at h
        cases h
      · rintro ⟨h, _⟩
        exact absurd hv h
    · have hft : f ≠ t := fun e => hv (by rw [e])
      have hm : moreS s.L f t = ((old s.L f).data.size : Int) - (old s.L t).data.size := by
        unfold moreS
        rw [if_neg hv]
        rcases kind_le s.L t with k | k | k
        · have ho : old s.L t = mk t := by
            unfold old
            cases hx : find s.L t with
            | none => rfl
            | some x =>
              unfold kind at k
              rw [hx] at k
              unfold kindOf at k
              simp only at k
              split at k <;> cases k
          rw [if_neg (by omega), ho]
          rfl
        · exact absurd k h6
        · rw [if_pos k]
      rw [hm]
      constructor
      · rintro ⟨_, h⟩
        refine ⟨hv, ?_⟩
        cases hb : full s (vol t) (((old s.L f).data.size : Int) - (old s.L t).data.size) with
        | true => rfl
        | false => rw [hb] at h; cases h
      · rintro ⟨_, h⟩
        refine ⟨hft, ?_⟩
        rw [h]
        rfl
  by_cases h7 : f ≠ t ∧ fits s t (moreS s.L f t) = false
  · rw [if_pos h7, if_pos (e.1 h7), if_pos (by decide)]
  · rw [if_neg h7, if_neg (fun h => h7 (e.2 h))]
    rfl
theorem mayRen_ok {s : St} {f t : ByteArray} (h : mayRenS s f t = 0) : s.down = false ∧ kind s.L f = 2 := by
  unfold mayRenS at h
  split at h
  · rename_i h1; exact absurd h h1
  rename_i h1
  split at h
  · cases h
  rename_i h2
  split at h
  · cases h
  split at h
  · cases h
  rename_i h3
  have hf : first s f 1 = 0 := by
    unfold firstR at h1
    by_cases hq : first s f 1 = 0
    · exact hq
    · rw [if_pos hq] at h1
      omega
  refine ⟨first_down hf, ?_⟩
  rcases kind_le s.L f with e | e | e
  · exact absurd e h2
  · exact absurd e h3
  · exact e

set_option maxRecDepth 100000 in
set_option maxHeartbeats 2000000 in
theorem iMkdir_any (b bi bl : Nat) (l : Int) (s : St) (p : ByteArray) (w : World) (h : Ia b bi bl l w s) (hg : Good s) (ok : Ok s) (hp : p.size ≤ 8000000000000) :
    Calls Try.prog 10 #[.pointer (some ⟨b, 0, none⟩), .string p] w fun e w' => e = .returned (.int .i64 ((mkdirS s p).1 : Nat)) ∧ Ip b bi bl w (mkdirS s p).2 w' := by
  have hft := h.lt
  have hn := ok.fit.1
  have hst : (done s).2.stamps ≤ 1000000000000 := by rw [done_stamps]; exact ok.stamps
  have eL := done_L s
  rw [mkdir_step]
  obtain ⟨S', hS'⟩ : ∃ S', S' = { (done s).2 with L := ins (done s).2.L ⟨p, true, ⟨#[]⟩, ⟨#[]⟩, false, false, 0⟩ } := ⟨_, rfl⟩
  rw [← hS']
  have hb1 := (Below.refl w.heap.size w).alloc (Nat.le_refl _) (.cells #[.pointer (some ⟨b, 0, none⟩)] 22)
  have k1 := cap_new w (.pointer (some ⟨b, 0, none⟩)) 22
  have k2 := cap_new (w.alloc (.cells #[.pointer (some ⟨b, 0, none⟩)] 22)) (.string p) 9
  have hs1 : (w.alloc (.cells #[.pointer (some ⟨b, 0, none⟩)] 22)).heap.size = w.heap.size + 1 := by simp
  rw [hs1] at k2
  have hb2 := hb1.alloc (by simp) (.cells #[.string p] 9)
  have k1 := cap_below k1 ((Below.refl _ _).alloc (Nat.le_refl _) (.cells #[.string p] 9))
  obtain ⟨W1, hW1⟩ : ∃ W1, W1 = ((w.alloc (.cells #[.pointer (some ⟨b, 0, none⟩)] 22)).alloc (.cells #[.string p] 9)) := ⟨_, rfl⟩
  rw [← hW1] at k1 k2 hb2
  have hb3 : Below w.heap.size w W1.drew := hb2.drew
  have cm := iMayMkdir_any b bi bl l s p W1.drew (h.below hb3) hp
  have hen : ∀ W, (callFunc 29 #[.pointer (some ⟨w.heap.size, 0, none⟩), .pointer (some ⟨w.heap.size + 1, 0, none⟩)]).run Try.prog W = .ok (.enter 29 #[.pointer (some ⟨w.heap.size, 0, none⟩), .pointer (some ⟨w.heap.size + 1, 0, none⟩)]) W :=
    fun W => Rg.enters Try.func29 (by kernel_rfl) (by kernel_rfl) _ W
  have ct : ∀ W, Below W1.heap.size W1 W → Calls Try.prog 27 #[.pointer (some ⟨b, 0, none⟩), .int .i64 (mayMkdirS s p : Nat), .func (.func 29) #[] #[.pointer (some ⟨w.heap.size, 0, none⟩), .pointer (some ⟨w.heap.size + 1, 0, none⟩)]] W fun e w' => e = .returned (.int .i64 ((stepR s (mayMkdirS s p) S').1 : Nat)) ∧
      (Ip b bi bl w (stepR s (mayMkdirS s p) S').2 w' ∧ Cap w' w.heap.size (.pointer (some ⟨b, 0, none⟩)) ∧ Cap w' (w.heap.size + 1) (.string p)) := by
    intro W hW
    have hbW := below_call hb2 hW
    have j1 := cap_below k1 hW
    have j2 := cap_below k2 hW
    have hnf : ∀ k, ¬ Ft b bi bl (w.heap.size + k) := fun k hk => by have := hft _ hk; omega
    refine (iStep_any b bi bl l s _ _ _ S' W (h.below hbW) (fun e => mayMkdir_down e) ok.steps hen (fun l1 W2 hr _ hI hc => ?_)).mono ?_
    · have m1 := cap_chg j1 hc (fun e => by have := hft b (.inl rfl); omega)
      have m2 := cap_chg j2 hc (fun e => by have := hft b (.inl rfl); omega)
      rw [hS']
      exact iMkdirC_any b bi bl _ _ l1 _ p W2 hI m1 m2 hp (by rw [eL]; exact hn)
    · rintro e w' ⟨rfl, l5, h5, hc5⟩
      exact ⟨rfl, ⟨l5, h5, (Chg.of_below hbW).then hc5⟩, cap_chg j1 hc5 (hnf 0), cap_chg j2 hc5 (hnf 1)⟩
  generalize stepR s (mayMkdirS s p) S' = RES at ct ⊢
  generalize mayMkdirS s p = r at cm ct
  have HW1 := Lib.hid hW1
  clear h hg ok hS' hst eL hn hft hb1 hb2 hb3 hen
  go_enter Try.func10, Try.ntmps10
  go_wp2_with fail
  rw [← HW1.out]
  refine Rg.wp_only ?_ (regMkdir _ (by kernel_rfl) _ w.heap.size (w.heap.size + 1) (.pointer (some ⟨b, 0, none⟩)) p r RES.1 W1 (fun W => Below W1.heap.size W1 W) (fun W => Ip b bi bl w RES.2 W ∧ Cap W w.heap.size (.pointer (some ⟨b, 0, none⟩)) ∧ Cap W (w.heap.size + 1) (.string p)) ⟨k1, k2⟩ (cm.mono (fun e w' he => ⟨he.1, (Below.refl _ W1).drew.trans he.2⟩)) (fun W hW => ⟨cap_below k1 hW, cap_below k2 hW⟩) ct (fun W hW => hW.2))
  rintro _ w9 ⟨rfl, h9⟩
  go_wp2_with fail
  go_ret
  exact ⟨rfl, h9.1⟩

set_option maxRecDepth 100000 in
set_option maxHeartbeats 2000000 in
theorem iWrite_any (b bi bl : Nat) (l : Int) (s : St) (p q : ByteArray) (w : World) (h : Ia b bi bl l w s) (hg : Good s) (ok : Ok s) (hp : p.size ≤ 8000000000000) (hq : q.size ≤ 1000000000000000000) :
    Calls Try.prog 11 #[.pointer (some ⟨b, 0, none⟩), .string p, .string q] w fun e w' => e = .returned (.int .i64 ((writeS s p q).1 : Nat)) ∧ Ip b bi bl w (writeS s p q).2 w' := by
  have hft := h.lt
  have hn := ok.fit.1
  have hst : (done s).2.stamps ≤ 1000000000000 := by rw [done_stamps]; exact ok.stamps
  have eL := done_L s
  rw [write_step hg]
  obtain ⟨S', hS'⟩ : ∃ S', S' = putS (done s).2 { old s.L p with data := q, loose := true, anew := true } := ⟨_, rfl⟩
  rw [← hS']
  have hb1 := (Below.refl w.heap.size w).alloc (Nat.le_refl _) (.cells #[.pointer (some ⟨b, 0, none⟩)] 22)
  have k1 := cap_new w (.pointer (some ⟨b, 0, none⟩)) 22
  have k2 := cap_new (w.alloc (.cells #[.pointer (some ⟨b, 0, none⟩)] 22)) (.string p) 9
  have hs1 : (w.alloc (.cells #[.pointer (some ⟨b, 0, none⟩)] 22)).heap.size = w.heap.size + 1 := by simp
  rw [hs1] at k2
  have hb2 := hb1.alloc (by simp) (.cells #[.string p] 9)
  have k1 := cap_below k1 ((Below.refl _ _).alloc (Nat.le_refl _) (.cells #[.string p] 9))
  have k3 := cap_new ((w.alloc (.cells #[.pointer (some ⟨b, 0, none⟩)] 22)).alloc (.cells #[.string p] 9)) (.string q) 9
  have hs2 : ((w.alloc (.cells #[.pointer (some ⟨b, 0, none⟩)] 22)).alloc (.cells #[.string p] 9)).heap.size = w.heap.size + 1 + 1 := by simp
  rw [hs2] at k3
  have hb2 := hb2.alloc (by simp; omega) (.cells #[.string q] 9)
  have k1 := cap_below k1 ((Below.refl _ _).alloc (Nat.le_refl _) (.cells #[.string q] 9))
  have k2 := cap_below k2 ((Below.refl _ _).alloc (Nat.le_refl _) (.cells #[.string q] 9))
  obtain ⟨W1, hW1⟩ : ∃ W1, W1 = ((w.alloc (.cells #[.pointer (some ⟨b, 0, none⟩)] 22)).alloc (.cells #[.string p] 9)).alloc (.cells #[.string q] 9) := ⟨_, rfl⟩
  rw [← hW1] at k1 k2 k3 hb2
  have hb3 : Below w.heap.size w W1.drew := hb2.drew
  have cm := iMayWrite_any b bi bl l s p q W1.drew (h.below hb3) hg.rises ok.fit hp hq
  have hen : ∀ W, (callFunc 31 #[.pointer (some ⟨w.heap.size, 0, none⟩), .pointer (some ⟨w.heap.size + 1, 0, none⟩), .pointer (some ⟨w.heap.size + 1 + 1, 0, none⟩)]).run Try.prog W = .ok (.enter 31 #[.pointer (some ⟨w.heap.size, 0, none⟩), .pointer (some ⟨w.heap.size + 1, 0, none⟩), .pointer (some ⟨w.heap.size + 1 + 1, 0, none⟩)]) W :=
    fun W => Rg.enters Try.func31 (by kernel_rfl) (by kernel_rfl) _ W
  have ct : ∀ W, Below W1.heap.size W1 W → Calls Try.prog 27 #[.pointer (some ⟨b, 0, none⟩), .int .i64 (mayWriteS s p q : Nat), .func (.func 31) #[] #[.pointer (some ⟨w.heap.size, 0, none⟩), .pointer (some ⟨w.heap.size + 1, 0, none⟩), .pointer (some ⟨w.heap.size + 1 + 1, 0, none⟩)]] W fun e w' => e = .returned (.int .i64 ((stepR s (mayWriteS s p q) S').1 : Nat)) ∧
      (Ip b bi bl w (stepR s (mayWriteS s p q) S').2 w' ∧ Cap w' w.heap.size (.pointer (some ⟨b, 0, none⟩)) ∧ Cap w' (w.heap.size + 1) (.string p) ∧ Cap w' (w.heap.size + 1 + 1) (.string q)) := by
    intro W hW
    have hbW := below_call hb2 hW
    have j1 := cap_below k1 hW
    have j2 := cap_below k2 hW
    have j3 := cap_below k3 hW
    have hnf : ∀ k, ¬ Ft b bi bl (w.heap.size + k) := fun k hk => by have := hft _ hk; omega
    refine (iStep_any b bi bl l s _ _ _ S' W (h.below hbW) (fun e => (mayWrite_ok e).1) ok.steps hen (fun l1 W2 hr _ hI hc => ?_)).mono ?_
    · have m1 := cap_chg j1 hc (fun e => by have := hft b (.inl rfl); omega)
      have m2 := cap_chg j2 hc (fun e => by have := hft b (.inl rfl); omega)
      have m3 := cap_chg j3 hc (fun e => by have := hft b (.inl rfl); omega)
      rw [hS']
      have c9 := iWriteC_any b bi bl _ _ _ l1 _ p q W2 hI m1 m2 m3 hp (by rw [eL]; exact hn) hst (by rw [eL]; exact old_dir (mayWrite_ok hr).2)
      rw [eL] at c9
      exact c9
    · rintro e w' ⟨rfl, l5, h5, hc5⟩
      exact ⟨rfl, ⟨l5, h5, (Chg.of_below hbW).then hc5⟩, cap_chg j1 hc5 (hnf 0), cap_chg j2 hc5 (hnf 1), cap_chg j3 hc5 (hnf 2)⟩
  generalize stepR s (mayWriteS s p q) S' = RES at ct ⊢
  generalize mayWriteS s p q = r at cm ct
  have HW1 := Lib.hid hW1
  clear h hg ok hS' hst eL hn hft hb1 hb2 hb3 hen
  go_enter Try.func11, Try.ntmps11
  go_wp2_with fail
  rw [← HW1.out]
  refine Rg.wp_only ?_ (regWrite _ (by kernel_rfl) _ w.heap.size (w.heap.size + 1) (w.heap.size + 1 + 1) (.pointer (some ⟨b, 0, none⟩)) p q r RES.1 W1 (fun W => Below W1.heap.size W1 W) (fun W => Ip b bi bl w RES.2 W ∧ Cap W w.heap.size (.pointer (some ⟨b, 0, none⟩)) ∧ Cap W (w.heap.size + 1) (.string p) ∧ Cap W (w.heap.size + 1 + 1) (.string q)) ⟨k1, k2, k3⟩ (cm.mono (fun e w' he => ⟨he.1, (Below.refl _ W1).drew.trans he.2⟩)) (fun W hW => ⟨cap_below k1 hW, cap_below k2 hW, cap_below k3 hW⟩) ct (fun W hW => hW.2))
  rintro _ w9 ⟨rfl, h9⟩
  go_wp2_with fail
  go_ret
  exact ⟨rfl, h9.1⟩

set_option maxRecDepth 100000 in
set_option maxHeartbeats 2000000 in
theorem iAppend_any (b bi bl : Nat) (l : Int) (s : St) (p q : ByteArray) (w : World) (h : Ia b bi bl l w s) (hg : Good s) (ok : Ok s) (hp : p.size ≤ 8000000000000) (hq : q.size ≤ 1000000000000000000) (hsz : (old s.L p).data.size + q.size ≤ 1000000000000000000) :
    Calls Try.prog 13 #[.pointer (some ⟨b, 0, none⟩), .string p, .string q] w fun e w' => e = .returned (.int .i64 ((appendS s p q).1 : Nat)) ∧ Ip b bi bl w (appendS s p q).2 w' := by
  have hft := h.lt
  have hn := ok.fit.1
  have hst : (done s).2.stamps ≤ 1000000000000 := by rw [done_stamps]; exact ok.stamps
  have eL := done_L s
  rw [append_step hg]
  obtain ⟨S', hS'⟩ : ∃ S', S' = putS (done s).2 { old s.L p with data := (old s.L p).data ++ q, loose := true } := ⟨_, rfl⟩
  rw [← hS']
  have hb1 := (Below.refl w.heap.size w).alloc (Nat.le_refl _) (.cells #[.pointer (some ⟨b, 0, none⟩)] 22)
  have k1 := cap_new w (.pointer (some ⟨b, 0, none⟩)) 22
  have k2 := cap_new (w.alloc (.cells #[.pointer (some ⟨b, 0, none⟩)] 22)) (.string p) 9
  have hs1 : (w.alloc (.cells #[.pointer (some ⟨b, 0, none⟩)] 22)).heap.size = w.heap.size + 1 := by simp
  rw [hs1] at k2
  have hb2 := hb1.alloc (by simp) (.cells #[.string p] 9)
  have k1 := cap_below k1 ((Below.refl _ _).alloc (Nat.le_refl _) (.cells #[.string p] 9))
  have k3 := cap_new ((w.alloc (.cells #[.pointer (some ⟨b, 0, none⟩)] 22)).alloc (.cells #[.string p] 9)) (.string q) 9
  have hs2 : ((w.alloc (.cells #[.pointer (some ⟨b, 0, none⟩)] 22)).alloc (.cells #[.string p] 9)).heap.size = w.heap.size + 1 + 1 := by simp
  rw [hs2] at k3
  have hb2 := hb2.alloc (by simp; omega) (.cells #[.string q] 9)
  have k1 := cap_below k1 ((Below.refl _ _).alloc (Nat.le_refl _) (.cells #[.string q] 9))
  have k2 := cap_below k2 ((Below.refl _ _).alloc (Nat.le_refl _) (.cells #[.string q] 9))
  obtain ⟨W1, hW1⟩ : ∃ W1, W1 = ((w.alloc (.cells #[.pointer (some ⟨b, 0, none⟩)] 22)).alloc (.cells #[.string p] 9)).alloc (.cells #[.string q] 9) := ⟨_, rfl⟩
  rw [← hW1] at k1 k2 k3 hb2
  have hb3 : Below w.heap.size w W1.drew := hb2.drew
  have cm := iMayAppend_any b bi bl l s p q W1.drew (h.below hb3) hg.rises ok.fit hp (by omega)
  have hen : ∀ W, (callFunc 36 #[.pointer (some ⟨w.heap.size, 0, none⟩), .pointer (some ⟨w.heap.size + 1, 0, none⟩), .pointer (some ⟨w.heap.size + 1 + 1, 0, none⟩)]).run Try.prog W = .ok (.enter 36 #[.pointer (some ⟨w.heap.size, 0, none⟩), .pointer (some ⟨w.heap.size + 1, 0, none⟩), .pointer (some ⟨w.heap.size + 1 + 1, 0, none⟩)]) W :=
    fun W => Rg.enters Try.func36 (by kernel_rfl) (by kernel_rfl) _ W
  have ct : ∀ W, Below W1.heap.size W1 W → Calls Try.prog 27 #[.pointer (some ⟨b, 0, none⟩), .int .i64 (mayAppendS s p q : Nat), .func (.func 36) #[] #[.pointer (some ⟨w.heap.size, 0, none⟩), .pointer (some ⟨w.heap.size + 1, 0, none⟩), .pointer (some ⟨w.heap.size + 1 + 1, 0, none⟩)]] W fun e w' => e = .returned (.int .i64 ((stepR s (mayAppendS s p q) S').1 : Nat)) ∧
      (Ip b bi bl w (stepR s (mayAppendS s p q) S').2 w' ∧ Cap w' w.heap.size (.pointer (some ⟨b, 0, none⟩)) ∧ Cap w' (w.heap.size + 1) (.string p) ∧ Cap w' (w.heap.size + 1 + 1) (.string q)) := by
    intro W hW
    have hbW := below_call hb2 hW
    have j1 := cap_below k1 hW
    have j2 := cap_below k2 hW
    have j3 := cap_below k3 hW
    have hnf : ∀ k, ¬ Ft b bi bl (w.heap.size + k) := fun k hk => by have := hft _ hk; omega
    refine (iStep_any b bi bl l s _ _ _ S' W (h.below hbW) (fun e => (mayAppend_ok e).1) ok.steps hen (fun l1 W2 hr _ hI hc => ?_)).mono ?_
    · have m1 := cap_chg j1 hc (fun e => by have := hft b (.inl rfl); omega)
      have m2 := cap_chg j2 hc (fun e => by have := hft b (.inl rfl); omega)
      have m3 := cap_chg j3 hc (fun e => by have := hft b (.inl rfl); omega)
      rw [hS']
      have c9 := iAppendC_any b bi bl _ _ _ l1 _ p q W2 hI m1 m2 m3 hp (by rw [eL]; exact hn) hst (by rw [eL]; exact (mayAppend_ok hr).2) (by rw [eL]; exact calm_old hg p) (by rw [eL]; exact hsz)
      rw [eL] at c9
      exact c9
    · rintro e w' ⟨rfl, l5, h5, hc5⟩
      exact ⟨rfl, ⟨l5, h5, (Chg.of_below hbW).then hc5⟩, cap_chg j1 hc5 (hnf 0), cap_chg j2 hc5 (hnf 1), cap_chg j3 hc5 (hnf 2)⟩
  generalize stepR s (mayAppendS s p q) S' = RES at ct ⊢
  generalize mayAppendS s p q = r at cm ct
  have HW1 := Lib.hid hW1
  clear h hg ok hS' hst eL hn hft hb1 hb2 hb3 hen
  go_enter Try.func13, Try.ntmps13
  go_wp2_with fail
  rw [← HW1.out]
  refine Rg.wp_only ?_ (regAppend _ (by kernel_rfl) _ w.heap.size (w.heap.size + 1) (w.heap.size + 1 + 1) (.pointer (some ⟨b, 0, none⟩)) p q r RES.1 W1 (fun W => Below W1.heap.size W1 W) (fun W => Ip b bi bl w RES.2 W ∧ Cap W w.heap.size (.pointer (some ⟨b, 0, none⟩)) ∧ Cap W (w.heap.size + 1) (.string p) ∧ Cap W (w.heap.size + 1 + 1) (.string q)) ⟨k1, k2, k3⟩ (cm.mono (fun e w' he => ⟨he.1, (Below.refl _ W1).drew.trans he.2⟩)) (fun W hW => ⟨cap_below k1 hW, cap_below k2 hW, cap_below k3 hW⟩) ct (fun W hW => hW.2))
  rintro _ w9 ⟨rfl, h9⟩
  go_wp2_with fail
  go_ret
  exact ⟨rfl, h9.1⟩

set_option maxRecDepth 100000 in
set_option maxHeartbeats 2000000 in
theorem iSync_any (b bi bl : Nat) (l : Int) (s : St) (p : ByteArray) (w : World) (h : Ia b bi bl l w s) (hg : Good s) (ok : Ok s) (hp : p.size ≤ 8000000000000) :
    Calls Try.prog 12 #[.pointer (some ⟨b, 0, none⟩), .string p] w fun e w' => e = .returned (.int .i64 ((syncS s p).1 : Nat)) ∧ Ip b bi bl w (syncS s p).2 w' := by
  have hft := h.lt
  have hn := ok.fit.1
  have hst : (done s).2.stamps ≤ 1000000000000 := by rw [done_stamps]; exact ok.stamps
  have eL := done_L s
  rw [sync_step]
  obtain ⟨S', hS'⟩ : ∃ S', S' = { (done s).2 with L := ins (done s).2.L { old s.L p with kept := (old s.L p).data, loose := false, anew := false } } := ⟨_, rfl⟩
  rw [← hS']
  have hb1 := (Below.refl w.heap.size w).alloc (Nat.le_refl _) (.cells #[.pointer (some ⟨b, 0, none⟩)] 22)
  have k1 := cap_new w (.pointer (some ⟨b, 0, none⟩)) 22
  have k2 := cap_new (w.alloc (.cells #[.pointer (some ⟨b, 0, none⟩)] 22)) (.string p) 9
  have hs1 : (w.alloc (.cells #[.pointer (some ⟨b, 0, none⟩)] 22)).heap.size = w.heap.size + 1 := by simp
  rw [hs1] at k2
  have hb2 := hb1.alloc (by simp) (.cells #[.string p] 9)
  have k1 := cap_below k1 ((Below.refl _ _).alloc (Nat.le_refl _) (.cells #[.string p] 9))
  obtain ⟨W1, hW1⟩ : ∃ W1, W1 = ((w.alloc (.cells #[.pointer (some ⟨b, 0, none⟩)] 22)).alloc (.cells #[.string p] 9)) := ⟨_, rfl⟩
  rw [← hW1] at k1 k2 hb2
  have hb3 : Below w.heap.size w W1.drew := hb2.drew
  have cm := iMaySync_any b bi bl l s p W1.drew (h.below hb3) hp
  have hen : ∀ W, (callFunc 34 #[.pointer (some ⟨w.heap.size, 0, none⟩), .pointer (some ⟨w.heap.size + 1, 0, none⟩)]).run Try.prog W = .ok (.enter 34 #[.pointer (some ⟨w.heap.size, 0, none⟩), .pointer (some ⟨w.heap.size + 1, 0, none⟩)]) W :=
    fun W => Rg.enters Try.func34 (by kernel_rfl) (by kernel_rfl) _ W
  have ct : ∀ W, Below W1.heap.size W1 W → Calls Try.prog 27 #[.pointer (some ⟨b, 0, none⟩), .int .i64 (there s p : Nat), .func (.func 34) #[] #[.pointer (some ⟨w.heap.size, 0, none⟩), .pointer (some ⟨w.heap.size + 1, 0, none⟩)]] W fun e w' => e = .returned (.int .i64 ((stepR s (there s p) S').1 : Nat)) ∧
      (Ip b bi bl w (stepR s (there s p) S').2 w' ∧ Cap w' w.heap.size (.pointer (some ⟨b, 0, none⟩)) ∧ Cap w' (w.heap.size + 1) (.string p)) := by
    intro W hW
    have hbW := below_call hb2 hW
    have j1 := cap_below k1 hW
    have j2 := cap_below k2 hW
    have hnf : ∀ k, ¬ Ft b bi bl (w.heap.size + k) := fun k hk => by have := hft _ hk; omega
    refine (iStep_any b bi bl l s _ _ _ S' W (h.below hbW) (fun e => (there_kind e).1) ok.steps hen (fun l1 W2 hr _ hI hc => ?_)).mono ?_
    · have m1 := cap_chg j1 hc (fun e => by have := hft b (.inl rfl); omega)
      have m2 := cap_chg j2 hc (fun e => by have := hft b (.inl rfl); omega)
      rw [hS']
      have c9 := iSyncC_any b bi bl _ _ l1 _ p W2 hI m1 m2 hp (by rw [eL]; exact hn) (by rw [eL]; exact (there_kind hr).2)
      rw [eL] at c9 ⊢
      exact c9
    · rintro e w' ⟨rfl, l5, h5, hc5⟩
      exact ⟨rfl, ⟨l5, h5, (Chg.of_below hbW).then hc5⟩, cap_chg j1 hc5 (hnf 0), cap_chg j2 hc5 (hnf 1)⟩
  generalize stepR s (there s p) S' = RES at ct ⊢
  generalize there s p = r at cm ct
  have HW1 := Lib.hid hW1
  clear h hg ok hS' hst eL hn hft hb1 hb2 hb3 hen
  go_enter Try.func12, Try.ntmps12
  go_wp2_with fail
  rw [← HW1.out]
  refine Rg.wp_only ?_ (regSync _ (by kernel_rfl) _ w.heap.size (w.heap.size + 1) (.pointer (some ⟨b, 0, none⟩)) p r RES.1 W1 (fun W => Below W1.heap.size W1 W) (fun W => Ip b bi bl w RES.2 W ∧ Cap W w.heap.size (.pointer (some ⟨b, 0, none⟩)) ∧ Cap W (w.heap.size + 1) (.string p)) ⟨k1, k2⟩ (cm.mono (fun e w' he => ⟨he.1, (Below.refl _ W1).drew.trans he.2⟩)) (fun W hW => ⟨cap_below k1 hW, cap_below k2 hW⟩) ct (fun W hW => hW.2))
  rintro _ w9 ⟨rfl, h9⟩
  go_wp2_with fail
  go_ret
  exact ⟨rfl, h9.1⟩

set_option maxRecDepth 100000 in
set_option maxHeartbeats 2000000 in
theorem iRename_any (b bi bl : Nat) (l : Int) (s : St) (p q : ByteArray) (w : World) (h : Ia b bi bl l w s) (hg : Good s) (ok : Ok s) (hp : p.size ≤ 8000000000000) (hq : q.size ≤ 8000000000000) :
    Calls Try.prog 19 #[.pointer (some ⟨b, 0, none⟩), .string p, .string q] w fun e w' => e = .returned (.int .i64 ((renameS s p q).1 : Nat)) ∧ Ip b bi bl w (renameS s p q).2 w' := by
  have hft := h.lt
  have hn := ok.fit.1
  have hst : (done s).2.stamps ≤ 1000000000000 := by rw [done_stamps]; exact ok.stamps
  have eL := done_L s
  rw [rename_step hg]
  obtain ⟨S', hS'⟩ : ∃ S', S' = putS { (done s).2 with L := drop (done s).2.L p } { old s.L p with path := q } := ⟨_, rfl⟩
  rw [← hS']
  have hb1 := (Below.refl w.heap.size w).alloc (Nat.le_refl _) (.cells #[.pointer (some ⟨b, 0, none⟩)] 22)
  have k1 := cap_new w (.pointer (some ⟨b, 0, none⟩)) 22
  have k2 := cap_new (w.alloc (.cells #[.pointer (some ⟨b, 0, none⟩)] 22)) (.string p) 9
  have hs1 : (w.alloc (.cells #[.pointer (some ⟨b, 0, none⟩)] 22)).heap.size = w.heap.size + 1 := by simp
  rw [hs1] at k2
  have hb2 := hb1.alloc (by simp) (.cells #[.string p] 9)
  have k1 := cap_below k1 ((Below.refl _ _).alloc (Nat.le_refl _) (.cells #[.string p] 9))
  have k3 := cap_new ((w.alloc (.cells #[.pointer (some ⟨b, 0, none⟩)] 22)).alloc (.cells #[.string p] 9)) (.string q) 9
  have hs2 : ((w.alloc (.cells #[.pointer (some ⟨b, 0, none⟩)] 22)).alloc (.cells #[.string p] 9)).heap.size = w.heap.size + 1 + 1 := by simp
  rw [hs2] at k3
  have hb2 := hb2.alloc (by simp; omega) (.cells #[.string q] 9)
  have k1 := cap_below k1 ((Below.refl _ _).alloc (Nat.le_refl _) (.cells #[.string q] 9))
  have k2 := cap_below k2 ((Below.refl _ _).alloc (Nat.le_refl _) (.cells #[.string q] 9))
  obtain ⟨W1, hW1⟩ : ∃ W1, W1 = ((w.alloc (.cells #[.pointer (some ⟨b, 0, none⟩)] 22)).alloc (.cells #[.string p] 9)).alloc (.cells #[.string q] 9) := ⟨_, rfl⟩
  rw [← hW1] at k1 k2 k3 hb2
  have hb3 : Below w.heap.size w W1.drew := hb2.drew
  have cm := iMayRename_any b bi bl l s p q W1.drew (h.below hb3) hg.rises ok.fit hp hq
  have hen : ∀ W, (callFunc 43 #[.pointer (some ⟨w.heap.size, 0, none⟩), .pointer (some ⟨w.heap.size + 1, 0, none⟩), .pointer (some ⟨w.heap.size + 1 + 1, 0, none⟩)]).run Try.prog W = .ok (.enter 43 #[.pointer (some ⟨w.heap.size, 0, none⟩), .pointer (some ⟨w.heap.size + 1, 0, none⟩), .pointer (some ⟨w.heap.size + 1 + 1, 0, none⟩)]) W :=
    fun W => Rg.enters Try.func43 (by kernel_rfl) (by kernel_rfl) _ W
  have ct : ∀ W, Below W1.heap.size W1 W → Calls Try.prog 27 #[.pointer (some ⟨b, 0, none⟩), .int .i64 (mayRenS s p q : Nat), .func (.func 43) #[] #[.pointer (some ⟨w.heap.size, 0, none⟩), .pointer (some ⟨w.heap.size + 1, 0, none⟩), .pointer (some ⟨w.heap.size + 1 + 1, 0, none⟩)]] W fun e w' => e = .returned (.int .i64 ((stepR s (mayRenS s p q) S').1 : Nat)) ∧
      (Ip b bi bl w (stepR s (mayRenS s p q) S').2 w' ∧ Cap w' w.heap.size (.pointer (some ⟨b, 0, none⟩)) ∧ Cap w' (w.heap.size + 1) (.string p) ∧ Cap w' (w.heap.size + 1 + 1) (.string q)) := by
    intro W hW
    have hbW := below_call hb2 hW
    have j1 := cap_below k1 hW
    have j2 := cap_below k2 hW
    have j3 := cap_below k3 hW
    have hnf : ∀ k, ¬ Ft b bi bl (w.heap.size + k) := fun k hk => by have := hft _ hk; omega
    refine (iStep_any b bi bl l s _ _ _ S' W (h.below hbW) (fun e => (mayRen_ok e).1) ok.steps hen (fun l1 W2 hr _ hI hc => ?_)).mono ?_
    · have m1 := cap_chg j1 hc (fun e => by have := hft b (.inl rfl); omega)
      have m2 := cap_chg j2 hc (fun e => by have := hft b (.inl rfl); omega)
      have m3 := cap_chg j3 hc (fun e => by have := hft b (.inl rfl); omega)
      rw [hS']
      have c9 := iRenameC_any b bi bl _ _ _ l1 _ p q W2 hI (by rw [eL]; exact hg.rises) m1 m2 m3 hp hq (by rw [eL]; exact hn) hst (by rw [eL]; exact (mayRen_ok hr).2)
      rw [eL] at c9 ⊢
      exact c9
    · rintro e w' ⟨rfl, l5, h5, hc5⟩
      exact ⟨rfl, ⟨l5, h5, (Chg.of_below hbW).then hc5⟩, cap_chg j1 hc5 (hnf 0), cap_chg j2 hc5 (hnf 1), cap_chg j3 hc5 (hnf 2)⟩
  generalize stepR s (mayRenS s p q) S' = RES at ct ⊢
  generalize mayRenS s p q = r at cm ct
  have HW1 := Lib.hid hW1
  clear h hg ok hS' hst eL hn hft hb1 hb2 hb3 hen
  go_enter Try.func19, Try.ntmps19
  go_wp2_with fail
  rw [← HW1.out]
  refine Rg.wp_only ?_ (regRename _ (by kernel_rfl) _ w.heap.size (w.heap.size + 1) (w.heap.size + 1 + 1) (.pointer (some ⟨b, 0, none⟩)) p q r RES.1 W1 (fun W => Below W1.heap.size W1 W) (fun W => Ip b bi bl w RES.2 W ∧ Cap W w.heap.size (.pointer (some ⟨b, 0, none⟩)) ∧ Cap W (w.heap.size + 1) (.string p) ∧ Cap W (w.heap.size + 1 + 1) (.string q)) ⟨k1, k2, k3⟩ (cm.mono (fun e w' he => ⟨he.1, (Below.refl _ W1).drew.trans he.2⟩)) (fun W hW => ⟨cap_below k1 hW, cap_below k2 hW, cap_below k3 hW⟩) ct (fun W hW => hW.2))
  rintro _ w9 ⟨rfl, h9⟩
  go_wp2_with fail
  go_ret
  exact ⟨rfl, h9.1⟩
end Go.Proofs.Ytcbnpdognadilaa.Dk

/- The library's contracts, laid at this program (made by the kit's own commands). -/
namespace Go.Proofs
open Go.Shelf
def Try.sortS_ren : Go.Shelf.Ren := ⟨fun | 190 => 54 | 125 => 62 | 258 => 61 | 128 => 75 | 129 => 76 | 302 => 66 | 303 => 67 | 304 => 68 | 305 => 69 | 306 => 70 | 307 => 71 | 308 => 72 | 309 => 73 | 310 => 74 | 333 => 83 | 329 => 84 | 330 => 85 | 334 => 86 | 335 => 87 | 336 => 88 | 344 => 94 | n => n, fun | 31 => 27 | 9 => 9 | 3 => 3 | 46 => 61 | 0 => 0 | 51 => 79 | 53 => 53 | 4 => 4 | 183 => 72 | 182 => 71 | 131 => 66 | 5 => 5 | 218 => 82 | 222 => 86 | 228 => 91 | 229 => 92 | n => n, fun | n => n⟩
theorem Try.sortS : Go.Proofs.Lays.n190 Try.prog Try.sortS_ren := {
  mixed := by kernel_rfl
  f125 := Try.func62.trans (congrArg some (by kernel_rfl))
  f128 := Try.func75.trans (congrArg some (by kernel_rfl))
  f129 := Try.func76.trans (congrArg some (by kernel_rfl))
  f190 := Try.func54.trans (congrArg some (by kernel_rfl))
  f258 := Try.func61.trans (congrArg some (by kernel_rfl))
  f302 := Try.func66.trans (congrArg some (by kernel_rfl))
  f303 := Try.func67.trans (congrArg some (by kernel_rfl))
  f304 := Try.func68.trans (congrArg some (by kernel_rfl))
  f305 := Try.func69.trans (congrArg some (by kernel_rfl))
  f306 := Try.func70.trans (congrArg some (by kernel_rfl))
  f307 := Try.func71.trans (congrArg some (by kernel_rfl))
  f308 := Try.func72.trans (congrArg some (by kernel_rfl))
  f309 := Try.func73.trans (congrArg some (by kernel_rfl))
  f310 := Try.func74.trans (congrArg some (by kernel_rfl))
  f329 := Try.func84.trans (congrArg some (by kernel_rfl))
  f330 := Try.func85.trans (congrArg some (by kernel_rfl))
  f333 := Try.func83.trans (congrArg some (by kernel_rfl))
  f334 := Try.func86.trans (congrArg some (by kernel_rfl))
  f335 := Try.func87.trans (congrArg some (by kernel_rfl))
  f336 := Try.func88.trans (congrArg some (by kernel_rfl))
  f344 := Try.func94.trans (congrArg some (by kernel_rfl))
  t0 := Try.underlying0
  a0 := Try.isAgg0
  z0 := Try.sizeOf0
  v0 := Try.zeroValue0
  t3 := Try.underlying3
  a3 := Try.isAgg3
  z3 := Try.sizeOf3
  v3 := Try.zeroValue3
  t4 := Try.underlying4
  a4 := Try.isAgg4
  z4 := Try.sizeOf4
  v4 := Try.zeroValue4
  t5 := Try.underlying5
  a5 := Try.isAgg5
  z5 := Try.sizeOf5
  v5 := Try.zeroValue5
  t9 := Try.underlying9
  a9 := Try.isAgg9
  z9 := Try.sizeOf9
  v9 := Try.zeroValue9
  t31 := Try.underlying27
  a31 := Try.isAgg27
  z31 := Try.sizeOf27
  v31 := Try.zeroValue27
  t46 := Try.underlying61
  a46 := Try.isAgg61
  z46 := Try.sizeOf61
  v46 := Try.zeroValue61
  t51 := Try.underlying79
  a51 := Try.isAgg79
  z51 := Try.sizeOf79
  v51 := Try.zeroValue79
  t53 := Try.underlying53
  a53 := Try.isAgg53
  z53 := Try.sizeOf53
  v53 := Try.zeroValue53
  t131 := Try.underlying66
  a131 := Try.isAgg66
  z131 := Try.sizeOf66
  v131 := Try.zeroValue66
  t182 := Try.underlying71
  a182 := Try.isAgg71
  z182 := Try.sizeOf71
  v182 := Try.zeroValue71
  t183 := Try.underlying72
  a183 := Try.isAgg72
  z183 := Try.sizeOf72
  v183 := Try.zeroValue72
  t218 := Try.underlying82
  a218 := Try.isAgg82
  z218 := Try.sizeOf82
  v218 := Try.zeroValue82
  t222 := Try.underlying86
  a222 := Try.isAgg86
  z222 := Try.sizeOf86
  v222 := Try.zeroValue86
  t228 := Try.underlying91
  a228 := Try.isAgg91
  z228 := Try.sizeOf91
  v228 := Try.zeroValue91
  t229 := Try.underlying92
  a229 := Try.isAgg92
  z229 := Try.sizeOf92
  v229 := Try.zeroValue92 }
end Go.Proofs

/- The library's sort of texts, at this program. -/
namespace Go.Proofs.Ytcbnpdognadilaa.Dk
open Go.RowKit Tx Pm Go.Sort Go.Lib Go.Shelf
set_option linter.unusedVariables false

theorem rising_perm : ∀ {ts l : List ByteArray}, ts.Perm l → ts.Pairwise (fun a b => Op.bytesLess b.toList a.toList = false) → l.Pairwise (fun a b => Op.bytesLess a.toList b.toList = true) → ts = l
  | ts, [], hp, _, _ => hp.eq_nil
  | [], x :: l, hp, _, _ => absurd hp.symm.eq_nil (by simp)
  | y :: t, x :: l, hp, h1, h2 => by
    obtain ⟨a1, a2⟩ := List.pairwise_cons.1 h1
    obtain ⟨b1, b2⟩ := List.pairwise_cons.1 h2
    have hyx : y = x := by
      rcases List.mem_cons.1 (hp.mem_iff.1 (List.mem_cons_self : y ∈ y :: t)) with e | hy
      · exact e
      · rcases List.mem_cons.1 (hp.mem_iff.2 (List.mem_cons_self : x ∈ x :: l)) with e | hx
        · exact e.symm
        · have := a1 x hx
          rw [b1 y hy] at this
          cases this
    subst hyx
    rw [rising_perm (List.Perm.cons_inv hp) a2 b2]
theorem less_iffS (a b : ByteArray) : Op.bytesLess a.toList b.toList = decide (a.data.toList < b.data.toList) := by
  rw [bytesLess_eq, ByteArray.toList_eq, ByteArray.toList_eq]
theorem merge_sortedS (l : List (List UInt8)) : (l.mergeSort fun x y => decide (x ≤ y)).Pairwise (fun a b => ¬ b < a) := by
  have h := List.pairwise_mergeSort (le := fun x y : List UInt8 => decide (x ≤ y)) (fun a b c h1 h2 => decide_eq_true (List.le_trans (of_decide_eq_true h1) (of_decide_eq_true h2))) (fun a b => by
    rcases List.le_total a b with h | h
    · simp [h]
    · simp [h]) l
  exact h.imp (fun hab => of_decide_eq_true hab)
theorem encSS (l : List ByteArray) : (l.map (·.data.toList)).map encStr = l.map sv := by
  rw [List.map_map]
  refine List.map_congr_left (fun x _ => ?_)
  rfl
theorem encTS (l : List (List UInt8)) : l.map encStr = (l.map tb).map sv := by
  rw [List.map_map]
  rfl
theorem below_sortSS {w : World} {B g q : Nat} {d : Array (List UInt8)} {os : Array Obj} (hg : B ≤ g) (hB : B ≤ w.heap.size) : RowKit.Below B w (grow (putRow encStr (Sort.ahead w q) g 0 d) os) := by
  have h1 : RowKit.Below B w (putRow encStr (Sort.ahead w q) g 0 d) := Lib.below_putRow (RowKit.Below.refl B w) hg
  refine ⟨h1.os, h1.tape, h1.output, by simp, fun k hk => ?_⟩
  rw [heap_grow_old _ _ (by have h2 : (putRow encStr (Sort.ahead w q) g 0 d).heap.size = w.heap.size := by simp
                            omega)]
  exact h1.block k hk
set_option maxRecDepth 100000 in
set_option maxHeartbeats 1000000 in
theorem sortS_any (v : Value) (ss : List ByteArray) (w : World) (B : Nat) (hT : Texts w B v ss) (hB : B ≤ w.heap.size) (hn : ss.length ≤ 4000000000) :
    Calls Try.prog 54 #[v] w fun e w' => e = .returned (.tuple #[]) ∧ ∃ ts : List ByteArray, ts.Perm ss ∧ ts.Pairwise (fun a b => Op.bytesLess b.toList a.toList = false) ∧ Texts w' B v ts ∧ RowKit.Below B w w' := by
  have hT2 := hT
  obtain ⟨hlen, h2⟩ := hT2
  rcases h2 with ⟨hv, h0⟩ | ⟨g, cap, cur, hv, hb, hg, hc, hm, hs, ht⟩
  · subst hv
    obtain rfl : ss = [] := List.length_eq_zero_iff.1 h0
    have h := Any.slices_Sort_string_none Try.sortS none 0 w
    change Calls Try.prog 54 _ _ _ at h
    refine h.mono ?_
    rintro e w' ⟨rfl, rfl⟩
    exact ⟨rfl, [], List.Perm.refl _, List.Pairwise.nil, hT, RowKit.Below.refl _ _⟩
  · subst hv
    have hlt : g < w.heap.size := (Array.getElem?_eq_some_iff.1 hg).1
    obtain ⟨zs, hz⟩ : ∃ zs, zs = ss.map (·.data.toList) := ⟨_, rfl⟩
    have hzl : zs.length = ss.length := by rw [hz, List.length_map]
    have hH : Holds encStr w g 0 zs.toArray := holds_of_block hg (by
      rw [Nat.mul_one] at ht
      rw [hzl, ht, hz, encSS])
    have h := Any.slices_Sort_string Try.sortS g 0 cap zs w hH hlt (by omega)
    change Calls Try.prog 54 _ _ _ at h
    rw [hzl] at h
    refine h.mono ?_
    rintro e w' ⟨rfl, q, os, rfl⟩
    have hml : (zs.mergeSort fun x y => decide (x ≤ y)).length = zs.length := List.length_mergeSort zs
    refine ⟨rfl, (zs.mergeSort fun x y => decide (x ≤ y)).map tb, ?_, ?_, ?_, below_sortSS hb hB⟩
    · have h1 := (List.mergeSort_perm zs (fun x y => decide (x ≤ y))).map tb
      have h2 : zs.map tb = ss := by
        rw [hz, List.map_map]
        conv => rhs; rw [← List.map_id ss]
        exact List.map_congr_left (fun x _ => tb_of x)
      rwa [h2] at h1
    · rw [List.pairwise_map]
      refine (merge_sortedS zs).imp (fun hab => ?_)
      rw [less_iffS]
      exact decide_eq_false hab
    · have h1 := ownsRow_sorted (ss := zs) (ts := zs.mergeSort fun x y => decide (x ≤ y)) (n := q) (os := os) hml hb hg (by rw [hzl]; exact hc) hm hs
      unfold Texts
      rw [List.length_map, hml, ← encTS, hzl]
      rw [hzl] at h1
      exact h1
end Go.Proofs.Ytcbnpdognadilaa.Dk

/- Package disk's paths: the paths of the items that hold to a rule, rising. -/
namespace Go.Proofs.Ytcbnpdognadilaa.Dk
open Go.RowKit Tx Pm Pl Pr
set_option linter.unusedVariables false

theorem own_base {w : World} {B C n size : Nat} {e : TypeId} {v : Value} {xs : List Value} (h : w.ownsRow C e size v n xs) (hB : B ≤ C) : w.ownsRow B e size v n xs := by
  refine ⟨h.1, ?_⟩
  rcases h.2 with h0 | ⟨g, cap, cur, hv, hg, hh, r⟩
  · exact .inl h0
  · exact .inr ⟨g, cap, cur, hv, Nat.le_trans hB hg, hh, r⟩
theorem grown_below {w w1 : World} (h : Below w.heap.size w w1) : w.grownBy w1 none := ⟨h.os, h.tape, h.output, h.size, fun i hi _ => h.block i hi⟩
theorem own_belowT {w w1 : World} {B n size : Nat} {e : TypeId} {v : Value} {xs : List Value} (h : w.ownsRow B e size v n xs) (hb : Below w.heap.size w w1) : w1.ownsRow B e size v n xs := own_kept h (fun g hg => hb.block g (h.lt g hg).2)
def xv (x : It) : Value := .agg #[.int .i64 (kOf x), .string x.data, .string x.kept, .int .i64 (stOf x), .int .i64 x.stamp]
/-- The paths of those that hold to a rule. -/
def held (φ : It → Bool) (l : List It) : List ByteArray := (l.filter φ).map (·.path)
theorem held_cons (φ : It → Bool) (x : It) (l : List It) : held φ (x :: l) = (if φ x = true then [x.path] else []) ++ held φ l := by
  unfold held
  cases h : φ x <;> simp [h]
theorem held_perm {φ : It → Bool} {a b : List It} (h : a.Perm b) : (held φ a).Perm (held φ b) := (h.filter φ).map _
theorem held_rises {φ : It → Bool} {l : List It} (h : Rises l) : (held φ l).Pairwise (fun a b => Op.bytesLess a.toList b.toList = true) := by
  unfold held
  rw [List.pairwise_map]
  exact List.Pairwise.filter _ h
theorem held_len (φ : It → Bool) (l : List It) : (held φ l).length ≤ l.length := by
  unfold held
  rw [List.length_map]
  exact List.length_filter_le _ _
set_option maxRecDepth 100000 in
set_option maxHeartbeats 2000000 in
theorem iPaths_any (b bi bl : Nat) (l : Int) (s : St) (f : FuncId) (cap : Array Value) (φ : It → Bool) (w : World) (h : Ia b bi bl l w s) (hR : Rises s.L) (hn : s.L.length ≤ 1000000000) (hps : ∀ x ∈ s.L, x.path.size ≤ 8000000000000)
    (hen : ∀ a1 a2 W, (callFunc f (#[a1, a2] ++ cap)).run Try.prog W = .ok (.enter f (#[a1, a2] ++ cap)) W)
    (cf : ∀ W x, Below w.heap.size w W → x ∈ s.L → Calls Try.prog f (#[.string x.path, .agg #[.int .i64 (kOf x), .string x.data, .string x.kept, .int .i64 (stOf x), .int .i64 x.stamp]] ++ cap) W fun e w' => e = .returned (.bool (φ x)) ∧ Below W.heap.size W w') :
    Calls Try.prog 37 #[.pointer (some ⟨b, 0, none⟩), .func (.func f) #[] cap] w (ListTo (held φ s.L) w) := by
  obtain ⟨i0, hi, hz0, hz1, hz2⟩ := info_parts info9
  obtain ⟨c0, _⟩ := h.cell
  have hm := h.items
  go_enter Try.func37, Try.ntmps37
  go_wp2_with (at_range; refine range_items _ rfl _ rfl bi s.L rfl hm ?_; intro D w0 hD hrg0 hg0 hs0)
  go_frame
  have HD := Lib.hid hD
  have HR := Lib.hid hR
  have HP := Lib.hid hps
  have HF := Lib.hid cf
  have HH := Lib.hid (fun left => Nat.le_trans (held_len φ (came s.L left)) (List.Sublist.length_le (came_sub s.L left)))
  have hsm : w.heap.size < w0.heap.size := by omega
  have HS := Lib.hid hs0
  clear hD hR hps hs0 cf
  go_loopw [5] (fun v wr => ∃ (left : Lit → Bool) (cnt T : Nat) (out : List ByteArray), wr.ranges Try.prog 9 itemR bi w.heap.size s.L.length D left cnt ∧ Hid (out.Perm (held φ (came s.L left))) ∧ Hid (out.length = T) ∧ T ≤ 1000000000 ∧ wr.ownsRow (w.heap.size + 1) 9 1 v T (out.map sv) ∧ Below w.heap.size w wr ∧ w.heap.size < wr.heap.size) (fun _ wr => wr.rangeLeft bi w.heap.size)
  case atStart => exact ⟨_, _, 0, [], hrg0, by show List.Perm _ _; rw [came_start HD.out]; exact List.Perm.refl _, rfl, by omega, World.ownsRow_nil _ _ _ _, (Below.refl _ _).grown hg0 (Nat.le_refl _) (fun j hj => by cases hj), hsm⟩
  case round =>
    obtain ⟨left, cnt, T, out, hrg, hout, hlen, hT, hown, hB, hlt⟩ := hrel
    go_wp2_with (at_next; refine next_items _ rfl _ rfl bi w.heap.size s.L.length D left cnt s.L rfl hrg HD.out ?_ ?_)
    · intro hl
      have hp := hout.out
      rw [came_end s.L hl] at hp
      have hO : Texts wr w.heap.size _ out := own_toT (own_base hown (Nat.le_succ _)) hlen.out
      have hol : out.length ≤ 4000000000 := by rw [hlen.out]; omega
      have cs := sortS_any _ out wr w.heap.size hO hB.size hol
      have HPM := Lib.hid hp
      clear hl hp hO hrg h hout hlen hown hol
      go_wp2_with (go_at_call 54; refine cs.mono ?_; rintro e w5 ⟨rfl, ts, hts, hso, htx, hb5⟩)
      go_ret
      obtain rfl : ts = held φ s.L := rising_perm (hts.trans HPM.out) hso (held_rises HR.out)
      exact ⟨_, rfl, htx, hB.trans hb5⟩
    · intro x w1 cnt1 hx hlx hrg1 hlt1 hg1 hs1 hen1
      have hst := held_perm (φ := φ) (came_step hlx HR.out hx)
      rw [held_cons] at hst
      have hbd := HH.out (less left x.path)
      have hlen2 := hst.length_eq
      have hme : cnt1 < wr.rangeLeft bi w.heap.size := by rw [hrg.left_eq]; exact hlt1
      have hb1 : Below w.heap.size w w1 := below_grown hB hg1 (Nat.le_of_lt hlt) (Nat.le_refl _)
      have hs2 : w.heap.size < w1.heap.size := by omega
      have hrg2 := hrg1.alloc (.cells #[.int .i64 (kOf x), .string x.data, .string x.kept, .int .i64 (stOf x), .int .i64 x.stamp] 48)
      have hb3 := hb1.alloc (Nat.le_of_lt hs2) (.cells #[.int .i64 (kOf x), .string x.data, .string x.kept, .int .i64 (stOf x), .int .i64 x.stamp] 48)
      have cx := HF.out _ x hb3 hx
      have hown1 := hown.kept hg1 (.inr (fun e => by have := (hown.lt _ e).1; omega))
      have HME := Lib.hid hme
      have HS1 := Lib.hid hs1
      clear hs1
      cases hφ : φ x with
      | true =>
        rw [hφ] at cx
        rw [hφ, if_pos rfl, List.length_append, List.length_singleton] at hlen2
        rw [hφ, if_pos rfl] at hst
        have hT2 : T + 1 ≤ 1000000000 := by have := hout.out.length_eq; have := hlen.out; omega
        have hpm : (out ++ [x.path]).Perm (held φ (came s.L (less left x.path))) := (List.perm_append_comm.trans (hout.out.append_left [x.path])).trans hst.symm
        have HPM := Lib.hid hpm
        have HSZ := Lib.hid (show w.heap.size + 1 ≤ w1.heap.size by omega)
        have HLN := Lib.hid (show (out ++ [x.path]).length = T + 1 by rw [List.length_append, hlen.out]; rfl)
        have HB3 := Lib.hid hb3
        clear hst hlen2 hbd hlx hx hpm hout hlen hrg hrg1 hlt1 hg1 hme hown h
        go_wp2_with fail
        refine cx.mono ?_
        rintro e w5 ⟨rfl, hb5⟩
        have hown5 := own_belowT (hown1.alloc (.cells #[.int .i64 (kOf x), .string x.data, .string x.kept, .int .i64 (stOf x), .int .i64 x.stamp] 48)) hb5
        have hB5 := below_call HB3.out hb5
        have hrg5 := hrg2.kept (grown_below hb5) (by simp) (by simp)
        have hz5 : w1.heap.size + 1 ≤ w5.heap.size := by have := hb5.size; simpa using this
        have hS := HSZ.out
        go_wp2_with (at_builtin; refine wpList_append_own _ rfl _ _ 27 rfl (w.heap.size + 1) 9 i0 (.string ⟨#[]⟩) 1 16 Try.underlying27 hi hz0 hz1 hz2 rfl (by decide) _ _ _ rfl (hown5.alloc _) ⟨w5.heap.size, 0, none⟩ 1 1 [sv x.path] rfl rfl ?c1_2 ?c2_2 ?c3_2 ?c4_2 ?c5_2 ?_)
        case c1_2 => exact cell_one_new _ _ _
        case c2_2 => exact sv_one [x.path]
        case c3_2 => unfold maxLen; omega
        case c4_2 => omega
        case c5_2 => first | (simp; omega) | omega
        intro v' w6 hown' hgrow _
        have ho6 : w6.ownsRow (w.heap.size + 1) 9 1 v' (T + 1) ((out ++ [x.path]).map sv) := by
          rw [List.map_append]
          exact hown'
        have hB6 : Below w.heap.size w w6 := (hB5.alloc hB5.size _).grown hgrow (by have := hB5.size; simp; omega) (fun k hk => by have := (hown5.lt k hk).1; omega)
        have hlb : bi < w.heap.size := hm.lt
        have hrg6 := (hrg5.alloc (.cells #[.string x.path] 9)).kept hgrow (fun e => by have := (hown5.lt _ e.symm).1; omega) (fun e => by have := (hown5.lt _ e.symm).1; omega)
        have hle6 : w.heap.size < w6.heap.size := by have := hgrow.size; simp at this; omega
        have hme6 : w6.rangeLeft bi w.heap.size < wr.rangeLeft bi w.heap.size := by rw [hrg6.left_eq]; exact HME.out
        have HM6 := Lib.hid hme6
        have HO6 := Lib.hid ho6
        clear hown5 hrg5 hown' hgrow hme6 hown1 hrg2 ho6
        go_wp2_with fail
        go_roundw
        case rel => exact ⟨less left x.path, cnt1, T + 1, out ++ [x.path], hrg6, HPM, HLN, hT2, HO6.out, hB6, hle6⟩
        case measure => exact HM6.out
      | false =>
        rw [hφ] at cx
        rw [hφ, if_neg (by decide), List.nil_append] at hst
        have hpm : out.Perm (held φ (came s.L (less left x.path))) := hout.out.trans hst.symm
        have HPM := Lib.hid hpm
        have HB3 := Lib.hid hb3
        clear hst hlen2 hbd hlx hx hpm hout hrg hrg1 hlt1 hg1 hme hown h
        go_wp2_with fail
        refine cx.mono ?_
        rintro e w5 ⟨rfl, hb5⟩
        have hown5 := own_belowT (hown1.alloc (.cells #[.int .i64 (kOf x), .string x.data, .string x.kept, .int .i64 (stOf x), .int .i64 x.stamp] 48)) hb5
        have hB5 := below_call HB3.out hb5
        have hrg5 := hrg2.kept (grown_below hb5) (by simp) (by simp)
        have hz5 : w1.heap.size + 1 ≤ w5.heap.size := by have := hb5.size; simpa using this
        have hme5 : w5.rangeLeft bi w.heap.size < wr.rangeLeft bi w.heap.size := by rw [hrg5.left_eq]; exact HME.out
        have HM5 := Lib.hid hme5
        clear hme5 hown1 hrg2
        go_wp2_with fail
        go_roundw
        case rel => exact ⟨less left x.path, cnt1, T, out, hrg5, HPM, hlen, hT, hown5, hB5, by omega⟩
        case measure => exact HM5.out
/-- What List looks for. -/
def inP (p : ByteArray) (x : It) : Bool := decide (tb (par x.path.data.toList) = p)
theorem held_list (l : List It) (p : ByteArray) : held (inP p) l = list l p := rfl
set_option maxRecDepth 100000 in
set_option maxHeartbeats 1000000 in
theorem iParent_any (s : ByteArray) (w : World) (hs : s.size ≤ 562949953421312) :
    Calls Try.prog 50 #[.string s] w fun e w' => e = .returned (.string (tb (par s.data.toList))) ∧ w' = w := by
  have cl := fun W => lastStroke_any s W hs
  have hL := lastN_le s.data.toList
  rw [len_l] at hL
  rw [← par_ext]
  obtain ⟨L, hLe⟩ : ∃ L, L = lastN s.data.toList := ⟨_, rfl⟩
  rw [← hLe] at cl hL ⊢
  clear hLe
  by_cases h0 : L = 0
  · subst h0
    go_enter Try.func50, Try.ntmps50
    go_wp2_with (go_at_call 58; refine (cl _).mono ?_; rintro e w1 ⟨rfl, rfl⟩)
    go_ret
    exact ⟨by simp; exact .inl (by decide), rfl⟩
  · obtain ⟨K, rfl⟩ : ∃ K, L = K + 1 := ⟨L - 1, by omega⟩
    have e1 : ((K + 1 : Nat) : Int) - 1 = K := by omega
    rw [e1] at cl
    rw [Nat.add_sub_cancel]
    clear h0
    go_enter Try.func50, Try.ntmps50
    go_wp2_with (go_at_call 58; refine (cl _).mono ?_; rintro e w1 ⟨rfl, rfl⟩)
    go_ret
    exact ⟨rfl, rfl⟩
set_option maxRecDepth 100000 in
set_option maxHeartbeats 1000000 in
theorem iListC_any (g : Nat) (p : ByteArray) (x : It) (w : World) (hp : w.cell? ⟨g, 0, none⟩ = some (.string p)) (hx : x.path.size ≤ 8000000000000) :
    Calls Try.prog 49 #[.string x.path, .agg #[.int .i64 (kOf x), .string x.data, .string x.kept, .int .i64 (stOf x), .int .i64 x.stamp], .pointer (some ⟨g, 0, none⟩)] w fun e w' => e = .returned (.bool (inP p x)) ∧ Below w.heap.size w w' := by
  have cp := fun W => iParent_any x.path W (by omega)
  have hg := World.block_lt_of_cell? w _ hp
  unfold inP
  generalize tb (par x.path.data.toList) = V at cp ⊢
  have hb := fun o n => below_call ((Below.refl _ w).alloc (Nat.le_refl _) o) (below_drewN _ n)
  have HB := Lib.hid hb
  clear hb
  by_cases hv : V = p
  · have e1 : (V.toList == p.toList) = true := by rw [hv]; exact beq_self_eq_true _
    rw [decide_eq_true hv]
    clear hv
    go_enter Try.func49, Try.ntmps49
    go_wp2_with fail
    go_quiet ((go_at_call 50; exact Calls.quiet_of_same (cp _)))
    go_wp2
    go_ret
    exact ⟨rfl, HB.out _ _⟩
  · have e1 : (V.toList == p.toList) = false := bytes_ne hv
    rw [decide_eq_false hv]
    clear hv
    go_enter Try.func49, Try.ntmps49
    go_wp2_with fail
    go_quiet ((go_at_call 50; exact Calls.quiet_of_same (cp _)))
    go_wp2
    go_ret
    exact ⟨rfl, HB.out _ _⟩
set_option maxRecDepth 100000 in
theorem iRestC_any (x : It) (w : World) :
    Calls Try.prog 38 #[.string x.path, .agg #[.int .i64 (kOf x), .string x.data, .string x.kept, .int .i64 (stOf x), .int .i64 x.stamp]] w fun e w' => e = .returned (.bool x.loose) ∧ Below w.heap.size w w' := by
  have HB := Lib.hid (fun o => (Below.refl _ w).alloc (Nat.le_refl _) o)
  have hs : (x.loose = false ∧ stOf x = 0) ∨ (x.loose = true ∧ (stOf x = 1 ∨ stOf x = 2)) := by
    unfold stOf
    cases x.loose <;> cases x.anew <;> simp
  generalize stOf x = T at hs ⊢
  rcases hs with ⟨h1, rfl⟩ | ⟨h1, rfl | rfl⟩ <;> rw [h1]
  all_goals
    clear h1
    go_enter Try.func38, Try.ntmps38
    go_wp2
    go_ret
    exact ⟨rfl, HB.out _⟩
set_option maxRecDepth 100000 in
set_option maxHeartbeats 1000000 in
theorem iList_any (b bi bl : Nat) (l : Int) (s : St) (p : ByteArray) (w : World) (h : Ia b bi bl l w s) (hR : Rises s.L) (hn : s.L.length ≤ 1000000000) (hps : ∀ x ∈ s.L, x.path.size ≤ 8000000000000) :
    Calls Try.prog 25 #[.pointer (some ⟨b, 0, none⟩), .string p] w (ListTo (list s.L p) w) := by
  have hb := (Below.refl _ w).alloc (Nat.le_refl _) (.cells #[.string p] 9)
  have hc : (w.alloc (.cells #[.string p] 9)).cell? ⟨w.heap.size, 0, none⟩ = some (.string p) := by rw [World.cell?_alloc_at _ _ _ _ rfl]; rfl
  have cp := iPaths_any b bi bl l s 49 #[.pointer (some ⟨w.heap.size, 0, none⟩)] (inP p) _ (h.below hb) hR hn hps (fun a1 a2 W => Rg.enters Try.func49 (by kernel_rfl) (by kernel_rfl) _ W)
    (fun W x hW hx => iListC_any w.heap.size p x W ((hW.cell (p := ⟨w.heap.size, 0, none⟩) (by simp)).trans hc) (hps x hx))
  rw [held_list] at cp
  clear hc h
  go_enter Try.func25, Try.ntmps25
  go_wp2_with (go_at_call 37; refine cp.mono ?_; rintro e w1 ⟨v, rfl, hT, hb1⟩)
  go_ret
  exact ⟨_, rfl, own_base hT (by simp), below_call hb hb1⟩
end Go.Proofs.Ytcbnpdognadilaa.Dk

/- Package disk's mayRemove. -/
namespace Go.Proofs.Ytcbnpdognadilaa.Dk
open Go.RowKit Tx Pm Pl Pr
set_option linter.unusedVariables false

def mayRemoveS (s : St) (p : ByteArray) : Nat := if first s p 0 ≠ 0 then first s p 0 else if kind s.L p = 0 then 11 else if list s.L p ≠ [] then 12 else 0
set_option maxRecDepth 100000 in
set_option maxHeartbeats 1000000 in
theorem iMayRemove_any (b bi bl : Nat) (l : Int) (s : St) (p : ByteArray) (w : World) (h : Ia b bi bl l w s) (hR : Rises s.L) (hf : Fit s) (hp : p.size ≤ 8000000000000) :
    Calls Try.prog 46 #[.pointer (some ⟨b, 0, none⟩), .string p] w fun e w' => e = .returned (.int .i64 (mayRemoveS s p : Nat)) ∧ Below w.heap.size w w' := by
  have c1 := ready1 b bi bl 0 1 l s p w h (by omega) rfl hp
  have c2 := fun W (hW : Below w.heap.size w W) => iList_any b bi bl l s p W (h.below hW) hR hf.1 hf.2.1
  have HL := Lib.hid (fun W (hW : Below w.heap.size w W) => (h.below hW).look (maxLen_of hp))
  have HC := Lib.hid (fun W (hW : Below w.heap.size w W) => (h.below hW).cell.1)
  have hll : (list s.L p).length ≤ 1000000000 := Nat.le_trans (held_len (inP p) s.L) hf.1
  have f0 := fld0
  unfold mayRemoveS
  generalize first s p 0 = E at c1 ⊢
  generalize kind s.L p = K at HL ⊢
  generalize list s.L p = LL at c2 hll ⊢
  clear h hR hf
  by_cases hE : E = 0
  · subst hE
    rw [if_neg (by decide)]
    by_cases hK : K = 0
    · subst hK
      rw [if_pos rfl]
      go_enter Try.func46, Try.ntmps46
      go_wp2_with (first | (go_at_call 51; refine c1.mono ?_; rintro e w1 ⟨rfl, hb1⟩; have l0 := HL.out _ hb1; have g0 := HC.out _ hb1) | (go_at_call 25; refine (c2 _ hb1).mono ?_; rintro e w2 ⟨v, rfl, hT, hb2⟩; obtain ⟨a2, k2, rfl, _, _, _⟩ := hT.form; clear hT))
      go_ret
      exact ⟨rfl, hb1⟩
    · rw [if_neg hK]
      have e1 := ne_eq hK
      clear hK
      cases LL with
      | nil =>
        rw [if_neg (fun e => e rfl)]
        go_enter Try.func46, Try.ntmps46
        go_wp2_with (first | (go_at_call 51; refine c1.mono ?_; rintro e w1 ⟨rfl, hb1⟩; have l0 := HL.out _ hb1; have g0 := HC.out _ hb1) | (go_at_call 25; refine (c2 _ hb1).mono ?_; rintro e w2 ⟨v, rfl, hT, hb2⟩; obtain ⟨a2, k2, rfl, _, _, _⟩ := hT.form; clear hT))
        go_ret
        exact ⟨rfl, below_call hb1 hb2⟩
      | cons q LL =>
        rw [if_pos (by simp)]
        obtain ⟨m, hm⟩ : ∃ m, m = (q :: LL).length := ⟨_, rfl⟩
        have hm1 : 0 < m := by rw [hm]; simp
        rw [← hm] at hll
        have HM := Lib.hid hm
        clear hm
        go_enter Try.func46, Try.ntmps46
        go_wp2_with (first | (go_at_call 51; refine c1.mono ?_; rintro e w1 ⟨rfl, hb1⟩; have l0 := HL.out _ hb1; have g0 := HC.out _ hb1) | (go_at_call 25; refine (c2 _ hb1).mono ?_; rintro e w2 ⟨v, rfl, hT, hb2⟩; obtain ⟨a2, k2, rfl, _, _, _⟩ := hT.form; rw [← HM.out]; clear hT))
        go_ret
        exact ⟨rfl, below_call hb1 hb2⟩
  · rw [if_pos hE]
    have e1 := ne_eq hE
    clear hE
    go_enter Try.func46, Try.ntmps46
    go_wp2_with (first | (go_at_call 51; refine c1.mono ?_; rintro e w1 ⟨rfl, hb1⟩; have l0 := HL.out _ hb1; have g0 := HC.out _ hb1) | (go_at_call 25; refine (c2 _ hb1).mono ?_; rintro e w2 ⟨v, rfl, hT, hb2⟩; obtain ⟨a2, k2, rfl, _, _, _⟩ := hT.form; clear hT))
    go_ret
    exact ⟨rfl, hb1⟩
end Go.Proofs.Ytcbnpdognadilaa.Dk

/- Package disk's Remove: as the document says. -/
namespace Go.Proofs.Ytcbnpdognadilaa.Dk
open Go.RowKit Tx Pm Pl Pr
set_option linter.unusedVariables false

theorem remove_step (s : St) (p : ByteArray) : removeS s p = stepR s (mayRemoveS s p) { (done s).2 with L := drop (done s).2.L p } := by
  unfold removeS mayRemoveS stepR
  by_cases h1 : first s p 0 ≠ 0
  · rw [if_pos h1, if_pos h1, if_pos h1]
  · rw [if_neg h1, if_neg h1]
    by_cases h2 : kind s.L p = 0
    · rw [if_pos h2, if_pos h2, if_pos (by decide)]
    · rw [if_neg h2, if_neg h2]
      by_cases h3 : list s.L p ≠ []
      · rw [if_pos h3, if_pos h3, if_pos (by decide)]
      · rw [if_neg h3, if_neg h3]
        rfl
theorem mayRemove_down {s : St} {p : ByteArray} (h : mayRemoveS s p = 0) : s.down = false := by
  unfold mayRemoveS at h
  split at h
  · rename_i h1; exact absurd h h1
  · rename_i h1; exact first_down (p := p) (m := 0) (by omega)

set_option maxRecDepth 100000 in
set_option maxHeartbeats 2000000 in
theorem iRemove_any (b bi bl : Nat) (l : Int) (s : St) (p : ByteArray) (w : World) (h : Ia b bi bl l w s) (hg : Good s) (ok : Ok s) (hp : p.size ≤ 8000000000000) :
    Calls Try.prog 22 #[.pointer (some ⟨b, 0, none⟩), .string p] w fun e w' => e = .returned (.int .i64 ((removeS s p).1 : Nat)) ∧ Ip b bi bl w (removeS s p).2 w' := by
  have hft := h.lt
  have hn := ok.fit.1
  have hst : (done s).2.stamps ≤ 1000000000000 := by rw [done_stamps]; exact ok.stamps
  have eL := done_L s
  rw [remove_step]
  obtain ⟨S', hS'⟩ : ∃ S', S' = { (done s).2 with L := drop (done s).2.L p } := ⟨_, rfl⟩
  rw [← hS']
  have hb1 := (Below.refl w.heap.size w).alloc (Nat.le_refl _) (.cells #[.pointer (some ⟨b, 0, none⟩)] 22)
  have k1 := cap_new w (.pointer (some ⟨b, 0, none⟩)) 22
  have k2 := cap_new (w.alloc (.cells #[.pointer (some ⟨b, 0, none⟩)] 22)) (.string p) 9
  have hs1 : (w.alloc (.cells #[.pointer (some ⟨b, 0, none⟩)] 22)).heap.size = w.heap.size + 1 := by simp
  rw [hs1] at k2
  have hb2 := hb1.alloc (by simp) (.cells #[.string p] 9)
  have k1 := cap_below k1 ((Below.refl _ _).alloc (Nat.le_refl _) (.cells #[.string p] 9))
  obtain ⟨W1, hW1⟩ : ∃ W1, W1 = ((w.alloc (.cells #[.pointer (some ⟨b, 0, none⟩)] 22)).alloc (.cells #[.string p] 9)) := ⟨_, rfl⟩
  rw [← hW1] at k1 k2 hb2
  have hb3 : Below w.heap.size w W1.drew := hb2.drew
  have cm := iMayRemove_any b bi bl l s p W1.drew (h.below hb3) hg.rises ok.fit hp
  have hen : ∀ W, (callFunc 47 #[.pointer (some ⟨w.heap.size, 0, none⟩), .pointer (some ⟨w.heap.size + 1, 0, none⟩)]).run Try.prog W = .ok (.enter 47 #[.pointer (some ⟨w.heap.size, 0, none⟩), .pointer (some ⟨w.heap.size + 1, 0, none⟩)]) W :=
    fun W => Rg.enters Try.func47 (by kernel_rfl) (by kernel_rfl) _ W
  have ct : ∀ W, Below W1.heap.size W1 W → Calls Try.prog 27 #[.pointer (some ⟨b, 0, none⟩), .int .i64 (mayRemoveS s p : Nat), .func (.func 47) #[] #[.pointer (some ⟨w.heap.size, 0, none⟩), .pointer (some ⟨w.heap.size + 1, 0, none⟩)]] W fun e w' => e = .returned (.int .i64 ((stepR s (mayRemoveS s p) S').1 : Nat)) ∧
      (Ip b bi bl w (stepR s (mayRemoveS s p) S').2 w' ∧ Cap w' w.heap.size (.pointer (some ⟨b, 0, none⟩)) ∧ Cap w' (w.heap.size + 1) (.string p)) := by
    intro W hW
    have hbW := below_call hb2 hW
    have j1 := cap_below k1 hW
    have j2 := cap_below k2 hW
    have hnf : ∀ k, ¬ Ft b bi bl (w.heap.size + k) := fun k hk => by have := hft _ hk; omega
    refine (iStep_any b bi bl l s _ _ _ S' W (h.below hbW) (fun e => mayRemove_down e) ok.steps hen (fun l1 W2 hr _ hI hc => ?_)).mono ?_
    · have m1 := cap_chg j1 hc (fun e => by have := hft b (.inl rfl); omega)
      have m2 := cap_chg j2 hc (fun e => by have := hft b (.inl rfl); omega)
      rw [hS']
      exact iRemoveC_any b bi bl _ _ l1 _ p W2 hI (by rw [eL]; exact hg.rises) m1 m2 hp
    · rintro e w' ⟨rfl, l5, h5, hc5⟩
      exact ⟨rfl, ⟨l5, h5, (Chg.of_below hbW).then hc5⟩, cap_chg j1 hc5 (hnf 0), cap_chg j2 hc5 (hnf 1)⟩
  generalize stepR s (mayRemoveS s p) S' = RES at ct ⊢
  generalize mayRemoveS s p = r at cm ct
  have HW1 := Lib.hid hW1
  clear h hg ok hS' hst eL hn hft hb1 hb2 hb3 hen
  go_enter Try.func22, Try.ntmps22
  go_wp2_with fail
  rw [← HW1.out]
  refine Rg.wp_only ?_ (regRemove _ (by kernel_rfl) _ w.heap.size (w.heap.size + 1) (.pointer (some ⟨b, 0, none⟩)) p r RES.1 W1 (fun W => Below W1.heap.size W1 W) (fun W => Ip b bi bl w RES.2 W ∧ Cap W w.heap.size (.pointer (some ⟨b, 0, none⟩)) ∧ Cap W (w.heap.size + 1) (.string p)) ⟨k1, k2⟩ (cm.mono (fun e w' he => ⟨he.1, (Below.refl _ W1).drew.trans he.2⟩)) (fun W hW => ⟨cap_below k1 hW, cap_below k2 hW⟩) ct (fun W hW => hW.2))
  rintro _ w9 ⟨rfl, h9⟩
  go_wp2_with fail
  go_ret
  exact ⟨rfl, h9.1⟩
end Go.Proofs.Ytcbnpdognadilaa.Dk
