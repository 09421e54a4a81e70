/-
  BlobSweeps: a sweep that holds everything changes nothing; one that holds nothing takes all contents away, and nothing else: the law returns true, and writes nothing that was there. No condition beside the sizes that every first form has; the library's tables are those of the program's text (the card's tie).
-/
import Derived.Test.YthejpojmmokinaaGreatDoorT4
namespace Go.Proofs.YthejpojmmokinaaGreatDoor.Bl
open Go.RowKit Tx Pm Dk Wm Wr Wl Pl Tb
set_option linter.unusedVariables false
set_option linter.unusedSimpArgs false
set_option linter.unnecessarySimpa false
def Numb (C : List On) : Prop := ∀ k x, C[k]? = some x → x.n = (C.take k).countP (fun y => decide (y.low = x.low))
theorem nth_count {α : Type} (p : α → Bool) : ∀ (C : List α) (m : Nat), m < C.countP p → ∃ k x, C[k]? = some x ∧ p x = true ∧ (C.take k).countP p = m
  | [], m, h => by simp at h
  | y :: C, m, h => by
    by_cases hy : p y = true
    · cases m with
      | zero => exact ⟨0, y, rfl, hy, rfl⟩
      | succ m =>
        rw [List.countP_cons_of_pos hy] at h
        obtain ⟨k, x, h1, h2, h3⟩ := nth_count p C m (by omega)
        exact ⟨k + 1, x, h1, h2, by rw [List.take_succ_cons, List.countP_cons_of_pos hy, h3]⟩
    · rw [List.countP_cons_of_neg hy] at h
      obtain ⟨k, x, h1, h2, h3⟩ := nth_count p C m h
      exact ⟨k + 1, x, h1, h2, by rw [List.take_succ_cons, List.countP_cons_of_neg hy, h3]⟩
theorem count_take_lt {α : Type} (p : α → Bool) {C : List α} {k : Nat} {x : α} (h : C[k]? = some x) (hp : p x = true) : (C.take k).countP p < C.countP p := by
  have h1 := take_snoc h
  have h2 : (C.take (k + 1)).countP p ≤ C.countP p := List.Sublist.countP_le (List.take_sublist _ _)
  rw [h1, List.countP_append, List.countP_cons_of_pos hp] at h2
  simp at h2
  omega
theorem free_count {C : List On} {M : Nat} (hg : Good8 C M) (hn : Numb C) {low : Nat} (hl : low < 256) : freeN C low = C.countP (fun y => decide (y.low = low)) := by
  refine free_is hg hl ?_ (fun m hm => ?_)
  · cases ht : takenB C low (C.countP (fun y => decide (y.low = low))) with
    | false => rfl
    | true =>
      obtain ⟨x, hx, he⟩ := List.any_eq_true.1 ht
      have hxl : x.low < 256 := by rw [(hg.each x hx).1]; exact lowO_lt _
      obtain ⟨e1, e2⟩ := keyN_inj hxl hl (of_decide_eq_true he)
      obtain ⟨k, hk⟩ := List.getElem?_of_mem hx
      have e3 := hn k x hk
      rw [e1] at e3
      have := count_take_lt (fun y : On => decide (y.low = low)) hk (by simpa using e1)
      omega
  · obtain ⟨k, x, h1, h2, h3⟩ := nth_count (fun y : On => decide (y.low = low)) C m hm
    have hx : x.low = low := of_decide_eq_true h2
    have e := hn k x h1
    rw [hx, h3] at e
    refine List.any_eq_true.2 ⟨x, List.mem_of_getElem? h1, ?_⟩
    unfold keyO
    rw [hx, e]
    simp
theorem numb_set {C : List On} (h : Numb C) (p : ByteArray) (k : Nat) : Numb (setR C p k) := by
  intro i x hx
  unfold setR at hx
  rw [List.getElem?_map] at hx
  obtain ⟨y, hy, rfl⟩ := Option.map_eq_some_iff.1 hx
  have e := h i y hy
  have hc : ∀ z : On, (if keyO z = p then { z with refs := k } else z).low = z.low := fun z => by split <;> rfl
  have hn : (if keyO y = p then { y with refs := k } else y).n = y.n := by split <;> rfl
  refine Eq.trans hn (Eq.trans e ?_)
  simp only [hc]
  unfold setR
  rw [← List.map_take, List.countP_map]
  refine List.countP_congr (fun z _ => ?_)
  show _ ↔ decide ((if keyO z = p then { z with refs := k } else z).low = y.low) = true
  rw [hc z]
theorem numb_new {C : List On} {M : Nat} (hg : Good8 C M) (h : Numb C) (t : ByteArray) : Numb (C ++ [newO C t]) := by
  intro i x hx
  by_cases hi : i < C.length
  · rw [List.getElem?_append_left hi] at hx
    rw [List.take_append_of_le_length (by omega)]
    exact h i x hx
  · have hlen := (List.getElem?_eq_some_iff.1 hx).1
    rw [List.length_append, List.length_singleton] at hlen
    have hi2 : i = C.length := by omega
    subst hi2
    rw [List.getElem?_append_right (Nat.le_refl _), Nat.sub_self] at hx
    injection hx with hx
    subst hx
    rw [List.take_left]
    exact free_count hg h (lowO_lt t)
theorem numb_puts (l : List ByteArray) (h : ∀ x ∈ l, x.size ≤ 140737488351232) : Numb (puts l) := by
  refine snoc7 (P := fun l => (∀ x ∈ l, x.size ≤ 140737488351232) → Numb (puts l)) (fun _ k x hx => by cases hx) (fun l t ih h => ?_) l h
  have h1 : ∀ x ∈ l, x.size ≤ 140737488351232 := fun x hx => h x (List.mem_append_left _ hx)
  rw [puts_snoc]
  unfold putC
  cases hd : of8 (puts l) t with
  | none => exact numb_new (good_puts l h1) (ih h1) t
  | some x => exact numb_set (ih h1) _ _
def inL (l : List ByteArray) (s : ByteArray) : Bool := l.any (fun x => decide (x = s))
theorem inL_iff {l : List ByteArray} {s : ByteArray} : inL l s = true ↔ s ∈ l := by
  unfold inL
  rw [List.any_eq_true]
  constructor
  · rintro ⟨x, hx, e⟩
    rw [decide_eq_true_iff] at e
    exact e ▸ hx
  · intro h
    exact ⟨s, h, by simp⟩
theorem inL_snoc (l : List ByteArray) (y s : ByteArray) : inL (l ++ [y]) s = (inL l s || decide (y = s)) := by
  unfold inL
  rw [List.any_append]
  simp
def cntF (l : List ByteArray) (t : ByteArray) : Nat := (puts l).countP (fun y => decide (y.data ≠ t) && decide (lowO y.data = lowO t))
theorem cntF_snoc (l : List ByteArray) (s t : ByteArray) (h : ∀ x ∈ l, x.size ≤ 140737488351232) : cntF (l ++ [s]) t = cntF l t + if (inL l s = false ∧ s ≠ t ∧ lowO s = lowO t) then 1 else 0 := by
  unfold cntF
  rw [puts_snoc]
  have hh := puts_has l h s
  unfold putC
  cases hd : of8 (puts l) s with
  | some x =>
    rw [hd] at hh
    rw [if_neg (fun hc => by have := inL_iff.2 (hh.1 rfl); rw [hc.1] at this; cases this)]
    show (setR (puts l) (keyO x) (x.refs + 1)).countP _ = _
    unfold setR
    rw [List.countP_map]
    refine List.countP_congr (fun z _ => ?_)
    have e : (if keyO z = keyO x then { z with refs := x.refs + 1 } else z).data = z.data := by split <;> rfl
    show (decide ((if keyO z = keyO x then { z with refs := x.refs + 1 } else z).data ≠ t) && decide (lowO (if keyO z = keyO x then { z with refs := x.refs + 1 } else z).data = lowO t)) = true ↔ _
    rw [e]
  | none =>
    rw [hd] at hh
    have hn : inL l s = false := by
      cases hi : inL l s with
      | false => rfl
      | true => have := hh.2 (inL_iff.1 hi); cases this
    show (puts l ++ [newO (puts l) s]).countP _ = _
    rw [List.countP_append, List.countP_singleton]
    congr 1
    show (if (decide (s ≠ t) && decide (lowO s = lowO t)) = true then 1 else 0) = _
    by_cases h1 : s ≠ t <;> by_cases h2 : lowO s = lowO t <;> simp [hn, h1, h2]
theorem key_fresh (l : List ByteArray) (t : ByteArray) (h : ∀ x ∈ l, x.size ≤ 140737488351232) (ht : t ∉ l) : keyD (puts (l ++ [t])) t = keyN (lowO t) (cntF l t) := by
  have hg := good_puts l h
  rw [puts_snoc, ← put_key hg]
  have hd : of8 (puts l) t = none := by
    cases hd : of8 (puts l) t with
    | none => rfl
    | some x => exact absurd ((puts_has l h t).1 (by rw [hd]; rfl)) ht
  unfold putC
  rw [hd]
  show keyN (lowO t) (freeN (puts l) (lowO t)) = _
  rw [free_count hg (numb_puts l h) (lowO_lt t)]
  congr 1
  unfold cntF
  refine List.countP_congr (fun z hz => ?_)
  have e1 := (hg.each z hz).1
  have e2 := of8_none hd z hz
  simp [e1, e2]
theorem key_head (l : List ByteArray) (t : ByteArray) (h : ∀ x ∈ l ++ [t], x.size ≤ 140737488351232) : ∃ m, m ≤ l.length + 1 ∧ keyD (puts (l ++ [t])) t = keyN (lowO t) m := by
  have hg := good_puts (l ++ [t]) h
  obtain ⟨y, hy, h1, h2, _⟩ := of8_mem ((puts_has (l ++ [t]) h t).2 (List.mem_append_right _ (List.mem_singleton.2 rfl)))
  refine ⟨y.n, ?_, ?_⟩
  · have := (hg.each y hy).2.2.2.1
    rw [List.length_append, List.length_singleton] at this
    exact this
  · rw [h2]
    unfold keyO
    rw [(hg.each y hy).1, h1]
set_option maxRecDepth 100000 in
set_option maxHeartbeats 1000000 in
theorem dec_any : ∀ (n : Nat) (w : World), n ≤ 1000000000 → Calls Tryz.prog 29 #[.int .i64 n] w fun e w' => e = .returned (.string (decB n)) ∧ Below w.heap.size w w' := by
  intro n
  induction n using Nat.strongRecOn with
  | _ n ih =>
    intro w hn
    have hB := Lib.hid (fun o => ((Below.refl w.heap.size w).alloc (Nat.le_refl _) o))
    obtain ⟨B, hB0⟩ : ∃ B, B = UInt8.ofNat (48 + n % 10) := ⟨_, rfl⟩
    have e0 : (B.toNat : Int) = 48 + (n : Int) % 10 := by rw [hB0, UInt8.toNat_ofNat']; omega
    have hc := conv_one B (w.alloc (.cells #[bv B] 5)) w.heap.size (by go_simp)
    unfold bv at hc
    rw [e0] at hc
    clear e0
    by_cases h : n < 10
    · have hz : (n : Int) < 10 := by omega
      have e1 : decB n = b1 B := by
        rw [hB0]
        unfold decB b1
        rw [Lib.decDigits_one h, Nat.mod_eq_of_lt h]
      rw [e1]
      clear ih hB0
      go_enter Tryz.func29, Tryz.ntmps29
      go_wp2_with fail
      go_ret
      exact ⟨rfl, hB.out _⟩
    · have hz : ¬ (n : Int) < 10 := by omega
      have e1 : decB n = decB (n / 10) ++ b1 B := by
        refine ba_ext ?_
        rw [app_l, hB0]
        show Lib.decDigits n = Lib.decDigits (n / 10) ++ [UInt8.ofNat (48 + n % 10)]
        rw [Lib.decDigits, dif_neg h]
      have ci := fun V => ih (n / 10) (by omega) V (by omega)
      have e2 : ((n / 10 : Nat) : Int) = (n : Int) / 10 := by omega
      rw [e2] at ci
      have hsz := decB_size (n := n / 10) (by omega)
      have hb1 : (b1 B).size = 1 := rfl
      have hsum : (decB (n / 10)).size + (b1 B).size ≤ 9223372036854775807 := by omega
      rw [e1]
      clear ih e2 e1 hB0
      go_enter Tryz.func29, Tryz.ntmps29
      go_wp2_with fail
      go_at_call 29
      refine (ci _).mono ?_
      rintro e w1 ⟨rfl, hb⟩
      go_wp2_with fail
      go_ret
      exact ⟨rfl, Tx.below_call (hB.out _) hb⟩
end Go.Proofs.YthejpojmmokinaaGreatDoor.Bl

namespace Go.Proofs.YthejpojmmokinaaGreatDoor.Bl
open Go.RowKit Tx Pm Dk Wm Wr Wl Pl Tb
set_option linter.unusedVariables false
set_option linter.unusedSimpArgs false
set_option linter.unnecessarySimpa false
def ReadsT (D : DataW Unit) (l : List ByteArray) : Prop := ∀ p z, D.atKey (kL p) z = if cnt l p = 0 then z else .lit (.int .i64 (cnt l p : Nat))
def Tc (w : World) (tm : Nat) (l : List ByteArray) : Prop := ∃ D : DataW Unit, w.ownsMap Tryz.prog 9 (plainElem Tryz.prog 3) tm l.length D ∧ ReadsT D l ∧ Go.Maps.size D ≤ l.length
theorem Tc.lt {w : World} {tm : Nat} {l : List ByteArray} (h : Tc w tm l) : tm < w.heap.size := by
  obtain ⟨D, h, _⟩ := h
  exact h.lt
theorem Tc.kept {w w1 : World} {tm : Nat} {l : List ByteArray} (h : Tc w tm l) (he : w1.heap[tm]? = w.heap[tm]?) : Tc w1 tm l := by
  obtain ⟨D, h, r⟩ := h
  exact ⟨D, Dk.ownsMap_at h he, r⟩
theorem Tc.look {w : World} {tm : Nat} {l : List ByteArray} (h : Tc w tm l) {p : ByteArray} (hp : p.size ≤ maxLen) :
    (Instr.lookup 73 (.map (some tm)) (.string p) false).run Tryz.prog w = .ok (.int .i64 (cnt l p : Nat)) w := by
  obtain ⟨D, ho, hr, _⟩ := h
  obtain ⟨u, ps, hrun, hv⟩ := ho.lookup strK Tryz.underlying73 (zeroN w) (plainElem_int Tryz.underlying3 (by decide)) (keyP hp)
  rw [hrun]
  obtain ⟨c, rfl, hc, hwc⟩ := plainElem_int_inv Tryz.underlying3 hv
  have hc := congrArg Prod.fst hc
  simp only [hr p] at hc
  by_cases hz : cnt l p = 0
  · rw [if_pos hz] at hc
    cases hc
    rw [hz]
    rfl
  · rw [if_neg hz] at hc
    cases hc
    rfl
theorem Tc.store {w : World} {tm : Nat} {l : List ByteArray} (h : Tc w tm l) {p : ByteArray} (hp : p.size ≤ maxLen) (hn : l.length < 1000000000000) :
    ∃ w', (Instr.mapUpdate 73 (.map (some tm)) (.string p) (.int .i64 ((cnt l p : Nat) + 1))).run Tryz.prog w = .ok () w' ∧ Tc w' tm (l ++ [p]) ∧ w.mapTurned w' tm := by
  obtain ⟨D, ho, hr, hs⟩ := h
  have hcl : cnt l p ≤ l.length := List.countP_le_length
  have hw : (Lit.int .i64 ((cnt l p : Nat) + 1)).wf = true := by simp [Lit.wf, IntKind.min, IntKind.max, IntKind.signed, IntKind.bits]; omega
  obtain ⟨w', hrun, ho', ht⟩ := ho.store strK Tryz.underlying73 (by unfold maxLen; omega) (keyP hp) (plainElem_int Tryz.underlying3 hw)
  have hsz : Go.Maps.size (D.put (kL p) (.lit (.int .i64 ((cnt l p : Nat) + 1)))) ≤ (l ++ [p]).length := by
    have h1 := Go.Maps.size_put (ho.tidy strK) (k := kL p) (.lit (.int .i64 ((cnt l p : Nat) + 1)))
    rw [h1, List.length_append]
    show _ ≤ l.length + 1
    split <;> omega
  refine ⟨w', hrun, ⟨_, own_len ho' hsz, fun q z => ?_, hsz⟩, ht⟩
  rw [cnt_snoc]
  by_cases he : p = q
  · subst he
    rw [if_pos rfl, if_neg (by omega), Go.Maps.atKey_put_same ho.isMap (kL_key _)]
    rfl
  · rw [if_neg he, Go.Maps.atKey_put_other (fun e => he (kL_inj e).symm)]
    exact hr q z
theorem tc_made (w : World) : Tc (w.alloc (.map #[] 0)) w.heap.size [] := ⟨_, World.ownsMap_made w _ _ _, fun p z => rfl, Nat.le_refl _⟩
def one8 (C : List On) (held : List ByteArray) (p : ByteArray) : List On := if cnt held p = 0 then delR C p else setR C p (cnt held p)
def many8 (C : List On) (held : List ByteArray) (K : List ByteArray) : List On := K.foldl (fun C p => one8 C held p) C
theorem many8_snoc (C : List On) (held K : List ByteArray) (p : ByteArray) : many8 C held (K ++ [p]) = one8 (many8 C held K) held p := by unfold many8; rw [List.foldl_append]; rfl
def swC (C : List On) (held : List ByteArray) : List On := C.filterMap (fun y => if cnt held (keyO y) = 0 then none else some { y with refs := cnt held (keyO y) })
def goneN (held K : List ByteArray) : Nat := K.countP (fun p => decide (cnt held p = 0))
theorem one8_id {C : List On} {M : Nat} (hg : Good8 C M) {y : On} (hy : y ∈ C) : setR C (keyO y) y.refs = C := by
  unfold setR
  refine (List.map_congr_left (fun z hz => ?_)).trans (List.map_id C)
  by_cases he : keyO z = keyO y
  · rw [if_pos he]
    have e1 := hg.at hy
    rw [← he, hg.at hz] at e1
    injection e1 with e1
    rw [e1]
    rfl
  · rw [if_neg he]
    rfl
theorem fm_congr {α β : Type} {f g : α → Option β} : ∀ {l : List α}, (∀ x ∈ l, f x = g x) → l.filterMap f = l.filterMap g
  | [], _ => rfl
  | x :: l, h => by
    rw [List.filterMap_cons, List.filterMap_cons, h x (List.mem_cons_self ..), fm_congr (l := l) (fun y hy => h y (List.mem_cons_of_mem _ hy))]
theorem many8_is (held : List ByteArray) : ∀ (K : List ByteArray) (C : List On), many8 C held K = C.filterMap (fun y => if inL K (keyO y) = true then (if cnt held (keyO y) = 0 then none else some { y with refs := cnt held (keyO y) }) else some y) := by
  intro K
  refine snoc7 (P := fun K => ∀ C, many8 C held K = C.filterMap (fun y => if inL K (keyO y) = true then (if cnt held (keyO y) = 0 then none else some { y with refs := cnt held (keyO y) }) else some y)) (fun C => ?_) (fun K p ih C => ?_) K
  · show C = _
    simp [inL]
  · rw [many8_snoc, ih C]
    unfold one8
    have hin : ∀ y : On, inL (K ++ [p]) (keyO y) = (inL K (keyO y) || decide (p = keyO y)) := fun y => inL_snoc K p (keyO y)
    by_cases h0 : cnt held p = 0
    · rw [if_pos h0]
      unfold delR
      rw [List.filter_filterMap]
      refine fm_congr (fun y hy => ?_)
      have hk2 : keyO { y with refs := cnt held (keyO y) } = keyO y := rfl
      rw [hin]
      by_cases he : p = keyO y
      · subst he
        by_cases hK : inL K (keyO y) = true
        · simp [hK, h0]
        · simp [hK, h0, Option.filter]
      · have he2 : ¬ keyO y = p := fun e => he e.symm
        by_cases hK : inL K (keyO y) = true
        · by_cases hc : cnt held (keyO y) = 0
          · simp [hK, hc]
          · simp [hK, hc, he, he2, hk2, Option.filter]
        · simp [hK, he, he2, Option.filter]
    · rw [if_neg h0]
      unfold setR
      rw [List.map_filterMap]
      refine fm_congr (fun y hy => ?_)
      have hk2 : keyO { y with refs := cnt held (keyO y) } = keyO y := rfl
      rw [hin]
      by_cases he : p = keyO y
      · subst he
        by_cases hK : inL K (keyO y) = true
        · rw [if_pos hK, if_neg h0, if_pos (by rw [hK]; rfl)]
          show some (if keyO { y with refs := cnt held (keyO y) } = keyO y then _ else _) = _
          rw [if_pos hk2]
        · rw [if_neg hK, if_pos (by simp), if_neg h0]
          show some (if keyO y = keyO y then _ else _) = _
          rw [if_pos rfl]
      · have he2 : ¬ keyO y = p := fun e => he e.symm
        have hd : (inL K (keyO y) || decide (p = keyO y)) = inL K (keyO y) := by simp [he]
        rw [hd]
        by_cases hK : inL K (keyO y) = true
        · rw [if_pos hK]
          by_cases hc : cnt held (keyO y) = 0
          · rw [if_pos hc]; rfl
          · rw [if_neg hc]
            show some (if keyO { y with refs := cnt held (keyO y) } = p then _ else _) = _
            rw [if_neg (fun e => he2 (hk2.symm.trans e))]
        · rw [if_neg hK]
          show some (if keyO y = p then _ else y) = _
          rw [if_neg he2]
theorem many8_all {C : List On} {held K : List ByteArray} (h : ∀ y ∈ C, keyO y ∈ K) : many8 C held K = swC C held := by
  rw [many8_is]
  unfold swC
  exact fm_congr (fun y hy => by rw [if_pos (inL_iff.2 (h y hy))])
section
variable {w0 : World × (Nat → Prop)} {W : World} {b j t m u M N V : Nat} {x : Tst} {C : List On} {Z : List It} {key : ByteArray}
theorem Bo.fresh (h : Bo b j t m u x Z w0 C M N V W) : ∃ F : Nat → Prop, (∀ i, F i → w0.2 i ∨ w0.1.heap.size ≤ i) ∧ (∀ i, F i → i < W.heap.size) ∧ ∀ W', Below W.heap.size W W' → Bo b j t m u x Z (W', F) C M N V W' := by
  obtain ⟨l, ⟨F, h1, h2, h3⟩, hh⟩ := h
  exact ⟨F, h3, tu_lt h1, fun W' hb => ⟨l, ⟨F, tb_below h1 hb, Chg.refl F W', fun g hg => .inl hg⟩, hh⟩⟩
theorem Bo.back {W2 : World} {F : Nat → Prop} (h : Bo b j t m u x Z (W2, F) C M N V W) (hc : Chg w0.2 w0.1 W2) (hF : ∀ i, F i → w0.2 i ∨ w0.1.heap.size ≤ i) : Bo b j t m u x Z w0 C M N V W := by
  obtain ⟨l, ⟨F', h1, h2, h3⟩, hh⟩ := h
  refine ⟨l, ⟨F', h1, hc.trans h2 hF, fun g hg => ?_⟩, hh⟩
  rcases h3 g hg with h4 | h4
  · exact hF g h4
  · exact .inr (Nat.le_trans hc.size h4)
theorem drop_any (h : Bo b j t m u x Z w0 C M N V W) (hN : N ≤ 100000000) (hb : beg pB2 key = true) (hk : key.size ≤ 14) : Calls Tryz.prog 37 #[.pointer (some ⟨u, 0, none⟩), .string key] W fun e w' => e = .returned (.tuple #[]) ∧ Bo b j t m u x Z w0 (delR C key) M (N + 1) (V + 140737488361232) w' := by
  obtain ⟨l, h1, h2, h3, h4, h5, h6, h7⟩ := h
  exact (f_drop (key := key) h1 (by omega) (by omega)).mono fun e w' hh => ⟨hh.1, (bo_drop hh.2 (f_facts h1) (rep_del h2) (good_del h3) h4 h5 h6 h7 hb hk).mono (Nat.le_refl _) (Nat.le_refl _) (by omega)⟩
theorem keep_set {y : On} {k M' : Nat} (h : Bo b j t m u x Z w0 C M N V W) (hN : N ≤ 100000000) (hM : M ≤ M') (hM' : M' ≤ 100000000) (hy : y ∈ C) (h1k : 1 ≤ k) (hkM : k ≤ M') : Calls Tryz.prog 35 #[.pointer (some ⟨u, 0, none⟩), .string (keyO y), onV k y.data] W fun e w' => e = .returned (.tuple #[]) ∧ Bo b j t m u x Z w0 (setR C (keyO y) k) M' (N + 1) (V + 140737488361232) w' := by
  obtain ⟨l, h1, h2, h3, h4, h5, h6, h7⟩ := h
  obtain ⟨_, _, _, _, y5⟩ := h3.each y hy
  have hs := keyO_size h3 (by omega) hy
  exact (keep_any (key := keyO y) (h := k) (d := y.data) h1 (by omega) (by omega) (by omega) y5).mono fun e w' hh => ⟨hh.1, (bo_keep hh.2 (f_facts h1) (rep_set h2 hy h3) (good_set (h3.mono hM) h1k hkM) h4 h5 h6 h7 (keyO_beg y) hs (by omega) y5).mono (Nat.le_refl _) (Nat.le_refl _) (by omega)⟩
theorem bkeys_list (h : Bo b j t m u x Z w0 C M N V W) (hx : Xk x) (hN : N ≤ 100000000) : ∃ K : List ByteArray, K.Perm (C.map keyO) ∧ Calls Tryz.prog 22 #[.pointer (some ⟨u, 0, none⟩), .string ⟨#[98, 47]⟩] W (ListTo K W) := by
  obtain ⟨l, h1, h2, h3, h4, h5, h6, h7⟩ := h
  exact ⟨_, keys_perm h2 h3, f_bkeys (p := pB2) h1 hx (by omega) h6 (by decide)⟩
end
theorem gone_is {C : List On} {held K : List ByteArray} (h : K.Perm (C.map keyO)) : goneN held K + (swC C held).length = C.length := by
  unfold goneN swC
  rw [h.countP_eq, List.countP_map, List.length_filterMap_eq_countP]
  have e : ∀ y : On, (if cnt held (keyO y) = 0 then none else some { y with refs := cnt held (keyO y) } : Option On).isSome = !(((fun p => decide (cnt held p = 0)) ∘ keyO) y) := fun y => by
    by_cases hc : cnt held (keyO y) = 0 <;> simp [hc]
  simp only [e]
  rw [List.length_eq_countP_add_countP ((fun p => decide (cnt held p = 0)) ∘ keyO) (l := C)]
  congr 1
  exact List.countP_congr (fun a _ => by simp)
theorem many8_keep {C : List On} {held K : List ByteArray} {y : On} (hy : y ∈ C) (hK : inL K (keyO y) = false) : y ∈ many8 C held K := by
  rw [many8_is]
  exact List.mem_filterMap.2 ⟨y, hy, by rw [hK]; rfl⟩
theorem bo_find_mem {w0 : World × (Nat → Prop)} {W : World} {b j t m u M N V : Nat} {x : Tst} {C : List On} {Z : List It} {y : On} (h : Bo b j t m u x Z w0 C M N V W) (hM : M ≤ 100000000) (hy : y ∈ C) :
    Calls Tryz.prog 34 #[.pointer (some ⟨u, 0, none⟩), .string (keyO y)] W fun e w' => e = .returned (.tuple #[onV y.refs y.data, .bool true]) ∧ Below W.heap.size W w' := by
  have c := bo_find (key := keyO y) h hM (by have := keyO_size h.good hM hy; omega)
  rw [h.good.at hy] at c
  exact c
set_option maxRecDepth 100000 in
set_option maxHeartbeats 8000000 in
theorem sweep_any {w0 : World × (Nat → Prop)} {W : World} {b j t m u M N V : Nat} {x : Tst} {C : List On} {Z : List It} (A : Option Addr) (hn hc : Nat) (held : List ByteArray) (h : Bo b j t m u x Z w0 C M N V W) (hx : Xk x) (hM : M ≤ 1000000) (hN : N ≤ 1000000) (hS : Strs W A hn held) (hcap : hn ≤ hc) (hhn : hn ≤ 1000000) (hks : ∀ p ∈ held, p.size ≤ 1000) :
    Calls Tryz.prog 18 #[.pointer (some ⟨u, 0, none⟩), .slice A hn hc] W fun e w' => e = .returned (.int .i64 ((C.length - (swC C held).length : Nat) : Nat)) ∧ ∃ V', Bo b j t m u x Z w0 (swC C held) (M + hn) (N + M) V' w' := by
  have HST := Lib.hid (fun V (hV : Below W.heap.size W V) => hS.below hV)
  have HL := Lib.hid hS.1
  have HKS := Lib.hid hks
  have HX := Lib.hid hx
  have HG := Lib.hid h.good
  obtain ⟨F, f1, f2, f3⟩ := h.fresh
  have HCH := Lib.hid h.chg
  have HF1 := Lib.hid f1
  have HF2 := Lib.hid f2
  have HF3 := Lib.hid f3
  have hB0 : Below W.heap.size W (W.alloc (.map #[] 0)) := (Below.refl _ W).alloc (Nat.le_refl _) _
  have hT0 := tc_made W
  have hlt0 : W.heap.size < (W.alloc (.map #[] 0)).heap.size := by simp
  clear hS hks hx h f1 f2 f3
  have hmm := @run_makeMap Tryz.prog
  go_enter Tryz.func18, Tryz.ntmps18
  go_wp2_with fail
  go_loopw [17] (fun iv wr => ∃ k : Nat, k ≤ hn ∧ iv = .int .i64 k ∧ Tc wr W.heap.size (held.take k) ∧ Below W.heap.size W wr ∧ W.heap.size < wr.heap.size) (fun iv _ => hn - (intOf iv).toNat)
  case atStart => exact ⟨0, Nat.zero_le _, rfl, hT0, hB0, hlt0⟩
  case round =>
    clear hB0 hT0 hlt0
    obtain ⟨k, hk, rfl, hT, hB, hlt⟩ := hrel
    by_cases hlk : k < hn
    · obtain ⟨p, hp⟩ : ∃ p, held[k]? = some p := ⟨_, List.getElem?_eq_getElem (by rw [HL.out]; exact hlk)⟩
      obtain ⟨bk, off, rfl, _, g0⟩ := Strs.at2 (HST.out _ hB) hp hlk
      have hkz : (k : Int) < (hn : Int) := by omega
      have hps := HKS.out p (List.mem_of_getElem? hp)
      have hlk1 := hT.look (p := p) (by unfold maxLen; omega)
      have hcl : cnt (held.take k) p ≤ k := by
        have := List.countP_le_length (p := fun x => decide (x = p)) (l := held.take k)
        have h2 := List.length_take_le k held
        unfold cnt
        omega
      obtain ⟨w4, hrun, hT4, hturn⟩ := hT.store (p := p) (by unfold maxLen; omega) (by rw [List.length_take]; omega)
      rw [← take_snoc hp] at hT4
      obtain ⟨q, hq⟩ : ∃ q, q = cnt (held.take k) p := ⟨_, rfl⟩
      rw [← hq] at hlk1 hrun hcl
      have hch := turned_chg hturn
      have hB4 : Below W.heap.size W w4 := hB.trans (hch.below hB.size (fun i hi => by omega))
      have hs4 : W.heap.size < w4.heap.size := Nat.lt_of_lt_of_le hlt hch.size
      clear hp hq hturn hch hT
      go_wp2_with fail
      go_roundw
      case rel => exact ⟨k + 1, by omega, by go_num, hT4, hB4, hs4⟩
      case measure => simp [intOf]; omega
    · obtain rfl : k = hn := by omega
      have eA : held.take k = held := List.take_of_length_le (by rw [HL.out]; exact Nat.le_refl _)
      rw [eA] at hT
      obtain ⟨K, hKP, ck⟩ := bkeys_list (HF3.out _ hB) HX.out (by omega)
      obtain ⟨n, hnK⟩ : ∃ n, n = K.length := ⟨_, rfl⟩
      have hnC : n ≤ M := by rw [hnK, hKP.length_eq, List.length_map]; exact HG.out.len
      have HKP := Lib.hid hKP
      have HNK := Lib.hid hnK
      have hltm : W.heap.size < wr.heap.size := hlt
      clear eA hlk hnK hKP
      go_wp2_with fail
      go_at_call 22
      refine ck.mono ?_
      rintro e w2 ⟨vK, rfl, hK, hb2⟩
      obtain ⟨aK, cK, hv, hsK, hcK, _⟩ := hK.form
      rw [← HNK.out] at hv hsK hcK
      have hT2 := hT.kept (hb2.block _ hltm)
      have hB2 := Tx.below_call hB hb2
      have hs2 : W.heap.size < w2.heap.size := Nat.lt_of_lt_of_le hltm hb2.size
      have hKo : w2.ownsRow W.heap.size 9 1 (.slice aK n cK) n (K.map sv) := by
        have this : w2.ownsRow wr.heap.size 9 1 vK K.length (K.map sv) := hK
        rw [hv, ← HNK.out] at this
        exact own_less this hB.size
      have HTV := Lib.hid (fun V (hV : Chg F w2 V) => hT2.kept (hV.block _ hs2 (fun hf => by have := HF2.out _ hf; omega)))
      have HSV := Lib.hid (fun V (hV : Chg F w2 V) => strs_row (own_chg hKo hV (fun g hg hf => by have := HF2.out _ hf; have := (hKo.lt g hg).1; omega)))
      have HB2 := Lib.hid hB2
      have o2 := (HF3.out _ hB2).mono (Nat.le_add_right M k) (Nat.le_refl N) (Nat.le_refl V)
      have HND : Hid (∀ k p, K[k]? = some p → inL (K.take k) p = false) := Lib.hid (fun k p hp => by
        have hnd : K.Nodup := HKP.out.nodup_iff.2 (List.pairwise_map.2 HG.out.keys)
        cases hin : inL (K.take k) p with
        | false => rfl
        | true =>
          obtain ⟨i, hi⟩ := List.getElem?_of_mem (inL_iff.1 hin)
          have hik : i < k := by
            have := (List.getElem?_eq_some_iff.1 hi).1
            rw [List.length_take] at this
            omega
          rw [List.getElem?_take_of_lt hik] at hi
          have := (List.getElem?_inj (List.getElem?_eq_some_iff.1 hi).1 hnd).1 (hi.trans hp.symm)
          omega)
      clear hT hK hsK ck hb2 hT2 hKo
      subst hv
      go_wp2_with fail
      go_loopw [8, 29] (fun gv iv wr => ∃ (q N' V' : Nat), q ≤ n ∧ iv = .int .i64 q ∧ gv = .int .i64 (goneN held (K.take q) : Nat) ∧ N' ≤ N + q ∧ Bo b j t m u x Z (w2, F) (many8 C held (K.take q)) (M + k) N' V' wr) (fun _ iv _ => n - (intOf iv).toNat)
      case atStart => exact ⟨0, N, V, Nat.zero_le _, rfl, rfl, Nat.le_refl _, o2⟩
      case round =>
        clear o2
        obtain ⟨q, N', V', hq, rfl, rfl, hN', o⟩ := hrel
        have hcg : goneN held (K.take q) ≤ q := by
          have := List.countP_le_length (p := fun p => decide (cnt held p = 0)) (l := K.take q)
          have h2 := List.length_take_le q K
          unfold goneN
          omega
        by_cases hlq : q < n
        · obtain ⟨p, hp⟩ : ∃ p, K[q]? = some p := ⟨_, List.getElem?_eq_getElem (by rw [← HNK.out]; exact hlq)⟩
          obtain ⟨bk, off, rfl, _, g0⟩ := Strs.at2 (HSV.out _ o.chg) hp hlq
          have hqz : (q : Int) < (n : Int) := by omega
          obtain ⟨y, hy, hye⟩ := List.mem_map.1 (HKP.out.mem_iff.1 (List.mem_of_getElem? hp))
          have hps : p.size ≤ 14 := by rw [← hye]; exact keyO_size HG.out (by omega) hy
          have hpb : beg pB2 p = true := by rw [← hye]; exact keyO_beg y
          have hlk1 := (HTV.out _ o.chg).look (p := p) (by unfold maxLen; omega)
          have htk := take_snoc hp
          have hgn : goneN held (K.take (q + 1)) = goneN held (K.take q) + if cnt held p = 0 then 1 else 0 := by
            unfold goneN
            rw [htk, List.countP_append, List.countP_singleton]
            by_cases hc : cnt held p = 0 <;> simp [hc]
          have hmn := many8_snoc C held (K.take q) p
          rw [← htk] at hmn
          unfold one8 at hmn
          have hym := many8_keep (held := held) hy (K := K.take q) (by rw [hye]; exact HND.out q p hp)
          obtain ⟨G, hG⟩ : ∃ G, G = goneN held (K.take q) := ⟨_, rfl⟩
          rw [← hG] at hgn hcg ⊢
          have hqM : cnt held p ≤ k := by
            have := List.countP_le_length (p := fun x => decide (x = p)) (l := held)
            have h2 := HL.out
            unfold cnt
            omega
          by_cases h0 : cnt held p = 0
          · rw [h0] at hlk1
            rw [if_pos h0] at hgn hmn
            have e0 : ((0 : Nat) : Int) = 0 := rfl
            rw [e0] at hlk1
            have cd := drop_any (key := p) o (by omega) hpb hps
            rw [← hmn] at cd
            have HGN := Lib.hid hgn
            clear hp hy hye hpb hps htk hmn hym hgn hG o h0 e0 hqM
            go_wp2_with fail
            go_at_call 37
            refine cd.mono ?_
            rintro e w4 ⟨rfl, o4⟩
            go_wp2_with fail
            go_roundw
            case rel => exact ⟨q + 1, N' + 1, _, by omega, by go_num, by rw [HGN.out]; go_num, by omega, o4⟩
            case measure => simp [intOf]; omega
          · rw [if_neg h0] at hgn hmn
            obtain ⟨r, hr⟩ : ∃ r, r = cnt held p := ⟨_, rfl⟩
            rw [← hr] at hlk1 hmn h0 hqM
            have hb0 : ((r : Int) == 0) = false := by simp; omega
            have HGN := Lib.hid (show goneN held (K.take (q + 1)) = G by rw [hgn]; rfl)
            have cf := bo_find_mem o (by omega) hym
            have hyr := (o.good.each y hym).2.2.1
            rw [hye] at cf
            unfold onV at cf
            have HYM := Lib.hid hym
            have HYE := Lib.hid hye
            have HMN := Lib.hid hmn
            clear hp hy hye hpb hps htk hmn hym hgn hG hr
            by_cases he : y.refs = r
            · have hbe : ((y.refs : Int) == (r : Int)) = true := by simp; omega
              have hC : many8 C held (K.take (q + 1)) = many8 C held (K.take q) := by
                rw [HMN.out, ← HYE.out, ← he]
                exact one8_id o.good HYM.out
              have HC := Lib.hid hC
              have HO := Lib.hid o
              clear hC o he
              go_wp2_with fail
              go_at_call 34
              refine cf.mono ?_
              rintro e w4 ⟨rfl, hb4⟩
              have o4 := HO.out.below (hb4.alloc hb4.size (.cells #[.int .i64 (y.refs : Nat), .string y.data] 68))
              clear hb4 cf
              go_wp2_with fail
              go_roundw
              case rel => exact ⟨q + 1, N', V', by omega, by go_num, by rw [HGN.out], by omega, by rw [HC.out]; exact o4⟩
              case measure => simp [intOf]; omega
            · have hbe : ((y.refs : Int) == (r : Int)) = false := by simp; omega
              have HO := Lib.hid o
              clear o he
              go_wp2_with fail
              go_at_call 34
              refine cf.mono ?_
              rintro e w4 ⟨rfl, hb4⟩
              have ck := keep_set (k := r) (HO.out.below (hb4.alloc hb4.size (.cells #[.int .i64 (y.refs : Nat), .string y.data] 68))) (by omega) (Nat.le_refl _) (by omega) HYM.out (by omega) (by omega)
              rw [HYE.out, ← HMN.out] at ck
              unfold onV at ck
              clear hb4 cf
              go_wp2_with fail
              go_at_call 35
              refine ck.mono ?_
              rintro e w5 ⟨rfl, o5⟩
              clear ck
              go_wp2_with fail
              go_roundw
              case rel => exact ⟨q + 1, N' + 1, _, by omega, by go_num, by rw [HGN.out], by omega, o5⟩
              case measure => simp [intOf]; omega
        · obtain rfl : q = n := by omega
          have eA : K.take q = K := List.take_of_length_le (by rw [← HNK.out]; exact Nat.le_refl _)
          have hall : ∀ y ∈ C, keyO y ∈ K := fun y hy => HKP.out.mem_iff.2 (List.mem_map.2 ⟨y, hy, rfl⟩)
          have hsw := many8_all (held := held) hall
          have hgi := gone_is (held := held) HKP.out
          rw [eA, hsw] at o
          rw [eA]
          have hG : goneN held K = C.length - (swC C held).length := by omega
          have HG2 := Lib.hid hG
          clear hsw hgi hG eA hcg
          go_wp2_with fail
          go_ret
          rw [HG2.out]
          exact ⟨rfl, V', (o.back (HCH.out.then (Chg.of_below HB2.out)) HF1.out).mono (Nat.le_refl _) (by omega) (Nat.le_refl _)⟩
end Go.Proofs.YthejpojmmokinaaGreatDoor.Bl

namespace Go.Proofs.YthejpojmmokinaaGreatDoor.Bl
open Go.RowKit Tx Pm Dk Wm Wr Wl Pl Tb
set_option linter.unusedVariables false
set_option linter.unusedSimpArgs false
set_option linter.unnecessarySimpa false
def zzK : ByteArray := ⟨#[122, 122]⟩
def otV : ByteArray := ⟨#[111, 116, 104, 101, 114]⟩
def Zz : List It := app [] ⟨zzK, otV, false⟩
theorem zz_not : beg pB2 zzK = false := by decide +kernel
section
variable {w0 : World × (Nat → Prop)} {W : World} {b j t m u M N V : Nat} {x : Tst} {C : List On} {Z : List It} {key val : ByteArray}
theorem put_other (h : Bo b j t m u x Z w0 C M N V W) (hN : N ≤ 100000000) (hb : beg pB2 key = false) (hk : key.size ≤ 1000) : Calls Tryz.prog 10 #[.pointer (some ⟨u, 0, none⟩), .string key, .string val] W fun e w' => e = .returned (.tuple #[]) ∧ Bo b j t m u x (app Z ⟨key, val, false⟩) w0 C M (N + 1) (V + key.size + val.size + 40) w' := by
  obtain ⟨l, h1, h2, h3, h4, h5, h6, h7⟩ := h
  have hf := f_facts h1
  refine (f_put (key := key) (val := val) h1 (by omega) (by omega)).mono fun e w' hh => ⟨hh.1, _, hh.2, ?_, h3, fun p hp => ?_, ?_, fun c hc => ?_, ?_⟩
  · rw [all_bat hf.1 hf.2]
    refine ⟨rises_app h2.rises _, fun p hp => ?_⟩
    rw [find_app7, if_neg (fun e => by rw [show key = p from e, hp] at hb; cases hb)]
    exact h2.look p hp
  · rw [all_bat hf.1 hf.2, find_app7, find_app7, h4 p hp]
  · have := bat_len l ⟨key, val, false⟩; omega
  · rcases bat_mem hc with rfl | hc
    · exact hk
    · exact h6 c hc
  · have h2 := wt_bat hf.2 ⟨key, val, false⟩
    simp only at h2
    omega
theorem bkeys_rise (h : Bo b j t m u x Z w0 C M N V W) (hx : Xk x) (hN : N ≤ 100000000) : ∃ K : List ByteArray, K.Perm (C.map keyO) ∧ K.Pairwise (fun a b => Op.bytesLess a.toList b.toList = true) ∧ Calls Tryz.prog 22 #[.pointer (some ⟨u, 0, none⟩), .string ⟨#[98, 47]⟩] W (ListTo K W) := by
  obtain ⟨l, h1, h2, h3, h4, h5, h6, h7⟩ := h
  exact ⟨_, keys_perm h2 h3, held_rises h2.rises, f_bkeys (p := pB2) h1 hx (by omega) h6 (by decide)⟩
theorem keys_one (h : Bo b j t m u x Zz w0 [] M N V W) (hx : Xk x) (hN : N ≤ 100000000) : Calls Tryz.prog 22 #[.pointer (some ⟨u, 0, none⟩), .string ⟨#[]⟩] W fun e w' => (∃ a c, e = .returned (.slice a 1 c)) ∧ Bo b j t m u x Zz w0 [] M N V w' := by
  have hh := h
  obtain ⟨l, h1, h2, h3, h4, h5, h6, h7⟩ := h
  have hp : (held (pre7 ⟨#[]⟩) (all7 x.L l)).Perm [zzK] := by
    refine (List.perm_ext_iff_of_nodup (nodup_held h2.rises _) (by simp)).2 (fun a => ?_)
    rw [mem_held h2.rises, List.mem_singleton]
    have hb : beg ⟨#[]⟩ a = true := (beg_iff _ _).2 ⟨a.data.toList, rfl⟩
    cases hba : beg pB2 a with
    | true =>
      rw [h2.look a hba]
      refine ⟨(fun hc => by cases hc.1), fun e => ?_⟩
      rw [e, zz_not] at hba
      cases hba
    | false =>
      rw [h4 a hba, hb]
      unfold Zz
      rw [find_app7]
      by_cases he : zzK = a
      · rw [if_pos he]
        exact ⟨fun _ => he.symm, fun _ => ⟨rfl, rfl⟩⟩
      · rw [if_neg he]
        exact ⟨(fun hc => by cases hc.1), fun e => absurd e.symm he⟩
  refine (f_bkeys (p := ⟨#[]⟩) h1 hx (by omega) h6 (by decide)).mono ?_
  rintro e w' ⟨v, rfl, ht, hb⟩
  obtain ⟨a, c, e, _⟩ := ht.form
  rw [hp.length_eq] at e
  exact ⟨⟨a, c, by rw [e]; rfl⟩, hh.below hb⟩
end
theorem rise_uniq {K K' : List ByteArray} (hp : K.Perm K') (h : K.Pairwise (fun a b => Op.bytesLess a.toList b.toList = true)) (h' : K'.Pairwise (fun a b => Op.bytesLess a.toList b.toList = true)) : K = K' :=
  rising_perm hp (h.imp (fun {a b} hab => by
    cases hba : Op.bytesLess b.toList a.toList with
    | false => rfl
    | true => exact absurd (Od.less_trans _ _ _ hab hba) (by rw [less_irrefl]; decide))) h'
theorem sweep_same (l : List ByteArray) (h : ∀ x ∈ l, x.size ≤ 140737488351232) : swC (puts l) (keysD l) = puts l := by
  have hg := good_puts l h
  have e : ∀ y ∈ puts l, (if cnt (keysD l) (keyO y) = 0 then none else some { y with refs := cnt (keysD l) (keyO y) } : Option On) = some y := fun y hy => by
    have hof := hg.of hy
    have hk : keyD (puts l) y.data = keyO y := by unfold keyD; rw [hof]
    have hc : cnt (keysD l) (keyO y) = y.refs := by
      have e1 : y.refs = refD (puts l) y.data := by unfold refD; rw [hof]
      rw [e1, puts_ref l h]
      unfold cnt keysD
      rw [List.countP_map]
      refine List.countP_congr (fun d hd => ?_)
      have := keyD_inj hg ((puts_has l h d).2 hd) (show (of8 (puts l) y.data).isSome = true by rw [hof]; rfl)
      rw [hk] at this
      show decide (keyD (puts l) d = keyO y) = true ↔ decide (d = y.data) = true
      rw [decide_eq_true_iff, decide_eq_true_iff]
      exact this
    have := (hg.each y hy).2.1
    rw [hc, if_neg (by omega)]
  unfold swC
  rw [fm_congr e]
  simp
theorem sweep_none (C : List On) : swC C [] = [] := by
  unfold swC
  refine List.filterMap_eq_nil_iff.2 (fun y _ => ?_)
  rw [if_pos (show cnt [] (keyO y) = 0 from rfl)]
end Go.Proofs.YthejpojmmokinaaGreatDoor.Bl

namespace Go.Proofs.YthejpojmmokinaaGreatDoor.blobSweeps
open Go.ChangeMaps (open_string shut_string)
open Go.ChangeShapes Go.WideShapes Go.ChangeAt Go.RowKit Tx Pm Dk Tb Wl Bl
set_option linter.unusedVariables false
set_option linter.unusedSimpArgs false
set_option linter.unnecessarySimpa false
set_option maxRecDepth 100000 in
set_option maxHeartbeats 16000000 in
theorem walk (A : Option Addr) (n c : Nat) (l : List ByteArray) (w : World) (hS : Strs w A n l) (hW : ∀ x ∈ l, x.size ≤ 140737488351232) (hc : n ≤ c) (ht : Tab w) :
    Calls Tryz.prog 5 #[.slice A n c] w fun e w' => e = .returned (.bool true) ∧ Below w.heap.size w w' := by
  obtain ⟨i0, hi, hz0, hz1, hz2⟩ := info_parts Tx.info9
  have HST := Lib.hid (fun V (hV : Below w.heap.size w V) => hS.below hV)
  have HL := Lib.hid hS.1
  have HW := Lib.hid hW
  have HT := Lib.hid ht
  clear hS hW ht
  go_enter Tryz.func5, Tryz.ntmps5
  go_wp2_with fail
  go_at_call 8
  refine (made_any8 w w (Below.refl _ _)).mono ?_
  rintro e w1 ⟨b, j, t, m, u, F, rfl, hb1, hF, o1⟩
  have HF := Lib.hid hF
  clear hF
  by_cases hn : n ≤ 100
  · have hnz : ¬ (100 : Int) < (n : Int) := by omega
    go_wp2_with fail
    go_at_call 9
    refine (awake_any8 w1 w1 (Below.refl _ _) (HT.out.below hb1)).mono ?_
    rintro e w2 ⟨rfl, hb2⟩
    have o1b := o1.below hb2
    have co := put_other (key := zzK) (val := otV) o1b (by omega) zz_not (by decide)
    unfold zzK otV at co
    clear o1 hb2
    go_wp2_with fail
    go_at_call 10
    refine (co).mono ?_
    rintro e w2a ⟨rfl, o1c⟩
    clear co o1b
    have o2 := Bw.first o1c HF.out hb1.size (hb1.trans (o1c.chg.below hb1.size HF.out))
    clear o1c
    go_wp2_with fail
    go_loopw [4, 5] (fun v iv wr => ∃ k V : Nat, k ≤ n ∧ iv = .int .i64 k ∧ Bw b j t m u x0 Zz w (puts (l.take k)) k (k + 1) V v k (keysD (l.take k)) wr) (fun _ iv _ => n - (intOf iv).toNat)
    case atStart => exact ⟨0, _, Nat.zero_le _, rfl, o2⟩
    case round =>
      clear o2
      obtain ⟨k, V, hk, rfl, o⟩ := hrel
      by_cases hlt : k < n
      · obtain ⟨x, hx⟩ : ∃ x, l[k]? = some x := ⟨_, List.getElem?_eq_getElem (by rw [HL.out]; exact hlt)⟩
        obtain ⟨_, hne⟩ := HST.out _ o.bel
        obtain ⟨bk, off, rfl, hbk, hcc⟩ := hne.resolve_left (by omega)
        have g0 := hcc k x hx
        have hkz : (k : Int) < (n : Int) := by omega
        have hxw := HW.out x (List.mem_of_getElem? hx)
        have htk := take_snoc hx
        have hks := keysD_snoc2 (l.take k) x (fun y hy => HW.out y (List.mem_of_mem_take hy))
        rw [← htk] at hks
        have cp := o.call HT.out (fun F hT hB => put_put (l := l.take k) (d := x) hB xk0 (by omega) (by omega) hxw hT)
        rw [← htk] at cp
        obtain ⟨KX, hKX⟩ : ∃ K, K = keyD (puts (l.take (k + 1))) x := ⟨_, rfl⟩
        rw [← hKX] at cp hks
        have HKS := Lib.hid hks
        clear hne hcc hx htk hks hKX o
        go_wp2_with fail
        go_at_call 13
        refine cp.mono ?_
        rintro e w3 ⟨rfl, o3⟩
        have hown3 := o3.row
        clear cp
        go_wp2_with (at_builtin; refine Ap.wpList_append_two _ rfl _ _ 38 rfl w.heap.size 9 i0 (.string ⟨#[]⟩) 1 16 Tryz.underlying38 hi hz0 hz1 hz2 rfl (by decide) (by decide) _ _ _ rfl (hown3.alloc _) ⟨w3.heap.size, 0, none⟩ 1 [sv KX] rfl rfl ?c1 ?c2 ?c3 ?c4 ?c5 ?_)
        case c1 => first | exact cell_one_new _ _ _ | exact fun _ _ h => h
        case c2 => first | exact sv_one [KX] | rfl
        case c3 => omega
        case c4 => omega
        case c5 => exact Nat.le_trans o3.bel.size (((Below.refl _ _).alloc (Nat.le_refl _) _).size)
        intro v' w6 hown6 hg6
        have o6 := o3.app (y := KX) (W1 := w3.alloc (.cells #[.string KX] 9)) ((Below.refl _ _).alloc (Nat.le_refl _) _) (by rw [List.map_append]; exact hown6) (by first | exact hg6 | (rw [World.size_alloc]; exact hg6))
        clear hown6 hg6 o3 hown3
        rw [← HKS.out] at o6
        go_wp2_with fail
        go_roundw
        case rel => exact ⟨k + 1, _, by omega, by go_num, o6⟩
        case measure => simp [intOf]; omega
      · obtain rfl : k = n := by omega
        have eA : l.take k = l := List.take_of_length_le (by rw [HL.out]; exact Nat.le_refl _)
        rw [eA] at o
        obtain ⟨aK, cK, rfl, _, hcK, _⟩ := o.strs (by rw [keysD_len]; exact HL.out)
        have HP := Lib.hid (fun d (hd : d ∈ l) => (puts_has l HW.out d).2 hd)
        have HSW := Lib.hid (sweep_same l HW.out)
        have HSZ : Hid (∀ p ∈ keysD l, p.size ≤ 1000) := Lib.hid (fun p hp => by
          obtain ⟨d, hd, rfl⟩ := List.mem_map.1 hp
          have := keyD_size o.good (by omega) (HP.out d hd)
          omega)
        obtain ⟨F9, q1, q2, q3, q4, q5, q6⟩ := o
        obtain ⟨F8, r1, r2, r3⟩ := q1.fresh
        obtain ⟨K, hKP, hKR, ck⟩ := bkeys_rise q1 xk0 (by omega)
        have hsub : ∀ i, F8 i → F9 i := fun i hi => (r1 i hi).elim id (fun hh => by have := r2 i hi; have hh : wr.heap.size ≤ i := hh; omega)
        have HR3 := Lib.hid r3
        have HKP := Lib.hid hKP
        have HKR := Lib.hid hKR
        obtain ⟨nK, hnK⟩ : ∃ x, x = K.length := ⟨_, rfl⟩
        have HNK := Lib.hid hnK
        have HNC := Lib.hid (show nK = (puts l).length by rw [hnK, hKP.length_eq, List.length_map])
        have hgood := q1.good
        have hnkb : nK ≤ k := by rw [HNC.out]; exact hgood.len
        clear hlt eA hnz hKP hKR hnK r3 q1
        go_wp2_with fail
        go_at_call 22
        refine ck.mono ?_
        rintro e w5 ⟨vW, rfl, hWt, hb5⟩
        obtain ⟨aW, cW, hv, hsW, hcW, _⟩ := hWt.form
        have hWo : w5.ownsRow wr.heap.size 9 1 vW K.length (K.map sv) := hWt
        rw [← HNK.out] at hv hsW hcW hWo
        subst hv
        have HRK := Lib.hid (fun V (hV : Chg F8 w5 V) => strs_row (own_chg (own_belowT q5 hb5) hV (fun g hg hf => q6 g hg (hsub g hf))))
        have HRW := Lib.hid (fun V (hV : Chg F8 w5 V) => strs_row (own_chg hWo hV (fun g hg hf => by have := r2 g hf; have := (hWo.lt g hg).1; omega)))
        have HBW : Hid (∀ V, Chg F8 w5 V → Below w.heap.size w V) := Lib.hid (fun V hV => (Tx.below_call q4 hb5).trans (hV.below (Tx.below_call q4 hb5).size (fun i hi => q2 i (hsub i hi))))
        have o5 := HR3.out _ hb5
        have cs := sweep_any aK k cK (keysD l) o5 xk0 (by omega) (by omega) (HRK.out _ (Chg.refl _ _)) hcK (by omega) HSZ.out
        rw [HSW.out, Nat.sub_self] at cs
        have e0 : ((0 : Nat) : Int) = 0 := rfl
        rw [e0] at cs
        clear hWt hWo hsW ck hb5 q5 q6 q2 q3 q4 r1 r2 o5 e0 hsub
        go_wp2_with fail
        go_at_call 18
        refine cs.mono ?_
        rintro e w6 ⟨rfl, V6, o6⟩
        obtain ⟨K2, hKP2, hKR2, ck2⟩ := bkeys_rise o6 xk0 (by omega)
        have hKK : K2 = K := rise_uniq (hKP2.trans HKP.out.symm) hKR2 HKR.out
        subst hKK
        clear cs
        go_wp2_with fail
        go_at_call 22
        refine ck2.mono ?_
        rintro e w7 ⟨v7, rfl, h7, hb7⟩
        obtain ⟨a7, c7, hv7, hs7, _, _⟩ := h7.form
        rw [← HNK.out] at hv7 hs7
        subst hv7
        have o7 := o6.below hb7
        have cm := same_true a7 aW nK c7 cW K2 w7 (by omega) hs7 (HRW.out _ o7.chg)
        clear ck2 h7 hs7 hb7 o6
        go_wp2_with fail
        go_at_call 23
        refine cm.mono ?_
        rintro e w8 ⟨rfl, hb8⟩
        have o8 := o7.below hb8
        clear cm hb8 o7
        go_wp2_with fail
        go_loopw [7] (fun iv wr2 => ∃ i : Nat, i ≤ k ∧ iv = .int .i64 i ∧ Bo b j t m u x0 Zz (w5, F8) (puts l) (k + k) (k + 1 + k) V6 wr2) (fun iv _ => k - (intOf iv).toNat)
        case atStart => exact ⟨0, Nat.zero_le _, rfl, o8⟩
        case round =>
          clear o8
          obtain ⟨i, hik, rfl, o⟩ := hrel
          by_cases hlt : i < k
          · obtain ⟨d, hd⟩ : ∃ d, l[i]? = some d := ⟨_, List.getElem?_eq_getElem (by rw [HL.out]; exact hlt)⟩
            have hiz : (i : Int) < (k : Int) := by omega
            obtain ⟨bK, oK, rfl, _, gK⟩ := Strs.at2 (HRK.out _ o.chg) (keysD_at hd) hlt
            obtain ⟨bT, oT, rfl, _, gT⟩ := Strs.at2 (HST.out _ (HBW.out _ o.chg)) hd hlt
            have cg := get_below (d := d) o (by omega) (HP.out d (List.mem_of_getElem? hd))
            have HD := Lib.hid hd
            have HO := Lib.hid o
            obtain ⟨KD, hKD⟩ : ∃ K, K = keyD (puts l) d := ⟨_, rfl⟩
            rw [← hKD] at cg gK
            have b2 : (d.toList == d.toList) = true := beq_self_eq_true _
            clear hd hKD o gT
            go_wp2_with fail
            go_at_call 19
            refine cg.mono ?_
            rintro e w9 ⟨rfl, hb9⟩
            have o9 := HO.out.below hb9
            have gT := Strs.at1 (HST.out _ (HBW.out _ o9.chg)) HD.out
            clear cg gK hb9
            go_wp2_with fail
            go_roundw
            case rel => exact ⟨i + 1, by omega, by go_num, o9⟩
            case measure => simp [intOf]; omega
          · obtain rfl : i = k := by omega
            have cs := sweep_any none 0 0 [] o xk0 (by omega) (by omega) ⟨rfl, .inl rfl⟩ (Nat.le_refl _) (by omega) (fun _ h => by cases h)
            rw [sweep_none] at cs
            have e1 : (puts l).length - ([] : List On).length = nK := HNC.out.symm
            rw [e1] at cs
            have bN : ((nK : Int) == (nK : Int)) = true := by simp
            clear o hlt e1
            go_wp2_with fail
            go_at_call 18
            refine cs.mono ?_
            rintro e w9 ⟨rfl, V9, o9⟩
            have ck := bkeys_len o9 xk0 (by omega)
            clear cs
            go_wp2_with fail
            go_at_call 22
            refine ck.mono ?_
            rintro e w10 ⟨⟨a10, c10, rfl⟩, o10⟩
            have ca := keys_one o10 xk0 (by omega)
            clear ck o9
            go_wp2_with fail
            go_at_call 22
            refine ca.mono ?_
            rintro e w11 ⟨⟨a11, c11, rfl⟩, o11⟩
            go_wp2_with fail
            go_ret
            exact ⟨rfl, HBW.out _ o11.chg⟩
  · have hnz : (100 : Int) < (n : Int) := by omega
    go_wp2_with fail
    go_at_call 9
    refine (awake_any8 w1 w1 (Below.refl _ _) (HT.out.below hb1)).mono ?_
    rintro e w2 ⟨rfl, hb2⟩
    have hB2 := Tx.below_call hb1 hb2
    go_wp2_with fail
    go_at_call 9
    refine (awake_any8 w2 w2 (Below.refl _ _) (HT.out.below hB2)).mono ?_
    rintro e w3 ⟨rfl, hb3⟩
    go_wp2_with fail
    go_ret
    exact ⟨rfl, Tx.below_call hB2 hb3⟩
theorem tab_of {W : World} (h : laidMetH Tryz.prog Rows.blobSweepsRow.laid W) : Tab W := tab_laid h
theorem own : ownKnob Tryz.prog.godebug = none := by kernel_rfl
theorem laidOut : laidOutB Tryz.prog = true := by kernel_rfl
set_option maxRecDepth 100000 in
theorem contract (H : Type) (enc : TypeId × Value → H) (W : World) (base : Nat) (args : Array Value) (ds gs : List (DataW H)) (before : List MemPlace)
    (hval0 : ∀ (j : Nat) t v, Tryz.f5.params[j]? = some t → args[j]? = some v → Value.okWide Tryz.prog W .any base t v)
    (hW : DataW.Whole enc Tryz.prog Tryz.f5.params.toList Rows.blobSweepsSpec.vars false W args.toList ds gs before)
    (hsz0 : (DataW.weightsEach Tryz.prog (Tryz.f5.params.toList ++ Rows.blobSweepsSpec.plain.varTypes Tryz.prog) (ds ++ gs)).all (· ≤ reachBytes) = true)
    (hL : laidMetH Tryz.prog Rows.blobSweepsRow.laid W) :
    Calls Tryz.prog 5 args W fun e W' => ∃ v, e = .returned v ∧ Rows.blobSweepsSpec.post enc Tryz.prog Tryz.f5 false true false false W args v W' := by
  have hval : ∀ (j : Nat) t v, Tryz.f5.params[j]? = some t → args[j]? = some v → Value.okWide Tryz.prog W .any base t v := hval0
  have hsz := hsz0
  clear hsz0
  have hW' := hW
  obtain ⟨p, q, hA0, hV, rfl, hfz, hnd⟩ := hW
  have hA : DataW.TrodAll enc Tryz.prog W 0 (fun _ => true) true Tryz.f5.params.toList args.toList ds p := hA0
  rw [Tryz.params5] at hA hval hsz
  obtain ⟨v0, vs0, d0, ds0, p0, q0, hargs, rfl, rfl, h0, r0⟩ := trodAll_cons hA
  obtain ⟨rfl, rfl, rfl⟩ := trodAll_nil r0
  obtain rfl : args = #[v0] := by cases args; simp_all
  obtain ⟨rfl, rfl⟩ := trodVars_none hV
  obtain ⟨A0, n0, c0, rfl⟩ := okWide_slice Tryz.underlying38 (hval 0 38 v0 rfl rfl)
  have k0 := h0
  have lt0 : ∀ x ∈ p0, x.block < W.heap.size := by obtain ⟨m, hm⟩ := k0; exact DataW.trod_lt m _ _ _ hm
  clear hA0 hval0
  obtain ⟨l0, hS0, _, _, hc0, hm0, hwd⟩ := arg_texts k0
  have hw0 : Wide1 l0 := hwd hsz (j := 0) rfl rfl
  refine (walk A0 n0 c0 l0 W hS0 hw0 hc0 (tab_of hL)).mono fun e W' ⟨he, bel⟩ => ?_
  subst he
  exact ⟨_, rfl, _, _, _, [], _, [], hW', trodAll_mk1 (shut_bool Tryz.underlying4 _), (trodAll_cons_mk (Below.trod laidOut (by kernel_rfl) (of_decide_eq_true (by kernel_rfl)) k0 bel lt0) trodAll_mk0), rfl, bel.frame _, fun h => by cases h⟩
theorem door_met (os : Os) : laidMetH Tryz.prog Rows.blobSweepsRow.laid ((World.doorLaid Tryz.prog 400 os).forCall (fun _ _ => 0) ⟨#[], #[.slice none 0 0], []⟩).memory :=
  laidMetH_of_parts3 (fuel := 8) (laidMet_of_run' 8 (by kernel_rfl) (by kernel_rfl)) (by kernel_rfl) (by kernel_rfl)
theorem reads (os : Os) {H : Type} (enc : TypeId × Value → H) : ∃ places, DataW.whole enc Tryz.prog ((World.doorLaid Tryz.prog 400 os).forCall (fun _ _ => 0) ⟨#[], #[.slice none 0 0], []⟩).memory Tryz.f5.params.toList Rows.blobSweepsSpec.vars false (#[.slice none 0 0] : Array Value).toList 8 = some ([.nil], [], places) :=
  ⟨[], by kernel_rfl⟩
set_option maxRecDepth 100000 in
theorem lifted (os : Os) (started : os.Started) (H : Type) (enc : TypeId × Value → H) (F : Stop.Interp) :
    ReturnsInHanded {} Tryz.checked os 5 .any ((OpenSpec.ofChange Rows.blobSweepsSpec).preRow enc Tryz.prog Tryz.f5 Rows.blobSweepsRow.domain false Rows.blobSweepsRow.laid) (((OpenSpec.ofChange Rows.blobSweepsSpec).at F).post enc Tryz.prog Tryz.f5 false true false false) := by
  obtain ⟨places, hx⟩ := reads os enc
  refine returnsInHanded_of_row (C := Tryz.checked) (s := (OpenSpec.ofChange Rows.blobSweepsSpec)) own started (by kernel_rfl) Tryz.func5
    (witness_row_at (enc := enc) (C := Tryz.checked) false (World.doorLaid Tryz.prog 400 os) #[.slice none 0 0] rfl (by kernel_rfl) (by kernel_rfl) (by kernel_rfl)
      (OpenSpec.preRow_of_cond 8 hx (by kernel_rfl) (fun k hk => by cases hk) (by kernel_rfl) (door_met os))) ?_
  intro W base args ds gs before hval hW _ hcond hsz0 hL _ _
  exact contract H enc W base args ds gs before hval hW hsz0 hL
theorem over : Rows.blobSweepsRow.holds Tryz.pinned (OpenSpec.ofChange Rows.blobSweepsSpec) :=
  OpenClaim.holds_of_cond 5 Tryz.f5 rfl rfl rfl rfl rfl rfl rfl ⟨rfl, rfl, rfl, rfl, rfl⟩ rfl rfl rfl rfl rfl (by kernel_rfl) Tryz.func5 (by kernel_rfl)
    (of_decide_eq_true (by kernel_rfl)) (by unfold Func.isWrapper; first | (rw [if_pos (by decide +kernel)]; kernel_rfl) | (rw [if_neg (by decide +kernel)]; exact ⟨rfl, rfl⟩))
    (fun os started H enc _ F => by rw [OpenClaim.pre_eq_preRow]; exact lifted os started H enc F)
theorem plain (f : FuncId) (fn : Func) (hf : Tryz.pinned.checked.prog.funcNamed "tether/tetherlaw08.BlobSweeps" = some f) (hfn : Tryz.pinned.checked.prog.funcs[f]? = some fn) :
    false = Tryz.pinned.checked.prog.looks [] ∧ ∀ (j : Nat) t, fn.params[j]? = some t → Tryz.pinned.checked.prog.wantsStandIn t = false := by
  obtain rfl : f = 5 := Option.some.inj ((show Tryz.prog.funcNamed "tether/tetherlaw08.BlobSweeps" = some 5 by kernel_rfl).symm.trans hf) |>.symm
  obtain rfl : fn = Tryz.f5 := (Option.some.inj (Tryz.func5.symm.trans hfn)).symm
  refine ⟨by kernel_rfl, fun j t ht => ?_⟩
  rw [Tryz.params5] at ht
  have hm : t ∈ [38] := by simpa using Array.mem_of_getElem? ht
  have hall : ([38].all fun u => !Tryz.prog.wantsStandIn u) = true := by kernel_rfl
  exact (show Tryz.prog.wantsStandIn t = false by simpa using List.all_eq_true.1 hall t hm)
theorem card : Rows.BlobSweepsCardSaid :=
  Claim7.holds_tied_plain_at .later [] _ _ _ _ over (fun _ h => by cases h) (by kernel_rfl) (fun _ h => by cases h) blobSweeps_row_tie rfl ⟨rfl, rfl⟩ (by kernel_rfl) rfl plain (by kernel_rfl)
end Go.Proofs.YthejpojmmokinaaGreatDoor.blobSweeps
namespace Go.Proofs.YthejpojmmokinaaGreatDoor
theorem blobSweepsCard_holds : Rows.BlobSweepsCardSaid := blobSweeps.card
#print axioms blobSweepsCard_holds
end Go.Proofs.YthejpojmmokinaaGreatDoor
