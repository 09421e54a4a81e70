/- Texts of this seat, one behind the other. -/
import Derived.Test.YtdpnmdnfnplcfaaGreatT2
import Derived.Maps.RangeWalk
import Derived.Lib.Strings
import Derived.Lib.Bytealg
import Derived.Lib.IndexLaws
import Derived.Laws.RangeAny
import Derived.Shelf.RegionOpenPlain
import Derived.RegionTactic
import Derived.BigRegion
import Derived.Deep.CutRange
import Derived.StillTailTactics
namespace Go.Proofs.YtdpnmdnfnplcfaaGreat.Dk
open Go.RowKit Tx Pm
set_option linter.unusedVariables false
theorem find_ins_same (l : List It) {x : It} {p : ByteArray} (h : x.path = p) : find (ins l x) p = some x := by
  unfold ins
  rw [find_app]
  have h1 : find (l.takeWhile (fun y => Op.bytesLess y.path.toList x.path.toList)) p = none := by
    refine List.find?_eq_none.2 (fun y hy => ?_)
    have hl := List.all_eq_true.1 (List.all_takeWhile (p := fun y => Op.bytesLess y.path.toList x.path.toList) (l := l)) y hy
    intro he
    have he := of_decide_eq_true he
    rw [he, h, less_irrefl] at hl
    cases hl
  rw [h1, Option.none_or]
  unfold find
  rw [List.find?_cons_of_pos (by simpa using h)]
theorem find_drop_same (l : List It) (p : ByteArray) : find (drop l p) p = none := by
  unfold find drop
  refine List.find?_eq_none.2 (fun y hy => ?_)
  have := (List.mem_filter.1 hy).2
  simpa using this
theorem find_paths {l : List It} {x : It} (hr : Rises l) (hx : x ∈ l) : find l x.path = some x := by
  unfold find
  induction l with
  | nil => cases hx
  | cons y l ih =>
    obtain ⟨h1, h2⟩ := List.pairwise_cons.1 hr
    by_cases he : y.path = x.path
    · rw [List.find?_cons_of_pos (by simpa using he)]
      rcases List.mem_cons.1 hx with rfl | hx
      · rfl
      · have := h1 x hx
        rw [he, less_irrefl] at this
        cases this
    · rw [List.find?_cons_of_neg (by simpa using he)]
      rcases List.mem_cons.1 hx with rfl | hx
      · exact absurd rfl he
      · exact ih h2 hx
theorem drop_none {l : List It} {p : ByteArray} (h : find l p = none) : drop l p = l := by
  unfold find at h
  unfold drop
  refine List.filter_eq_self.2 (fun y hy => ?_)
  have := List.find?_eq_none.1 h y hy
  simpa using this
theorem len_drop {l : List It} (hr : Rises l) (p : ByteArray) : l.length ≤ (drop l p).length + (if (find l p).isSome then 1 else 0) := by
  induction l with
  | nil => exact Nat.zero_le _
  | cons y l ih =>
    obtain ⟨h1, h2⟩ := List.pairwise_cons.1 hr
    by_cases he : y.path = p
    · have hn : find l p = none := by
        refine List.find?_eq_none.2 (fun z hz hzp => ?_)
        have hzp := of_decide_eq_true hzp
        have := h1 z hz
        rw [he, hzp, less_irrefl] at this
        cases this
      have e1 : drop (y :: l) p = drop l p := by unfold drop; rw [List.filter_cons_of_neg (by simpa using he)]
      have e2 : find (y :: l) p = some y := by unfold find; rw [List.find?_cons_of_pos (by simpa using he)]
      rw [e1, e2, drop_none hn]
      exact Nat.le_refl _
    · have e1 : drop (y :: l) p = y :: drop l p := by unfold drop; rw [List.filter_cons_of_pos (by simpa using he)]
      have e2 : find (y :: l) p = find l p := by unfold find; rw [List.find?_cons_of_neg (by simpa using he)]
      rw [e1, e2]
      have := ih h2
      simp only [List.length_cons]
      omega
theorem len_ins_more {l : List It} (x : It) : l.length + (if (find l x.path).isSome then 0 else 1) ≤ (ins l x).length := by
  have e : l = l.takeWhile (fun y => Op.bytesLess y.path.toList x.path.toList) ++ l.dropWhile (fun y => Op.bytesLess y.path.toList x.path.toList) := (List.takeWhile_append_dropWhile).symm
  have hall := List.all_takeWhile (p := fun y => Op.bytesLess y.path.toList x.path.toList) (l := l)
  unfold ins
  generalize l.takeWhile (fun y => Op.bytesLess y.path.toList x.path.toList) = a at e hall ⊢
  generalize l.dropWhile (fun y => Op.bytesLess y.path.toList x.path.toList) = b at e ⊢
  subst e
  cases b with
  | nil =>
    simp only [List.append_nil, List.length_append, List.length_cons, List.length_nil]
    split <;> omega
  | cons y r =>
    by_cases he : y.path = x.path
    · have hs : (find (a ++ y :: r) x.path).isSome = true := List.find?_isSome.2 ⟨y, by simp, by simpa using he⟩
      rw [if_pos hs]
      simp only [he, if_true, List.length_append, List.length_cons]
      omega
    · simp only [he, if_false, List.length_append, List.length_cons]
      split <;> omega
def stOf (x : It) : Int := if x.loose then (if x.anew then 2 else 1) else 0
def kOf (x : It) : Int := if x.dir then 1 else 2
def mv (k : Int) (s t : ByteArray) (st n : Int) : Value := .agg #[.int .i64 k, .string s, .string t, .int .i64 st, .int .i64 n]
def iv3 (x : It) : Value := mv (kOf x) x.data x.kept (stOf x) (x.stamp : Nat)
def dv3 (k : Int) (s t : ByteArray) (st n : Int) : DataW Unit := .agg [.lit (.int .i64 k), .lit (.string s.data.toList), .lit (.string t.data.toList), .lit (.int .i64 st), .lit (.int .i64 n)]
def itD (x : It) : DataW Unit := dv3 (kOf x) x.data x.kept (stOf x) (x.stamp : Nat)
def itemR : Value → Option (DataW Unit × List MemPlace)
  | .agg ⟨[.int .i64 k, .string s, .string t, .int .i64 st, .int .i64 n]⟩ => some (dv3 k s t st n, [])
  | _ => none
theorem itemR_mv (k : Int) (s t : ByteArray) (st n : Int) : itemR (mv k s t st n) = some (dv3 k s t st n, []) := rfl
theorem itemR_inv {v : Value} {z : DataW Unit × List MemPlace} (h : itemR v = some z) : ∃ k s t st n, v = mv k s t st n ∧ z = (dv3 k s t st n, []) := by
  unfold itemR at h
  split at h
  · cases h
    exact ⟨_, _, _, _, _, rfl, rfl⟩
  · cases h
theorem dv3_inj {k k' : Int} {s s' t t' : ByteArray} {st st' n n' : Int} (h : dv3 k s t st n = dv3 k' s' t' st' n') : k = k' ∧ s = s' ∧ t = t' ∧ st = st' ∧ n = n' := by
  unfold dv3 at h
  simp only [DataW.agg.injEq, List.cons.injEq, DataW.lit.injEq, Lit.int.injEq, Lit.string.injEq, true_and, and_true] at h
  obtain ⟨h1, h2, h3, h4, h5⟩ := h
  exact ⟨h1, ByteArray.ext (Array.toList_inj.1 h2), ByteArray.ext (Array.toList_inj.1 h3), h4, h5⟩
def lookV (L : List It) (p : ByteArray) : Value := match find L p with
  | some x => iv3 x
  | none => mv 0 ⟨#[]⟩ ⟨#[]⟩ 0 0
def kL (p : ByteArray) : Lit := .string p.data.toList
theorem kL_inj {p q : ByteArray} (h : kL p = kL q) : p = q := by
  injection h with h
  exact ByteArray.ext (Array.toList_inj.1 h)
theorem kL_key (p : ByteArray) : WideAt.IsKeyLit (kL p) := trivial
theorem strK : Go.Maps.Keyed Tryz.prog 9 := Go.Maps.string_keyed Tryz.underlying9
theorem keyP {p : ByteArray} (hp : p.size ≤ maxLen) : keyOf Tryz.prog 9 (.string p) = some (kL p) := Go.WideMaps.keyOf_string_mk Tryz.underlying9 hp
theorem zeroI (w : World) : (zeroValue 97).run Tryz.prog w = .ok (mv 0 ⟨#[]⟩ ⟨#[]⟩ 0 0) w := by kernel_rfl
theorem zeroN (w : World) : (zeroValue 3).run Tryz.prog w = .ok (.int .i64 0) w := by kernel_rfl
def ReadsI (D : DataW Unit) (L : List It) : Prop := ∀ p z, D.atKey (kL p) z = match find L p with
  | some x => itD x
  | none => z
def Mp (w : World) (bi : Nat) (L : List It) : Prop := ∃ D : DataW Unit, w.ownsMap Tryz.prog 9 itemR bi L.length D ∧ ReadsI D L ∧ Go.Maps.size D ≤ L.length
theorem Mp.lt {w : World} {bi : Nat} {L : List It} (h : Mp w bi L) : bi < w.heap.size := by
  obtain ⟨D, h, _⟩ := h
  exact h.lt
theorem ownsMap_at {H : Type} {w w1 : World} {P : Program} {k : TypeId} {R : Value → Option (DataW H × List MemPlace)} {b n : Nat} {D : DataW H} (h : w.ownsMap P k R b n D) (he : w1.heap[b]? = w.heap[b]?) : w1.ownsMap P k R b n D := by
  obtain ⟨es, clock, hb, r⟩ := h
  exact ⟨es, clock, he.trans hb, r⟩
theorem Mp.kept {w w1 : World} {bi : Nat} {L : List It} (h : Mp w bi L) (he : w1.heap[bi]? = w.heap[bi]?) : Mp w1 bi L := by
  obtain ⟨D, h, r⟩ := h
  exact ⟨D, ownsMap_at h he, r⟩
theorem readsI_has {D : DataW Unit} {L : List It} (h : ReadsI D L) (p : ByteArray) : Go.Maps.has D (kL p) = (find L p).isSome := by
  cases hf : find L p with
  | none =>
    refine (Go.Maps.has_false_of_atKey fun z => ?_).trans rfl
    rw [h p z, hf]
  | some x =>
    refine (Go.Maps.has_true_of_atKey (y := itD x) fun z => ?_).trans rfl
    rw [h p z, hf]
theorem Mp.look {w : World} {bi : Nat} {L : List It} (h : Mp w bi L) {p : ByteArray} (hp : p.size ≤ maxLen) :
    (Instr.lookup 61 (.map (some bi)) (.string p) false).run Tryz.prog w = .ok (lookV L p) w := by
  obtain ⟨D, ho, hr, _⟩ := h
  obtain ⟨v, ps, hrun, hv⟩ := ho.lookup strK Tryz.underlying61 (zeroI w) (itemR_mv _ _ _ _ _) (keyP hp)
  rw [hrun]
  obtain ⟨k, s, t, st, n, rfl, hz⟩ := itemR_inv hv
  have hz := congrArg Prod.fst hz
  simp only [hr p] at hz
  unfold lookV
  cases hf : find L p with
  | none =>
    rw [hf] at hz
    obtain ⟨rfl, rfl, rfl, rfl, rfl⟩ := dv3_inj hz
    rfl
  | some x =>
    rw [hf] at hz
    obtain ⟨rfl, rfl, rfl, rfl, rfl⟩ := dv3_inj (k := kOf x) (s := x.data) (t := x.kept) (st := stOf x) (n := (x.stamp : Nat)) hz
    rfl
theorem turned_block {w w' : World} {b i : Nat} (h : w.mapTurned w' b) (hi : i ≠ b) : w'.heap[i]? = w.heap[i]? := by
  obtain ⟨es, clock, es', clock', hb, rfl⟩ := h
  exact Go.ChangeMaps.heap_setBlock_other hb _ hi
theorem turned_chg {w w' : World} {b : Nat} (h : w.mapTurned w' b) : Chg (· = b) w w' := by
  have hg := h.grown
  exact ⟨hg.os, hg.tape, hg.output, hg.size, fun i hi hn => turned_block h hn⟩
theorem own_len {w : World} {b n : Nat} {D : DataW Unit} {R : Value → Option (DataW Unit × List MemPlace)} (h : w.ownsMap Tryz.prog 9 R b n D) {m : Nat} (hm : Go.Maps.size D ≤ m) : w.ownsMap Tryz.prog 9 R b m D := by
  obtain ⟨es, clock, hb, F, hs, rfl⟩ := h
  refine ⟨es, clock, hb, F, ?_, rfl⟩
  simp only [Go.Maps.size, length_sorted, List.length_map, Array.length_toList] at hm
  exact hm
theorem Mp.store {w : World} {bi : Nat} {L : List It} (h : Mp w bi L) {x : It} (hp : x.path.size ≤ maxLen) (hn : L.length < maxLen) :
    ∃ w', (Instr.mapUpdate 61 (.map (some bi)) (.string x.path) (iv3 x)).run Tryz.prog w = .ok () w' ∧ Mp w' bi (ins L x) ∧ w.mapTurned w' bi := by
  obtain ⟨D, ho, hr, hs⟩ := h
  obtain ⟨w', hrun, ho', ht⟩ := ho.store strK Tryz.underlying61 hn (keyP hp) (itemR_mv (kOf x) x.data x.kept (stOf x) (x.stamp : Nat))
  have hsz : Go.Maps.size (D.put (kL x.path) (dv3 (kOf x) x.data x.kept (stOf x) (x.stamp : Nat))) ≤ (ins L x).length := by
    have h1 := Go.Maps.size_put (ho.tidy strK) (k := kL x.path) (dv3 (kOf x) x.data x.kept (stOf x) (x.stamp : Nat))
    rw [readsI_has hr] at h1
    have h2 := len_ins_more (l := L) x
    rw [h1]
    split at h2 <;> split <;> first | omega | simp_all
  refine ⟨w', hrun, ⟨_, own_len ho' hsz, fun p z => ?_, hsz⟩, ht⟩
  by_cases he : p = x.path
  · subst he
    rw [Go.Maps.atKey_put_same ho.isMap (kL_key _), find_ins_same L rfl]
    rfl
  · rw [Go.Maps.atKey_put_other (fun e => he (kL_inj e)), find_ins L (fun e => he e.symm)]
    exact hr p z
theorem Mp.del {w : World} {bi : Nat} {L : List It} (h : Mp w bi L) (hR : Rises L) {p : ByteArray} (hp : p.size ≤ maxLen) (ty : TypeId) :
    ∃ w', (Builtin.delete_ #[61, 9] ty #[.map (some bi), .string p]).run Tryz.prog w = .ok (.tuple #[]) w' ∧ Mp w' bi (drop L p) ∧ w.mapTurned w' bi := by
  obtain ⟨D, ho, hr, hs⟩ := h
  obtain ⟨w', hrun, ho', ht⟩ := ho.drop strK Tryz.underlying61 (keyP hp) ty
  have hsz : Go.Maps.size (D.del (kL p)) ≤ (drop L p).length := by
    have h1 := Go.Maps.size_del (ho.tidy strK) (k := kL p)
    rw [readsI_has hr] at h1
    have h2 := len_drop hR p
    omega
  refine ⟨w', hrun, ⟨_, own_len ho' hsz, fun q z => ?_, hsz⟩, ht⟩
  by_cases he : q = p
  · subst he
    rw [Go.Maps.atKey_del_same, find_drop_same]
  · rw [Go.Maps.atKey_del_other (fun e => he (kL_inj e)), find_drop L (fun e => he e.symm)]
    exact hr q z
theorem mp_made (w : World) : Mp (w.alloc (.map #[] 0)) w.heap.size [] := ⟨_, World.ownsMap_made w _ _ _, fun p z => rfl, Nat.le_refl _⟩
def roomOf (R : List Rm) (v : ByteArray) : Option Rm := R.find? (fun r => decide (r.vol = v))
def ReadsR (D : DataW Unit) (R : List Rm) : Prop := ∀ v z, D.atKey (kL v) z = match roomOf R v with
  | some r => .lit (.int .i64 r.n)
  | none => z
def Lm (w : World) (bl : Nat) (R : List Rm) : Prop := ∃ D : DataW Unit, w.ownsMap Tryz.prog 9 (plainElem Tryz.prog 3) bl R.length D ∧ ReadsR D R ∧ Go.Maps.size D ≤ R.length
theorem Lm.lt {w : World} {bl : Nat} {R : List Rm} (h : Lm w bl R) : bl < w.heap.size := by
  obtain ⟨D, h, _⟩ := h
  exact h.lt
theorem Lm.kept {w w1 : World} {bl : Nat} {R : List Rm} (h : Lm w bl R) (he : w1.heap[bl]? = w.heap[bl]?) : Lm w1 bl R := by
  obtain ⟨D, h, r⟩ := h
  exact ⟨D, ownsMap_at h he, r⟩
theorem readsR_has {D : DataW Unit} {R : List Rm} (h : ReadsR D R) (v : ByteArray) : Go.Maps.has D (kL v) = (roomOf R v).isSome := by
  cases hf : roomOf R v with
  | none =>
    refine (Go.Maps.has_false_of_atKey fun z => ?_).trans rfl
    rw [h v z, hf]
  | some x =>
    refine (Go.Maps.has_true_of_atKey (y := .lit (.int .i64 x.n)) fun z => ?_).trans rfl
    rw [h v z, hf]
def limV (R : List Rm) (v : ByteArray) : Value := match roomOf R v with
  | some r => .tuple #[.int .i64 r.n, .bool true]
  | none => .tuple #[.int .i64 0, .bool false]
theorem Lm.look {w : World} {bl : Nat} {R : List Rm} (h : Lm w bl R) {v : ByteArray} (hp : v.size ≤ maxLen) :
    (Instr.lookup 62 (.map (some bl)) (.string v) true).run Tryz.prog w = .ok (limV R v) w := by
  obtain ⟨D, ho, hr, _⟩ := h
  obtain ⟨u, ps, hrun, hv⟩ := ho.look_ok strK Tryz.underlying62 (zeroN w) (plainElem_int Tryz.underlying3 (by decide)) (keyP hp)
  rw [hrun, readsR_has hr]
  obtain ⟨c, rfl, hc, hwc⟩ := plainElem_int_inv Tryz.underlying3 hv
  have hc := congrArg Prod.fst hc
  simp only [hr v] at hc
  unfold limV
  cases hf : roomOf R v with
  | none =>
    rw [hf] at hc
    cases hc
    rfl
  | some x =>
    rw [hf] at hc
    cases hc
    rfl
theorem roomOf_set_same : ∀ (R : List Rm) (v : ByteArray) (n : Int), roomOf (setRm R v n) v = some ⟨v, n⟩
  | [], v, n => by unfold setRm roomOf; rw [List.find?_cons_of_pos (by simp)]
  | r :: R, v, n => by
    unfold setRm
    split
    · rename_i h
      unfold roomOf
      rw [List.find?_cons_of_pos (by simp)]
    · rename_i h
      unfold roomOf
      rw [List.find?_cons_of_neg (by simpa using h)]
      exact roomOf_set_same R v n
theorem roomOf_set_other {v u : ByteArray} (hne : u ≠ v) : ∀ (R : List Rm) (n : Int), roomOf (setRm R v n) u = roomOf R u
  | [], n => by unfold setRm roomOf; rw [List.find?_cons_of_neg (by simpa using fun e => hne e.symm)]
  | r :: R, n => by
    unfold setRm
    split
    · rename_i h
      unfold roomOf
      rw [List.find?_cons_of_neg (by simpa using fun e => hne e.symm), List.find?_cons_of_neg (by simpa [h] using fun e => hne e.symm)]
    · rename_i h
      by_cases hu : r.vol = u
      · unfold roomOf
        rw [List.find?_cons_of_pos (by simpa using hu), List.find?_cons_of_pos (by simpa using hu)]
      · unfold roomOf
        rw [List.find?_cons_of_neg (by simpa using hu), List.find?_cons_of_neg (by simpa using hu)]
        exact roomOf_set_other hne R n
theorem len_set (v : ByteArray) (n : Int) : ∀ (R : List Rm), R.length + (if (roomOf R v).isSome then 0 else 1) ≤ (setRm R v n).length
  | [] => by unfold setRm; simp [roomOf]
  | r :: R => by
    by_cases h : r.vol = v
    · have e1 : (roomOf (r :: R) v).isSome = true := by unfold roomOf; rw [List.find?_cons_of_pos (by simpa using h)]; rfl
      have e2 : setRm (r :: R) v n = ⟨v, n⟩ :: R := by unfold setRm; rw [if_pos h]
      rw [e1, e2]
      exact Nat.le_refl _
    · have e : roomOf (r :: R) v = roomOf R v := by unfold roomOf; rw [List.find?_cons_of_neg (by simpa using h)]
      have e2 : setRm (r :: R) v n = r :: setRm R v n := by rw [setRm, if_neg h]
      have := len_set v n R
      rw [e, e2]
      simp only [List.length_cons]
      omega
theorem Lm.store {w : World} {bl : Nat} {R : List Rm} (h : Lm w bl R) {v : ByteArray} (hp : v.size ≤ maxLen) (hn : R.length < maxLen) {n : Int} (hw : (Lit.int .i64 n).wf = true) :
    ∃ w', (Instr.mapUpdate 62 (.map (some bl)) (.string v) (.int .i64 n)).run Tryz.prog w = .ok () w' ∧ Lm w' bl (setRm R v n) ∧ w.mapTurned w' bl := by
  obtain ⟨D, ho, hr, hs⟩ := h
  obtain ⟨w', hrun, ho', ht⟩ := ho.store strK Tryz.underlying62 hn (keyP hp) (plainElem_int Tryz.underlying3 hw)
  have hsz : Go.Maps.size (D.put (kL v) (.lit (.int .i64 n))) ≤ (setRm R v n).length := by
    have h1 := Go.Maps.size_put (ho.tidy strK) (k := kL v) (.lit (.int .i64 n))
    rw [readsR_has hr] at h1
    have h2 := len_set v n R
    rw [h1]
    split at h2 <;> split <;> first | omega | simp_all
  refine ⟨w', hrun, ⟨_, own_len ho' hsz, fun p z => ?_, hsz⟩, ht⟩
  by_cases he : p = v
  · subst he
    rw [Go.Maps.atKey_put_same ho.isMap (kL_key _), roomOf_set_same]
  · rw [Go.Maps.atKey_put_other (fun e => he (kL_inj e)), roomOf_set_other he]
    exact hr p z
theorem lm_made (w : World) : Lm (w.alloc (.map #[] 0)) w.heap.size [] := ⟨_, World.ownsMap_made w _ _ _, fun p z => rfl, Nat.le_refl _⟩
end Go.Proofs.YtdpnmdnfnplcfaaGreat.Dk

namespace Go.Proofs.YtdpnmdnfnplcfaaGreat.Dk
open Go.RowKit Tx Pm
set_option linter.unusedVariables false
def Ft (b bi bl : Nat) (i : Nat) : Prop := i = b ∨ i = bi ∨ i = bl
structure Ia (b bi bl : Nat) (l : Int) (w : World) (s : St) : Prop where
  blk : w.heap[b]? = some (.cells #[.map (some bi), .map (some bl), .int .i64 l, .int .i64 s.steps, .int .i64 s.stamps, .bool s.down] 64 (0, 0))
  items : Mp w bi s.L
  limits : Lm w bl s.rooms
  ne : bi ≠ bl
  left : s.down = true ∨ l = s.armed
  low : -1 ≤ l ∧ l ≤ 9223372036854775807
theorem Ia.lt {b bi bl : Nat} {l : Int} {w : World} {s : St} (h : Ia b bi bl l w s) : ∀ i, Ft b bi bl i → i < w.heap.size := by
  rintro i (rfl | rfl | rfl)
  · exact (Array.getElem?_eq_some_iff.1 h.blk).1
  · exact h.items.lt
  · exact h.limits.lt
theorem map_block {H : Type} {w : World} {P : Program} {k : TypeId} {R : Value → Option (DataW H × List MemPlace)} {b n : Nat} {D : DataW H} (h : w.ownsMap P k R b n D) {cs : Array Value} {T : TypeId} {fz : Nat × Nat} : w.heap[b]? ≠ some (.cells cs T fz) := by
  obtain ⟨es, clock, hb, _⟩ := h
  rw [hb]
  intro e
  cases e
theorem Ia.nb {b bi bl : Nat} {l : Int} {w : World} {s : St} (h : Ia b bi bl l w s) : b ≠ bi ∧ b ≠ bl := by
  obtain ⟨D, hD, _⟩ := h.items
  obtain ⟨E, hE, _⟩ := h.limits
  exact ⟨fun e => map_block hD (e ▸ h.blk), fun e => map_block hE (e ▸ h.blk)⟩
theorem Ia.kept {b bi bl : Nat} {l : Int} {w w1 : World} {s : St} (h : Ia b bi bl l w s) (hk : ∀ i, Ft b bi bl i → w1.heap[i]? = w.heap[i]?) : Ia b bi bl l w1 s :=
  ⟨(hk b (.inl rfl)).trans h.blk, h.items.kept (hk bi (.inr (.inl rfl))), h.limits.kept (hk bl (.inr (.inr rfl))), h.ne, h.left, h.low⟩
theorem Ia.below {b bi bl : Nat} {l : Int} {w w1 : World} {s : St} (h : Ia b bi bl l w s) (hb : Below w.heap.size w w1) : Ia b bi bl l w1 s := h.kept (fun i hi => hb.block i (h.lt i hi))
theorem Ia.chg {b bi bl : Nat} {l : Int} {w w1 : World} {s : St} {F : Nat → Prop} (h : Ia b bi bl l w s) (hc : Chg F w w1) (hd : ∀ i, Ft b bi bl i → ¬ F i) : Ia b bi bl l w1 s := h.kept (fun i hi => hc.block i (h.lt i hi) (hd i hi))
theorem Ia.cell {b bi bl : Nat} {l : Int} {w : World} {s : St} (h : Ia b bi bl l w s) : w.cell? ⟨b, 0, none⟩ = some (.map (some bi)) ∧ w.cell? ⟨b, 1, none⟩ = some (.map (some bl)) ∧ w.cell? ⟨b, 2, none⟩ = some (.int .i64 l) ∧
    w.cell? ⟨b, 3, none⟩ = some (.int .i64 s.steps) ∧ w.cell? ⟨b, 4, none⟩ = some (.int .i64 s.stamps) ∧ w.cell? ⟨b, 5, none⟩ = some (.bool s.down) := by
  have hb := h.blk
  refine ⟨?_, ?_, ?_, ?_, ?_, ?_⟩ <;> · unfold World.cell?; rw [hb]; rfl
theorem Ia.warm {b bi bl : Nat} {l : Int} {w : World} {s : St} (h : Ia b bi bl l w s) (k : Nat) : w.frozen? ⟨b, k, none⟩ = false := by
  unfold World.frozen?
  rw [h.blk]
  simp
theorem Ia.poke {b bi bl : Nat} {l l1 : Int} {w w1 : World} {s s1 : St} (h : Ia b bi bl l w s) (hc : Chg (· = b) w w1)
    (hb : w1.heap[b]? = some (.cells #[.map (some bi), .map (some bl), .int .i64 l1, .int .i64 s1.steps, .int .i64 s1.stamps, .bool s1.down] 64 (0, 0)))
    (hL : s1.L = s.L) (hR : s1.rooms = s.rooms) (hl : s1.down = true ∨ l1 = s1.armed) (hlo : -1 ≤ l1 ∧ l1 ≤ 9223372036854775807) : Ia b bi bl l1 w1 s1 := by
  obtain ⟨n1, n2⟩ := h.nb
  exact ⟨hb, by rw [hL]; exact h.items.kept (hc.block bi h.items.lt (fun e => n1 e.symm)), by rw [hR]; exact h.limits.kept (hc.block bl h.limits.lt (fun e => n2 e.symm)), h.ne, hl, hlo⟩
theorem Ia.turned {b bi bl : Nat} {l : Int} {w w1 : World} {s : St} {L : List It} (h : Ia b bi bl l w s) (hm : Mp w1 bi L) (ht : w.mapTurned w1 bi) : Ia b bi bl l w1 { s with L := L } := by
  obtain ⟨n1, n2⟩ := h.nb
  exact ⟨(turned_block ht n1).trans h.blk, hm, h.limits.kept (turned_block ht (fun e => h.ne e.symm)), h.ne, h.left, h.low⟩
def Ip (b bi bl : Nat) (w : World) (s : St) (w' : World) : Prop := ∃ l, Ia b bi bl l w' s ∧ Chg (Ft b bi bl) w w'
theorem ft_b {b bi bl : Nat} : ∀ i, i = b → Ft b bi bl i := fun i hi => .inl hi
theorem ft_i {b bi bl : Nat} : ∀ i, i = bi → Ft b bi bl i := fun i hi => .inr (.inl hi)
theorem Ip.of {b bi bl : Nat} {l : Int} {w w1 : World} {s : St} (h : Ia b bi bl l w1 s) (hb : Below w.heap.size w w1) : Ip b bi bl w s w1 := ⟨l, h, Chg.of_below hb⟩
theorem Ip.after {b bi bl : Nat} {w w1 w2 : World} {s : St} (hb : Below w.heap.size w w1) (h : Ip b bi bl w1 s w2) : Ip b bi bl w s w2 := by
  obtain ⟨l, h1, h2⟩ := h
  exact ⟨l, h1, (Chg.of_below hb).then h2⟩
theorem kindK (L : List It) (p : ByteArray) {x : It} (h : find L p = some x) : kOf x = (kind L p : Nat) := by
  unfold kind kOf
  rw [h]
  unfold kindOf
  simp only
  split <;> rfl
theorem lookV_is (L : List It) (p : ByteArray) : lookV L p = .agg #[.int .i64 (kind L p : Nat), .string (old L p).data, .string (old L p).kept, .int .i64 (stOf (old L p)), .int .i64 (old L p).stamp] := by
  unfold lookV
  cases h : find L p with
  | none =>
    have h1 : kind L p = 0 := by unfold kind; rw [h]; rfl
    have h2 : old L p = mk p := by unfold old; rw [h]; rfl
    rw [h1, h2]
    rfl
  | some x =>
    have h2 : old L p = x := by unfold old; rw [h]; rfl
    rw [h2, ← kindK L p h]
    rfl
theorem Ia.look {b bi bl : Nat} {l : Int} {w : World} {s : St} (h : Ia b bi bl l w s) {p : ByteArray} (hp : p.size ≤ maxLen) : (Instr.lookup 61 (.map (some bi)) (.string p) false).run Tryz.prog w =
    .ok (.agg #[.int .i64 (kind s.L p : Nat), .string (old s.L p).data, .string (old s.L p).kept, .int .i64 (stOf (old s.L p)), .int .i64 (old s.L p).stamp]) w := by
  rw [← lookV_is]
  exact h.items.look hp
theorem maxLen_of {n : Nat} (h : n ≤ 8000000000000) : n ≤ maxLen := by unfold maxLen; omega
structure Good (s : St) : Prop where
  rises : Rises s.L
  dirs : ∀ x ∈ s.L, x.dir = true → x.data = ⟨#[]⟩ ∧ x.kept = ⟨#[]⟩ ∧ x.loose = false ∧ x.anew = false ∧ x.stamp = 0
  calm : ∀ x ∈ s.L, x.loose = false → x.anew = false
  vols : s.rooms.Pairwise (fun r r' => r.vol ≠ r'.vol)
theorem good_new : Good newS := ⟨List.Pairwise.nil, (fun x hx => by cases hx), (fun x hx => by cases hx), List.Pairwise.nil⟩
theorem good_of {s s' : St} (h : Good s) (hL : s'.L = s.L) (hR : s'.rooms = s.rooms) : Good s' := ⟨by rw [hL]; exact h.rises, by rw [hL]; exact h.dirs, by rw [hL]; exact h.calm, by rw [hR]; exact h.vols⟩
theorem good_done {s : St} (h : Good s) : Good (done s).2 := good_of h (done_L s) (done_rooms s)
theorem good_ins {s s' : St} {l : List It} {x : It} (h : Good s) (hl : Rises l ∧ ∀ y ∈ l, y ∈ s.L) (hL : s'.L = ins l x) (hd : x.dir = true → x.data = ⟨#[]⟩ ∧ x.kept = ⟨#[]⟩ ∧ x.loose = false ∧ x.anew = false ∧ x.stamp = 0)
    (hc : x.loose = false → x.anew = false) (hR : s'.rooms = s.rooms) : Good s' := by
  have hm : ∀ y ∈ s'.L, y = x ∨ y ∈ s.L := fun y hy => by
    rw [hL] at hy
    exact (mem_ins hy).imp id (fun hh => hl.2 y hh)
  refine ⟨by rw [hL]; exact rises_ins hl.1, fun y hy => ?_, fun y hy => ?_, by rw [hR]; exact h.vols⟩
  · rcases hm y hy with rfl | hy
    · exact hd
    · exact h.dirs y hy
  · rcases hm y hy with rfl | hy
    · exact hc
    · exact h.calm y hy
theorem good_drop {s s' : St} {p : ByteArray} (h : Good s) (hL : s'.L = drop s.L p) (hR : s'.rooms = s.rooms) : Good s' := by
  obtain ⟨d1, _⟩ := drop_in s.L p
  exact ⟨by rw [hL]; exact rises_drop p h.rises, fun y hy => h.dirs y (d1 y (by rw [← hL]; exact hy)), fun y hy => h.calm y (d1 y (by rw [← hL]; exact hy)), by rw [hR]; exact h.vols⟩
theorem old_file {s : St} {p : ByteArray} (h : there s p = 0) : (old s.L p).dir = false ∧ (old s.L p) ∈ s.L ∧ (old s.L p).path = p := by
  obtain ⟨k, x, _, hk, hf, _, hp, hd⟩ := there_file h
  have e : old s.L p = x := by rw [old, hf]; rfl
  rw [e]
  exact ⟨hd, List.mem_of_getElem? hk, hp⟩
theorem old_dir {l : List It} {p : ByteArray} (h : kind l p ≠ 1) : (old l p).dir = false := by
  unfold kind at h
  unfold old
  cases hf : find l p with
  | none => rfl
  | some x =>
    rw [hf] at h
    unfold kindOf at h
    cases hd : x.dir with
    | false => exact hd
    | true => simp [hd] at h
theorem good_mkdir {s : St} {p : ByteArray} (h : Good s) : Good (mkdirS s p).2 := by
  unfold mkdirS
  repeat' split
  all_goals first
    | exact h
    | exact good_done h
    | exact good_ins (good_done h) ⟨(good_done h).rises, fun _ hy => hy⟩ rfl (fun _ => ⟨rfl, rfl, rfl, rfl, rfl⟩) (fun _ => rfl) rfl
theorem good_put {s : St} {l : List It} {x : It} (h : Good s) (hl : Rises l ∧ ∀ y ∈ l, y ∈ s.L) (hd : x.dir = false) (hc : x.loose = false → x.anew = false) : Good (putS { s with L := l } x) :=
  good_ins h hl (x := stamped { s with L := l } x) rfl (fun e => by have e : x.dir = true := e; rw [hd] at e; cases e) hc rfl
theorem good_write {s : St} {p d : ByteArray} (h : Good s) : Good (writeS s p d).2 := by
  unfold writeS
  split
  · exact h
  split
  · exact h
  split
  · exact h
  split
  · exact h
  split
  · exact good_done h
  · rename_i h3 _ _
    exact good_put (l := (done s).2.L) (good_done h) ⟨(good_done h).rises, fun _ hy => hy⟩ (old_dir h3) (fun e => by cases e)
theorem calm_old {s : St} (h : Good s) (p : ByteArray) : (old s.L p).loose = false → (old s.L p).anew = false := by
  rcases old_cases s.L p with e | ⟨hm, _⟩
  · rw [e]; exact fun _ => rfl
  · exact h.calm _ hm
theorem there_dir {s : St} {p : ByteArray} (h : ¬ there s p ≠ 0) : (old s.L p).dir = false := (old_file (by omega)).1
theorem good_append {s : St} {p d : ByteArray} (h : Good s) : Good (appendS s p d).2 := by
  unfold appendS
  split
  · exact h
  split
  · exact h
  split
  · exact good_done h
  · rename_i h1 _ _
    exact good_put (l := (done s).2.L) (good_done h) ⟨(good_done h).rises, fun _ hy => hy⟩ (there_dir h1) (fun e => by cases e)
theorem good_sync {s : St} {p : ByteArray} (h : Good s) : Good (syncS s p).2 := by
  unfold syncS
  split
  · exact h
  split
  · exact good_done h
  · rename_i h1 _
    exact good_ins (good_done h) ⟨(good_done h).rises, fun _ hy => hy⟩ rfl (fun e => by have := there_dir h1; rw [show (old s.L p).dir = true from e] at this; cases this) (fun _ => rfl) rfl
theorem good_rename {s : St} {f t : ByteArray} (h : Good s) : Good (renameS s f t).2 := by
  unfold renameS
  split
  · exact h
  split
  · exact h
  split
  · exact h
  split
  · exact h
  split
  · exact h
  split
  · exact good_done h
  · rename_i h4 _ _
    have h1 : kind s.L f ≠ 1 := fun e => h4 (.inl e)
    obtain ⟨d1, _⟩ := drop_in (done s).2.L f
    exact good_put (l := drop (done s).2.L f) (good_done h) ⟨rises_drop f (good_done h).rises, d1⟩ (old_dir h1) (calm_old h f)
theorem good_remove {s : St} {p : ByteArray} (h : Good s) : Good (removeS s p).2 := by
  unfold removeS
  split
  · exact h
  split
  · exact h
  split
  · exact h
  split
  · exact good_done h
  · exact good_drop (good_done h) rfl rfl
theorem good_rot {s : St} {p : ByteArray} {bit : Int} (h : Good s) : Good (rotS s p bit).2 := by
  unfold rotS
  split
  · exact h
  · rename_i h1
    exact good_put (l := s.L) h ⟨h.rises, fun _ hy => hy⟩ (there_dir h1) (calm_old h p)
theorem restartL_good (loss : Nat) : ∀ (l : List It) (n st : Nat), (∀ x ∈ l, x.dir = true → x.data = ⟨#[]⟩ ∧ x.kept = ⟨#[]⟩ ∧ x.loose = false ∧ x.anew = false ∧ x.stamp = 0) → (∀ x ∈ l, x.loose = false → x.anew = false) →
    (restartL loss l n st).1.map (·.path) = l.map (·.path) ∧ ∀ x ∈ (restartL loss l n st).1, (x.dir = true → x.data = ⟨#[]⟩ ∧ x.kept = ⟨#[]⟩ ∧ x.loose = false ∧ x.anew = false ∧ x.stamp = 0) ∧ (x.loose = false → x.anew = false)
  | [], n, st, _, _ => ⟨rfl, fun x hx => by cases hx⟩
  | y :: l, n, st, h1, h2 => by
    have a1 := fun x hx => h1 x (List.mem_cons_of_mem y hx)
    have a2 := fun x hx => h2 x (List.mem_cons_of_mem y hx)
    rw [restartL]
    split
    · rename_i hl
      obtain ⟨i1, i2⟩ := restartL_good loss l (n + 1) (st + 1) a1 a2
      refine ⟨congrArg (y.path :: ·) i1, fun x hx => ?_⟩
      rcases List.mem_cons.1 hx with rfl | hx
      · refine ⟨fun hd => ?_, fun _ => rfl⟩
        have := (h1 y List.mem_cons_self hd).2.2.1
        rw [hl] at this
        cases this
      · exact i2 x hx
    · obtain ⟨i1, i2⟩ := restartL_good loss l n st a1 a2
      refine ⟨congrArg (y.path :: ·) i1, fun x hx => ?_⟩
      rcases List.mem_cons.1 hx with rfl | hx
      · exact ⟨h1 x List.mem_cons_self, h2 x List.mem_cons_self⟩
      · exact i2 x hx
theorem good_restart {s : St} {loss : Int} (h : Good s) : Good (restartS s loss) := by
  obtain ⟨h1, h2⟩ := restartL_good (u64 loss) s.L 0 s.stamps h.dirs h.calm
  exact ⟨rises_paths h1.symm h.rises, fun x hx => (h2 x hx).1, fun x hx => (h2 x hx).2, h.vols⟩
def ImpAt (b : Nat) (w : World) (F : Nat → Prop) (s : St) : Prop := ∃ bi bl l, Ia b bi bl l w s ∧ Good s ∧ ∀ i, F i ↔ Ft b bi bl i
theorem imp_kind (b : Nat) : Kind (ImpAt b) where
  lt := fun ⟨bi, bl, l, h, _, hF⟩ i hi => h.lt i ((hF i).1 hi)
  kept := fun ⟨bi, bl, l, h, hg, hF⟩ hk => ⟨bi, bl, l, h.kept (fun i hi => hk i ((hF i).2 hi)), hg, hF⟩
theorem Ip.left {b bi bl : Nat} {w w' : World} {F : Nat → Prop} {s : St} (h : Ip b bi bl w s w') (hg : Good s) (hF : ∀ i, F i ↔ Ft b bi bl i) : Left (ImpAt b) w F s w' := by
  obtain ⟨l, h1, h2⟩ := h
  exact ⟨F, ⟨bi, bl, l, h1, hg, hF⟩, h2.mono (fun i hi => (hF i).2 hi), fun g hg => .inl hg⟩
end Go.Proofs.YtdpnmdnfnplcfaaGreat.Dk

namespace Go.Proofs.YtdpnmdnfnplcfaaGreat.Pl
open Go.RowKit Pm Tx
set_option linter.unusedVariables false
def st : ByteArray := ⟨#[47]⟩
set_option maxRecDepth 100000 in
set_option maxHeartbeats 1000000 in
theorem lastByte_any (s : ByteArray) (w : World) (hs : s.size ≤ 562949953421312) :
    Calls Tryz.prog 131 #[.string s, .int .u8 47] w fun e w' => e = .returned (.int .i64 ((lastN s.data.toList : Nat) - 1)) ∧ w = w' := by
  go_enter Tryz.func131, Tryz.ntmps131
  go_wp2
  go_loop [5] (fun vi => ∃ k : Nat, k ≤ s.size ∧ vi = .int .i64 ((k : Int) - 1) ∧ Hid (lastN s.data.toList = lastN (s.data.toList.take k))) (fun vi => ((intOf vi) + 1).toNat)
  case atStart => exact ⟨s.size, Nat.le_refl _, by first | rfl | go_num | (congr 1; omega), by rw [Pr.take_all]; rfl⟩
  case round =>
    obtain ⟨k, hk, rfl, hh⟩ := hrel
    rcases Nat.eq_zero_or_pos k with rfl | hpos
    · have h0 := Lib.hid hh.out
      clear hh
      go_wp2
      go_ret
      rw [h0.out]
      exact ⟨rfl, rfl⟩
    · obtain ⟨j, rfl⟩ : ∃ j, k = j + 1 := ⟨k - 1, by omega⟩
      have hlt : j < s.size := by omega
      have hn := lastN_snoc (s.data.toList.take j) s[j]
      rw [← Pr.take_at s j hlt, List.length_take, len_l, Nat.min_eq_left (by omega), ← hh.out] at hn
      have ej : ((j + 1 : Nat) : Int) - 1 = (j : Int) := by omega
      rw [ej]
      by_cases hc : s[j].toNat = 47
      · rw [if_pos (UInt8.toNat_inj.1 hc)] at hn
        have HN := Lib.hid hn
        have e : ((s[j].toNat : Int) == 47) = true := by simp [hc]
        clear hn hc hh
        go_wp2
        go_ret
        rw [HN.out]
        exact ⟨by rw [ej]; rfl, rfl⟩
      · rw [if_neg (fun e => hc (by rw [e]; rfl))] at hn
        have HN := Lib.hid hn
        have e : ((s[j].toNat : Int) == 47) = false := beq_eq_false_iff_ne.2 (by omega)
        clear hn hc hh
        go_wp2
        go_round
        case rel => exact ⟨j, by omega, rfl, HN.out⟩
        case measure => simp [intOf]
set_option maxRecDepth 100000 in
set_option maxHeartbeats 1000000 in
theorem last_any (s : ByteArray) (w : World) (hs : s.size ≤ 562949953421312) :
    Calls Tryz.prog 116 #[.string s, .string ⟨#[47]⟩] w fun e w' => e = .returned (.int .i64 ((lastN s.data.toList : Nat) - 1)) ∧ w = w' := by
  go_enter Tryz.func116, Tryz.ntmps116
  go_wp2_with (go_at_call 131; refine (lastByte_any _ _ hs).mono ?_; rintro e w' ⟨rfl, rfl⟩)
  go_ret
  exact ⟨rfl, rfl⟩
set_option maxRecDepth 100000 in
set_option maxHeartbeats 1000000 in
theorem count_any (s : ByteArray) (w : World) :
    Calls Tryz.prog 133 #[.string s, .string ⟨#[47]⟩] w fun e w' => e = .returned (.int .i64 (s.data.toList.count 47 : Nat)) ∧ w = w' := by
  go_enter Tryz.func133, Tryz.ntmps133
  go_wp2
  rw [run_callFunc_extern Tryz.func146 (by kernel_rfl) (by kernel_rfl) (by kernel_rfl) (e := Extern.BytealgCount.count) (by kernel_rfl), Lib.run_countString]
  simp only [Result.andThen]
  rw [Oper.upon_value]
  go_wp2
  go_ret
  exact ⟨rfl, rfl⟩
set_option maxRecDepth 100000 in
set_option maxHeartbeats 1000000 in
theorem indexByte_any (s : ByteArray) (w : World) :
    Calls Tryz.prog 140 #[.string s, .int .u8 47] w fun e w' => e = .returned (.int .i64 (Lib.indexByte s.data.toList 47)) ∧ w = w' := by
  go_enter Tryz.func140, Tryz.ntmps140
  go_wp2
  rw [run_callFunc_extern Tryz.func149 (by kernel_rfl) (by kernel_rfl) (by kernel_rfl) (e := Extern.BytealgIndexByte.indexByte) (by kernel_rfl), Lib.run_indexByteString]
  simp only [Result.andThen]
  rw [Oper.upon_value]
  go_wp2
  go_ret
  exact ⟨rfl, rfl⟩
set_option maxRecDepth 100000 in
set_option maxHeartbeats 1000000 in
theorem index_any (s : ByteArray) (w : World) :
    Calls Tryz.prog 130 #[.string s, .string ⟨#[47]⟩] w fun e w' => e = .returned (.int .i64 (Lib.indexByte s.data.toList 47)) ∧ w = w' := by
  go_enter Tryz.func130, Tryz.ntmps130
  go_wp2_with (go_at_call 140; refine (indexByte_any _ _).mono ?_; rintro e w' ⟨rfl, rfl⟩)
  · have h : ([47] == s.toList) = true := by assumption
    go_ret
    refine ⟨?_, rfl⟩
    have e : s.data.toList = [47] := by rw [← Lib.toList_data]; exact (beq_iff_eq.1 h).symm
    rw [e]
    simp [Lib.indexByte]
  · go_ret
    exact ⟨rfl, rfl⟩
def hasSt (l : List UInt8) : Bool := l.contains 47
def cutA : List UInt8 → List UInt8
  | [] => []
  | c :: r => if c = 47 then [] else c :: cutA r
def cutB : List UInt8 → List UInt8
  | [] => []
  | c :: r => if c = 47 then r else cutB r
theorem cut_in (l : List UInt8) (i : Nat) (h : Lib.indexByte l 47 = i) : i < l.length ∧ cutA l = l.take i ∧ cutB l = l.drop (i + 1) ∧ 47 ∈ l := by
  induction l generalizing i with
  | nil => simp [Lib.indexByte] at h
  | cons c r ih =>
    rw [Lib.indexByte] at h
    by_cases hc : c = 47
    · rw [if_pos (by simp [hc])] at h
      obtain rfl : i = 0 := by omega
      simp [cutA, cutB, hc]
    · rw [if_neg (by simpa using hc)] at h
      have hge := Lib.indexByte_ge r 47
      by_cases hn : Lib.indexByte r 47 = -1
      · rw [if_pos (by simp [hn])] at h
        omega
      · rw [if_neg (by simp [hn])] at h
        obtain ⟨j, rfl⟩ : ∃ j, i = j + 1 := ⟨i - 1, by omega⟩
        obtain ⟨h1, h2, h3, h4⟩ := ih j (by push_cast at h; omega)
        simp [cutA, cutB, hc, h2, h3, h4]
        omega
theorem cut_out (l : List UInt8) (h : Lib.indexByte l 47 = -1) : cutA l = l ∧ cutB l = [] ∧ 47 ∉ l := by
  induction l with
  | nil => simp [cutA, cutB]
  | cons c r ih =>
    rw [Lib.indexByte] at h
    by_cases hc : c = 47
    · rw [if_pos (by simp [hc])] at h
      omega
    · rw [if_neg (by simpa using hc)] at h
      have hge := Lib.indexByte_ge r 47
      by_cases hn : Lib.indexByte r 47 = -1
      · obtain ⟨h1, h2, h3⟩ := ih hn
        simp [cutA, cutB, hc, h1, h2, h3, Ne.symm hc]
      · rw [if_neg (by simp [hn])] at h
        omega
set_option maxRecDepth 100000 in
set_option maxHeartbeats 1000000 in
theorem cutLite_any (s : ByteArray) (w : World) (hs : s.size ≤ 562949953421312) :
    Calls Tryz.prog 115 #[.string s, .string ⟨#[47]⟩] w fun e w' => e = .returned (.tuple #[.string (tb (cutA s.data.toList)), .string (tb (cutB s.data.toList)), .bool (hasSt s.data.toList)]) ∧ ∃ n, w' = w.drewN n := by
  have hge := Lib.indexByte_ge s.data.toList 47
  by_cases hm : Lib.indexByte s.data.toList 47 = -1
  · obtain ⟨e1, e2, e3⟩ := cut_out _ hm
    have e4 : hasSt s.data.toList = false := by simpa [hasSt] using e3
    rw [e1, e2, e4, tb_of]
    clear e1 e2 e3 e4
    go_enter Tryz.func115, Tryz.ntmps115
    go_wp2_with (go_at_call 130; refine (index_any _ _).mono ?_; rintro e w' ⟨rfl, rfl⟩; rw [hm])
    go_ret3
    exact ⟨rfl, 0, rfl⟩
  · obtain ⟨i, hi⟩ : ∃ i : Nat, Lib.indexByte s.data.toList 47 = i := ⟨(Lib.indexByte s.data.toList 47).toNat, by omega⟩
    obtain ⟨hlt, e1, e2, e3⟩ := cut_in _ i hi
    rw [len_l] at hlt
    have e4 : hasSt s.data.toList = true := by simpa [hasSt] using e3
    have x1 : tb (cutA s.data.toList) = s.extract 0 i := by
      apply ByteArray.ext
      apply Array.toList_inj.1
      rw [ByteArray.data_extract, Array.toList_extract, List.extract_eq_take_drop, e1]
      simp [tb]
    have x2 : tb (cutB s.data.toList) = s.extract (i + 1) s.size := by
      apply ByteArray.ext
      apply Array.toList_inj.1
      rw [ByteArray.data_extract, Array.toList_extract, List.extract_eq_take_drop, e2]
      rw [List.take_of_length_le (by rw [List.length_drop, len_l]; omega)]
      rfl
    rw [x1, x2, e4]
    have c1 : (0 : Int) ≤ ↑i := by omega
    have c2 : (↑i : Int) ≤ ↑s.size := by omega
    have c3 : (0 : Int) ≤ ↑i + 1 := by omega
    have c4 : (↑i + 1 : Int) ≤ ↑s.size := by omega
    clear e1 e2 e3 e4 x1 x2 hge hm
    go_enter Tryz.func115, Tryz.ntmps115
    go_wp2_with (go_at_call 130; refine (index_any _ _).mono ?_; rintro e w' ⟨rfl, rfl⟩; rw [hi])
    go_region
    go_wp2
    go_ret3
    exact ⟨rfl, 1, rfl⟩
set_option maxRecDepth 100000 in
set_option maxHeartbeats 1000000 in
theorem cut_any (s : ByteArray) (w : World) (hs : s.size ≤ 562949953421312) :
    Calls Tryz.prog 102 #[.string s, .string ⟨#[47]⟩] w fun e w' => e = .returned (.tuple #[.string (tb (cutA s.data.toList)), .string (tb (cutB s.data.toList)), .bool (hasSt s.data.toList)]) ∧ ∃ n, w' = w.drewN n := by
  go_enter Tryz.func102, Tryz.ntmps102
  go_wp2_with (go_at_call 115; refine (cutLite_any _ _ hs).mono ?_; rintro e w' ⟨rfl, n, rfl⟩)
  go_ret3
  exact ⟨rfl, n, rfl⟩
end Go.Proofs.YtdpnmdnfnplcfaaGreat.Pl

namespace Go.Proofs.YtdpnmdnfnplcfaaGreat.Pr
open Go.RowKit Pm Tx Pl
set_option linter.unusedVariables false
theorem count_spl (l : List UInt8) : l.count 47 + 1 = (spl l).length := by
  induction l with
  | nil => rfl
  | cons c r ih =>
    rw [spl]
    by_cases hc : c = 47
    · rw [if_pos hc, List.length_cons, ← ih, hc, List.count_cons_self]
    · rw [if_neg hc, List.count_cons_of_ne hc]
      cases hs : spl r with
      | nil => exact absurd hs (spl_ne r)
      | cons x xs => rw [ih, hs]; rfl
theorem spl_cut (l : List UInt8) : spl l = cutA l :: (if hasSt l then spl (cutB l) else []) := by
  induction l with
  | nil => rfl
  | cons c r ih =>
    rw [spl]
    by_cases hc : c = 47
    · simp [hc, cutA, cutB, hasSt]
    · have e : hasSt (c :: r) = hasSt r := by simp [hasSt, Ne.symm hc]
      rw [if_neg hc, ih, cutA, if_neg hc, cutB, if_neg hc, e]
theorem cutB_le (l : List UInt8) : (cutB l).length ≤ l.length := by
  induction l with
  | nil => exact Nat.le_refl _
  | cons c r ih =>
    rw [cutB]
    split
    · simp
    · simp; omega
theorem cutB_lt (l : List UInt8) (h : hasSt l = true) : (cutB l).length < l.length := by
  induction l with
  | nil => simp [hasSt] at h
  | cons c r ih =>
    rw [cutB]
    by_cases hc : c = 47
    · rw [if_pos hc]; simp
    · rw [if_neg hc]
      have := ih (by simpa [hasSt, Ne.symm hc] using h)
      simp; omega
theorem cutA_le (l : List UInt8) : (cutA l).length ≤ l.length := by
  induction l with
  | nil => exact Nat.le_refl _
  | cons c r ih =>
    rw [cutA]
    split
    · simp
    · simp; omega
def okR (c : Nat) : Bool := (97 ≤ c && c ≤ 122) || (48 ≤ c && c ≤ 57) || c == 95
set_option maxRecDepth 100000 in
set_option maxHeartbeats 1000000 in
theorem inName_any (X : Nat) (w : World) (hX : X ≤ 2147483647) :
    Calls Tryz.prog 109 #[.int .i32 X] w fun e w' => e = .returned (.bool (okR X)) ∧ w = w' := by
  rcases show (X < 48) ∨ (57 < X ∧ X < 95) ∨ X = 96 ∨ 122 < X ∨ (48 ≤ X ∧ X ≤ 57) ∨ X = 95 ∨ (97 ≤ X ∧ X ≤ 122) by omega with h | h | h | h | h | h | h
  · have hb : okR X = false := by simp [okR]; omega
    have e : ((X : Int) == 95) = false := beq_eq_false_iff_ne.2 (by omega)
    rw [hb]
    go_enter Tryz.func109, Tryz.ntmps109
    go_wp2
    go_ret
    exact ⟨rfl, rfl⟩
  · have hb : okR X = false := by simp [okR]; omega
    have e : ((X : Int) == 95) = false := beq_eq_false_iff_ne.2 (by omega)
    have d57 : decide ((X : Int) ≤ 57) = false := decide_eq_false (by omega)
    rw [hb]
    go_enter Tryz.func109, Tryz.ntmps109
    go_wp2
    go_ret
    exact ⟨rfl, rfl⟩
  · have hb : okR X = false := by simp [okR]; omega
    have e : ((X : Int) == 95) = false := beq_eq_false_iff_ne.2 (by omega)
    have d57 : decide ((X : Int) ≤ 57) = false := decide_eq_false (by omega)
    rw [hb]
    go_enter Tryz.func109, Tryz.ntmps109
    go_wp2
    go_ret
    exact ⟨rfl, rfl⟩
  · have hb : okR X = false := by simp [okR]; omega
    have e : ((X : Int) == 95) = false := beq_eq_false_iff_ne.2 (by omega)
    have d57 : decide ((X : Int) ≤ 57) = false := decide_eq_false (by omega)
    have d122 : decide ((X : Int) ≤ 122) = false := decide_eq_false (by omega)
    rw [hb]
    go_enter Tryz.func109, Tryz.ntmps109
    go_wp2
    go_ret
    exact ⟨rfl, rfl⟩
  · have hb : okR X = true := by simp [okR]; omega
    have e : ((X : Int) == 95) = false := beq_eq_false_iff_ne.2 (by omega)
    rw [hb]
    go_enter Tryz.func109, Tryz.ntmps109
    go_wp2
    go_ret
    exact ⟨rfl, rfl⟩
  · have hb : okR X = true := by simp [okR]; omega
    have e : ((X : Int) == 95) = true := by simp [h]
    rw [hb]
    go_enter Tryz.func109, Tryz.ntmps109
    go_wp2
    go_ret
    exact ⟨rfl, rfl⟩
  · have hb : okR X = true := by simp [okR]; omega
    have e : ((X : Int) == 95) = false := beq_eq_false_iff_ne.2 (by omega)
    rw [hb]
    go_enter Tryz.func109, Tryz.ntmps109
    go_wp2
    go_ret
    exact ⟨rfl, rfl⟩
theorem below_iter (w : World) (s : ByteArray) (pos : Nat) : Below w.heap.size w (w.iter s pos) := by
  have := (Below.refl w.heap.size w).alloc (Nat.le_refl _) (.stringIter s pos)
  exact this
set_option maxRecDepth 100000 in
set_option maxHeartbeats 1000000 in
theorem pName_any (s : ByteArray) (w : World) (hs : s.size ≤ 562949953421312) :
    Calls Tryz.prog 92 #[.string s] w fun e w' => e = .returned (.bool (isName s.data.toList)) ∧ Below w.heap.size w w' := by
  by_cases h0 : s = ⟨#[]⟩
  · have hn : isName s.data.toList = false := by rw [list_nil h0]; rfl
    have e1 := is_empty h0
    rw [hn]
    clear hn h0
    go_enter Tryz.func92, Tryz.ntmps92
    go_wp2
    go_ret
    exact ⟨rfl, Below.refl _ _⟩
  have hpos : 1 ≤ s.size := by
    rcases Nat.eq_zero_or_pos s.size with h | h
    · exact absurd (size_zero.1 h) h0
    · exact h
  have e1 := not_empty h0
  clear h0
  by_cases h12 : s.size ≤ 12
  · go_enter Tryz.func92, Tryz.ntmps92
    go_wp2
    go_loopw [] (fun wr => ∃ k : Nat, k ≤ s.size ∧ wr = w.iter s k ∧ Hid ((s.data.toList.take k).all okC = true)) (fun wr => s.size - wr.iterPos w.heap.size)
    case atStart => exact ⟨0, Nat.zero_le _, rfl, rfl⟩
    case round =>
      obtain ⟨k, hk, rfl, hall⟩ := hrel
      by_cases hlt : k < s.size
      · have hnx : ∀ ty, (Instr.next (.pointer (some ⟨w.heap.size, 0, none⟩)) true ty).run Tryz.prog (w.iter s k) = _ := fun ty => run_next_any w s k ty hlt
        have hd1 := decode_le s k
        by_cases ha : s[k].toNat < 128
        · rw [decode_ascii s k hlt ha] at hnx
          have hgood := fun h => Lib.hid (all_at s k hlt hall.out h)
          have hbad := fun h => Lib.hid (all_not s k hlt h)
          obtain ⟨X, hXe⟩ : ∃ X, X = s[k].toNat := ⟨_, rfl⟩
          have hok : okC s[k] = okR X := by rw [hXe]; rfl
          rw [hok] at hgood hbad
          rw [← hXe] at hnx ha
          clear hok hXe hall hd1
          cases hx : okR X with
          | true =>
            have hb := hgood hx
            clear hgood hbad
            go_wp2_with (go_at_call 109; refine (inName_any X _ (by omega)).mono ?_; rintro e w' ⟨rfl, rfl⟩; rw [hx])
            go_roundw
            case rel => exact ⟨k + 1, by omega, rfl, hb.out⟩
            case measure => simp; omega
          | false =>
            have hb := hbad hx
            clear hgood hbad
            go_wp2_with (go_at_call 109; refine (inName_any X _ (by omega)).mono ?_; rintro e w' ⟨rfl, rfl⟩; rw [hx])
            go_ret
            exact ⟨by rw [hb.out]; rfl, below_iter _ _ _⟩
        · have hdh := (decode_high s k hlt (by omega)).1
          have hb := Lib.hid (all_not s k hlt (by simp [okC]; omega))
          obtain ⟨X, hXe⟩ : ∃ X, X = (Utf8.decode s k).1 := ⟨_, rfl⟩
          rw [← hXe] at hnx hdh hd1
          have hx : okR X = false := by simp [okR]; omega
          clear hXe hall
          go_wp2_with (go_at_call 109; refine (inName_any X _ (by omega)).mono ?_; rintro e w' ⟨rfl, rfl⟩; rw [hx])
          go_ret
          exact ⟨by rw [hb.out]; rfl, below_iter _ _ _⟩
      · have hnx : ∀ ty, (Instr.next (.pointer (some ⟨w.heap.size, 0, none⟩)) true ty).run Tryz.prog (w.iter s k) = _ := fun ty => run_next_end w s k ty hlt
        obtain rfl : k = s.size := by omega
        have hn : isName s.data.toList = true := by
          have h := hall.out
          rw [take_all] at h
          rw [isName, h, len_l]
          simp [hpos, h12]
        have HN := Lib.hid hn
        clear hn hall
        go_wp2
        go_ret
        exact ⟨by rw [HN.out]; rfl, below_iter _ _ _⟩
  · have hn : isName s.data.toList = false := by
      rw [isName, len_l]
      simp [h12]
    rw [hn]
    go_enter Tryz.func92, Tryz.ntmps92
    go_wp2
    go_ret
    exact ⟨rfl, Below.refl _ _⟩
set_option maxRecDepth 100000 in
set_option maxHeartbeats 1000000 in
theorem lastStroke_any (s : ByteArray) (w : World) (hs : s.size ≤ 562949953421312) :
    Calls Tryz.prog 103 #[.string s] w fun e w' => e = .returned (.int .i64 ((lastN s.data.toList : Nat) - 1)) ∧ w = w' := by
  go_enter Tryz.func103, Tryz.ntmps103
  go_wp2_with (go_at_call 116; refine (last_any _ _ hs).mono ?_; rintro e w' ⟨rfl, rfl⟩)
  go_ret
  exact ⟨rfl, rfl⟩
set_option maxRecDepth 100000 in
set_option maxHeartbeats 1000000 in
theorem pParent_any (s : ByteArray) (w : World) (hs : s.size ≤ 562949953421312) :
    Calls Tryz.prog 63 #[.string s] w fun e w' => e = .returned (.string (tb (par s.data.toList))) ∧ Below w.heap.size w w' := by
  have cl := fun W => lastStroke_any s W hs
  have hL := lastN_le s.data.toList
  rw [len_l] at hL
  rw [← par_ext]
  obtain ⟨L, hLe⟩ : ∃ L, L = lastN s.data.toList := ⟨_, rfl⟩
  rw [← hLe] at cl hL ⊢
  clear hLe
  by_cases h0 : L = 0
  · subst h0
    go_enter Tryz.func63, Tryz.ntmps63
    go_wp2_with (go_at_call 103; refine (cl _).mono ?_; rintro e w1 ⟨rfl, rfl⟩)
    go_ret
    exact ⟨by first | (simp; done) | (simp; exact Or.inl (by decide)), Below.refl _ _⟩
  · obtain ⟨K, rfl⟩ : ∃ K, L = K + 1 := ⟨L - 1, by omega⟩
    have e1 : ((K + 1 : Nat) : Int) - 1 = K := by omega
    rw [e1] at cl
    rw [Nat.add_sub_cancel]
    clear h0
    go_enter Tryz.func63, Tryz.ntmps63
    go_wp2_with (go_at_call 103; refine (cl _).mono ?_; rintro e w1 ⟨rfl, rfl⟩)
    go_ret
    exact ⟨rfl, Below.refl _ _⟩
set_option maxRecDepth 100000 in
set_option maxHeartbeats 1000000 in
theorem pJoin_any (a b : ByteArray) (w : World) (hs : a.size + b.size ≤ 562949953421312) :
    Calls Tryz.prog 54 #[.string a, .string b] w fun e w' => e = .returned (.string (tb (joi a.data.toList b.data.toList))) ∧ Below w.heap.size w w' := by
  by_cases h1 : a = ⟨#[]⟩
  · have e1 := is_empty h1
    have HR : tb (joi a.data.toList b.data.toList) = b := by
      rw [joi, if_neg (fun h => h.1 (list_nil h1)), list_nil h1]
      exact tb_of b
    rw [HR]
    clear HR h1
    go_enter Tryz.func54, Tryz.ntmps54
    go_wp2
    go_ret
    exact ⟨rfl, Below.refl _ _⟩
  · by_cases h2 : b = ⟨#[]⟩
    · have e1 := not_empty h1
      have e2 := is_empty h2
      have HR : tb (joi a.data.toList b.data.toList) = a := by
        rw [joi, if_neg (fun h => h.2 (list_nil h2)), list_nil h2, List.append_nil]
        exact tb_of a
      rw [HR]
      clear HR h1 h2
      go_enter Tryz.func54, Tryz.ntmps54
      go_wp2
      go_ret
      exact ⟨rfl, Below.refl _ _⟩
    · have e1 := not_empty h1
      have e2 := not_empty h2
      have HR : tb (joi a.data.toList b.data.toList) = a ++ ⟨#[47]⟩ ++ b := by
        rw [joi, if_pos ⟨list_ne h1, list_ne h2⟩]
        apply ByteArray.ext
        apply Array.toList_inj.1
        simp [tb]
      rw [HR]
      clear HR h1 h2
      go_enter Tryz.func54, Tryz.ntmps54
      go_wp2
      go_ret
      exact ⟨rfl, Below.refl _ _⟩
set_option maxRecDepth 100000 in
set_option maxHeartbeats 1000000 in
theorem pDeep_any (p : ByteArray) (w : World) (hs : p.size ≤ 562949953421312) :
    Calls Tryz.prog 118 #[.string p] w fun e w' => e = .returned (.int .i64 (dep p.data.toList : Nat)) ∧ Below w.heap.size w w' := by
  by_cases h1 : p = ⟨#[]⟩
  · have e1 := is_empty h1
    have e2 : dep p.data.toList = 0 := by rw [dep, if_pos (list_nil h1)]
    rw [e2]
    clear h1 e2
    go_enter Tryz.func118, Tryz.ntmps118
    go_wp2
    go_ret
    exact ⟨rfl, Below.refl _ _⟩
  · have e1 := not_empty h1
    have e2 : dep p.data.toList = p.data.toList.count 47 + 1 := by rw [dep, if_neg (list_ne h1), count_spl]
    rw [e2]
    have cs := fun W => count_any p W
    have hc : p.data.toList.count 47 ≤ p.size := by rw [← len_l]; exact List.count_le_length
    obtain ⟨C, hC⟩ : ∃ C, C = p.data.toList.count 47 := ⟨_, rfl⟩
    rw [← hC] at cs hc ⊢
    clear h1 e2 hC
    go_enter Tryz.func118, Tryz.ntmps118
    go_wp2_with (go_at_call 133; refine (cs _).mono ?_; rintro e w1 ⟨rfl, rfl⟩)
    go_ret
    exact ⟨by first | rfl | go_num, Below.refl _ _⟩
theorem names_cut (l : List UInt8) : (spl l).all isName = (isName (cutA l) && (if hasSt l then (spl (cutB l)).all isName else true)) := by
  rw [spl_cut, List.all_cons]
  cases hasSt l <;> rfl
def strLen : Value → Nat
  | .string s => s.size
  | _ => 0
set_option maxRecDepth 100000 in
set_option maxHeartbeats 1000000 in
theorem pCheck_any (p : ByteArray) (d : Int) (w : World) (hs : p.size ≤ 562949953421312) (h1 : -9223372036854775808 ≤ d) (h2 : d ≤ 9223372036854775807) :
    Calls Tryz.prog 117 #[.string p, .int .i64 d] w fun e w' => e = .returned (.int .i64 (chk p.data.toList d : Nat)) ∧ Below w.heap.size w w' := by
  have cd := fun W => pDeep_any p W hs
  by_cases hd : (dep p.data.toList : Int) > d
  · have hr : chk p.data.toList d = 10 := by
      rw [chk, isPath, if_neg]
      intro h
      rw [Bool.and_eq_true] at h
      have := of_decide_eq_true h.1
      rw [dep] at hd
      split at hd
      · rename_i h0
        rw [h0] at h
        have := h.2
        revert this
        decide
      · omega
    rw [hr]
    have hdl : dep p.data.toList ≤ p.size + 1 := by
      have := spl_len p.data.toList
      rw [len_l] at this
      rw [dep]
      split <;> omega
    obtain ⟨D, hD⟩ : ∃ D, D = dep p.data.toList := ⟨_, rfl⟩
    rw [← hD] at cd hd hdl
    clear hr hD
    go_enter Tryz.func117, Tryz.ntmps117
    go_wp2_with (go_at_call 118; refine (cd _).mono ?_; rintro e w1 ⟨rfl, hb1⟩)
    go_ret
    exact ⟨rfl, hb1⟩
  · have hr : chk p.data.toList d = if (spl p.data.toList).all isName then 0 else 10 := by
      rw [chk, isPath]
      rw [dep] at hd
      split at hd
      · rename_i h0
        rw [h0]
        have e : (spl []).all isName = false := by decide
        rw [e, Bool.and_false]
      · rw [decide_eq_true (by omega), Bool.true_and]
    have HR := Lib.hid hr
    have hdl : dep p.data.toList ≤ p.size + 1 := by
      have := spl_len p.data.toList
      rw [len_l] at this
      rw [dep]
      split <;> omega
    obtain ⟨D, hD⟩ : ∃ D, D = dep p.data.toList := ⟨_, rfl⟩
    rw [← hD] at cd hd hdl
    clear hr hD
    go_enter Tryz.func117, Tryz.ntmps117
    go_wp2_with (go_at_call 118; refine (cd _).mono ?_; rintro e w1 ⟨rfl, hb1⟩)
    go_loopw [0, 5, 6, 7] (fun q a b m wr => ∃ l : List UInt8, q = .string (tb l) ∧ l.length ≤ p.size ∧ Hid ((spl p.data.toList).all isName = (spl l).all isName) ∧ Below w.heap.size w wr) (fun q _ _ _ _ => strLen q)
    case atStart => exact ⟨p.data.toList, by rw [tb_of], by rw [len_l]; exact Nat.le_refl _, rfl, hb1⟩
    case round =>
      obtain ⟨l, rfl, hl, hinv, hb⟩ := hrel
      have cc := fun W => cut_any (tb l) W (by rw [tb_size]; omega)
      have hA := cutA_le l
      have hB := cutB_le l
      have hB2 := cutB_lt l
      have cn := fun W => pName_any (tb (cutA l)) W (by rw [tb_size]; omega)
      rw [tb_list] at cc cn
      have hcut := names_cut l
      cases hn : isName (cutA l) with
      | false =>
        have hno : (spl p.data.toList).all isName = false := by rw [hinv.out, hcut, hn]; rfl
        have hr := Lib.hid (show chk p.data.toList d = 10 by rw [HR.out, hno]; rfl)
        rw [hn] at cn
        clear hinv HR hcut hno hn hB2
        go_wp2_with (first | (go_at_call 102; refine (cc _).mono ?_; rintro e w1 ⟨rfl, n1, rfl⟩) | (go_at_call 92; refine (cn _).mono ?_; rintro e w2 ⟨rfl, hb2⟩))
        go_ret
        exact ⟨by rw [hr.out]; rfl, below_call (below_drewN hb n1) hb2⟩
      | true =>
        rw [hn] at cn
        cases hst : hasSt l with
        | false =>
          have hyes : (spl p.data.toList).all isName = true := by rw [hinv.out, hcut, hn, hst]; rfl
          have hr := Lib.hid (show chk p.data.toList d = 0 by rw [HR.out, hyes]; rfl)
          rw [hst] at cc
          clear hinv HR hcut hyes hn hB2 hst
          go_wp2_with (first | (go_at_call 102; refine (cc _).mono ?_; rintro e w1 ⟨rfl, n1, rfl⟩) | (go_at_call 92; refine (cn _).mono ?_; rintro e w2 ⟨rfl, hb2⟩))
          go_ret
          exact ⟨by rw [hr.out]; rfl, below_call (below_drewN hb n1) hb2⟩
        | true =>
          have hnext : Hid ((spl p.data.toList).all isName = (spl (cutB l)).all isName) := Lib.hid (by rw [hinv.out, hcut, hn, hst]; rfl)
          have hlt := hB2 hst
          rw [hst] at cc
          clear hinv HR hcut hn hB2 hst
          go_wp2_with (first | (go_at_call 102; refine (cc _).mono ?_; rintro e w1 ⟨rfl, n1, rfl⟩) | (go_at_call 92; refine (cn _).mono ?_; rintro e w2 ⟨rfl, hb2⟩))
          go_roundw
          case rel => exact ⟨cutB l, rfl, by omega, hnext, below_call (below_drewN hb n1) hb2⟩
          case measure => simp [strLen, tb_size]; omega
end Go.Proofs.YtdpnmdnfnplcfaaGreat.Pr

namespace Go.Proofs.YtdpnmdnfnplcfaaGreat.Dk
open Go.RowKit Tx Pm Pl Pr
set_option linter.unusedVariables false
theorem vol_cut (p : ByteArray) : vol p = tb (cutA p.data.toList) := by
  unfold vol
  rw [spl_cut]
  rfl
theorem below_drewN (w : World) (n : Nat) : Below w.heap.size w (w.drewN n) := by
  induction n with
  | zero => exact Below.refl _ _
  | succ n ih => exact ih.drew
set_option maxRecDepth 100000 in
theorem iVol_any (p : ByteArray) (w : World) (hp : p.size ≤ 8000000000000) :
    Calls Tryz.prog 61 #[.string p] w fun e w' => e = .returned (.string (vol p)) ∧ ∃ n, w' = w.drewN n := by
  have c1 := fun W => cut_any p W (by omega)
  rw [vol_cut]
  go_enter Tryz.func61, Tryz.ntmps61
  go_wp2_with (go_at_call 102; refine (c1 _).mono ?_; rintro e w' ⟨rfl, n, rfl⟩)
  go_ret
  exact ⟨rfl, _, rfl⟩
def mbf (L : List It) (p : ByteArray) : Nat := if kind L p = 0 then 11 else if kind L p = 1 then 12 else 0
theorem fld0 (k : Int) (s t : ByteArray) (st n : Int) (w : World) : (Instr.field 97 (.agg #[.int .i64 k, .string s, .string t, .int .i64 st, .int .i64 n]) 0).run Tryz.prog w = .ok (.int .i64 k) w := by kernel_rfl
theorem fld1 (k : Int) (s t : ByteArray) (st n : Int) (w : World) : (Instr.field 97 (.agg #[.int .i64 k, .string s, .string t, .int .i64 st, .int .i64 n]) 1).run Tryz.prog w = .ok (.string s) w := by kernel_rfl
theorem fld2 (k : Int) (s t : ByteArray) (st n : Int) (w : World) : (Instr.field 97 (.agg #[.int .i64 k, .string s, .string t, .int .i64 st, .int .i64 n]) 2).run Tryz.prog w = .ok (.string t) w := by kernel_rfl
theorem fld4 (k : Int) (s t : ByteArray) (st n : Int) (w : World) : (Instr.field 97 (.agg #[.int .i64 k, .string s, .string t, .int .i64 st, .int .i64 n]) 4).run Tryz.prog w = .ok (.int .i64 n) w := by kernel_rfl
set_option maxRecDepth 100000 in
theorem iMbf_any (b bi bl : Nat) (l : Int) (s : St) (p : ByteArray) (w : World) (h : Ia b bi bl l w s) (hp : p.size ≤ 8000000000000) :
    Calls Tryz.prog 108 #[.pointer (some ⟨b, 0, none⟩), .string p] w fun e w' => e = .returned (.int .i64 (mbf s.L p : Nat)) ∧ w = w' := by
  have hl := h.look (maxLen_of hp)
  obtain ⟨c0, c1, c2, c3, c4, c5⟩ := h.cell
  have f0 := fld0
  unfold mbf
  generalize kind s.L p = K at hl ⊢
  clear h c1 c2 c3 c4 c5
  by_cases h0 : K = 0
  · subst h0
    rw [if_pos rfl]
    go_enter Tryz.func108, Tryz.ntmps108
    go_wp2
    go_ret
    exact ⟨rfl, rfl⟩
  · rw [if_neg h0]
    by_cases h1 : K = 1
    · subst h1
      rw [if_pos rfl]
      go_enter Tryz.func108, Tryz.ntmps108
      go_wp2
      go_ret
      exact ⟨rfl, rfl⟩
    · rw [if_neg h1]
      have e0 : ((K : Int) == 0) = false := beq_eq_false_iff_ne.2 (by omega)
      have e1 : ((K : Int) == 1) = false := beq_eq_false_iff_ne.2 (by omega)
      clear h0 h1
      go_enter Tryz.func108, Tryz.ntmps108
      go_wp2
      go_ret
      exact ⟨rfl, rfl⟩
set_option maxRecDepth 100000 in
theorem iKind_any (b bi bl : Nat) (l : Int) (s : St) (p : ByteArray) (w : World) (h : Ia b bi bl l w s) (hp : p.size ≤ 8000000000000) :
    Calls Tryz.prog 47 #[.pointer (some ⟨b, 0, none⟩), .string p] w fun e w' => e = .returned (.int .i64 (kind s.L p : Nat)) ∧ w = w' := by
  have hl := h.look (maxLen_of hp)
  obtain ⟨c0, c1, c2, c3, c4, c5⟩ := h.cell
  have f0 := fld0
  generalize kind s.L p = K at hl ⊢
  clear h c1 c2 c3 c4 c5
  go_enter Tryz.func47, Tryz.ntmps47
  go_wp2
  go_ret
  exact ⟨rfl, rfl⟩
theorem stamp_old (s : St) (p : ByteArray) : stampS s p = (old s.L p).stamp := by
  unfold stampS old
  cases find s.L p <;> rfl
set_option maxRecDepth 100000 in
theorem iStamp_any (b bi bl : Nat) (l : Int) (s : St) (p : ByteArray) (w : World) (h : Ia b bi bl l w s) (hp : p.size ≤ 8000000000000) :
    Calls Tryz.prog 46 #[.pointer (some ⟨b, 0, none⟩), .string p] w fun e w' => e = .returned (.int .i64 (stampS s p : Nat)) ∧ w = w' := by
  have hl := h.look (maxLen_of hp)
  obtain ⟨c0, c1, c2, c3, c4, c5⟩ := h.cell
  have f0 := fld4
  rw [stamp_old]
  generalize (old s.L p).stamp = N at hl ⊢
  clear h c1 c2 c3 c4 c5
  go_enter Tryz.func46, Tryz.ntmps46
  go_wp2
  go_ret
  exact ⟨rfl, rfl⟩
set_option maxRecDepth 100000 in
theorem iDown_any (b bi bl : Nat) (l : Int) (s : St) (w : World) (h : Ia b bi bl l w s) :
    Calls Tryz.prog 93 #[.pointer (some ⟨b, 0, none⟩)] w fun e w' => e = .returned (.bool s.down) ∧ w = w' := by
  obtain ⟨c0, c1, c2, c3, c4, c5⟩ := h.cell
  clear h c0 c1 c2 c3 c4
  go_enter Tryz.func93, Tryz.ntmps93
  go_wp2
  go_ret
  exact ⟨rfl, rfl⟩
theorem tb_nil {l : List UInt8} (h : l = []) : tb l = ⟨#[]⟩ := by rw [h]; rfl
theorem tb_ne {l : List UInt8} (h : l ≠ []) : tb l ≠ ⟨#[]⟩ := fun e => h (by
  have := congrArg (fun x : ByteArray => x.data.toList) e
  simpa [tb] using this)
theorem par_len (l : List UInt8) : (tb (par l)).size ≤ l.length := by
  unfold par
  simp [tb, ByteArray.size]
  exact Nat.min_le_right _ _
set_option maxRecDepth 100000 in
theorem iHome_any (b bi bl : Nat) (l : Int) (s : St) (p : ByteArray) (w : World) (h : Ia b bi bl l w s) (hp : p.size ≤ 8000000000000) :
    Calls Tryz.prog 105 #[.pointer (some ⟨b, 0, none⟩), .string p] w fun e w' => e = .returned (.bool (home s.L p)) ∧ Below w.heap.size w w' := by
  have cp := pParent_any p w (by omega)
  have hq := par_len p.data.toList
  rw [len_l] at hq
  have hl := fun W (hW : Below w.heap.size w W) => (h.below hW).look (p := tb (par p.data.toList)) (maxLen_of (by omega))
  have hc := fun W (hW : Below w.heap.size w W) => (h.below hW).cell.1
  have f0 := fld0
  unfold home
  by_cases h0 : par p.data.toList = []
  · have e0 : (tb (par p.data.toList)).toList.isEmpty = true := is_empty (tb_nil h0)
    rw [tb_nil h0] at cp
    have e1 : (decide (par p.data.toList = []) || decide (kind s.L (tb (par p.data.toList)) = 1)) = true := by simp [h0]
    rw [e1]
    clear hl hc h e0 e1 h0 hq
    go_enter Tryz.func105, Tryz.ntmps105
    go_wp2_with (go_at_call 63; refine cp.mono ?_; rintro e w1 ⟨rfl, hb⟩)
    go_ret
    exact ⟨rfl, hb⟩
  · have e0 : (tb (par p.data.toList)).toList.isEmpty = false := not_empty (tb_ne h0)
    have e1 : (decide (par p.data.toList = []) || decide (kind s.L (tb (par p.data.toList)) = 1)) = decide (kind s.L (tb (par p.data.toList)) = 1) := by simp [h0]
    rw [e1]
    clear e1 h0 hq h
    generalize tb (par p.data.toList) = q at hl hc cp e0 ⊢
    generalize kind s.L q = K at hl ⊢
    have HL := Lib.hid hl
    have HC := Lib.hid hc
    clear hl hc
    by_cases h1 : K = 1
    · subst h1
      go_enter Tryz.func105, Tryz.ntmps105
      go_wp2_with (go_at_call 63; refine cp.mono ?_; rintro e w1 ⟨rfl, hb⟩; have c0 := HC.out _ hb; have l0 := HL.out _ hb)
      go_ret
      exact ⟨rfl, hb⟩
    · have e2 : ((K : Int) == 1) = false := beq_eq_false_iff_ne.2 (by omega)
      have e3 : decide (K = 1) = false := decide_eq_false h1
      rw [e3]
      clear h1 e3
      go_enter Tryz.func105, Tryz.ntmps105
      go_wp2_with (go_at_call 63; refine cp.mono ?_; rintro e w1 ⟨rfl, hb⟩; have c0 := HC.out _ hb; have l0 := HL.out _ hb)
      go_ret
      exact ⟨rfl, hb⟩
end Go.Proofs.YtdpnmdnfnplcfaaGreat.Dk

namespace Go.Proofs.YtdpnmdnfnplcfaaGreat.Dk
open Go.RowKit Tx Pm
set_option linter.unusedVariables false
def came (L : List It) (left : Lit → Bool) : List It := L.filter (fun y => !left (kL y.path))
def less (left : Lit → Bool) (p : ByteArray) : Lit → Bool := fun z => left z && !z.sameKey (kL p)
theorem less_same (left : Lit → Bool) (p : ByteArray) : less left p (kL p) = false := by
  unfold less
  rw [WideAt.sameKey_self (kL_key p)]
  simp
theorem less_other (left : Lit → Bool) {p q : ByteArray} (h : q ≠ p) : less left p (kL q) = left (kL q) := by
  unfold less
  rw [Go.Maps.sameKey_ne (fun e => h (kL_inj e))]
  simp
theorem came_step {left : Lit → Bool} {x : It} (hl : left (kL x.path) = true) : ∀ {L : List It}, Rises L → x ∈ L → (came L (less left x.path)).Perm (x :: came L left)
  | [], _, hx => by cases hx
  | y :: L, hr, hx => by
    obtain ⟨h1, h2⟩ := List.pairwise_cons.1 hr
    by_cases he : y.path = x.path
    · have hyx : x = y := by
        rcases List.mem_cons.1 hx with h | h
        · exact h
        · have := h1 x h
          rw [he, less_irrefl] at this
          cases this
      subst hyx
      have e1 : came L (less left x.path) = came L left := by
        unfold came
        refine List.filter_congr (fun z hz => ?_)
        rw [less_other left (fun e => by have := h1 z hz; rw [e, less_irrefl] at this; cases this)]
      have e2 : came (x :: L) (less left x.path) = x :: came L (less left x.path) := by
        unfold came
        rw [List.filter_cons_of_pos (by rw [less_same]; rfl)]
      have e3 : came (x :: L) left = came L left := by
        unfold came
        rw [List.filter_cons_of_neg (by rw [hl]; simp)]
      rw [e2, e3, e1]
    · have hxL : x ∈ L := by
        rcases List.mem_cons.1 hx with h | h
        · exact absurd (by rw [h]) he
        · exact h
      have ih := came_step hl h2 hxL
      cases hy : left (kL y.path) with
      | true =>
        have e2 : came (y :: L) (less left x.path) = came L (less left x.path) := by
          unfold came
          rw [List.filter_cons_of_neg (by rw [less_other left he, hy]; simp)]
        have e3 : came (y :: L) left = came L left := by
          unfold came
          rw [List.filter_cons_of_neg (by rw [hy]; simp)]
        rw [e2, e3]
        exact ih
      | false =>
        have e2 : came (y :: L) (less left x.path) = y :: came L (less left x.path) := by
          unfold came
          rw [List.filter_cons_of_pos (by rw [less_other left he, hy]; rfl)]
        have e3 : came (y :: L) left = y :: came L left := by
          unfold came
          rw [List.filter_cons_of_pos (by rw [hy]; rfl)]
        rw [e2, e3]
        exact (ih.cons y).trans (List.Perm.swap x y _)
theorem came_start {D : DataW Unit} {L : List It} (h : ReadsI D L) : came L (Go.Maps.has D) = [] := by
  unfold came
  refine List.filter_eq_nil_iff.2 (fun y hy => ?_)
  rw [readsI_has h]
  have : (find L y.path).isSome = true := List.find?_isSome.2 ⟨y, hy, by simp⟩
  rw [this]
  simp
theorem came_end {left : Lit → Bool} (L : List It) (h : ∀ z, left z = false) : came L left = L := by
  unfold came
  exact List.filter_eq_self.2 (fun y hy => by rw [h]; rfl)
theorem came_sub (L : List It) (left : Lit → Bool) : (came L left).Sublist L := List.filter_sublist
theorem key_is {v : ByteArray} {kl : Lit} (h : keyOf Tryz.prog 9 (.string v) = some kl) : kl = kL v ∧ v.size ≤ maxLen := by
  obtain ⟨s, h1, h2, h3⟩ := Go.WideMaps.string_of_keyOf Tryz.underlying9 h
  cases h1
  exact ⟨h2, h3⟩
theorem key_string {key : Value} {kl : Lit} (h : keyOf Tryz.prog 9 key = some kl) : ∃ x : ByteArray, key = .string x := by
  obtain ⟨s, h1, _⟩ := Go.WideMaps.string_of_keyOf Tryz.underlying9 h
  exact ⟨s, h1⟩
theorem next_items (w : World) {ops : Array Oper} {rest : List Oper} {o : Oper} {a : Act} {Q : Exit → Act → World → Prop} (hg : o.guard = none) (it : Operand) (hop : o.op = Op.next it false) (b r n : Nat) (D : DataW Unit) (left : Lit → Bool) (cnt : Nat) (L : List It)
    (hit : a.eval it = .pointer (some ⟨r, 0, none⟩)) (h : w.ranges Tryz.prog 9 itemR b r n D left cnt) (hD : ReadsI D L)
    (hDone : (∀ z, left z = false) → wpList Tryz.prog ops Q rest (a.put o.dst (.tuple #[.bool false])) w)
    (hMore : ∀ (x : It) (w' : World) (cnt' : Nat), x ∈ L → left (kL x.path) = true → w'.ranges Tryz.prog 9 itemR b r n D (less left x.path) cnt' → cnt' < cnt → w.grownBy w' (some r) → w'.heap.size = w.heap.size →
      (Instr.entry (.pointer (some ⟨r, 0, none⟩))).run Tryz.prog w' = .ok (.tuple #[.string x.path, .agg #[.int .i64 (kOf x), .string x.data, .string x.kept, .int .i64 (stOf x), .int .i64 x.stamp]]) w' →
      wpList Tryz.prog ops Q rest (a.put o.dst (.tuple #[.bool true, .string x.path, .agg #[.int .i64 (kOf x), .string x.data, .string x.kept, .int .i64 (stOf x), .int .i64 x.stamp]])) w') :
    wpList Tryz.prog ops Q (o :: rest) a w := by
  refine wpList_next_ranges w hg it hop 9 strK itemR (Value.string) (fun c : Int × ByteArray × ByteArray × Int × Int => mv c.1 c.2.1 c.2.2.1 c.2.2.2.1 c.2.2.2.2)
    (fun key kl hk => key_string hk) (fun v y hv => by obtain ⟨k, s, t, st, m, rfl, _⟩ := itemR_inv hv; exact ⟨(k, s, t, st, m), rfl⟩)
    b r n D left cnt hit h (fun _ hl => hDone hl) (fun p c kl y w' cnt' hkey hlk hv hat hrg hlt hgr hsz hen => ?_)
  obtain ⟨k, s, t, st, m⟩ := c
  obtain ⟨rfl, hps⟩ := key_is hkey
  have hv : itemR (mv k s t st m) = some y := hv
  rw [itemR_mv] at hv
  injection hv with hv
  subst hv
  have hat : ∀ zd, D.atKey (kL p) zd = dv3 k s t st m := hat
  cases hf : find L p with
  | none =>
    have h1 := hat .nil
    rw [hD p, hf] at h1
    cases h1
  | some x =>
    have h1 := hat .nil
    rw [hD p, hf] at h1
    obtain ⟨rfl, rfl, rfl, rfl, rfl⟩ := dv3_inj h1
    obtain ⟨hm, rfl⟩ := find_mem hf
    exact hMore x w' cnt' hm hlk hrg hlt hgr hsz hen
theorem range_items (w : World) {ops : Array Oper} {rest : List Oper} {o : Oper} {a : Act} {Q : Exit → Act → World → Prop} (hg : o.guard = none) (m : Operand) (hop : o.op = Op.range 61 m) (b : Nat) (L : List It)
    (hm : a.eval m = .map (some b)) (h : Mp w b L)
    (hK : ∀ (D : DataW Unit) (w' : World), ReadsI D L → w'.ranges Tryz.prog 9 itemR b w.heap.size L.length D (Go.Maps.has D) (Go.Maps.size D) → w.grownBy w' none → w'.heap.size = w.heap.size + 1 → wpList Tryz.prog ops Q rest (a.put o.dst (.pointer (some ⟨w.heap.size, 0, none⟩))) w') :
    wpList Tryz.prog ops Q (o :: rest) a w := by
  obtain ⟨D, ho, hr, _⟩ := h
  exact wpList_range_own w hg m _ hop 9 97 strK Tryz.underlying61 itemR b L.length D hm ho (fun w' h1 h2 h3 => hK D w' hr h1 h2 h3)
theorem below_grown {W w w' : World} {B r : Nat} (h : Below B W w) (hg : w.grownBy w' (some r)) (hB : B ≤ w.heap.size) (hr : B ≤ r) : Below B W w' := h.grown hg hB (fun j hj => by cases hj; exact hr)
end Go.Proofs.YtdpnmdnfnplcfaaGreat.Dk

namespace Go.Proofs.YtdpnmdnfnplcfaaGreat.Dk
open Go.RowKit Tx Pm
set_option linter.unusedVariables false
theorem ret_int {k : IntKind} {a b : Int} (h : a = b) : Ending.returned (.int k a) = .returned (.int k b) := by rw [h]
theorem used_perm {a b : List It} (h : a.Perm b) (v : ByteArray) : used a v = used b v := (h.map _).sum_nat
theorem used_cons (x : It) (l : List It) (v : ByteArray) : used (x :: l) v = (if vol x.path = v then x.data.size else 0) + used l v := by
  unfold used
  rw [List.map_cons, List.sum_cons]
theorem used_came (L : List It) (left : Lit → Bool) (v : ByteArray) : used (came L left) v ≤ whole L := by
  refine Nat.le_trans (used_le _ v) ?_
  have h := came_sub L left
  generalize came L left = c at h
  induction h with
  | slnil => exact Nat.le_refl _
  | cons x _ ih =>
    unfold whole at *
    rw [List.map_cons, List.sum_cons]
    omega
  | cons_cons x _ ih =>
    unfold whole at *
    rw [List.map_cons, List.sum_cons, List.map_cons, List.sum_cons]
    omega
set_option maxRecDepth 100000 in
set_option maxHeartbeats 1000000 in
theorem iUsed_any (b bi bl : Nat) (l : Int) (s : St) (v : ByteArray) (w : World) (h : Ia b bi bl l w s) (hr : Rises s.L) (hf : Fit s) :
    Calls Tryz.prog 24 #[.pointer (some ⟨b, 0, none⟩), .string v] w fun e w' => e = .returned (.int .i64 (used s.L v : Nat)) ∧ Below w.heap.size w w' := by
  have hw := hf.2.2
  have hpp := hf.2.1
  have hub := fun left => used_came s.L left v
  obtain ⟨c0, _⟩ := h.cell
  have hm := h.items
  go_enter Tryz.func24, Tryz.ntmps24
  go_wp2_with (at_range; refine range_items _ rfl _ rfl bi s.L rfl hm ?_; intro D w0 hD hrg0 hg0 hs0)
  go_frame
  have HD := Lib.hid hD
  have HR := Lib.hid hr
  have HP := Lib.hid hpp
  have HU := Lib.hid hub
  have hsm : w.heap.size < w0.heap.size := by omega
  have HS := Lib.hid hs0
  clear hD hr hpp hub hs0
  go_loopw [5] (fun u wr => ∃ (left : Lit → Bool) (cnt T : Nat), wr.ranges Tryz.prog 9 itemR bi w.heap.size s.L.length D left cnt ∧ u = .int .i64 (T : Nat) ∧ Hid (T = used (came s.L left) v) ∧ Below w.heap.size w wr ∧ w.heap.size < wr.heap.size) (fun _ wr => wr.rangeLeft bi w.heap.size)
  case atStart => exact ⟨_, _, 0, hrg0, rfl, by show 0 = _; rw [came_start HD.out]; rfl, (Below.refl _ _).grown hg0 (Nat.le_refl _) (fun j hj => by cases hj), hsm⟩
  case round =>
    obtain ⟨left, cnt, T, hrg, rfl, hT, hbr, hlt⟩ := hrel
    go_wp2_with (at_next; refine next_items _ rfl _ rfl bi w.heap.size s.L.length D left cnt s.L rfl hrg HD.out ?_ ?_)
    · intro hl
      have hT' := hT.out
      rw [came_end s.L hl] at hT'
      have HT := Lib.hid hT'
      clear hl hT hT' hrg h
      go_wp2
      go_ret
      exact ⟨ret_int (by rw [HT.out]), hbr⟩
    · intro x w1 cnt1 hx hlx hrg1 hlt1 hg1 hs1 hen
      have hxp := HP.out x hx
      have hU1 := HU.out (less left x.path)
      have hst := used_perm (came_step hlx HR.out hx) v
      rw [used_cons, ← hT.out] at hst
      have hme : w1.rangeLeft bi w.heap.size < wr.rangeLeft bi w.heap.size := by rw [hrg1.left_eq, hrg.left_eq]; exact hlt1
      have hb1 : Below w.heap.size w w1 := below_grown hbr hg1 (Nat.le_of_lt hlt) (Nat.le_refl _)
      have hs2 : w.heap.size < w1.heap.size := by omega
      have hrg2 := hrg1.alloc (.cells #[.int .i64 (kOf x), .string x.data, .string x.kept, .int .i64 (stOf x), .int .i64 x.stamp] 97)
      have cv := fun W => iVol_any x.path W hxp
      have HME := Lib.hid hme
      clear hlx hs1 hx hme hrg hlt1 hT h hg1
      generalize less left x.path = left1 at hst hU1 hrg1 hrg2
      obtain ⟨V, hV⟩ : ∃ V, V = vol x.path := ⟨_, rfl⟩
      rw [← hV] at hst cv
      clear hV
      by_cases hvv : V = v
      · have e1 : (V.toList == v.toList) = true := by rw [hvv]; exact beq_self_eq_true _
        rw [if_pos hvv] at hst
        have hle : T + x.data.size ≤ 4000000000000000000 := by omega
        have HST := Lib.hid hst
        clear hst hvv hU1
        go_wp2_with (go_at_call 61; refine (cv _).mono ?_; rintro e w3 ⟨rfl, n3, rfl⟩)
        go_roundw
        case rel => exact ⟨left1, cnt1, T + x.data.size, hrg2, by go_num, (HST.out.trans (Nat.add_comm _ _)).symm, (hb1.alloc (Nat.le_of_lt hs2) _).trans (below_drewN _ _ |>.mono (by simp; omega)), by simp; omega⟩
        case measure => have e : (w1.alloc (.cells #[.int .i64 (kOf x), .string x.data, .string x.kept, .int .i64 (stOf x), .int .i64 x.stamp] 97)).rangeLeft bi w.heap.size = w1.rangeLeft bi w.heap.size := by rw [hrg2.left_eq, hrg1.left_eq]
                        show (w1.alloc _).rangeLeft _ _ < _
                        rw [e]
                        exact HME.out
      · have e1 : (V.toList == v.toList) = false := bytes_ne hvv
        rw [if_neg hvv, Nat.zero_add] at hst
        have HST := Lib.hid hst
        clear hst hvv hU1
        go_wp2_with (go_at_call 61; refine (cv _).mono ?_; rintro e w3 ⟨rfl, n3, rfl⟩)
        go_roundw
        case rel => exact ⟨left1, cnt1, T, hrg2, rfl, HST.out.symm, (hb1.alloc (Nat.le_of_lt hs2) _).trans (below_drewN _ _ |>.mono (by simp; omega)), by simp; omega⟩
        case measure => have e : (w1.alloc (.cells #[.int .i64 (kOf x), .string x.data, .string x.kept, .int .i64 (stOf x), .int .i64 x.stamp] 97)).rangeLeft bi w.heap.size = w1.rangeLeft bi w.heap.size := by rw [hrg2.left_eq, hrg1.left_eq]
                        show (w1.alloc _).rangeLeft _ _ < _
                        rw [e]
                        exact HME.out
end Go.Proofs.YtdpnmdnfnplcfaaGreat.Dk

namespace Go.Proofs.YtdpnmdnfnplcfaaGreat.Dk
open Go.RowKit Tx Pm Pl Pr
set_option linter.unusedVariables false
def full (s : St) (v : ByteArray) (more : Int) : Bool := match roomOf s.rooms v with
  | none => false
  | some r => decide (0 < more) && decide (r.n < (used s.L v : Nat) + more)
theorem roomOf_mem {R : List Rm} {v : ByteArray} {r : Rm} (h : roomOf R v = some r) : r ∈ R ∧ r.vol = v := ⟨List.mem_of_find?_eq_some h, by have := List.find?_some h; simpa using this⟩
theorem roomOf_of {R : List Rm} (hv : R.Pairwise (fun r r' => r.vol ≠ r'.vol)) {r : Rm} (hr : r ∈ R) : roomOf R r.vol = some r := by
  unfold roomOf
  induction R with
  | nil => cases hr
  | cons q R ih =>
    obtain ⟨h1, h2⟩ := List.pairwise_cons.1 hv
    rcases List.mem_cons.1 hr with rfl | hr
    · rw [List.find?_cons_of_pos (by simp)]
    · rw [List.find?_cons_of_neg (by simpa using h1 r hr)]
      exact ih h2 hr
theorem fits_full {s : St} (hg : Good s) (p : ByteArray) (more : Int) : fits s p more = !full s (vol p) more := by
  unfold fits full
  by_cases hm : more ≤ 0
  · rw [decide_eq_true hm, Bool.true_or]
    cases roomOf s.rooms (vol p) with
    | none => rfl
    | some r =>
      simp only
      rw [decide_eq_false (by omega), Bool.false_and]
      rfl
  · rw [decide_eq_false hm, Bool.false_or]
    cases hf : roomOf s.rooms (vol p) with
    | none =>
      refine List.all_eq_true.2 (fun r hr => ?_)
      have : r.vol ≠ vol p := fun e => by
        have := roomOf_of hg.vols hr
        rw [e, hf] at this
        cases this
      rw [decide_eq_false this, Bool.false_and]
      rfl
    | some r =>
      obtain ⟨hr, hrv⟩ := roomOf_mem hf
      simp only
      rw [decide_eq_true (show 0 < more by omega), Bool.true_and, Bool.eq_iff_iff, List.all_eq_true]
      constructor
      · intro h
        have := h r hr
        rw [decide_eq_true hrv, Bool.true_and] at this
        simp only [Bool.not_eq_true', decide_eq_false_iff_not] at this ⊢
        omega
      · intro h q hq
        by_cases hqv : q.vol = vol p
        · have h2 := roomOf_of hg.vols hq
          rw [hqv, hf] at h2
          cases h2
          rw [decide_eq_true hrv, Bool.true_and]
          simp only [Bool.not_eq_true', decide_eq_false_iff_not] at h ⊢
          omega
        · rw [decide_eq_false hqv, Bool.false_and]
          rfl
theorem vol_le (p : ByteArray) : (vol p).size ≤ p.size := by
  rw [vol_cut, tb_size]
  have := cutA_le p.data.toList
  rw [len_l] at this
  exact this
set_option maxRecDepth 100000 in
set_option maxHeartbeats 1000000 in
theorem iFull_any (b bi bl : Nat) (l : Int) (s : St) (v : ByteArray) (more : Int) (w : World) (h : Ia b bi bl l w s) (hr : Rises s.L) (hf : Fit s) (hv : v.size ≤ 8000000000000) (hm : -4000000000000000000 ≤ more ∧ more ≤ 4000000000000000000) :
    Calls Tryz.prog 106 #[.pointer (some ⟨b, 0, none⟩), .string v, .int .i64 more] w fun e w' => e = .returned (.bool (full s v more)) ∧ Below w.heap.size w w' := by
  have hl := h.limits.look (maxLen_of hv)
  have cu := iUsed_any b bi bl l s v w h hr hf
  have hu := Nat.le_trans (used_le s.L v) hf.2.2
  obtain ⟨_, c1, _⟩ := h.cell
  unfold full
  unfold limV at hl
  clear hf hr h
  generalize used s.L v = U at cu hu ⊢
  cases hR : roomOf s.rooms v with
  | none =>
    rw [hR] at hl
    simp only at hl ⊢
    clear hR cu
    go_enter Tryz.func106, Tryz.ntmps106
    go_wp2
    go_ret
    exact ⟨rfl, Below.refl _ _⟩
  | some r =>
    rw [hR] at hl
    simp only at hl ⊢
    clear hR
    generalize r.n = N at hl ⊢
    by_cases h0 : 0 < more
    · rw [decide_eq_true h0, Bool.true_and]
      go_enter Tryz.func106, Tryz.ntmps106
      go_wp2_with (go_at_call 24; refine cu.mono ?_; rintro e w1 ⟨rfl, hb⟩)
      go_ret
      exact ⟨rfl, hb⟩
    · rw [decide_eq_false h0, Bool.false_and]
      have h0' : more ≤ 0 := by omega
      clear h0 cu
      go_enter Tryz.func106, Tryz.ntmps106
      go_wp2
      go_ret
      exact ⟨rfl, Below.refl _ _⟩
def bad (m : Nat) (p : ByteArray) : Bool := decide (chk p.data.toList 6 ≠ 0) || decide ((spl p.data.toList).length ≤ m)
def rdy (s : St) (m : Nat) (l : List ByteArray) : Nat := if s.down then 14 else if l.any (bad m) then 10 else 0
theorem rdy_one (s : St) (m : Nat) (p : ByteArray) : rdy s m [p] = first s p m := by
  unfold rdy first bad
  rw [List.any_cons, List.any_nil, Bool.or_false]
  cases s.down with
  | true => rfl
  | false =>
    simp only [Bool.false_eq_true, if_false]
    by_cases h : chk p.data.toList 6 ≠ 0 ∨ (spl p.data.toList).length ≤ m
    · rw [if_pos h, if_pos (by simpa [Bool.or_eq_true] using h)]
    · rw [if_neg h, if_neg (by simpa [Bool.or_eq_true] using h)]
theorem rdy_two (s : St) (m : Nat) (p q : ByteArray) : rdy s m [p, q] = if first s p m ≠ 0 then first s p m else first s q m := by
  rw [← rdy_one, ← rdy_one]
  unfold rdy
  rw [List.any_cons, List.any_cons, List.any_cons, List.any_nil]
  cases s.down with
  | true => rfl
  | false => cases bad m p <;> cases bad m q <;> rfl
theorem bad_dep {p : ByteArray} {m : Nat} (h : chk p.data.toList 6 = 0) : bad m p = decide ((dep p.data.toList : Int) < ((m + 1 : Nat) : Int)) := by
  have hp : p.data.toList ≠ [] := fun e => by rw [e] at h; revert h; decide
  have hd : dep p.data.toList = (spl p.data.toList).length := by rw [dep, if_neg hp]
  unfold bad
  rw [h, hd, Bool.eq_iff_iff]
  simp
  omega
set_option maxRecDepth 100000 in
set_option maxHeartbeats 1000000 in
theorem iReady_any (b bi bl g n c m : Nat) (M l : Int) (s : St) (ps : List ByteArray) (w : World) (h : Ia b bi bl l w s) (hn : ps.length = n) (hm : m ≤ 1000) (hM : M = (m : Int) + 1) (hc : ∀ k p, ps[k]? = some p → w.cell? ⟨g, k, none⟩ = some (.string p)) (hg : g < w.heap.size) (hp : ∀ p ∈ ps, p.size ≤ 8000000000000) (hnm : n ≤ 1000) :
    Calls Tryz.prog 104 #[.pointer (some ⟨b, 0, none⟩), .int .i64 M, .slice (some ⟨g, 0, none⟩) n c] w fun e w' => e = .returned (.int .i64 (rdy s m ps : Nat)) ∧ Below w.heap.size w w' := by
  obtain ⟨c0, c1, c2, c3, c4, c5⟩ := h.cell
  unfold rdy
  clear h c0 c1 c2 c3 c4
  generalize s.down = D at c5 ⊢
  cases D with
  | true =>
    rw [if_pos rfl]
    clear hc hp hn
    go_enter Tryz.func104, Tryz.ntmps104
    go_wp2
    go_ret
    exact ⟨rfl, Below.refl _ _⟩
  | false =>
    rw [if_neg (by decide)]
    have HC := Lib.hid hc
    have HP := Lib.hid hp
    have HN := Lib.hid hn
    have HM := Lib.hid hM
    have hM2 : 1 ≤ M ∧ M ≤ 1001 := by omega
    obtain ⟨RES, hRES⟩ : ∃ RES, RES = if ps.any (bad m) = true then 10 else 0 := ⟨_, rfl⟩
    rw [← hRES]
    have HRES := Lib.hid hRES
    clear hc hp hn hM hRES
    go_enter Tryz.func104, Tryz.ntmps104
    go_wp2
    go_loopw [19] (fun i wr => ∃ k : Nat, k ≤ n ∧ i = .int .i64 k ∧ Hid ((ps.take k).any (bad m) = false) ∧ Below w.heap.size w wr) (fun i _ => n - (intOf i).toNat)
    case atStart => exact ⟨0, Nat.zero_le _, rfl, by show (ps.take 0).any _ = _; simp, Below.refl _ _⟩
    case round =>
      obtain ⟨k, hk, rfl, hT, hB⟩ := hrel
      by_cases hlt : k < n
      · obtain ⟨p, hx⟩ : ∃ p, ps[k]? = some p := ⟨_, List.getElem?_eq_getElem (by rw [HN.out]; exact hlt)⟩
        have f0 := (hB.cell (p := ⟨g, _, none⟩) hg).trans (HC.out k p hx)
        have hpm := List.mem_of_getElem? hx
        have hps := HP.out p hpm
        have cc := fun W => pCheck_any p 6 W (by omega) (by omega) (by omega)
        have cd := fun W => pDeep_any p W (by omega)
        have hch : chk p.data.toList 6 = 0 ∨ chk p.data.toList 6 = 10 := by unfold chk; split <;> simp
        have htk : (ps.take (k + 1)).any (bad m) = ((ps.take k).any (bad m) || bad m p) := by rw [take_more hx, List.any_append, List.any_cons, List.any_nil, Bool.or_false]
        rw [hT.out, Bool.false_or] at htk
        have hany : bad m p = true → ps.any (bad m) = true := fun hb => List.any_eq_true.2 ⟨p, hpm, hb⟩
        rcases hch with hch | hch
        · have hbd := bad_dep (m := m) hch
          rw [hch] at cc
          have e9 : ((m + 1 : Nat) : Int) = M := by rw [HM.out]; omega
          rw [e9] at hbd
          generalize dep p.data.toList = Dp at cd hbd
          by_cases hd : (Dp : Int) < M
          · rw [decide_eq_true hd] at hbd
            have HA := Lib.hid (hany hbd)
            clear htk hany hbd hch hx hT hpm hps e9
            go_wp2_with (first | (go_at_call 117; refine (cc _).mono ?_; rintro e w1 ⟨rfl, hb1⟩) | (go_at_call 118; refine (cd _).mono ?_; rintro e w2 ⟨rfl, hb2⟩))
            go_ret
            exact ⟨ret_int (by rw [HRES.out, HA.out]; rfl), below_call (below_call hB hb1) hb2⟩
          · rw [decide_eq_false hd] at hbd
            rw [hbd] at htk
            have HT := Lib.hid htk
            have hd' : M ≤ Dp := by omega
            clear htk hany hbd hch hx hT hpm hps hd e9
            go_wp2_with (first | (go_at_call 117; refine (cc _).mono ?_; rintro e w1 ⟨rfl, hb1⟩) | (go_at_call 118; refine (cd _).mono ?_; rintro e w2 ⟨rfl, hb2⟩))
            go_roundw
            case rel => exact ⟨k + 1, by omega, by go_num, HT, below_call (below_call hB hb1) hb2⟩
            case measure => simp [intOf]; omega
        · have hbd : bad m p = true := by unfold bad; rw [hch]; rfl
          rw [hch] at cc
          have HA := Lib.hid (hany hbd)
          clear htk hany hbd hch hx hT hpm hps cd
          go_wp2_with (go_at_call 117; refine (cc _).mono ?_; rintro e w1 ⟨rfl, hb1⟩)
          go_ret
          exact ⟨ret_int (by rw [HRES.out, HA.out]; rfl), below_call hB hb1⟩
      · obtain rfl : k = n := by omega
        have hT' := hT.out
        rw [List.take_of_length_le (by rw [HN.out]; exact Nat.le_refl _)] at hT'
        have HT := Lib.hid hT'
        clear hT hT'
        go_wp2
        go_ret
        exact ⟨ret_int (by rw [HRES.out, HT.out]; rfl), hB⟩
end Go.Proofs.YtdpnmdnfnplcfaaGreat.Dk

namespace Go.Proofs.YtdpnmdnfnplcfaaGreat.Rg
open Go.RowKit
set_option linter.unusedVariables false
section
variable {P : Program} {ops : Array Oper} {R : Act → World → Prop} {S : World → Prop}
theorem y_look {o : Oper} {a : Act} {T : TypeId} {x y : Operand} {c : Bool} {vx vy v : Value} (ho : o.op = .lookup T x y c) (hx : a.eval x = vx) (hy : a.eval y = vy)
    (hv : ∀ w, S w → (Instr.lookup T vx vy c).run P w = .ok v w) : ∀ w, S w → (execOp a.eval o).run P w = .ok (.value v) w := by
  intro w hw
  obtain ⟨dst, op, ty, pos, after, guard⟩ := o
  simp only at ho
  subst ho
  have := hv w hw
  simp only [execOp, hx, hy, Sem.run_bind]
  rw [this]
  rfl
theorem y_fld {o : Oper} {a : Act} {T : TypeId} {k : Nat} {x : Operand} {vx v : Value} (ho : o.op = .field T x k) (hx : a.eval x = vx)
    (hv : ∀ w, S w → (Instr.field T vx k).run P w = .ok v w) : ∀ w, S w → (execOp a.eval o).run P w = .ok (.value v) w := by
  intro w hw
  obtain ⟨dst, op, ty, pos, after, guard⟩ := o
  simp only at ho
  subst ho
  have := hv w hw
  simp only [execOp, hx, Sem.run_bind]
  rw [this]
  rfl
theorem y_func {o : Oper} {a : Act} {f : Fn} {xs ys : Array Operand} {vs us : Array Value} (ho : o.op = .makeFunc f xs ys) (hx : xs.map a.eval = vs) (hy : ys.map a.eval = us) : ∀ w, S w → (execOp a.eval o).run P w = .ok (.value (.func f vs us)) w := by
  intro w hw
  obtain ⟨dst, op, ty, pos, after, guard⟩ := o
  simp only at ho
  subst ho
  subst hx
  subst hy
  rfl
theorem op_look (i : Nat) (d : Option Tmp) {T : TypeId} {x y : Operand} {c : Bool} {vx vy v : Value} {fuel : Nat} {listed : Array Bool} {a : Act} {w : World}
    (hi : decide (i < ops.size) = true) (hd : (opOf ops i).dst = d)
    (hw : Region.wanted (opOf ops i) (yielded ops a.tmps) = true) (ho : (opOf ops i).op = .lookup T x y c) (hx : a.eval x = vx) (hy : a.eval y = vy)
    (hv : (Instr.lookup T vx vy c).run P w = .ok v w) (hS : S w)
    (h : wpAnyH P .any ops (Only R) S fuel (listed.setIfInBounds i true) (a.put d v) w) :
    wpOp P ops (Only R) i (fun a' w' => S w' ∧ wpAnyH P .any ops (Only R) S fuel (listed.setIfInBounds i true) a' w') a w := by
  subst hd
  unfold wpOp
  rw [opOf_some hi]
  simp only [hw, if_true]
  refine .inl ?_
  have he : (execOp a.eval (opOf ops i)).run P w = .ok (.value v) w := y_look (S := fun W => W = w) ho hx hy (fun W hW => by rw [hW]; exact hv) w rfl
  unfold Oper.wp
  rw [he, Oper.upon_value]
  exact ⟨hS, h⟩
end
end Go.Proofs.YtdpnmdnfnplcfaaGreat.Rg

namespace Go.Proofs.YtdpnmdnfnplcfaaGreat.Dk
open Go.RowKit Tx Pm Pl Pr
set_option linter.unusedVariables false
set_option maxRecDepth 100000 in
set_option maxHeartbeats 2000000 in
theorem regMayWrite (ops : Array Oper) (hops : ops = (Rg.opsOf Tryz.f67 8)) (id : Nat) (b bi bl : Nat) (l : Int) (s : St) (p d V X0 X1 : ByteArray) (K X2 X3 : Int) (B : Bool) {u3 u4 u5 u6 u7 u8 u9 u10 u11 u12 u13 u14 u15 u16 u17 u18 u19 u20 u21 u22 u23 u24 u25 u26 u27 u28 u29 u30 u31 u32 u33 u34 u35 u36 u37 u38 u39 u40 u41 u42 u43 u44 : Value} (w : World) (h : Ia b bi bl l w s)
    (hlk : ∀ W, Ia b bi bl l W s → (Instr.lookup 61 (.map (some bi)) (.string p) false).run Tryz.prog W = .ok (.agg #[.int .i64 K, .string X0, .string X1, .int .i64 X2, .int .i64 X3]) W)
    (hsub : IntKind.i64.wrap ((d.size : Int) - (X0.size : Int)) = (d.size : Int) - (X0.size : Int))
    (cv : ∀ W, Calls Tryz.prog 61 #[.string p] W fun e w' => e = .returned (.string V) ∧ ∃ n, w' = W.drewN n)
    (cf : ∀ W, Ia b bi bl l W s → Calls Tryz.prog 106 #[.pointer (some ⟨b, 0, none⟩), .string V, .int .i64 ((d.size : Int) - (X0.size : Int))] W fun e w' => e = .returned (.bool B) ∧ Below W.heap.size W w') :
    (Code.region id ops true).wp Tryz.prog (Rg.Only fun a' w' => a' = ⟨#[(.pointer (some ⟨b, 0, none⟩)), (.string p), (.string d), u3, u4, u5, u6, u7, u8, u9, u10, u11, u12, u13, u14, u15, u16, u17, u18, u19, u20, u21, u22, u23, u24, u25, u26, u27, u28, (.bool B), (.pointer (some ⟨b, 0, none⟩)), (.string p), (.string V), (.string d), (.int .i64 (d.size : Int)), (.pointer (some ⟨b, 0, none⟩)), (.pointer (some ⟨b, 0, none⟩)), (.pointer (some ⟨b, 0, none⟩)), (.map (some bi)), (.string p), (.agg #[.int .i64 K, .string X0, .string X1, .int .i64 X2, .int .i64 X3]), (.string X0), (.int .i64 (X0.size : Int)), (.int .i64 ((d.size : Int) - (X0.size : Int))), (.bool B)], []⟩ ∧ Below w.heap.size w w') ⟨#[(.pointer (some ⟨b, 0, none⟩)), (.string p), (.string d), u3, u4, u5, u6, u7, u8, u9, u10, u11, u12, u13, u14, u15, u16, u17, u18, u19, u20, u21, u22, u23, u24, u25, u26, u27, u28, u29, u30, u31, u32, u33, u34, u35, u36, u37, u38, u39, u40, u41, u42, u43, u44], []⟩ w := by
  subst hops
  have hNS : Region.noSelect (Rg.opsOf Tryz.f67 8) = true := by kernel_rfl
  have h0 : Ia b bi bl l w.drew s ∧ Below w.heap.size w w.drew := ⟨h.below (Below.refl _ _).drew, (Below.refl _ _).drew⟩
  refine wp_region_held_drew (S := fun W => Ia b bi bl l W s ∧ Below w.heap.size w W) (by kernel_rfl) h0 (fun hHeld => ?_)
  rw [show (Rg.opsOf Tryz.f67 8).size = 16 by kernel_rfl]
  refine Rg.take (ops := (Rg.opsOf Tryz.f67 8)) 0 (some 30) ((.pointer (some ⟨b, 0, none⟩))) hNS (by kernel_rfl) (by kernel_rfl) (by kernel_rfl) (by kernel_rfl) (by kernel_rfl) hHeld (Rg.y_move (x := (Operand.tmp 0)) (Or.inl (by kernel_rfl)) (by kernel_rfl)) ?_
  refine Rg.take (ops := (Rg.opsOf Tryz.f67 8)) 1 (some 31) ((.string p)) hNS (by kernel_rfl) (by kernel_rfl) (by kernel_rfl) (by kernel_rfl) (by kernel_rfl) hHeld (Rg.y_move (x := (Operand.tmp 1)) (Or.inl (by kernel_rfl)) (by kernel_rfl)) ?_
  refine Rg.take (ops := (Rg.opsOf Tryz.f67 8)) 3 (some 33) ((.string d)) hNS (by kernel_rfl) (by kernel_rfl) (by kernel_rfl) (by kernel_rfl) (by kernel_rfl) hHeld (Rg.y_move (x := (Operand.tmp 2)) (Or.inl (by kernel_rfl)) (by kernel_rfl)) ?_
  refine Rg.take (ops := (Rg.opsOf Tryz.f67 8)) 4 (some 34) ((.int .i64 (d.size : Int))) hNS (by kernel_rfl) (by kernel_rfl) (by kernel_rfl) (by kernel_rfl) (by kernel_rfl) hHeld (Rg.y_len (x := (Operand.tmp 33)) (ats := #[9]) (vx := (.string d)) (n := d.size) (by kernel_rfl) (by kernel_rfl) ?_) ?_
  · (intro ty w hSw; go_simp)
  refine Rg.take (ops := (Rg.opsOf Tryz.f67 8)) 5 (some 35) ((.pointer (some ⟨b, 0, none⟩))) hNS (by kernel_rfl) (by kernel_rfl) (by kernel_rfl) (by kernel_rfl) (by kernel_rfl) hHeld (Rg.y_move (x := (Operand.tmp 0)) (Or.inl (by kernel_rfl)) (by kernel_rfl)) ?_
  refine Rg.take (ops := (Rg.opsOf Tryz.f67 8)) 6 (some 36) ((.pointer (some ⟨b, 0, none⟩))) hNS (by kernel_rfl) (by kernel_rfl) (by kernel_rfl) (by kernel_rfl) (by kernel_rfl) hHeld (Rg.y_nil (x := (Operand.tmp 35)) (by kernel_rfl) (by kernel_rfl)) ?_
  refine Rg.take (ops := (Rg.opsOf Tryz.f67 8)) 7 (some 37) ((.pointer (some ⟨b, 0, none⟩))) hNS (by kernel_rfl) (by kernel_rfl) (by kernel_rfl) (by kernel_rfl) (by kernel_rfl) hHeld (Rg.y_field (T := 64) (k := 0) (x := (Operand.tmp 36)) (vx := (.pointer (some ⟨b, 0, none⟩))) (by kernel_rfl) (by kernel_rfl) ?_) ?_
  · (intro w hSw; clear hSw; go_simp)
  refine Rg.take (ops := (Rg.opsOf Tryz.f67 8)) 8 (some 38) ((.map (some bi))) hNS (by kernel_rfl) (by kernel_rfl) (by kernel_rfl) (by kernel_rfl) (by kernel_rfl) hHeld (Rg.y_load (T := 61) (x := (Operand.tmp 37)) (vx := (.pointer (some ⟨b, 0, none⟩))) (by kernel_rfl) (by kernel_rfl) ?_) ?_
  · (intro w hSw; have c0 := hSw.1.cell.1; clear hSw; go_simp)
  refine Rg.take (ops := (Rg.opsOf Tryz.f67 8)) 9 (some 39) ((.string p)) hNS (by kernel_rfl) (by kernel_rfl) (by kernel_rfl) (by kernel_rfl) (by kernel_rfl) hHeld (Rg.y_move (x := (Operand.tmp 1)) (Or.inl (by kernel_rfl)) (by kernel_rfl)) ?_
  refine Rg.take (ops := (Rg.opsOf Tryz.f67 8)) 10 (some 40) ((.agg #[.int .i64 K, .string X0, .string X1, .int .i64 X2, .int .i64 X3])) hNS (by kernel_rfl) (by kernel_rfl) (by kernel_rfl) (by kernel_rfl) (by kernel_rfl) hHeld (Rg.y_look (T := 61) (x := (Operand.tmp 38)) (y := (Operand.tmp 39)) (c := false) (vx := (.map (some bi))) (vy := (.string p)) (by kernel_rfl) (by kernel_rfl) (by kernel_rfl) ?_) ?_
  · (intro w hSw; exact hlk _ hSw.1)
  refine Rg.take (ops := (Rg.opsOf Tryz.f67 8)) 11 (some 41) ((.string X0)) hNS (by kernel_rfl) (by kernel_rfl) (by kernel_rfl) (by kernel_rfl) (by kernel_rfl) hHeld (Rg.y_fld (T := 97) (k := 1) (x := (Operand.tmp 40)) (vx := (.agg #[.int .i64 K, .string X0, .string X1, .int .i64 X2, .int .i64 X3])) (by kernel_rfl) (by kernel_rfl) ?_) ?_
  · (intro w hSw; exact fld1 _ _ _ _ _ w)
  refine Rg.take (ops := (Rg.opsOf Tryz.f67 8)) 12 (some 42) ((.int .i64 (X0.size : Int))) hNS (by kernel_rfl) (by kernel_rfl) (by kernel_rfl) (by kernel_rfl) (by kernel_rfl) hHeld (Rg.y_len (x := (Operand.tmp 41)) (ats := #[9]) (vx := (.string X0)) (n := X0.size) (by kernel_rfl) (by kernel_rfl) ?_) ?_
  · (intro ty w hSw; go_simp)
  refine Rg.take (ops := (Rg.opsOf Tryz.f67 8)) 13 (some 43) ((.int .i64 ((d.size : Int) - (X0.size : Int)))) hNS (by kernel_rfl) (by kernel_rfl) (by kernel_rfl) (by kernel_rfl) (by kernel_rfl) hHeld (Rg.y_bin (b := BinOp.sub) (T := 3) (R' := 3) (x := (Operand.tmp 34)) (y := (Operand.tmp 42)) (vx := (.int .i64 (d.size : Int))) (vy := (.int .i64 (X0.size : Int))) (by kernel_rfl) (by kernel_rfl) (by kernel_rfl) ?_) ?_
  · (intro w hSw; clear hSw; go_simp <;> exact hsub)
  refine Rg.call (ops := (Rg.opsOf Tryz.f67 8)) (fn := Tryz.f61) (xs := #[Operand.tmp 31]) (ats := #[9]) 2 (some 32) 61 #[(.string p)] (by kernel_rfl) (by kernel_rfl) (by kernel_rfl) (by kernel_rfl) (by kernel_rfl) Tryz.func61 (by kernel_rfl) (by kernel_rfl) (by kernel_rfl) ?_
  refine (cv _).mono ?_
  rintro e w5 ⟨rfl, n5, rfl⟩
  refine ⟨_, rfl, ⟨hHeld.1.below (below_drewN _ _), below_call hHeld.2 (below_drewN _ _)⟩, fun hHeld => ?_⟩
  refine Rg.call (ops := (Rg.opsOf Tryz.f67 8)) (fn := Tryz.f106) (xs := #[Operand.tmp 30, Operand.tmp 32, Operand.tmp 43]) (ats := #[23, 9, 3]) 14 (some 44) 106 #[(.pointer (some ⟨b, 0, none⟩)), (.string V), (.int .i64 ((d.size : Int) - (X0.size : Int)))] (by kernel_rfl) (by kernel_rfl) (by kernel_rfl) (by kernel_rfl) (by kernel_rfl) Tryz.func106 (by kernel_rfl) (by kernel_rfl) (by kernel_rfl) ?_
  refine (cf _ hHeld.1).mono ?_
  rintro e w6 ⟨rfl, hb6⟩
  refine ⟨_, rfl, ⟨hHeld.1.below hb6, below_call hHeld.2 hb6⟩, fun hHeld => ?_⟩
  refine Rg.take (ops := (Rg.opsOf Tryz.f67 8)) 15 (some 29) ((.bool B)) hNS (by kernel_rfl) (by kernel_rfl) (by kernel_rfl) (by kernel_rfl) (by kernel_rfl) hHeld (Rg.y_move (x := (Operand.tmp 44)) (Or.inr (by kernel_rfl)) (by kernel_rfl)) ?_
  refine Rg.done (ops := (Rg.opsOf Tryz.f67 8)) (by kernel_rfl) ?_
  exact ⟨by kernel_rfl, hHeld.2⟩
set_option maxRecDepth 100000 in
set_option maxHeartbeats 2000000 in
theorem regMayRename1 (ops : Array Oper) (hops : ops = (Rg.opsOf Tryz.f80 12)) (id : Nat) (b bi bl gf gg : Nat) (l : Int) (s : St) (t X Y V : ByteArray) (B : Bool) {u1 u3 u4 u5 u6 u7 u11 u12 u13 u14 u15 u16 u17 u18 u19 u20 u21 u22 u23 u24 u25 u26 u27 u28 u29 u30 u31 u32 u33 u34 u35 u36 u37 u38 u39 u40 u41 u42 u43 u44 u45 u46 u47 u48 u49 u50 u51 u52 u53 u54 u55 u56 u57 u58 u59 u60 u61 u62 u63 u64 u65 : Value} (w : World) (h : Ia b bi bl l w s)
    (hX : w.cell? ⟨gf, 1, none⟩ = some (.string X)) (hY : w.cell? ⟨gg, 1, none⟩ = some (.string Y))
    (hsub : IntKind.i64.wrap ((X.size : Int) - (Y.size : Int)) = (X.size : Int) - (Y.size : Int))
    (cv : ∀ W, Calls Tryz.prog 61 #[.string t] W fun e w' => e = .returned (.string V) ∧ ∃ n, w' = W.drewN n)
    (cf : ∀ W, Ia b bi bl l W s → Calls Tryz.prog 106 #[.pointer (some ⟨b, 0, none⟩), .string V, .int .i64 ((X.size : Int) - (Y.size : Int))] W fun e w' => e = .returned (.bool B) ∧ Below W.heap.size W w') :
    (Code.region id ops true).wp Tryz.prog (Rg.Only fun a' w' => a' = ⟨#[(.pointer (some ⟨b, 0, none⟩)), u1, (.string t), u3, u4, u5, u6, u7, (.pointer (some ⟨gf, 0, none⟩)), (.pointer (some ⟨gg, 0, none⟩)), (.bool true), u11, u12, u13, u14, u15, u16, u17, u18, u19, u20, u21, u22, u23, u24, u25, u26, u27, u28, u29, u30, u31, u32, u33, u34, u35, u36, u37, u38, u39, u40, u41, u42, u43, u44, u45, u46, u47, u48, u49, u50, (.bool B), (.bool true), (.bool true), (.pointer (some ⟨b, 0, none⟩)), (.string t), (.string V), (.pointer (some ⟨gf, 1, none⟩)), (.string X), (.int .i64 (X.size : Int)), (.pointer (some ⟨gg, 1, none⟩)), (.string Y), (.int .i64 (Y.size : Int)), (.int .i64 ((X.size : Int) - (Y.size : Int))), (.bool B), (.bool B)], []⟩ ∧ Below w.heap.size w w') ⟨#[(.pointer (some ⟨b, 0, none⟩)), u1, (.string t), u3, u4, u5, u6, u7, (.pointer (some ⟨gf, 0, none⟩)), (.pointer (some ⟨gg, 0, none⟩)), (.bool true), u11, u12, u13, u14, u15, u16, u17, u18, u19, u20, u21, u22, u23, u24, u25, u26, u27, u28, u29, u30, u31, u32, u33, u34, u35, u36, u37, u38, u39, u40, u41, u42, u43, u44, u45, u46, u47, u48, u49, u50, u51, u52, u53, u54, u55, u56, u57, u58, u59, u60, u61, u62, u63, u64, u65], []⟩ w := by
  subst hops
  have hNS : Region.noSelect (Rg.opsOf Tryz.f80 12) = true := by kernel_rfl
  have h0 : Ia b bi bl l w.drew s ∧ Below w.heap.size w w.drew ∧ w.drew.cell? ⟨gf, 1, none⟩ = some (.string X) ∧ w.drew.cell? ⟨gg, 1, none⟩ = some (.string Y) := ⟨h.below (Below.refl _ _).drew, (Below.refl _ _).drew, hX, hY⟩
  refine wp_region_held_drew (S := fun W => Ia b bi bl l W s ∧ Below w.heap.size w W ∧ W.cell? ⟨gf, 1, none⟩ = some (.string X) ∧ W.cell? ⟨gg, 1, none⟩ = some (.string Y)) (by kernel_rfl) h0 (fun hHeld => ?_)
  rw [show (Rg.opsOf Tryz.f80 12).size = 15 by kernel_rfl]
  refine Rg.take (ops := (Rg.opsOf Tryz.f80 12)) 0 (some 52) ((.bool true)) hNS (by kernel_rfl) (by kernel_rfl) (by kernel_rfl) (by kernel_rfl) (by kernel_rfl) hHeld (Rg.y_move (x := (Operand.tmp 10)) (Or.inl (by kernel_rfl)) (by kernel_rfl)) ?_
  refine Rg.take (ops := (Rg.opsOf Tryz.f80 12)) 1 (some 53) ((.bool true)) hNS (by kernel_rfl) (by kernel_rfl) (by kernel_rfl) (by kernel_rfl) (by kernel_rfl) hHeld (Rg.y_move (x := (Operand.tmp 52)) (Or.inl (by kernel_rfl)) (by kernel_rfl)) ?_
  refine Rg.take (ops := (Rg.opsOf Tryz.f80 12)) 2 (some 54) ((.pointer (some ⟨b, 0, none⟩))) hNS (by kernel_rfl) (by kernel_rfl) (by kernel_rfl) (by kernel_rfl) (by kernel_rfl) hHeld (Rg.y_move (x := (Operand.tmp 0)) (Or.inl (by kernel_rfl)) (by kernel_rfl)) ?_
  refine Rg.take (ops := (Rg.opsOf Tryz.f80 12)) 3 (some 55) ((.string t)) hNS (by kernel_rfl) (by kernel_rfl) (by kernel_rfl) (by kernel_rfl) (by kernel_rfl) hHeld (Rg.y_move (x := (Operand.tmp 2)) (Or.inl (by kernel_rfl)) (by kernel_rfl)) ?_
  refine Rg.take (ops := (Rg.opsOf Tryz.f80 12)) 5 (some 57) ((.pointer (some ⟨gf, 1, none⟩))) hNS (by kernel_rfl) (by kernel_rfl) (by kernel_rfl) (by kernel_rfl) (by kernel_rfl) hHeld (Rg.y_field (T := 97) (k := 1) (x := (Operand.tmp 8)) (vx := (.pointer (some ⟨gf, 0, none⟩))) (by kernel_rfl) (by kernel_rfl) ?_) ?_
  · (intro w hSw; clear hSw; go_simp)
  refine Rg.take (ops := (Rg.opsOf Tryz.f80 12)) 6 (some 58) ((.string X)) hNS (by kernel_rfl) (by kernel_rfl) (by kernel_rfl) (by kernel_rfl) (by kernel_rfl) hHeld (Rg.y_load (T := 9) (x := (Operand.tmp 57)) (vx := (.pointer (some ⟨gf, 1, none⟩))) (by kernel_rfl) (by kernel_rfl) ?_) ?_
  · (intro w hSw; obtain ⟨_, _, cx, cy⟩ := hSw; go_simp)
  refine Rg.take (ops := (Rg.opsOf Tryz.f80 12)) 7 (some 59) ((.int .i64 (X.size : Int))) hNS (by kernel_rfl) (by kernel_rfl) (by kernel_rfl) (by kernel_rfl) (by kernel_rfl) hHeld (Rg.y_len (x := (Operand.tmp 58)) (ats := #[9]) (vx := (.string X)) (n := X.size) (by kernel_rfl) (by kernel_rfl) ?_) ?_
  · (intro ty w hSw; go_simp)
  refine Rg.take (ops := (Rg.opsOf Tryz.f80 12)) 8 (some 60) ((.pointer (some ⟨gg, 1, none⟩))) hNS (by kernel_rfl) (by kernel_rfl) (by kernel_rfl) (by kernel_rfl) (by kernel_rfl) hHeld (Rg.y_field (T := 97) (k := 1) (x := (Operand.tmp 9)) (vx := (.pointer (some ⟨gg, 0, none⟩))) (by kernel_rfl) (by kernel_rfl) ?_) ?_
  · (intro w hSw; clear hSw; go_simp)
  refine Rg.take (ops := (Rg.opsOf Tryz.f80 12)) 9 (some 61) ((.string Y)) hNS (by kernel_rfl) (by kernel_rfl) (by kernel_rfl) (by kernel_rfl) (by kernel_rfl) hHeld (Rg.y_load (T := 9) (x := (Operand.tmp 60)) (vx := (.pointer (some ⟨gg, 1, none⟩))) (by kernel_rfl) (by kernel_rfl) ?_) ?_
  · (intro w hSw; obtain ⟨_, _, cx, cy⟩ := hSw; go_simp)
  refine Rg.take (ops := (Rg.opsOf Tryz.f80 12)) 10 (some 62) ((.int .i64 (Y.size : Int))) hNS (by kernel_rfl) (by kernel_rfl) (by kernel_rfl) (by kernel_rfl) (by kernel_rfl) hHeld (Rg.y_len (x := (Operand.tmp 61)) (ats := #[9]) (vx := (.string Y)) (n := Y.size) (by kernel_rfl) (by kernel_rfl) ?_) ?_
  · (intro ty w hSw; go_simp)
  refine Rg.take (ops := (Rg.opsOf Tryz.f80 12)) 11 (some 63) ((.int .i64 ((X.size : Int) - (Y.size : Int)))) hNS (by kernel_rfl) (by kernel_rfl) (by kernel_rfl) (by kernel_rfl) (by kernel_rfl) hHeld (Rg.y_bin (b := BinOp.sub) (T := 3) (R' := 3) (x := (Operand.tmp 59)) (y := (Operand.tmp 62)) (vx := (.int .i64 (X.size : Int))) (vy := (.int .i64 (Y.size : Int))) (by kernel_rfl) (by kernel_rfl) (by kernel_rfl) ?_) ?_
  · (intro w hSw; clear hSw; go_simp <;> exact hsub)
  refine Rg.call (ops := (Rg.opsOf Tryz.f80 12)) (fn := Tryz.f61) (xs := #[Operand.tmp 55]) (ats := #[9]) 4 (some 56) 61 #[(.string t)] (by kernel_rfl) (by kernel_rfl) (by kernel_rfl) (by kernel_rfl) (by kernel_rfl) Tryz.func61 (by kernel_rfl) (by kernel_rfl) (by kernel_rfl) ?_
  refine (cv _).mono ?_
  rintro e w5 ⟨rfl, n5, rfl⟩
  refine ⟨_, rfl, ⟨hHeld.1.below (below_drewN _ _), below_call hHeld.2.1 (below_drewN _ _), hHeld.2.2.1, hHeld.2.2.2⟩, fun hHeld => ?_⟩
  refine Rg.call (ops := (Rg.opsOf Tryz.f80 12)) (fn := Tryz.f106) (xs := #[Operand.tmp 54, Operand.tmp 56, Operand.tmp 63]) (ats := #[23, 9, 3]) 12 (some 64) 106 #[(.pointer (some ⟨b, 0, none⟩)), (.string V), (.int .i64 ((X.size : Int) - (Y.size : Int)))] (by kernel_rfl) (by kernel_rfl) (by kernel_rfl) (by kernel_rfl) (by kernel_rfl) Tryz.func106 (by kernel_rfl) (by kernel_rfl) (by kernel_rfl) ?_
  refine (cf _ hHeld.1).mono ?_
  rintro e w6 ⟨rfl, hb6⟩
  refine ⟨_, rfl, ⟨hHeld.1.below hb6, below_call hHeld.2.1 hb6, (hb6.cell (p := ⟨gf, 1, none⟩) (World.block_lt_of_cell? _ _ hHeld.2.2.1)).trans hHeld.2.2.1, (hb6.cell (p := ⟨gg, 1, none⟩) (World.block_lt_of_cell? _ _ hHeld.2.2.2)).trans hHeld.2.2.2⟩, fun hHeld => ?_⟩
  refine Rg.take (ops := (Rg.opsOf Tryz.f80 12)) 13 (some 65) ((.bool B)) hNS (by kernel_rfl) (by kernel_rfl) (by kernel_rfl) (by kernel_rfl) (by kernel_rfl) hHeld (Rg.y_pick (c := (Operand.tmp 53)) (x := (Operand.tmp 64)) (y := (Operand.const (Value.bool false))) (b := true) (by kernel_rfl) (by kernel_rfl) (by kernel_rfl)) ?_
  refine Rg.take (ops := (Rg.opsOf Tryz.f80 12)) 14 (some 51) ((.bool B)) hNS (by kernel_rfl) (by kernel_rfl) (by kernel_rfl) (by kernel_rfl) (by kernel_rfl) hHeld (Rg.y_move (x := (Operand.tmp 65)) (Or.inr (by kernel_rfl)) (by kernel_rfl)) ?_
  refine Rg.done (ops := (Rg.opsOf Tryz.f80 12)) (by kernel_rfl) ?_
  exact ⟨by kernel_rfl, hHeld.2.1⟩
set_option maxRecDepth 100000 in
set_option maxHeartbeats 2000000 in
theorem regMayRename0 (ops : Array Oper) (hops : ops = (Rg.opsOf Tryz.f80 12)) (id : Nat) (b bi bl gf gg : Nat) (l : Int) (s : St) (t X Y V : ByteArray) (B : Bool) {u1 u3 u4 u5 u6 u7 u11 u12 u13 u14 u15 u16 u17 u18 u19 u20 u21 u22 u23 u24 u25 u26 u27 u28 u29 u30 u31 u32 u33 u34 u35 u36 u37 u38 u39 u40 u41 u42 u43 u44 u45 u46 u47 u48 u49 u50 u51 u52 u53 u54 u55 u56 u57 u58 u59 u60 u61 u62 u63 u64 u65 : Value} (w : World) (h : Ia b bi bl l w s)
    (hX : w.cell? ⟨gf, 1, none⟩ = some (.string X)) (hY : w.cell? ⟨gg, 1, none⟩ = some (.string Y)) :
    (Code.region id ops true).wp Tryz.prog (Rg.Only fun a' w' => a' = ⟨#[(.pointer (some ⟨b, 0, none⟩)), u1, (.string t), u3, u4, u5, u6, u7, (.pointer (some ⟨gf, 0, none⟩)), (.pointer (some ⟨gg, 0, none⟩)), (.bool false), u11, u12, u13, u14, u15, u16, u17, u18, u19, u20, u21, u22, u23, u24, u25, u26, u27, u28, u29, u30, u31, u32, u33, u34, u35, u36, u37, u38, u39, u40, u41, u42, u43, u44, u45, u46, u47, u48, u49, u50, (Value.bool false), (.bool false), (.bool false), undef, undef, undef, undef, undef, undef, undef, undef, undef, undef, undef, (Value.bool false)], []⟩ ∧ Below w.heap.size w w') ⟨#[(.pointer (some ⟨b, 0, none⟩)), u1, (.string t), u3, u4, u5, u6, u7, (.pointer (some ⟨gf, 0, none⟩)), (.pointer (some ⟨gg, 0, none⟩)), (.bool false), u11, u12, u13, u14, u15, u16, u17, u18, u19, u20, u21, u22, u23, u24, u25, u26, u27, u28, u29, u30, u31, u32, u33, u34, u35, u36, u37, u38, u39, u40, u41, u42, u43, u44, u45, u46, u47, u48, u49, u50, u51, u52, u53, u54, u55, u56, u57, u58, u59, u60, u61, u62, u63, u64, u65], []⟩ w := by
  subst hops
  have hNS : Region.noSelect (Rg.opsOf Tryz.f80 12) = true := by kernel_rfl
  have h0 : Ia b bi bl l w.drew s ∧ Below w.heap.size w w.drew ∧ w.drew.cell? ⟨gf, 1, none⟩ = some (.string X) ∧ w.drew.cell? ⟨gg, 1, none⟩ = some (.string Y) := ⟨h.below (Below.refl _ _).drew, (Below.refl _ _).drew, hX, hY⟩
  refine wp_region_held_drew (S := fun W => Ia b bi bl l W s ∧ Below w.heap.size w W ∧ W.cell? ⟨gf, 1, none⟩ = some (.string X) ∧ W.cell? ⟨gg, 1, none⟩ = some (.string Y)) (by kernel_rfl) h0 (fun hHeld => ?_)
  rw [show (Rg.opsOf Tryz.f80 12).size = 15 by kernel_rfl]
  refine Rg.take (ops := (Rg.opsOf Tryz.f80 12)) 0 (some 52) ((.bool false)) hNS (by kernel_rfl) (by kernel_rfl) (by kernel_rfl) (by kernel_rfl) (by kernel_rfl) hHeld (Rg.y_move (x := (Operand.tmp 10)) (Or.inl (by kernel_rfl)) (by kernel_rfl)) ?_
  refine Rg.take (ops := (Rg.opsOf Tryz.f80 12)) 1 (some 53) ((.bool false)) hNS (by kernel_rfl) (by kernel_rfl) (by kernel_rfl) (by kernel_rfl) (by kernel_rfl) hHeld (Rg.y_move (x := (Operand.tmp 52)) (Or.inl (by kernel_rfl)) (by kernel_rfl)) ?_
  refine Rg.skip (ops := (Rg.opsOf Tryz.f80 12)) 2 (some 54) hNS (by kernel_rfl) (by kernel_rfl) (by kernel_rfl) (by kernel_rfl) (by kernel_rfl) hHeld ?_
  refine Rg.skip (ops := (Rg.opsOf Tryz.f80 12)) 3 (some 55) hNS (by kernel_rfl) (by kernel_rfl) (by kernel_rfl) (by kernel_rfl) (by kernel_rfl) hHeld ?_
  refine Rg.skip (ops := (Rg.opsOf Tryz.f80 12)) 4 (some 56) hNS (by kernel_rfl) (by kernel_rfl) (by kernel_rfl) (by kernel_rfl) (by kernel_rfl) hHeld ?_
  refine Rg.skip (ops := (Rg.opsOf Tryz.f80 12)) 5 (some 57) hNS (by kernel_rfl) (by kernel_rfl) (by kernel_rfl) (by kernel_rfl) (by kernel_rfl) hHeld ?_
  refine Rg.skip (ops := (Rg.opsOf Tryz.f80 12)) 6 (some 58) hNS (by kernel_rfl) (by kernel_rfl) (by kernel_rfl) (by kernel_rfl) (by kernel_rfl) hHeld ?_
  refine Rg.skip (ops := (Rg.opsOf Tryz.f80 12)) 7 (some 59) hNS (by kernel_rfl) (by kernel_rfl) (by kernel_rfl) (by kernel_rfl) (by kernel_rfl) hHeld ?_
  refine Rg.skip (ops := (Rg.opsOf Tryz.f80 12)) 8 (some 60) hNS (by kernel_rfl) (by kernel_rfl) (by kernel_rfl) (by kernel_rfl) (by kernel_rfl) hHeld ?_
  refine Rg.skip (ops := (Rg.opsOf Tryz.f80 12)) 9 (some 61) hNS (by kernel_rfl) (by kernel_rfl) (by kernel_rfl) (by kernel_rfl) (by kernel_rfl) hHeld ?_
  refine Rg.skip (ops := (Rg.opsOf Tryz.f80 12)) 10 (some 62) hNS (by kernel_rfl) (by kernel_rfl) (by kernel_rfl) (by kernel_rfl) (by kernel_rfl) hHeld ?_
  refine Rg.skip (ops := (Rg.opsOf Tryz.f80 12)) 11 (some 63) hNS (by kernel_rfl) (by kernel_rfl) (by kernel_rfl) (by kernel_rfl) (by kernel_rfl) hHeld ?_
  refine Rg.skip (ops := (Rg.opsOf Tryz.f80 12)) 12 (some 64) hNS (by kernel_rfl) (by kernel_rfl) (by kernel_rfl) (by kernel_rfl) (by kernel_rfl) hHeld ?_
  refine Rg.take (ops := (Rg.opsOf Tryz.f80 12)) 13 (some 65) ((Value.bool false)) hNS (by kernel_rfl) (by kernel_rfl) (by kernel_rfl) (by kernel_rfl) (by kernel_rfl) hHeld (Rg.y_pick (c := (Operand.tmp 53)) (x := (Operand.tmp 64)) (y := (Operand.const (Value.bool false))) (b := false) (by kernel_rfl) (by kernel_rfl) (by kernel_rfl)) ?_
  refine Rg.take (ops := (Rg.opsOf Tryz.f80 12)) 14 (some 51) ((Value.bool false)) hNS (by kernel_rfl) (by kernel_rfl) (by kernel_rfl) (by kernel_rfl) (by kernel_rfl) hHeld (Rg.y_move (x := (Operand.tmp 65)) (Or.inr (by kernel_rfl)) (by kernel_rfl)) ?_
  refine Rg.done (ops := (Rg.opsOf Tryz.f80 12)) (by kernel_rfl) ?_
  exact ⟨by kernel_rfl, hHeld.2.1⟩
end Go.Proofs.YtdpnmdnfnplcfaaGreat.Dk

namespace Go.Proofs.YtdpnmdnfnplcfaaGreat.Dk
open Go.RowKit Tx Pm Pl Pr
set_option linter.unusedVariables false
theorem ready1 (b bi bl m : Nat) (M l : Int) (s : St) (p : ByteArray) (w : World) (h : Ia b bi bl l w s) (hm : m ≤ 1000) (hM : M = (m : Int) + 1) (hp : p.size ≤ 8000000000000) :
    Calls Tryz.prog 104 #[.pointer (some ⟨b, 0, none⟩), .int .i64 M, .slice (some ⟨w.heap.size, 0, none⟩) 1 1] (w.alloc (.cells #[.string p] 9)) fun e w' => e = .returned (.int .i64 (first s p m : Nat)) ∧ Below w.heap.size w w' := by
  have hb := (Below.refl _ w).alloc (Nat.le_refl _) (.cells #[.string p] 9)
  refine (iReady_any b bi bl w.heap.size 1 1 m M l s [p] _ (h.below hb) rfl hm hM (fun k q hk => ?_) (by simp) (fun q hq => ?_) (by omega)).mono ?_
  · rw [World.cell?_alloc_at _ _ _ _ rfl]
    match k, hk with
    | 0, hk => cases hk; rfl
  · rw [List.mem_singleton.1 hq]
    exact hp
  · rintro e w' ⟨rfl, h2⟩
    rw [rdy_one]
    exact ⟨rfl, below_call hb h2⟩
theorem ready2 (b bi bl m : Nat) (M l : Int) (s : St) (p q : ByteArray) (w : World) (h : Ia b bi bl l w s) (hm : m ≤ 1000) (hM : M = (m : Int) + 1) (hp : p.size ≤ 8000000000000) (hq : q.size ≤ 8000000000000) :
    Calls Tryz.prog 104 #[.pointer (some ⟨b, 0, none⟩), .int .i64 M, .slice (some ⟨w.heap.size, 0, none⟩) 2 2] (w.alloc (.cells #[.string p, .string q] 9)) fun e w' => e = .returned (.int .i64 ((if first s p m ≠ 0 then first s p m else first s q m : Nat) : Nat)) ∧ Below w.heap.size w w' := by
  have hb := (Below.refl _ w).alloc (Nat.le_refl _) (.cells #[.string p, .string q] 9)
  refine (iReady_any b bi bl w.heap.size 2 2 m M l s [p, q] _ (h.below hb) rfl hm hM (fun k x hk => ?_) (by simp) (fun x hx => ?_) (by omega)).mono ?_
  · rw [World.cell?_alloc_at _ _ _ _ rfl]
    match k, hk with
    | 0, hk => cases hk; rfl
    | 1, hk => cases hk; rfl
  · rcases List.mem_cons.1 hx with rfl | hx
    · exact hp
    · rw [List.mem_singleton.1 hx]
      exact hq
  · rintro e w' ⟨rfl, h2⟩
    rw [rdy_two]
    exact ⟨rfl, below_call hb h2⟩
theorem ne_eq {a : Nat} (h : a ≠ 0) : ((a : Int) == 0) = false := beq_eq_false_iff_ne.2 (by omega)
def mayMkdirS (s : St) (p : ByteArray) : Nat := if first s p 0 ≠ 0 then first s p 0 else if home s.L p = false then 11 else if kind s.L p = 2 then 12 else 0
def mayWriteS (s : St) (p d : ByteArray) : Nat := if first s p 1 ≠ 0 then first s p 1 else if home s.L p = false then 11 else if kind s.L p = 1 then 12 else if full s (vol p) ((d.size : Int) - (old s.L p).data.size) = true then 13 else 0
def mayAppendS (s : St) (p d : ByteArray) : Nat := if there s p ≠ 0 then there s p else if full s (vol p) d.size = true then 13 else 0
set_option maxRecDepth 100000 in
set_option maxHeartbeats 1000000 in
theorem iMayMkdir_any (b bi bl : Nat) (l : Int) (s : St) (p : ByteArray) (w : World) (h : Ia b bi bl l w s) (hp : p.size ≤ 8000000000000) :
    Calls Tryz.prog 65 #[.pointer (some ⟨b, 0, none⟩), .string p] w fun e w' => e = .returned (.int .i64 (mayMkdirS s p : Nat)) ∧ Below w.heap.size w w' := by
  have c1 := ready1 b bi bl 0 1 l s p w h (by omega) rfl hp
  have c2 := fun W (hW : Below w.heap.size w W) => iHome_any b bi bl l s p W (h.below hW) hp
  have HL := Lib.hid (fun W (hW : Below w.heap.size w W) => (h.below hW).look (maxLen_of hp))
  have HC := Lib.hid (fun W (hW : Below w.heap.size w W) => (h.below hW).cell.1)
  have f0 := fld0
  unfold mayMkdirS
  generalize first s p 0 = E at c1 ⊢
  generalize home s.L p = H at c2 ⊢
  generalize kind s.L p = K at HL ⊢
  clear h
  by_cases hE : E = 0
  · subst hE
    rw [if_neg (by decide)]
    cases H with
    | false =>
      rw [if_pos rfl]
      go_enter Tryz.func65, Tryz.ntmps65
      go_wp2_with (first | (go_at_call 104; refine c1.mono ?_; rintro e w1 ⟨rfl, hb1⟩; have l0 := HL.out _ hb1; have g0 := HC.out _ hb1) | (go_at_call 105; refine (c2 _ hb1).mono ?_; rintro e w2 ⟨rfl, hb2⟩; have hb3 := below_call hb1 hb2; have l1 := HL.out _ hb3; have g1 := HC.out _ hb3))
      go_ret
      exact ⟨rfl, hb3⟩
    | true =>
      rw [if_neg (by decide)]
      by_cases hK : K = 2
      · subst hK
        rw [if_pos rfl]
        go_enter Tryz.func65, Tryz.ntmps65
        go_wp2_with (first | (go_at_call 104; refine c1.mono ?_; rintro e w1 ⟨rfl, hb1⟩; have l0 := HL.out _ hb1; have g0 := HC.out _ hb1) | (go_at_call 105; refine (c2 _ hb1).mono ?_; rintro e w2 ⟨rfl, hb2⟩; have hb3 := below_call hb1 hb2; have l1 := HL.out _ hb3; have g1 := HC.out _ hb3))
        go_ret
        exact ⟨rfl, hb3⟩
      · rw [if_neg hK]
        have e1 : ((K : Int) == 2) = false := beq_eq_false_iff_ne.2 (by omega)
        clear hK
        go_enter Tryz.func65, Tryz.ntmps65
        go_wp2_with (first | (go_at_call 104; refine c1.mono ?_; rintro e w1 ⟨rfl, hb1⟩; have l0 := HL.out _ hb1; have g0 := HC.out _ hb1) | (go_at_call 105; refine (c2 _ hb1).mono ?_; rintro e w2 ⟨rfl, hb2⟩; have hb3 := below_call hb1 hb2; have l1 := HL.out _ hb3; have g1 := HC.out _ hb3))
        go_ret
        exact ⟨rfl, hb3⟩
  · rw [if_pos hE]
    have e1 := ne_eq hE
    clear hE
    go_enter Tryz.func65, Tryz.ntmps65
    go_wp2_with (first | (go_at_call 104; refine c1.mono ?_; rintro e w1 ⟨rfl, hb1⟩; have l0 := HL.out _ hb1; have g0 := HC.out _ hb1) | (go_at_call 105; refine (c2 _ hb1).mono ?_; rintro e w2 ⟨rfl, hb2⟩; have hb3 := below_call hb1 hb2; have l1 := HL.out _ hb3; have g1 := HC.out _ hb3))
    go_ret
    exact ⟨rfl, hb1⟩
theorem there_mbf (s : St) (p : ByteArray) : there s p = if first s p 1 ≠ 0 then first s p 1 else mbf s.L p := by
  unfold there mbf
  rfl
set_option maxRecDepth 100000 in
set_option maxHeartbeats 1000000 in
theorem iMaySync_any (b bi bl : Nat) (l : Int) (s : St) (p : ByteArray) (w : World) (h : Ia b bi bl l w s) (hp : p.size ≤ 8000000000000) :
    Calls Tryz.prog 87 #[.pointer (some ⟨b, 0, none⟩), .string p] w fun e w' => e = .returned (.int .i64 (there s p : Nat)) ∧ Below w.heap.size w w' := by
  have c1 := ready1 b bi bl 1 2 l s p w h (by omega) rfl hp
  have c2 := fun W (hW : Below w.heap.size w W) => iMbf_any b bi bl l s p W (h.below hW) hp
  rw [there_mbf]
  generalize first s p 1 = E at c1 ⊢
  generalize mbf s.L p = M at c2 ⊢
  clear h
  by_cases hE : E = 0
  · subst hE
    rw [if_neg (by decide)]
    go_enter Tryz.func87, Tryz.ntmps87
    go_wp2_with (first | (go_at_call 104; refine c1.mono ?_; rintro e w1 ⟨rfl, hb1⟩) | (go_at_call 108; refine (c2 _ hb1).mono ?_; rintro e w2 ⟨rfl, rfl⟩))
    go_ret
    exact ⟨rfl, hb1⟩
  · rw [if_pos hE]
    have e1 := ne_eq hE
    clear hE
    go_enter Tryz.func87, Tryz.ntmps87
    go_wp2_with (go_at_call 104; refine c1.mono ?_; rintro e w1 ⟨rfl, hb1⟩)
    go_ret
    exact ⟨rfl, hb1⟩
theorem old_le {s : St} (hf : Fit s) (p : ByteArray) : (old s.L p).data.size ≤ 4000000000000000000 := by
  rcases old_cases s.L p with e | ⟨hm, _⟩
  · rw [e]; show 0 ≤ _; omega
  · exact Nat.le_trans (le_whole hm) hf.2.2
theorem wrap_sub {a b : Nat} (ha : a ≤ 4000000000000000000) (hb : b ≤ 4000000000000000000) : IntKind.i64.wrap ((a : Int) - (b : Int)) = (a : Int) - (b : Int) := IntWalk.i64_in _ (by omega)
set_option maxRecDepth 100000 in
set_option maxHeartbeats 1000000 in
theorem iMayWrite_any (b bi bl : Nat) (l : Int) (s : St) (p d : ByteArray) (w : World) (h : Ia b bi bl l w s) (hR : Rises s.L) (hf : Fit s) (hp : p.size ≤ 8000000000000) (hd : d.size ≤ 1000000000000000000) :
    Calls Tryz.prog 67 #[.pointer (some ⟨b, 0, none⟩), .string p, .string d] w fun e w' => e = .returned (.int .i64 (mayWriteS s p d : Nat)) ∧ Below w.heap.size w w' := by
  have c1 := ready1 b bi bl 1 2 l s p w h (by omega) rfl hp
  have c2 := fun W (hW : Below w.heap.size w W) => iHome_any b bi bl l s p W (h.below hW) hp
  have ho := old_le hf p
  have hv := vol_le p
  have c3 := fun W (hW : Ia b bi bl l W s) => iFull_any b bi bl l s (vol p) ((d.size : Int) - (old s.L p).data.size) W hW hR hf (by omega) (by omega)
  have c4 := fun W => iVol_any p W hp
  have hsub := wrap_sub (a := d.size) (by omega) ho
  have HL := Lib.hid (fun W (hW : Below w.heap.size w W) => (h.below hW).look (maxLen_of hp))
  have hlk := fun W (hW : Ia b bi bl l W s) => hW.look (maxLen_of hp)
  have HC := Lib.hid (fun W (hW : Below w.heap.size w W) => (h.below hW).cell.1)
  have HI := Lib.hid (fun W (hW : Below w.heap.size w W) => h.below hW)
  have f0 := fld0
  unfold mayWriteS
  generalize full s (vol p) ((d.size : Int) - (old s.L p).data.size) = B at c3 ⊢
  generalize first s p 1 = E at c1 ⊢
  generalize home s.L p = H at c2 ⊢
  generalize kind s.L p = K at HL hlk ⊢
  generalize (old s.L p).data = X0 at HL hlk c3 hsub
  generalize (old s.L p).kept = X1 at HL hlk
  generalize stOf (old s.L p) = X2 at HL hlk
  generalize ((old s.L p).stamp : Int) = X3 at HL hlk
  generalize vol p = V at c3 c4
  have HLK := Lib.hid hlk
  have HS := Lib.hid hsub
  clear h hlk hsub ho hv hf hR
  by_cases hE : E = 0
  · subst hE
    rw [if_neg (by decide)]
    cases H with
    | false =>
      rw [if_pos rfl]
      go_enter Tryz.func67, Tryz.ntmps67
      go_wp2_with (first | (go_at_call 104; refine c1.mono ?_; rintro e w1 ⟨rfl, hb1⟩; have l0 := HL.out _ hb1; have g0 := HC.out _ hb1) | (go_at_call 105; refine (c2 _ hb1).mono ?_; rintro e w2 ⟨rfl, hb2⟩; have hb3 := below_call hb1 hb2; have l1 := HL.out _ hb3; have g1 := HC.out _ hb3))
      go_ret
      exact ⟨rfl, hb3⟩
    | true =>
      rw [if_neg (by decide)]
      by_cases hK : K = 1
      · subst hK
        rw [if_pos rfl]
        go_enter Tryz.func67, Tryz.ntmps67
        go_wp2_with (first | (go_at_call 104; refine c1.mono ?_; rintro e w1 ⟨rfl, hb1⟩; have l0 := HL.out _ hb1; have g0 := HC.out _ hb1) | (go_at_call 105; refine (c2 _ hb1).mono ?_; rintro e w2 ⟨rfl, hb2⟩; have hb3 := below_call hb1 hb2; have l1 := HL.out _ hb3; have g1 := HC.out _ hb3))
        go_ret
        exact ⟨rfl, hb3⟩
      · rw [if_neg hK]
        have e1 : ((K : Int) == 1) = false := beq_eq_false_iff_ne.2 (by omega)
        clear hK
        cases B with
        | true =>
          rw [if_pos rfl]
          go_enter Tryz.func67, Tryz.ntmps67
          go_wp2_with (first | (go_at_call 104; refine c1.mono ?_; rintro e w1 ⟨rfl, hb1⟩; have l0 := HL.out _ hb1; have g0 := HC.out _ hb1) | (go_at_call 105; refine (c2 _ hb1).mono ?_; rintro e w2 ⟨rfl, hb2⟩; have hb3 := below_call hb1 hb2; have l1 := HL.out _ hb3; have g1 := HC.out _ hb3))
          refine Rg.wp_only ?_ (regMayWrite _ (by kernel_rfl) _ b bi bl l s p d V X0 X1 K X2 X3 true _ (HI.out _ hb3) HLK.out HS.out c4 c3)
          rintro _ w9 ⟨rfl, hb9⟩
          have hb4 := below_call hb3 hb9
          go_wp2_with fail
          go_ret
          exact ⟨rfl, hb4⟩
        | false =>
          rw [if_neg (by decide)]
          go_enter Tryz.func67, Tryz.ntmps67
          go_wp2_with (first | (go_at_call 104; refine c1.mono ?_; rintro e w1 ⟨rfl, hb1⟩; have l0 := HL.out _ hb1; have g0 := HC.out _ hb1) | (go_at_call 105; refine (c2 _ hb1).mono ?_; rintro e w2 ⟨rfl, hb2⟩; have hb3 := below_call hb1 hb2; have l1 := HL.out _ hb3; have g1 := HC.out _ hb3))
          refine Rg.wp_only ?_ (regMayWrite _ (by kernel_rfl) _ b bi bl l s p d V X0 X1 K X2 X3 false _ (HI.out _ hb3) HLK.out HS.out c4 c3)
          rintro _ w9 ⟨rfl, hb9⟩
          have hb4 := below_call hb3 hb9
          go_wp2_with fail
          go_ret
          exact ⟨rfl, hb4⟩
  · rw [if_pos hE]
    have e1 := ne_eq hE
    clear hE
    go_enter Tryz.func67, Tryz.ntmps67
    go_wp2_with (first | (go_at_call 104; refine c1.mono ?_; rintro e w1 ⟨rfl, hb1⟩; have l0 := HL.out _ hb1; have g0 := HC.out _ hb1) | (go_at_call 105; refine (c2 _ hb1).mono ?_; rintro e w2 ⟨rfl, hb2⟩; have hb3 := below_call hb1 hb2; have l1 := HL.out _ hb3; have g1 := HC.out _ hb3))
    go_ret
    exact ⟨rfl, hb1⟩
set_option maxRecDepth 100000 in
set_option maxHeartbeats 1000000 in
theorem iMayAppend_any (b bi bl : Nat) (l : Int) (s : St) (p d : ByteArray) (w : World) (h : Ia b bi bl l w s) (hR : Rises s.L) (hf : Fit s) (hp : p.size ≤ 8000000000000) (hd : d.size ≤ 1000000000000000000) :
    Calls Tryz.prog 83 #[.pointer (some ⟨b, 0, none⟩), .string p, .string d] w fun e w' => e = .returned (.int .i64 (mayAppendS s p d : Nat)) ∧ Below w.heap.size w w' := by
  have c1 := iMaySync_any b bi bl l s p w h hp
  have hv := vol_le p
  have c3 := fun W (hW : Below w.heap.size w W) => iFull_any b bi bl l s (vol p) (d.size : Int) W (h.below hW) hR hf (by omega) (by omega)
  have c4 := fun W => iVol_any p W hp
  unfold mayAppendS
  generalize full s (vol p) (d.size : Int) = B at c3 ⊢
  generalize there s p = E at c1 ⊢
  generalize vol p = V at c3 c4
  clear h hv hf hR
  by_cases hE : E = 0
  · subst hE
    rw [if_neg (by decide)]
    cases B with
    | true =>
      rw [if_pos rfl]
      go_enter Tryz.func83, Tryz.ntmps83
      go_wp2_with (first | (go_at_call 87; refine c1.mono ?_; rintro e w1 ⟨rfl, hb1⟩) | (go_at_call 61; refine (c4 _).mono ?_; rintro e w2 ⟨rfl, n2, rfl⟩; have hb2 := below_call hb1 (below_drewN _ n2)) | (go_at_call 106; refine (c3 _ hb2).mono ?_; rintro e w3 ⟨rfl, hb3⟩))
      go_ret
      exact ⟨rfl, below_call hb2 hb3⟩
    | false =>
      rw [if_neg (by decide)]
      go_enter Tryz.func83, Tryz.ntmps83
      go_wp2_with (first | (go_at_call 87; refine c1.mono ?_; rintro e w1 ⟨rfl, hb1⟩) | (go_at_call 61; refine (c4 _).mono ?_; rintro e w2 ⟨rfl, n2, rfl⟩; have hb2 := below_call hb1 (below_drewN _ n2)) | (go_at_call 106; refine (c3 _ hb2).mono ?_; rintro e w3 ⟨rfl, hb3⟩))
      go_ret
      exact ⟨rfl, below_call hb2 hb3⟩
  · rw [if_pos hE]
    have e1 := ne_eq hE
    clear hE
    go_enter Tryz.func83, Tryz.ntmps83
    go_wp2_with (first | (go_at_call 87; refine c1.mono ?_; rintro e w1 ⟨rfl, hb1⟩) | (go_at_call 61; refine (c4 _).mono ?_; rintro e w2 ⟨rfl, n2, rfl⟩; have hb2 := below_call hb1 (below_drewN _ n2)) | (go_at_call 106; refine (c3 _ hb2).mono ?_; rintro e w3 ⟨rfl, hb3⟩))
    go_ret
    exact ⟨rfl, hb1⟩
end Go.Proofs.YtdpnmdnfnplcfaaGreat.Dk

namespace Go.Proofs.YtdpnmdnfnplcfaaGreat.Dk
open Go.RowKit Tx Pm Pl Pr
set_option linter.unusedVariables false
structure Box5 (w : World) (g : Nat) (K : Int) (X0 X1 : ByteArray) (X2 X3 : Int) : Prop where
  lt : g < w.heap.size
  c0 : w.cell? ⟨g, 0, none⟩ = some (.int .i64 K)
  c1 : w.cell? ⟨g, 1, none⟩ = some (.string X0)
  c2 : w.cell? ⟨g, 2, none⟩ = some (.string X1)
  c3 : w.cell? ⟨g, 3, none⟩ = some (.int .i64 X2)
  c4 : w.cell? ⟨g, 4, none⟩ = some (.int .i64 X3)
theorem Box5.below {w w1 : World} {g : Nat} {K : Int} {X0 X1 : ByteArray} {X2 X3 : Int} (h : Box5 w g K X0 X1 X2 X3) (hb : Below w.heap.size w w1) : Box5 w1 g K X0 X1 X2 X3 :=
  ⟨Nat.lt_of_lt_of_le h.lt hb.size, (hb.cell (p := ⟨g, 0, none⟩) h.lt).trans h.c0, (hb.cell (p := ⟨g, 1, none⟩) h.lt).trans h.c1, (hb.cell (p := ⟨g, 2, none⟩) h.lt).trans h.c2, (hb.cell (p := ⟨g, 3, none⟩) h.lt).trans h.c3, (hb.cell (p := ⟨g, 4, none⟩) h.lt).trans h.c4⟩
theorem box5_of {w : World} {g : Nat} {K : Int} {X0 X1 : ByteArray} {X2 X3 : Int} {T : TypeId} {fz : Nat × Nat} (h : w.heap[g]? = some (.cells #[.int .i64 K, .string X0, .string X1, .int .i64 X2, .int .i64 X3] T fz)) : Box5 w g K X0 X1 X2 X3 := by
  refine ⟨(Array.getElem?_eq_some_iff.1 h).1, ?_, ?_, ?_, ?_, ?_⟩ <;> · unfold World.cell?; rw [h]; rfl
theorem two_first (w : World) (o o2 : Obj) : ((w.alloc o).alloc o2).drew.heap[w.heap.size]? = some o := by
  have h := (((Below.refl _ (w.alloc o)).alloc (Nat.le_refl _) o2).drew).block w.heap.size (by simp)
  exact h.trans (new_at w o rfl)
theorem two_second (w : World) (o o2 : Obj) : ((w.alloc o).alloc o2).drew.heap[w.heap.size + 1]? = some o2 := new_at (w.alloc o) o2 (by simp)
def firstR (s : St) (f t : ByteArray) : Nat := if first s f 1 ≠ 0 then first s f 1 else first s t 1
def mayRenS (s : St) (f t : ByteArray) : Nat := if firstR s f t ≠ 0 then firstR s f t else if kind s.L f = 0 then 11 else if home s.L t = false then 11 else if kind s.L f = 1 then 12 else if kind s.L t = 1 then 12 else
  if vol f ≠ vol t ∧ full s (vol t) (((old s.L f).data.size : Int) - (old s.L t).data.size) = true then 13 else 0
set_option maxRecDepth 100000 in
set_option maxHeartbeats 4000000 in
theorem iMayRename_any (b bi bl : Nat) (l : Int) (s : St) (f t : ByteArray) (w : World) (h : Ia b bi bl l w s) (hR : Rises s.L) (hf : Fit s) (hpf : f.size ≤ 8000000000000) (hpt : t.size ≤ 8000000000000) :
    Calls Tryz.prog 80 #[.pointer (some ⟨b, 0, none⟩), .string f, .string t] w fun e w' => e = .returned (.int .i64 (mayRenS s f t : Nat)) ∧ Below w.heap.size w w' := by
  have c1 := ready2 b bi bl 1 2 l s f t w h (by omega) rfl hpf hpt
  have c2 := fun W (hW : Below w.heap.size w W) => iHome_any b bi bl l s t W (h.below hW) hpt
  have ho1 := old_le hf f
  have ho2 := old_le hf t
  have hv := vol_le t
  have c3 := fun W (hW : Ia b bi bl l W s) => iFull_any b bi bl l s (vol t) (((old s.L f).data.size : Int) - (old s.L t).data.size) W hW hR hf (by omega) (by omega)
  have c4 := fun W => iVol_any f W hpf
  have c5 := fun W => iVol_any t W hpt
  have hsub := wrap_sub ho1 ho2
  have hb : b < w.heap.size := h.lt b (.inl rfl)
  have HL := Lib.hid (fun W (hW : Below w.heap.size w W) => (h.below hW).look (maxLen_of hpf))
  have HM := Lib.hid (fun W (hW : Below w.heap.size w W) => (h.below hW).look (maxLen_of hpt))
  have HC := Lib.hid (fun W (hW : Below w.heap.size w W) => (h.below hW).cell.1)
  have HI := Lib.hid (fun W (hW : Below w.heap.size w W) => h.below hW)
  unfold mayRenS
  rw [show (if first s f 1 ≠ 0 then first s f 1 else first s t 1) = firstR s f t from rfl] at c1
  generalize full s (vol t) (((old s.L f).data.size : Int) - (old s.L t).data.size) = B at c3 ⊢
  generalize firstR s f t = E at c1 ⊢
  generalize home s.L t = H at c2 ⊢
  generalize kind s.L f = K at HL ⊢
  generalize kind s.L t = M at HM ⊢
  generalize (old s.L f).data = X0 at HL c3 hsub
  generalize (old s.L f).kept = X1 at HL
  generalize stOf (old s.L f) = X2 at HL
  generalize ((old s.L f).stamp : Int) = X3 at HL
  generalize (old s.L t).data = Y0 at HM c3 hsub
  generalize (old s.L t).kept = Y1 at HM
  generalize stOf (old s.L t) = Y2 at HM
  generalize ((old s.L t).stamp : Int) = Y3 at HM
  generalize vol f = VF at c4 ⊢
  generalize vol t = VT at c3 c5 ⊢
  have HS := Lib.hid hsub
  obtain ⟨RES, hRES⟩ : ∃ RES, RES = if E ≠ 0 then E else if K = 0 then 11 else if H = false then 11 else if K = 1 then 12 else if M = 1 then 12 else if VF ≠ VT ∧ B = true then 13 else 0 := ⟨_, rfl⟩
  rw [← hRES]
  clear h hsub ho1 ho2 hv hf hR
  by_cases hE : E = 0
  · subst hE
    rw [if_neg (by decide)] at hRES
    have HRES := Lib.hid hRES
    clear hRES
    go_enter Tryz.func80, Tryz.ntmps80
    go_upto_region 4 with (go_at_call 104; refine c1.mono ?_; rintro e w1 ⟨rfl, hb1⟩)
    go_cut [8, 9] from 11 (fun v1 v2 wq => ∃ gf gg, v1 = .pointer (some ⟨gf, 0, none⟩) ∧ v2 = .pointer (some ⟨gg, 0, none⟩) ∧ Box5 wq gf K X0 X1 X2 X3 ∧ Box5 wq gg M Y0 Y1 Y2 Y3 ∧ Below w.heap.size w wq)
    case first =>
      have hbw : b < w1.heap.size := Nat.lt_of_lt_of_le hb hb1.size
      have B1 := Lib.hid (Below.refl w1.heap.size w1).drew
      have B2 := fun o => ((Below.refl _ w1).alloc (Nat.le_refl _) o).drew
      have B3 := fun o o2 => (((Below.refl _ w1).alloc (Nat.le_refl _) o).alloc (by simp) o2).drew
      have g0 := HC.out _ hb1
      have k1 := HL.out _ (below_call hb1 B1.out)
      have k2 := fun o => HL.out _ (below_call hb1 (B2 o))
      have k3 := fun o o2 => HL.out _ (below_call hb1 (B3 o o2))
      have m1 := HM.out _ (below_call hb1 B1.out)
      have m2 := fun o => HM.out _ (below_call hb1 (B2 o))
      have m3 := fun o o2 => HM.out _ (below_call hb1 (B3 o o2))
      have HB3 := Lib.hid (fun o o2 => below_call hb1 (B3 o o2))
      clear B2 B3 c1 c2 c3 c4 c5
      go_region
      all_goals (go_wp2_with fail; go_meet)
      · exact ⟨_, _, rfl, rfl, box5_of (two_first _ _ _), box5_of (two_second _ _ _), HB3.out _ _⟩
      · exact ⟨_, _, rfl, rfl, box5_of (two_second _ _ _), box5_of (two_first _ _ _), HB3.out _ _⟩
    case rest =>
      obtain ⟨gf, gg, rfl, rfl, hX, hY, hb2⟩ := hcut
      clear c1 hb1
      have HX := Lib.hid (fun W (hW : Below wc.heap.size wc W) => hX.below hW)
      have HY := Lib.hid (fun W (hW : Below wc.heap.size wc W) => hY.below hW)
      have c0X := hX.c0
      have c0Y := hY.c0
      have hgf := hX.lt
      have hgg := hY.lt
      clear hX hY
      have HSZ := Lib.hid hb2.size
      have hvw : ∀ n, Below wc.heap.size wc (wc.drewN n) := fun n => below_drewN wc n
      have HVW := Lib.hid hvw
      clear hvw
      have HCM := Lib.hid (fun W (hW : Below wc.heap.size wc W) => c2 W (below_call hb2 hW))
      clear c2
      have HVB := Lib.hid (fun n => below_drewN wc n)
      by_cases hV : VF = VT
      · have ev : (VF.toList == VT.toList) = true := by rw [hV]; exact beq_self_eq_true _
        have HV := Lib.hid hV
        clear hV
        clear HVW
        by_cases hK0 : K = 0
        · subst hK0
          have HR2 : Hid (RES = 11) := HRES.out.trans (if_pos rfl)
          clear HRES
          go_wp2_with (first | (go_at_call 61; first | ((with_reducible refine (c4 _).mono ?_); rintro e wv ⟨rfl, n4, rfl⟩) | ((with_reducible refine (c5 _).mono ?_); rintro e wv2 ⟨rfl, n5, rfl⟩)) | (go_at_call 105; refine (HCM.out _ (HVB.out _)).mono ?_; rintro e w3 ⟨rfl, hb3⟩; have hb4 := below_call (HVB.out _) hb3; have x0 := (HX.out _ hb4).c0; have y0 := (HY.out _ hb4).c0))
          go_ret
          exact ⟨ret_int (by rw [HR2.out]; rfl), below_call hb2 (HVB.out _)⟩
        · have HR1 := Lib.hid (HRES.out.trans (if_neg hK0))
          have k0 := ne_eq hK0
          clear hK0 HRES
          cases H with
          | false =>
            have HR2 : Hid (RES = 11) := HR1.out.trans (if_pos rfl)
            go_wp2_with (first | (go_at_call 61; first | ((with_reducible refine (c4 _).mono ?_); rintro e wv ⟨rfl, n4, rfl⟩) | ((with_reducible refine (c5 _).mono ?_); rintro e wv2 ⟨rfl, n5, rfl⟩)) | (go_at_call 105; refine (HCM.out _ (HVB.out _)).mono ?_; rintro e w3 ⟨rfl, hb3⟩; have hb4 := below_call (HVB.out _) hb3; have x0 := (HX.out _ hb4).c0; have y0 := (HY.out _ hb4).c0))
            go_ret
            exact ⟨ret_int (by rw [HR2.out]; rfl), below_call hb2 hb4⟩
          | true =>
            have HR3 := Lib.hid (HR1.out.trans (if_neg (by decide)))
            by_cases hK1 : K = 1
            · subst hK1
              have HR2 : Hid (RES = 12) := HR3.out.trans (if_pos rfl)
              clear HR1 HR3
              go_wp2_with (first | (go_at_call 61; first | ((with_reducible refine (c4 _).mono ?_); rintro e wv ⟨rfl, n4, rfl⟩) | ((with_reducible refine (c5 _).mono ?_); rintro e wv2 ⟨rfl, n5, rfl⟩)) | (go_at_call 105; refine (HCM.out _ (HVB.out _)).mono ?_; rintro e w3 ⟨rfl, hb3⟩; have hb4 := below_call (HVB.out _) hb3; have x0 := (HX.out _ hb4).c0; have y0 := (HY.out _ hb4).c0))
              go_ret
              exact ⟨ret_int (by rw [HR2.out]; rfl), below_call hb2 hb4⟩
            · have HR4 := Lib.hid (HR3.out.trans (if_neg hK1))
              have k1 : ((K : Int) == 1) = false := beq_eq_false_iff_ne.2 (by omega)
              clear hK1 HR1 HR3
              by_cases hM1 : M = 1
              · subst hM1
                have HR2 : Hid (RES = 12) := HR4.out.trans (if_pos rfl)
                clear HR4
                go_wp2_with (first | (go_at_call 61; first | ((with_reducible refine (c4 _).mono ?_); rintro e wv ⟨rfl, n4, rfl⟩) | ((with_reducible refine (c5 _).mono ?_); rintro e wv2 ⟨rfl, n5, rfl⟩)) | (go_at_call 105; refine (HCM.out _ (HVB.out _)).mono ?_; rintro e w3 ⟨rfl, hb3⟩; have hb4 := below_call (HVB.out _) hb3; have x0 := (HX.out _ hb4).c0; have y0 := (HY.out _ hb4).c0))
                go_ret
                exact ⟨ret_int (by rw [HR2.out]; rfl), below_call hb2 hb4⟩
              · have HR5 := Lib.hid (HR4.out.trans (if_neg hM1))
                have m1 : ((M : Int) == 1) = false := beq_eq_false_iff_ne.2 (by omega)
                clear hM1 HR4
                have HR2 : Hid (RES = 0) := HR5.out.trans (if_neg (fun e => e.1 HV.out))
                clear HR5
                go_upto_region 12 with (first | (go_at_call 61; first | ((with_reducible refine (c4 _).mono ?_); rintro e wv ⟨rfl, n4, rfl⟩) | ((with_reducible refine (c5 _).mono ?_); rintro e wv2 ⟨rfl, n5, rfl⟩)) | (go_at_call 105; refine (HCM.out _ (HVB.out _)).mono ?_; rintro e w3 ⟨rfl, hb3⟩; have hb4 := below_call (HVB.out _) hb3; have x0 := (HX.out _ hb4).c0; have y0 := (HY.out _ hb4).c0))
                refine Rg.wp_only ?_ (regMayRename0 _ (by kernel_rfl) _ b bi bl gf gg l s t X0 Y0 VT true _ (HI.out _ (below_call hb2 hb4)) (HX.out _ hb4).c1 (HY.out _ hb4).c1)
                rintro _ w9 ⟨rfl, hb9⟩
                go_wp2_with fail
                go_ret
                exact ⟨ret_int (by rw [HR2.out]; rfl), below_call (below_call hb2 hb4) hb9⟩
      · have ev : (VF.toList == VT.toList) = false := bytes_ne hV
        have HV := Lib.hid hV
        clear hV
        clear HVW
        by_cases hK0 : K = 0
        · subst hK0
          have HR2 : Hid (RES = 11) := HRES.out.trans (if_pos rfl)
          clear HRES
          go_wp2_with (first | (go_at_call 61; first | ((with_reducible refine (c4 _).mono ?_); rintro e wv ⟨rfl, n4, rfl⟩) | ((with_reducible refine (c5 _).mono ?_); rintro e wv2 ⟨rfl, n5, rfl⟩)) | (go_at_call 105; refine (HCM.out _ (HVB.out _)).mono ?_; rintro e w3 ⟨rfl, hb3⟩; have hb4 := below_call (HVB.out _) hb3; have x0 := (HX.out _ hb4).c0; have y0 := (HY.out _ hb4).c0))
          go_ret
          exact ⟨ret_int (by rw [HR2.out]; rfl), below_call hb2 (HVB.out _)⟩
        · have HR1 := Lib.hid (HRES.out.trans (if_neg hK0))
          have k0 := ne_eq hK0
          clear hK0 HRES
          cases H with
          | false =>
            have HR2 : Hid (RES = 11) := HR1.out.trans (if_pos rfl)
            go_wp2_with (first | (go_at_call 61; first | ((with_reducible refine (c4 _).mono ?_); rintro e wv ⟨rfl, n4, rfl⟩) | ((with_reducible refine (c5 _).mono ?_); rintro e wv2 ⟨rfl, n5, rfl⟩)) | (go_at_call 105; refine (HCM.out _ (HVB.out _)).mono ?_; rintro e w3 ⟨rfl, hb3⟩; have hb4 := below_call (HVB.out _) hb3; have x0 := (HX.out _ hb4).c0; have y0 := (HY.out _ hb4).c0))
            go_ret
            exact ⟨ret_int (by rw [HR2.out]; rfl), below_call hb2 hb4⟩
          | true =>
            have HR3 := Lib.hid (HR1.out.trans (if_neg (by decide)))
            by_cases hK1 : K = 1
            · subst hK1
              have HR2 : Hid (RES = 12) := HR3.out.trans (if_pos rfl)
              clear HR1 HR3
              go_wp2_with (first | (go_at_call 61; first | ((with_reducible refine (c4 _).mono ?_); rintro e wv ⟨rfl, n4, rfl⟩) | ((with_reducible refine (c5 _).mono ?_); rintro e wv2 ⟨rfl, n5, rfl⟩)) | (go_at_call 105; refine (HCM.out _ (HVB.out _)).mono ?_; rintro e w3 ⟨rfl, hb3⟩; have hb4 := below_call (HVB.out _) hb3; have x0 := (HX.out _ hb4).c0; have y0 := (HY.out _ hb4).c0))
              go_ret
              exact ⟨ret_int (by rw [HR2.out]; rfl), below_call hb2 hb4⟩
            · have HR4 := Lib.hid (HR3.out.trans (if_neg hK1))
              have k1 : ((K : Int) == 1) = false := beq_eq_false_iff_ne.2 (by omega)
              clear hK1 HR1 HR3
              by_cases hM1 : M = 1
              · subst hM1
                have HR2 : Hid (RES = 12) := HR4.out.trans (if_pos rfl)
                clear HR4
                go_wp2_with (first | (go_at_call 61; first | ((with_reducible refine (c4 _).mono ?_); rintro e wv ⟨rfl, n4, rfl⟩) | ((with_reducible refine (c5 _).mono ?_); rintro e wv2 ⟨rfl, n5, rfl⟩)) | (go_at_call 105; refine (HCM.out _ (HVB.out _)).mono ?_; rintro e w3 ⟨rfl, hb3⟩; have hb4 := below_call (HVB.out _) hb3; have x0 := (HX.out _ hb4).c0; have y0 := (HY.out _ hb4).c0))
                go_ret
                exact ⟨ret_int (by rw [HR2.out]; rfl), below_call hb2 hb4⟩
              · have HR5 := Lib.hid (HR4.out.trans (if_neg hM1))
                have m1 : ((M : Int) == 1) = false := beq_eq_false_iff_ne.2 (by omega)
                clear hM1 HR4
                cases B with
                | true =>
                  have HR2 : Hid (RES = 13) := HR5.out.trans (if_pos ⟨HV.out, rfl⟩)
                  clear HR5
                  go_upto_region 12 with (first | (go_at_call 61; first | ((with_reducible refine (c4 _).mono ?_); rintro e wv ⟨rfl, n4, rfl⟩) | ((with_reducible refine (c5 _).mono ?_); rintro e wv2 ⟨rfl, n5, rfl⟩)) | (go_at_call 105; refine (HCM.out _ (HVB.out _)).mono ?_; rintro e w3 ⟨rfl, hb3⟩; have hb4 := below_call (HVB.out _) hb3; have x0 := (HX.out _ hb4).c0; have y0 := (HY.out _ hb4).c0))
                  refine Rg.wp_only ?_ (regMayRename1 _ (by kernel_rfl) _ b bi bl gf gg l s t X0 Y0 VT true _ (HI.out _ (below_call hb2 hb4)) (HX.out _ hb4).c1 (HY.out _ hb4).c1 HS.out c5 c3)
                  rintro _ w9 ⟨rfl, hb9⟩
                  go_wp2_with fail
                  go_ret
                  exact ⟨ret_int (by rw [HR2.out]; rfl), below_call (below_call hb2 hb4) hb9⟩
                | false =>
                  have HR2 : Hid (RES = 0) := HR5.out.trans (if_neg (fun e => by cases e.2))
                  clear HR5
                  go_upto_region 12 with (first | (go_at_call 61; first | ((with_reducible refine (c4 _).mono ?_); rintro e wv ⟨rfl, n4, rfl⟩) | ((with_reducible refine (c5 _).mono ?_); rintro e wv2 ⟨rfl, n5, rfl⟩)) | (go_at_call 105; refine (HCM.out _ (HVB.out _)).mono ?_; rintro e w3 ⟨rfl, hb3⟩; have hb4 := below_call (HVB.out _) hb3; have x0 := (HX.out _ hb4).c0; have y0 := (HY.out _ hb4).c0))
                  refine Rg.wp_only ?_ (regMayRename1 _ (by kernel_rfl) _ b bi bl gf gg l s t X0 Y0 VT false _ (HI.out _ (below_call hb2 hb4)) (HX.out _ hb4).c1 (HY.out _ hb4).c1 HS.out c5 c3)
                  rintro _ w9 ⟨rfl, hb9⟩
                  go_wp2_with fail
                  go_ret
                  exact ⟨ret_int (by rw [HR2.out]; rfl), below_call (below_call hb2 hb4) hb9⟩
  · rw [if_pos hE] at hRES
    have e1 := ne_eq hE
    have HRES := Lib.hid hRES
    clear hE hRES
    go_enter Tryz.func80, Tryz.ntmps80
    go_wp2_with (go_at_call 104; refine c1.mono ?_; rintro e w1 ⟨rfl, hb1⟩)
    go_ret
    exact ⟨ret_int (by rw [HRES.out]), hb1⟩
end Go.Proofs.YtdpnmdnfnplcfaaGreat.Dk

namespace Go.Proofs.YtdpnmdnfnplcfaaGreat.Dk
open Go.RowKit Tx Pm Pl Pr
set_option linter.unusedVariables false
set_option maxRecDepth 100000 in
set_option maxHeartbeats 2000000 in
theorem regRestart (ops : Array Oper) (hops : ops = (Rg.opsOf Tryz.f23 7)) (id : Nat) (b bi bl j pick : Nat) (l loss K T M : Int) (s s2 : St) (p X Y Z : ByteArray) {u2 u3 u4 u5 u8 u9 u10 u11 u12 u13 u14 u15 u16 u17 u18 u19 u20 u21 u22 u23 u24 u25 u26 u27 u28 u29 u30 u31 u32 u33 u34 u35 u36 u37 u38 u39 : Value} (w : World) (h : Ia b bi bl l w s)
    (hlk : ∀ W, Ia b bi bl l W s → (Instr.lookup 61 (.map (some bi)) (.string p) false).run Tryz.prog W = .ok (.agg #[.int .i64 K, .string X, .string Y, .int .i64 T, .int .i64 M]) W)
    (hadd : IntKind.i64.wrap ((j : Int) + 1) = ((j + 1 : Nat) : Int))
    (cm : ∀ W, Calls Tryz.prog 60 #[.int .i64 loss, .int .i64 ((j + 1 : Nat) : Int)] W fun e w' => e = .returned (.int .u64 (pick : Nat)) ∧ w' = W)
    (cl : ∀ W, Calls Tryz.prog 59 #[.agg #[.int .i64 K, .string X, .string Y, .int .i64 T, .int .i64 M], .int .u64 (pick : Nat)] W fun e w' => e = .returned (.agg #[.int .i64 K, .string Z, .string Z, .int .i64 0, .int .i64 M]) ∧ Below W.heap.size W w')
    (cs : ∀ W, Ia b bi bl l W s → Calls Tryz.prog 58 #[.pointer (some ⟨b, 0, none⟩), .string p, .agg #[.int .i64 K, .string Z, .string Z, .int .i64 0, .int .i64 M]] W fun e w' => e = .returned (.tuple #[]) ∧ Ip b bi bl W s2 w') :
    (Code.region id ops true).wp Tryz.prog (Rg.Only fun a' w' => a' = ⟨#[(.pointer (some ⟨b, 0, none⟩)), (.int .i64 loss), u2, u3, u4, u5, (.int .i64 (j : Nat)), (.string p), u8, u9, u10, u11, u12, u13, u14, u15, u16, u17, u18, (.pointer (some ⟨b, 0, none⟩)), (.string p), (.pointer (some ⟨b, 0, none⟩)), (.pointer (some ⟨b, 0, none⟩)), (.pointer (some ⟨b, 0, none⟩)), (.map (some bi)), (.string p), (.agg #[.int .i64 K, .string X, .string Y, .int .i64 T, .int .i64 M]), (.int .i64 loss), (.int .i64 (j : Nat)), (.int .i64 ((j + 1 : Nat) : Int)), (.int .u64 (pick : Nat)), (.agg #[.int .i64 K, .string Z, .string Z, .int .i64 0, .int .i64 M]), (.tuple #[]), u33, u34, u35, u36, u37, u38, u39], []⟩ ∧ Ip b bi bl w s2 w') ⟨#[(.pointer (some ⟨b, 0, none⟩)), (.int .i64 loss), u2, u3, u4, u5, (.int .i64 (j : Nat)), (.string p), u8, u9, u10, u11, u12, u13, u14, u15, u16, u17, u18, u19, u20, u21, u22, u23, u24, u25, u26, u27, u28, u29, u30, u31, u32, u33, u34, u35, u36, u37, u38, u39], []⟩ w := by
  subst hops
  have hNS : Region.noSelect (Rg.opsOf Tryz.f23 7) = true := by kernel_rfl
  have h0 : Ia b bi bl l w.drew s := h.below (Below.refl _ _).drew
  refine wp_region_held_drew (S := fun W => ∃ l2 s9, Ia b bi bl l2 W s9) (by kernel_rfl) ⟨l, s, h0⟩ (fun hHeld => ?_)
  rw [show (Rg.opsOf Tryz.f23 7).size = 14 by kernel_rfl]
  refine Rg.take (ops := (Rg.opsOf Tryz.f23 7)) 0 (some 19) ((.pointer (some ⟨b, 0, none⟩))) hNS (by kernel_rfl) (by kernel_rfl) (by kernel_rfl) (by kernel_rfl) (by kernel_rfl) hHeld (Rg.y_move (x := (Operand.tmp 0)) (Or.inl (by kernel_rfl)) (by kernel_rfl)) ?_
  refine Rg.take (ops := (Rg.opsOf Tryz.f23 7)) 1 (some 20) ((.string p)) hNS (by kernel_rfl) (by kernel_rfl) (by kernel_rfl) (by kernel_rfl) (by kernel_rfl) hHeld (Rg.y_move (x := (Operand.tmp 7)) (Or.inl (by kernel_rfl)) (by kernel_rfl)) ?_
  refine Rg.take (ops := (Rg.opsOf Tryz.f23 7)) 2 (some 21) ((.pointer (some ⟨b, 0, none⟩))) hNS (by kernel_rfl) (by kernel_rfl) (by kernel_rfl) (by kernel_rfl) (by kernel_rfl) hHeld (Rg.y_move (x := (Operand.tmp 0)) (Or.inl (by kernel_rfl)) (by kernel_rfl)) ?_
  refine Rg.take (ops := (Rg.opsOf Tryz.f23 7)) 3 (some 22) ((.pointer (some ⟨b, 0, none⟩))) hNS (by kernel_rfl) (by kernel_rfl) (by kernel_rfl) (by kernel_rfl) (by kernel_rfl) hHeld (Rg.y_nil (x := (Operand.tmp 21)) (by kernel_rfl) (by kernel_rfl)) ?_
  refine Rg.take (ops := (Rg.opsOf Tryz.f23 7)) 4 (some 23) ((.pointer (some ⟨b, 0, none⟩))) hNS (by kernel_rfl) (by kernel_rfl) (by kernel_rfl) (by kernel_rfl) (by kernel_rfl) hHeld (Rg.y_field (T := 64) (k := 0) (x := (Operand.tmp 22)) (vx := (.pointer (some ⟨b, 0, none⟩))) (by kernel_rfl) (by kernel_rfl) ?_) ?_
  · (intro w hSw; clear hSw; go_simp)
  refine Rg.take (ops := (Rg.opsOf Tryz.f23 7)) 5 (some 24) ((.map (some bi))) hNS (by kernel_rfl) (by kernel_rfl) (by kernel_rfl) (by kernel_rfl) (by kernel_rfl) hHeld (Rg.y_load (T := 61) (x := (Operand.tmp 23)) (vx := (.pointer (some ⟨b, 0, none⟩))) (by kernel_rfl) (by kernel_rfl) ?_) ?_
  · (intro w hSw; obtain ⟨_, _, hSw⟩ := hSw; have c0 := hSw.cell.1; clear hSw; go_simp)
  refine Rg.take (ops := (Rg.opsOf Tryz.f23 7)) 6 (some 25) ((.string p)) hNS (by kernel_rfl) (by kernel_rfl) (by kernel_rfl) (by kernel_rfl) (by kernel_rfl) hHeld (Rg.y_move (x := (Operand.tmp 7)) (Or.inl (by kernel_rfl)) (by kernel_rfl)) ?_
  refine Rg.take (ops := (Rg.opsOf Tryz.f23 7)) 8 (some 27) ((.int .i64 loss)) hNS (by kernel_rfl) (by kernel_rfl) (by kernel_rfl) (by kernel_rfl) (by kernel_rfl) hHeld (Rg.y_move (x := (Operand.tmp 1)) (Or.inl (by kernel_rfl)) (by kernel_rfl)) ?_
  refine Rg.take (ops := (Rg.opsOf Tryz.f23 7)) 9 (some 28) ((.int .i64 (j : Nat))) hNS (by kernel_rfl) (by kernel_rfl) (by kernel_rfl) (by kernel_rfl) (by kernel_rfl) hHeld (Rg.y_move (x := (Operand.tmp 6)) (Or.inl (by kernel_rfl)) (by kernel_rfl)) ?_
  refine Rg.take (ops := (Rg.opsOf Tryz.f23 7)) 10 (some 29) ((.int .i64 ((j + 1 : Nat) : Int))) hNS (by kernel_rfl) (by kernel_rfl) (by kernel_rfl) (by kernel_rfl) (by kernel_rfl) hHeld (Rg.y_bin (b := BinOp.add) (T := 3) (R' := 3) (x := (Operand.tmp 28)) (y := (Operand.const (Value.int IntKind.i64 1))) (vx := (.int .i64 (j : Nat))) (vy := (Value.int IntKind.i64 1)) (by kernel_rfl) (by kernel_rfl) (by kernel_rfl) ?_) ?_
  · (intro w hSw; clear hSw; go_simp <;> exact hadd)
  refine Rg.two (ops := (Rg.opsOf Tryz.f23 7)) (i := 7) (j := 11) (by kernel_rfl) ?_ ?_
  · refine Rg.op_look (ops := (Rg.opsOf Tryz.f23 7)) 7 (some 26) (T := 61) (x := (Operand.tmp 24)) (y := (Operand.tmp 25)) (c := false) (vx := (.map (some bi))) (vy := (.string p)) (v := (.agg #[.int .i64 K, .string X, .string Y, .int .i64 T, .int .i64 M])) (by kernel_rfl) (by kernel_rfl) (by kernel_rfl) (by kernel_rfl) (by kernel_rfl) (by kernel_rfl) ?_ hHeld ?_
    · (exact hlk _ h0)
    refine Rg.call (ops := (Rg.opsOf Tryz.f23 7)) (fn := Tryz.f60) (xs := #[Operand.tmp 27, Operand.tmp 29]) (ats := #[3, 3]) 11 (some 30) 60 #[(.int .i64 loss), (.int .i64 ((j + 1 : Nat) : Int))] (by kernel_rfl) (by kernel_rfl) (by kernel_rfl) (by kernel_rfl) (by kernel_rfl) Tryz.func60 (by kernel_rfl) (by kernel_rfl) (by kernel_rfl) ?_
    refine (cm _).mono ?_
    rintro e w5 ⟨rfl, rfl⟩
    refine ⟨_, rfl, hHeld, fun hHeld => ?_⟩
    refine Rg.call (ops := (Rg.opsOf Tryz.f23 7)) (fn := Tryz.f59) (xs := #[Operand.tmp 26, Operand.tmp 30]) (ats := #[97, 101]) 12 (some 31) 59 #[(.agg #[.int .i64 K, .string X, .string Y, .int .i64 T, .int .i64 M]), (.int .u64 (pick : Nat))] (by kernel_rfl) (by kernel_rfl) (by kernel_rfl) (by kernel_rfl) (by kernel_rfl) Tryz.func59 (by kernel_rfl) (by kernel_rfl) (by kernel_rfl) ?_
    refine (cl _).mono ?_
    rintro e w6 ⟨rfl, hb6⟩
    refine ⟨_, rfl, ⟨l, s, h0.below hb6⟩, fun hHeld => ?_⟩
    refine Rg.call (ops := (Rg.opsOf Tryz.f23 7)) (fn := Tryz.f58) (xs := #[Operand.tmp 19, Operand.tmp 20, Operand.tmp 31]) (ats := #[23, 9, 97]) 13 (some 32) 58 #[(.pointer (some ⟨b, 0, none⟩)), (.string p), (.agg #[.int .i64 K, .string Z, .string Z, .int .i64 0, .int .i64 M])] (by kernel_rfl) (by kernel_rfl) (by kernel_rfl) (by kernel_rfl) (by kernel_rfl) Tryz.func58 (by kernel_rfl) (by kernel_rfl) (by kernel_rfl) ?_
    refine (cs _ (h0.below hb6)).mono ?_
    rintro e w7 ⟨rfl, h7⟩
    refine ⟨_, rfl, ⟨_, _, h7.choose_spec.1⟩, fun hHeld => ?_⟩
    refine Rg.done (ops := (Rg.opsOf Tryz.f23 7)) (by kernel_rfl) ?_
    exact ⟨by kernel_rfl, Ip.after (below_call (Below.refl _ w).drew hb6) h7⟩
  · refine Rg.op_call (ops := (Rg.opsOf Tryz.f23 7)) (fn := Tryz.f60) (xs := #[Operand.tmp 27, Operand.tmp 29]) (ats := #[3, 3]) 11 (some 30) 60 #[(.int .i64 loss), (.int .i64 ((j + 1 : Nat) : Int))] (by kernel_rfl) (by kernel_rfl) (by kernel_rfl) (by kernel_rfl) Tryz.func60 (by kernel_rfl) (by kernel_rfl) (by kernel_rfl) ?_
    refine (cm _).mono ?_
    rintro e w5 ⟨rfl, rfl⟩
    refine ⟨_, rfl, hHeld, fun hHeld => ?_⟩
    refine Rg.one (ops := (Rg.opsOf Tryz.f23 7)) (i := 7) (by kernel_rfl) ?_
    refine Rg.op_look (ops := (Rg.opsOf Tryz.f23 7)) 7 (some 26) (T := 61) (x := (Operand.tmp 24)) (y := (Operand.tmp 25)) (c := false) (vx := (.map (some bi))) (vy := (.string p)) (v := (.agg #[.int .i64 K, .string X, .string Y, .int .i64 T, .int .i64 M])) (by kernel_rfl) (by kernel_rfl) (by kernel_rfl) (by kernel_rfl) (by kernel_rfl) (by kernel_rfl) ?_ hHeld ?_
    · (exact hlk _ h0)
    refine Rg.call (ops := (Rg.opsOf Tryz.f23 7)) (fn := Tryz.f59) (xs := #[Operand.tmp 26, Operand.tmp 30]) (ats := #[97, 101]) 12 (some 31) 59 #[(.agg #[.int .i64 K, .string X, .string Y, .int .i64 T, .int .i64 M]), (.int .u64 (pick : Nat))] (by kernel_rfl) (by kernel_rfl) (by kernel_rfl) (by kernel_rfl) (by kernel_rfl) Tryz.func59 (by kernel_rfl) (by kernel_rfl) (by kernel_rfl) ?_
    refine (cl _).mono ?_
    rintro e w6 ⟨rfl, hb6⟩
    refine ⟨_, rfl, ⟨l, s, h0.below hb6⟩, fun hHeld => ?_⟩
    refine Rg.call (ops := (Rg.opsOf Tryz.f23 7)) (fn := Tryz.f58) (xs := #[Operand.tmp 19, Operand.tmp 20, Operand.tmp 31]) (ats := #[23, 9, 97]) 13 (some 32) 58 #[(.pointer (some ⟨b, 0, none⟩)), (.string p), (.agg #[.int .i64 K, .string Z, .string Z, .int .i64 0, .int .i64 M])] (by kernel_rfl) (by kernel_rfl) (by kernel_rfl) (by kernel_rfl) (by kernel_rfl) Tryz.func58 (by kernel_rfl) (by kernel_rfl) (by kernel_rfl) ?_
    refine (cs _ (h0.below hb6)).mono ?_
    rintro e w7 ⟨rfl, h7⟩
    refine ⟨_, rfl, ⟨_, _, h7.choose_spec.1⟩, fun hHeld => ?_⟩
    refine Rg.done (ops := (Rg.opsOf Tryz.f23 7)) (by kernel_rfl) ?_
    exact ⟨by kernel_rfl, Ip.after (below_call (Below.refl _ w).drew hb6) h7⟩
set_option maxRecDepth 100000 in
set_option maxHeartbeats 2000000 in
theorem regRot (ops : Array Oper) (hops : ops = (Rg.opsOf Tryz.f38 5)) (id : Nat) (bx : Nat) (X Y TX TY : ByteArray) (K T M bit : Int) {u0 u1 u3 u4 u5 u6 u7 u9 u10 u11 u12 u13 u14 u15 u16 u17 u18 u19 u20 u21 u22 u23 u24 u25 u26 u27 u28 u29 u30 u31 u32 u33 u34 : Value} (w : World) (hbox : Box5 w bx K X Y T M) (hwarm : ∀ W, Below w.heap.size w W → ∀ k, W.frozen? ⟨bx, k, none⟩ = false)
    (ct1 : ∀ W, Calls Tryz.prog 88 #[.string X, .int .i64 bit] W fun e w' => e = .returned (.string TX) ∧ Below W.heap.size W w')
    (ct2 : ∀ W, Calls Tryz.prog 88 #[.string Y, .int .i64 bit] W fun e w' => e = .returned (.string TY) ∧ Below W.heap.size W w') :
    (Code.region id ops true).wp Tryz.prog (Rg.Only fun a' w' => a' = ⟨#[u0, u1, (.int .i64 bit), u3, u4, u5, u6, u7, (.pointer (some ⟨bx, 0, none⟩)), u9, u10, u11, u12, u13, u14, u15, u16, u17, u18, u19, u20, (.pointer (some ⟨bx, 1, none⟩)), (.string X), (.int .i64 bit), (.string TX), (.pointer (some ⟨bx, 2, none⟩)), (.string Y), (.int .i64 bit), (.string TY), (.pointer (some ⟨bx, 1, none⟩)), (.pointer (some ⟨bx, 2, none⟩)), u31, u32, u33, u34], []⟩ ∧ ∃ w4, Below w.heap.size w w4 ∧ w' = (w4.setCell ⟨bx, 1, none⟩ (.string TX)).setCell ⟨bx, 2, none⟩ (.string TY)) ⟨#[u0, u1, (.int .i64 bit), u3, u4, u5, u6, u7, (.pointer (some ⟨bx, 0, none⟩)), u9, u10, u11, u12, u13, u14, u15, u16, u17, u18, u19, u20, u21, u22, u23, u24, u25, u26, u27, u28, u29, u30, u31, u32, u33, u34], []⟩ w := by
  subst hops
  have hNS : Region.noSelect (Rg.opsOf Tryz.f38 5) = true := by kernel_rfl
  have hBd : Below w.heap.size w w.drew := (Below.refl _ _).drew
  obtain ⟨_, q0, q1, q2, q3, q4⟩ := hbox.below hBd
  refine wp_region_held_drew (S := fun _ => True) (by kernel_rfl) trivial (fun hHeld => ?_)
  rw [show (Rg.opsOf Tryz.f38 5).size = 12 by kernel_rfl]
  refine Rg.take (ops := (Rg.opsOf Tryz.f38 5)) 0 (some 21) ((.pointer (some ⟨bx, 1, none⟩))) hNS (by kernel_rfl) (by kernel_rfl) (by kernel_rfl) (by kernel_rfl) (by kernel_rfl) hHeld (Rg.y_field (T := 97) (k := 1) (x := (Operand.tmp 8)) (vx := (.pointer (some ⟨bx, 0, none⟩))) (by kernel_rfl) (by kernel_rfl) ?_) ?_
  · (intro w hSw; go_simp)
  refine Rg.take (ops := (Rg.opsOf Tryz.f38 5)) 2 (some 23) ((.int .i64 bit)) hNS (by kernel_rfl) (by kernel_rfl) (by kernel_rfl) (by kernel_rfl) (by kernel_rfl) hHeld (Rg.y_move (x := (Operand.tmp 2)) (Or.inl (by kernel_rfl)) (by kernel_rfl)) ?_
  refine Rg.take (ops := (Rg.opsOf Tryz.f38 5)) 4 (some 25) ((.pointer (some ⟨bx, 2, none⟩))) hNS (by kernel_rfl) (by kernel_rfl) (by kernel_rfl) (by kernel_rfl) (by kernel_rfl) hHeld (Rg.y_field (T := 97) (k := 2) (x := (Operand.tmp 8)) (vx := (.pointer (some ⟨bx, 0, none⟩))) (by kernel_rfl) (by kernel_rfl) ?_) ?_
  · (intro w hSw; go_simp)
  refine Rg.take (ops := (Rg.opsOf Tryz.f38 5)) 6 (some 27) ((.int .i64 bit)) hNS (by kernel_rfl) (by kernel_rfl) (by kernel_rfl) (by kernel_rfl) (by kernel_rfl) hHeld (Rg.y_move (x := (Operand.tmp 2)) (Or.inl (by kernel_rfl)) (by kernel_rfl)) ?_
  refine Rg.two (ops := (Rg.opsOf Tryz.f38 5)) (i := 1) (j := 5) (by kernel_rfl) ?_ ?_
  · refine Rg.op_load (ops := (Rg.opsOf Tryz.f38 5)) 1 (some 22) (T := 9) (x := (Operand.tmp 21)) (vx := (.pointer (some ⟨bx, 1, none⟩))) (v := (.string X)) (by kernel_rfl) (by kernel_rfl) (by kernel_rfl) (by kernel_rfl) (by kernel_rfl) ?_ hHeld ?_
    · go_simp
    refine Rg.two (ops := (Rg.opsOf Tryz.f38 5)) (i := 3) (j := 5) (by kernel_rfl) ?_ ?_
    · refine Rg.op_call (ops := (Rg.opsOf Tryz.f38 5)) (fn := Tryz.f88) (xs := #[Operand.tmp 22, Operand.tmp 23]) (ats := #[9, 3]) 3 (some 24) 88 #[(.string X), (.int .i64 bit)] (by kernel_rfl) (by kernel_rfl) (by kernel_rfl) (by kernel_rfl) Tryz.func88 (by kernel_rfl) (by kernel_rfl) (by kernel_rfl) ?_
      refine (ct1 _).mono ?_
      rintro e w3 ⟨rfl, hb3⟩
      obtain ⟨_, g0, g1, g2, g3, g4⟩ := hbox.below (below_call hBd hb3)
      refine ⟨_, rfl, trivial, fun hHeld => ?_⟩
      refine Rg.one (ops := (Rg.opsOf Tryz.f38 5)) (i := 5) (by kernel_rfl) ?_
      refine Rg.op_load (ops := (Rg.opsOf Tryz.f38 5)) 5 (some 26) (T := 9) (x := (Operand.tmp 25)) (vx := (.pointer (some ⟨bx, 2, none⟩))) (v := (.string Y)) (by kernel_rfl) (by kernel_rfl) (by kernel_rfl) (by kernel_rfl) (by kernel_rfl) ?_ hHeld ?_
      · go_simp
      refine Rg.take (ops := (Rg.opsOf Tryz.f38 5)) 8 (some 29) ((.pointer (some ⟨bx, 1, none⟩))) hNS (by kernel_rfl) (by kernel_rfl) (by kernel_rfl) (by kernel_rfl) (by kernel_rfl) hHeld (Rg.y_field (T := 97) (k := 1) (x := (Operand.tmp 8)) (vx := (.pointer (some ⟨bx, 0, none⟩))) (by kernel_rfl) (by kernel_rfl) ?_) ?_
      · (intro w hSw; go_simp)
      refine Rg.call (ops := (Rg.opsOf Tryz.f38 5)) (fn := Tryz.f88) (xs := #[Operand.tmp 26, Operand.tmp 27]) (ats := #[9, 3]) 7 (some 28) 88 #[(.string Y), (.int .i64 bit)] (by kernel_rfl) (by kernel_rfl) (by kernel_rfl) (by kernel_rfl) (by kernel_rfl) Tryz.func88 (by kernel_rfl) (by kernel_rfl) (by kernel_rfl) ?_
      refine (ct2 _).mono ?_
      rintro e w4 ⟨rfl, hb4⟩
      obtain ⟨_, m0, m1, m2, m3, m4⟩ := hbox.below (below_call (below_call hBd hb3) hb4)
      have hw4 := hwarm _ (below_call (below_call hBd hb3) hb4)
      refine ⟨_, rfl, trivial, fun hHeld => ?_⟩
      refine Rg.store (ops := (Rg.opsOf Tryz.f38 5)) 9 (T := 9) (x := (Operand.tmp 29)) (y := (Operand.tmp 24)) (vx := (.pointer (some ⟨bx, 1, none⟩))) (vy := (.string TX)) (w1 := w4.setCell ⟨bx, 1, none⟩ (.string TX)) (by kernel_rfl) (by kernel_rfl) (by kernel_rfl) (by kernel_rfl) (by kernel_rfl) (by kernel_rfl) (by kernel_rfl) ?_ (trivial) (fun hHeld => ?_)
      · go_simp
      refine Rg.take (ops := (Rg.opsOf Tryz.f38 5)) 10 (some 30) ((.pointer (some ⟨bx, 2, none⟩))) hNS (by kernel_rfl) (by kernel_rfl) (by kernel_rfl) (by kernel_rfl) (by kernel_rfl) hHeld (Rg.y_field (T := 97) (k := 2) (x := (Operand.tmp 8)) (vx := (.pointer (some ⟨bx, 0, none⟩))) (by kernel_rfl) (by kernel_rfl) ?_) ?_
      · (intro w hSw; go_simp)
      refine Rg.store (ops := (Rg.opsOf Tryz.f38 5)) 11 (T := 9) (x := (Operand.tmp 30)) (y := (Operand.tmp 28)) (vx := (.pointer (some ⟨bx, 2, none⟩))) (vy := (.string TY)) (w1 := (w4.setCell ⟨bx, 1, none⟩ (.string TX)).setCell ⟨bx, 2, none⟩ (.string TY)) (by kernel_rfl) (by kernel_rfl) (by kernel_rfl) (by kernel_rfl) (by kernel_rfl) (by kernel_rfl) (by kernel_rfl) ?_ (trivial) (fun hHeld => ?_)
      · go_simp
      refine Rg.done (ops := (Rg.opsOf Tryz.f38 5)) (by kernel_rfl) ?_
      exact ⟨by kernel_rfl, w4, below_call (below_call hBd hb3) hb4, rfl⟩
    · refine Rg.op_load (ops := (Rg.opsOf Tryz.f38 5)) 5 (some 26) (T := 9) (x := (Operand.tmp 25)) (vx := (.pointer (some ⟨bx, 2, none⟩))) (v := (.string Y)) (by kernel_rfl) (by kernel_rfl) (by kernel_rfl) (by kernel_rfl) (by kernel_rfl) ?_ hHeld ?_
      · go_simp
      refine Rg.call (ops := (Rg.opsOf Tryz.f38 5)) (fn := Tryz.f88) (xs := #[Operand.tmp 22, Operand.tmp 23]) (ats := #[9, 3]) 3 (some 24) 88 #[(.string X), (.int .i64 bit)] (by kernel_rfl) (by kernel_rfl) (by kernel_rfl) (by kernel_rfl) (by kernel_rfl) Tryz.func88 (by kernel_rfl) (by kernel_rfl) (by kernel_rfl) ?_
      refine (ct1 _).mono ?_
      rintro e w3 ⟨rfl, hb3⟩
      obtain ⟨_, g0, g1, g2, g3, g4⟩ := hbox.below (below_call hBd hb3)
      refine ⟨_, rfl, trivial, fun hHeld => ?_⟩
      refine Rg.take (ops := (Rg.opsOf Tryz.f38 5)) 8 (some 29) ((.pointer (some ⟨bx, 1, none⟩))) hNS (by kernel_rfl) (by kernel_rfl) (by kernel_rfl) (by kernel_rfl) (by kernel_rfl) hHeld (Rg.y_field (T := 97) (k := 1) (x := (Operand.tmp 8)) (vx := (.pointer (some ⟨bx, 0, none⟩))) (by kernel_rfl) (by kernel_rfl) ?_) ?_
      · (intro w hSw; go_simp)
      refine Rg.call (ops := (Rg.opsOf Tryz.f38 5)) (fn := Tryz.f88) (xs := #[Operand.tmp 26, Operand.tmp 27]) (ats := #[9, 3]) 7 (some 28) 88 #[(.string Y), (.int .i64 bit)] (by kernel_rfl) (by kernel_rfl) (by kernel_rfl) (by kernel_rfl) (by kernel_rfl) Tryz.func88 (by kernel_rfl) (by kernel_rfl) (by kernel_rfl) ?_
      refine (ct2 _).mono ?_
      rintro e w4 ⟨rfl, hb4⟩
      obtain ⟨_, m0, m1, m2, m3, m4⟩ := hbox.below (below_call (below_call hBd hb3) hb4)
      have hw4 := hwarm _ (below_call (below_call hBd hb3) hb4)
      refine ⟨_, rfl, trivial, fun hHeld => ?_⟩
      refine Rg.store (ops := (Rg.opsOf Tryz.f38 5)) 9 (T := 9) (x := (Operand.tmp 29)) (y := (Operand.tmp 24)) (vx := (.pointer (some ⟨bx, 1, none⟩))) (vy := (.string TX)) (w1 := w4.setCell ⟨bx, 1, none⟩ (.string TX)) (by kernel_rfl) (by kernel_rfl) (by kernel_rfl) (by kernel_rfl) (by kernel_rfl) (by kernel_rfl) (by kernel_rfl) ?_ (trivial) (fun hHeld => ?_)
      · go_simp
      refine Rg.take (ops := (Rg.opsOf Tryz.f38 5)) 10 (some 30) ((.pointer (some ⟨bx, 2, none⟩))) hNS (by kernel_rfl) (by kernel_rfl) (by kernel_rfl) (by kernel_rfl) (by kernel_rfl) hHeld (Rg.y_field (T := 97) (k := 2) (x := (Operand.tmp 8)) (vx := (.pointer (some ⟨bx, 0, none⟩))) (by kernel_rfl) (by kernel_rfl) ?_) ?_
      · (intro w hSw; go_simp)
      refine Rg.store (ops := (Rg.opsOf Tryz.f38 5)) 11 (T := 9) (x := (Operand.tmp 30)) (y := (Operand.tmp 28)) (vx := (.pointer (some ⟨bx, 2, none⟩))) (vy := (.string TY)) (w1 := (w4.setCell ⟨bx, 1, none⟩ (.string TX)).setCell ⟨bx, 2, none⟩ (.string TY)) (by kernel_rfl) (by kernel_rfl) (by kernel_rfl) (by kernel_rfl) (by kernel_rfl) (by kernel_rfl) (by kernel_rfl) ?_ (trivial) (fun hHeld => ?_)
      · go_simp
      refine Rg.done (ops := (Rg.opsOf Tryz.f38 5)) (by kernel_rfl) ?_
      exact ⟨by kernel_rfl, w4, below_call (below_call hBd hb3) hb4, rfl⟩
  · refine Rg.op_load (ops := (Rg.opsOf Tryz.f38 5)) 5 (some 26) (T := 9) (x := (Operand.tmp 25)) (vx := (.pointer (some ⟨bx, 2, none⟩))) (v := (.string Y)) (by kernel_rfl) (by kernel_rfl) (by kernel_rfl) (by kernel_rfl) (by kernel_rfl) ?_ hHeld ?_
    · go_simp
    refine Rg.one (ops := (Rg.opsOf Tryz.f38 5)) (i := 1) (by kernel_rfl) ?_
    refine Rg.op_load (ops := (Rg.opsOf Tryz.f38 5)) 1 (some 22) (T := 9) (x := (Operand.tmp 21)) (vx := (.pointer (some ⟨bx, 1, none⟩))) (v := (.string X)) (by kernel_rfl) (by kernel_rfl) (by kernel_rfl) (by kernel_rfl) (by kernel_rfl) ?_ hHeld ?_
    · go_simp
    refine Rg.call (ops := (Rg.opsOf Tryz.f38 5)) (fn := Tryz.f88) (xs := #[Operand.tmp 22, Operand.tmp 23]) (ats := #[9, 3]) 3 (some 24) 88 #[(.string X), (.int .i64 bit)] (by kernel_rfl) (by kernel_rfl) (by kernel_rfl) (by kernel_rfl) (by kernel_rfl) Tryz.func88 (by kernel_rfl) (by kernel_rfl) (by kernel_rfl) ?_
    refine (ct1 _).mono ?_
    rintro e w3 ⟨rfl, hb3⟩
    obtain ⟨_, g0, g1, g2, g3, g4⟩ := hbox.below (below_call hBd hb3)
    refine ⟨_, rfl, trivial, fun hHeld => ?_⟩
    refine Rg.take (ops := (Rg.opsOf Tryz.f38 5)) 8 (some 29) ((.pointer (some ⟨bx, 1, none⟩))) hNS (by kernel_rfl) (by kernel_rfl) (by kernel_rfl) (by kernel_rfl) (by kernel_rfl) hHeld (Rg.y_field (T := 97) (k := 1) (x := (Operand.tmp 8)) (vx := (.pointer (some ⟨bx, 0, none⟩))) (by kernel_rfl) (by kernel_rfl) ?_) ?_
    · (intro w hSw; go_simp)
    refine Rg.call (ops := (Rg.opsOf Tryz.f38 5)) (fn := Tryz.f88) (xs := #[Operand.tmp 26, Operand.tmp 27]) (ats := #[9, 3]) 7 (some 28) 88 #[(.string Y), (.int .i64 bit)] (by kernel_rfl) (by kernel_rfl) (by kernel_rfl) (by kernel_rfl) (by kernel_rfl) Tryz.func88 (by kernel_rfl) (by kernel_rfl) (by kernel_rfl) ?_
    refine (ct2 _).mono ?_
    rintro e w4 ⟨rfl, hb4⟩
    obtain ⟨_, m0, m1, m2, m3, m4⟩ := hbox.below (below_call (below_call hBd hb3) hb4)
    have hw4 := hwarm _ (below_call (below_call hBd hb3) hb4)
    refine ⟨_, rfl, trivial, fun hHeld => ?_⟩
    refine Rg.store (ops := (Rg.opsOf Tryz.f38 5)) 9 (T := 9) (x := (Operand.tmp 29)) (y := (Operand.tmp 24)) (vx := (.pointer (some ⟨bx, 1, none⟩))) (vy := (.string TX)) (w1 := w4.setCell ⟨bx, 1, none⟩ (.string TX)) (by kernel_rfl) (by kernel_rfl) (by kernel_rfl) (by kernel_rfl) (by kernel_rfl) (by kernel_rfl) (by kernel_rfl) ?_ (trivial) (fun hHeld => ?_)
    · go_simp
    refine Rg.take (ops := (Rg.opsOf Tryz.f38 5)) 10 (some 30) ((.pointer (some ⟨bx, 2, none⟩))) hNS (by kernel_rfl) (by kernel_rfl) (by kernel_rfl) (by kernel_rfl) (by kernel_rfl) hHeld (Rg.y_field (T := 97) (k := 2) (x := (Operand.tmp 8)) (vx := (.pointer (some ⟨bx, 0, none⟩))) (by kernel_rfl) (by kernel_rfl) ?_) ?_
    · (intro w hSw; go_simp)
    refine Rg.store (ops := (Rg.opsOf Tryz.f38 5)) 11 (T := 9) (x := (Operand.tmp 30)) (y := (Operand.tmp 28)) (vx := (.pointer (some ⟨bx, 2, none⟩))) (vy := (.string TY)) (w1 := (w4.setCell ⟨bx, 1, none⟩ (.string TX)).setCell ⟨bx, 2, none⟩ (.string TY)) (by kernel_rfl) (by kernel_rfl) (by kernel_rfl) (by kernel_rfl) (by kernel_rfl) (by kernel_rfl) (by kernel_rfl) ?_ (trivial) (fun hHeld => ?_)
    · go_simp
    refine Rg.done (ops := (Rg.opsOf Tryz.f38 5)) (by kernel_rfl) ?_
    exact ⟨by kernel_rfl, w4, below_call (below_call hBd hb3) hb4, rfl⟩
end Go.Proofs.YtdpnmdnfnplcfaaGreat.Dk

namespace Go.Proofs.YtdpnmdnfnplcfaaGreat.Dk
open Go.RowKit Tx Pm Pl Pr
set_option linter.unusedVariables false
def Cap (w : World) (g : Nat) (v : Value) : Prop := w.cell? ⟨g, 0, none⟩ = some v
set_option maxRecDepth 100000 in
theorem iMkdirC_any (b bi bl bd bp : Nat) (l : Int) (s : St) (p : ByteArray) (w : World) (h : Ia b bi bl l w s) (hd : Cap w bd (.pointer (some ⟨b, 0, none⟩))) (hp : Cap w bp (.string p)) (hps : p.size ≤ 8000000000000) (hn : s.L.length ≤ 1000000000) :
    Calls Tryz.prog 66 #[.pointer (some ⟨bd, 0, none⟩), .pointer (some ⟨bp, 0, none⟩)] w fun e w' => e = .returned (.tuple #[]) ∧ Ip b bi bl w { s with L := ins s.L ⟨p, true, ⟨#[]⟩, ⟨#[]⟩, false, false, 0⟩ } w' := by
  obtain ⟨c0, _⟩ := h.cell
  unfold Cap at hd hp
  have h0 := h.below (Below.refl _ w).drew
  obtain ⟨w1, hrun, hm, ht⟩ := h0.items.store (x := ⟨p, true, ⟨#[]⟩, ⟨#[]⟩, false, false, 0⟩) (maxLen_of hps) (by unfold maxLen; omega)
  have hend : Ip b bi bl w { s with L := ins s.L ⟨p, true, ⟨#[]⟩, ⟨#[]⟩, false, false, 0⟩ } w1 := ⟨l, h0.turned hm ht, (Chg.of_below (Below.refl _ w).drew).then ((turned_chg ht).mono ft_i)⟩
  have HE := Lib.hid hend
  clear h h0 hm ht hend
  have hrun : (Instr.mapUpdate 61 (.map (some bi)) (.string p) (.agg #[.int .i64 1, .string ⟨#[]⟩, .string ⟨#[]⟩, .int .i64 0, .int .i64 0])).run Tryz.prog w.drew = .ok () w1 := hrun
  go_enter Tryz.func66, Tryz.ntmps66
  go_region
  all_goals (go_end0; exact ⟨rfl, HE.out⟩)
theorem own_cells {b bi bl : Nat} {l : Int} {w : World} {s : St} (h : Ia b bi bl l w s) (k : Nat) (u : Value) {cs : Array Value} (hk : (#[.map (some bi), .map (some bl), .int .i64 l, .int .i64 s.steps, .int .i64 s.stamps, .bool s.down] : Array Value).setIfInBounds k u = cs) :
    (w.setCell ⟨b, k, none⟩ u).heap[b]? = some (.cells cs 64 (0, 0)) := by
  rw [set_block h.blk, hk]
set_option maxRecDepth 100000 in
theorem iSet_any (b bi bl : Nat) (l : Int) (s : St) (x : It) (N : Int) (p : ByteArray) (w : World) (h : Ia b bi bl l w s) (hxp : x.path = p) (hps : p.size ≤ 8000000000000) (hn : s.L.length ≤ 1000000000) (hst : s.stamps ≤ 1000000000000) :
    Calls Tryz.prog 58 #[.pointer (some ⟨b, 0, none⟩), .string p, .agg #[.int .i64 (kOf x), .string x.data, .string x.kept, .int .i64 (stOf x), .int .i64 N]] w fun e w' => e = .returned (.tuple #[]) ∧ Ip b bi bl w (putS s x) w' := by
  obtain ⟨c0, c1, c2, c3, c4, c5⟩ := h.cell
  have hwm := h.warm
  have hbl : b < w.heap.size := h.lt b (.inl rfl)
  have a1 : Ia b bi bl l (w.setCell ⟨b, 4, none⟩ (.int .i64 ((s.stamps : Int) + 1))) { s with stamps := s.stamps + 1 } :=
    h.poke (chg_set _) (own_cells h 4 _ rfl) rfl rfl h.left h.low
  have hc1 : Chg (Ft b bi bl) w (w.setCell ⟨b, 4, none⟩ (.int .i64 ((s.stamps : Int) + 1))) := (chg_set _).mono ft_b
  have hB2 := ((Below.refl _ (w.setCell ⟨b, 4, none⟩ (.int .i64 ((s.stamps : Int) + 1)))).alloc (Nat.le_refl _) (.cells #[.int .i64 (kOf x), .string x.data, .string x.kept, .int .i64 (stOf x), .int .i64 ((s.stamps : Int) + 1)] 97)).drew
  have a2 := a1.below hB2
  obtain ⟨w3, hrun, hm, ht⟩ := a2.items.store (x := stamped s x) (by rw [show (stamped s x).path = p from hxp]; exact maxLen_of hps) (by unfold maxLen; show s.L.length < _; omega)
  have hrun : (Instr.mapUpdate 61 (.map (some bi)) (.string p) (.agg #[.int .i64 (kOf x), .string x.data, .string x.kept, .int .i64 (stOf x), .int .i64 ((s.stamps : Int) + 1)])).run Tryz.prog
      ((w.setCell ⟨b, 4, none⟩ (.int .i64 ((s.stamps : Int) + 1))).alloc (.cells #[.int .i64 (kOf x), .string x.data, .string x.kept, .int .i64 (stOf x), .int .i64 ((s.stamps : Int) + 1)] 97)).drew = .ok () w3 := by
    rw [← hxp]
    exact hrun
  have hend : Ip b bi bl w (putS s x) w3 := ⟨l, a2.turned hm ht, (hc1.then (Chg.of_below hB2 |>.mono (fun _ hi => hi))).then ((turned_chg ht).mono ft_i)⟩
  have HE := Lib.hid hend
  generalize kOf x = K at hrun ⊢
  generalize stOf x = T at hrun ⊢
  clear h a1 a2 hc1 hB2 hm ht hend hxp
  go_enter Tryz.func58, Tryz.ntmps58
  go_wp2
  go_region
  all_goals (go_end0; exact ⟨rfl, HE.out⟩)
end Go.Proofs.YtdpnmdnfnplcfaaGreat.Dk

namespace Go.Proofs.YtdpnmdnfnplcfaaGreat.Dk
open Go.RowKit Tx Pm Pl Pr
set_option linter.unusedVariables false
def stepR (s : St) (r : Nat) (s' : St) : Nat × St := if r ≠ 0 then (r, s) else if (done s).1 ≠ 0 then done s else (0, s')
set_option maxRecDepth 100000 in
theorem iStep_any (b bi bl : Nat) (l : Int) (s : St) (r : Nat) (f : FuncId) (cap : Array Value) (s' : St) (w : World) (h : Ia b bi bl l w s) (hd : r = 0 → s.down = false) (hst : s.steps ≤ 1000000000000)
    (hen : ∀ W, (callFunc f cap).run Tryz.prog W = .ok (.enter f cap) W)
    (cf : ∀ l1 W, r = 0 → (done s).1 = 0 → Ia b bi bl l1 W (done s).2 → Chg (· = b) w W → Calls Tryz.prog f cap W fun e w' => e = .returned (.tuple #[]) ∧ Ip b bi bl W s' w') :
    Calls Tryz.prog 64 #[.pointer (some ⟨b, 0, none⟩), .int .i64 r, .func (.func f) #[] cap] w fun e w' => e = .returned (.int .i64 ((stepR s r s').1 : Nat)) ∧ Ip b bi bl w (stepR s r s').2 w' := by
  obtain ⟨c0, c1, c2, c3, c4, c5⟩ := h.cell
  have hwm := h.warm
  have hlow := h.low
  unfold stepR
  by_cases hr : r = 0
  · subst hr
    rw [if_neg (by decide)]
    have hdn := hd rfl
    have hla : l = s.armed := h.left.resolve_left (by rw [hdn]; decide)
    by_cases h0 : l = 0
    · have hD : done s = (14, { s with down := true, armed := -1 }) := by unfold done; rw [if_pos (by omega)]
      rw [hD, if_pos (fun e => by cases e)]
      subst h0
      have a1 : Ia b bi bl 0 (w.setCell ⟨b, 5, none⟩ (.bool true)) { s with down := true, armed := -1 } := h.poke (chg_set _) (own_cells h 5 _ rfl) rfl rfl (.inl rfl) h.low
      have HE := Lib.hid (show Ip b bi bl w { s with down := true, armed := -1 } (w.setCell ⟨b, 5, none⟩ (.bool true)) from ⟨0, a1, (chg_set _).mono ft_b⟩)
      clear a1 h hd hD hla cf
      go_enter Tryz.func64, Tryz.ntmps64
      go_wp2
      go_ret
      exact ⟨rfl, HE.out⟩
    · have hD : done s = (0, { s with armed := if s.armed > 0 then s.armed - 1 else s.armed, steps := s.steps + 1 }) := by unfold done; rw [if_neg (by omega)]
      rw [hD] at cf
      rw [hD, if_neg (fun e => e rfl)]
      have e0 : (l == 0) = false := beq_eq_false_iff_ne.2 h0
      by_cases hl1 : l = -1
      · have hl2 : (-1 : Int) = s.armed := hl1 ▸ hla
        subst hl1
        have hx1 : max ((-1 : Int) - 1) (-1) = -1 := by omega
        have hx2 : max (-2 : Int) (-1) = -1 := by omega
        have hb1 : (w.setCell ⟨b, 2, none⟩ (.int .i64 (-1))).heap[b]? = some (.cells #[.map (some bi), .map (some bl), .int .i64 (-1), .int .i64 s.steps, .int .i64 s.stamps, .bool s.down] 64 (0, 0)) := own_cells h 2 _ rfl
        have hb2 : ((w.setCell ⟨b, 2, none⟩ (.int .i64 (-1))).setCell ⟨b, 3, none⟩ (.int .i64 ((s.steps : Int) + 1))).heap[b]? = some (.cells #[.map (some bi), .map (some bl), .int .i64 (-1), .int .i64 ((s.steps : Int) + 1), .int .i64 s.stamps, .bool s.down] 64 (0, 0)) := set_block hb1 _
        have hc2 : Chg (· = b) w ((w.setCell ⟨b, 2, none⟩ (.int .i64 (-1))).setCell ⟨b, 3, none⟩ (.int .i64 ((s.steps : Int) + 1))) := (chg_set _).then (chg_set _)
        have a2 : Ia b bi bl (-1) _ { s with armed := if s.armed > 0 then s.armed - 1 else s.armed, steps := s.steps + 1 } := h.poke hc2 hb2 rfl rfl (.inr (by show _ = (if s.armed > 0 then s.armed - 1 else s.armed); split <;> omega)) (by omega)
        have cf2 := cf (-1) _ rfl rfl a2 hc2
        have HC := Lib.hid hc2
        have g3 : (w.setCell ⟨b, 2, none⟩ (.int .i64 (-1))).cell? ⟨b, 3, none⟩ = some (.int .i64 s.steps) := by unfold World.cell?; rw [hb1]; rfl
        clear hl2 a2 h hd hD hla cf hc2 hb1 hb2 h0
        go_enter Tryz.func64, Tryz.ntmps64
        go_wp2_with fail
        refine cf2.mono ?_
        rintro e w5 ⟨rfl, l5, hat5, hc5⟩
        go_wp2
        go_ret
        exact ⟨rfl, l5, hat5, (HC.out.mono ft_b).then hc5⟩
      · have hl2 : 1 ≤ l := by omega
        have hx1 : max (l - 1) (-1) = l - 1 := by omega
        have hb1 : (w.setCell ⟨b, 2, none⟩ (.int .i64 (l - 1))).heap[b]? = some (.cells #[.map (some bi), .map (some bl), .int .i64 (l - 1), .int .i64 s.steps, .int .i64 s.stamps, .bool s.down] 64 (0, 0)) := own_cells h 2 _ rfl
        have hb2 : ((w.setCell ⟨b, 2, none⟩ (.int .i64 (l - 1))).setCell ⟨b, 3, none⟩ (.int .i64 ((s.steps : Int) + 1))).heap[b]? = some (.cells #[.map (some bi), .map (some bl), .int .i64 (l - 1), .int .i64 ((s.steps : Int) + 1), .int .i64 s.stamps, .bool s.down] 64 (0, 0)) := set_block hb1 _
        have hc2 : Chg (· = b) w ((w.setCell ⟨b, 2, none⟩ (.int .i64 (l - 1))).setCell ⟨b, 3, none⟩ (.int .i64 ((s.steps : Int) + 1))) := (chg_set _).then (chg_set _)
        have a2 : Ia b bi bl (l - 1) _ { s with armed := if s.armed > 0 then s.armed - 1 else s.armed, steps := s.steps + 1 } := h.poke hc2 hb2 rfl rfl (.inr (by show _ = (if s.armed > 0 then s.armed - 1 else s.armed); split <;> omega)) (by omega)
        have cf2 := cf (l - 1) _ rfl rfl a2 hc2
        have HC := Lib.hid hc2
        have g3 : (w.setCell ⟨b, 2, none⟩ (.int .i64 (l - 1))).cell? ⟨b, 3, none⟩ = some (.int .i64 s.steps) := by unfold World.cell?; rw [hb1]; rfl
        clear hl1 a2 h hd hD hla cf hc2 hb1 hb2 h0
        go_enter Tryz.func64, Tryz.ntmps64
        go_wp2_with fail
        refine cf2.mono ?_
        rintro e w5 ⟨rfl, l5, hat5, hc5⟩
        go_wp2
        go_ret
        exact ⟨rfl, l5, hat5, (HC.out.mono ft_b).then hc5⟩
  · rw [if_pos hr]
    have e0 : ((r : Int) == 0) = false := beq_eq_false_iff_ne.2 (by omega)
    have HE := Lib.hid (show Ip b bi bl w s w from ⟨l, h, Chg.refl _ _⟩)
    clear h hd cf hr
    go_enter Tryz.func64, Tryz.ntmps64
    go_wp2
    go_ret
    exact ⟨rfl, HE.out⟩
end Go.Proofs.YtdpnmdnfnplcfaaGreat.Dk

namespace Go.Proofs.YtdpnmdnfnplcfaaGreat.Dk
open Go.RowKit Tx Pm Pl Pr
set_option linter.unusedVariables false
set_option maxRecDepth 100000 in
set_option maxHeartbeats 2000000 in
theorem regMkdir (ops : Array Oper) (hops : ops = (Rg.opsOf Tryz.f27 1)) (id : Nat) (bd bp : Nat) (dv : Value) (p : ByteArray) (r X : Nat) {u0 u1 u4 u5 u6 u7 u8 u9 u10 : Value} (w : World) (A B : World → Prop)
    (hS : (fun W => Cap W bd dv ∧ Cap W bp (.string p)) w.drew) (hm : Calls Tryz.prog 65 #[dv, .string p] w.drew fun e w' => e = .returned (.int .i64 (r : Nat)) ∧ A w') (hAS : ∀ W, A W → (fun W => Cap W bd dv ∧ Cap W bp (.string p)) W)
    (hst : ∀ W, A W → Calls Tryz.prog 64 #[dv, .int .i64 (r : Nat), .func (.func 66) #[] #[.pointer (some ⟨bd, 0, none⟩), .pointer (some ⟨bp, 0, none⟩)]] W fun e w' => e = .returned (.int .i64 (X : Nat)) ∧ B w') (hBS : ∀ W, B W → (fun W => Cap W bd dv ∧ Cap W bp (.string p)) W) :
    (Code.region id ops true).wp Tryz.prog (Rg.Only fun a' w' => a' = ⟨#[u0, u1, (.pointer (some ⟨bd, 0, none⟩)), (.pointer (some ⟨bp, 0, none⟩)), (.int .i64 (X : Nat)), dv, dv, (.string p), (.int .i64 (r : Nat)), .func (Fn.func 66) #[] #[(.pointer (some ⟨bd, 0, none⟩)), (.pointer (some ⟨bp, 0, none⟩))], (.int .i64 (X : Nat))], []⟩ ∧ B w') ⟨#[u0, u1, (.pointer (some ⟨bd, 0, none⟩)), (.pointer (some ⟨bp, 0, none⟩)), u4, u5, u6, u7, u8, u9, u10], []⟩ w := by
  subst hops
  have hNS : Region.noSelect (Rg.opsOf Tryz.f27 1) = true := by kernel_rfl
  refine wp_region_held_drew (S := (fun W => Cap W bd dv ∧ Cap W bp (.string p))) (by kernel_rfl) hS (fun hHeld => ?_)
  rw [show (Rg.opsOf Tryz.f27 1).size = 7 by kernel_rfl]
  refine Rg.take (ops := (Rg.opsOf Tryz.f27 1)) 0 (some 5) (dv) hNS (by kernel_rfl) (by kernel_rfl) (by kernel_rfl) (by kernel_rfl) (by kernel_rfl) hHeld (Rg.y_load (T := 23) (x := (Operand.tmp 2)) (vx := (.pointer (some ⟨bd, 0, none⟩))) (by kernel_rfl) (by kernel_rfl) ?_) ?_
  · (intro w hSw; obtain ⟨s0, s1⟩ := hSw; unfold Cap at *; go_simp)
  refine Rg.take (ops := (Rg.opsOf Tryz.f27 1)) 1 (some 6) (dv) hNS (by kernel_rfl) (by kernel_rfl) (by kernel_rfl) (by kernel_rfl) (by kernel_rfl) hHeld (Rg.y_load (T := 23) (x := (Operand.tmp 2)) (vx := (.pointer (some ⟨bd, 0, none⟩))) (by kernel_rfl) (by kernel_rfl) ?_) ?_
  · (intro w hSw; obtain ⟨s0, s1⟩ := hSw; unfold Cap at *; go_simp)
  refine Rg.take (ops := (Rg.opsOf Tryz.f27 1)) 2 (some 7) ((.string p)) hNS (by kernel_rfl) (by kernel_rfl) (by kernel_rfl) (by kernel_rfl) (by kernel_rfl) hHeld (Rg.y_load (T := 9) (x := (Operand.tmp 3)) (vx := (.pointer (some ⟨bp, 0, none⟩))) (by kernel_rfl) (by kernel_rfl) ?_) ?_
  · (intro w hSw; obtain ⟨s0, s1⟩ := hSw; unfold Cap at *; go_simp)
  refine Rg.take (ops := (Rg.opsOf Tryz.f27 1)) 4 (some 9) (.func (Fn.func 66) #[] #[(.pointer (some ⟨bd, 0, none⟩)), (.pointer (some ⟨bp, 0, none⟩))]) hNS (by kernel_rfl) (by kernel_rfl) (by kernel_rfl) (by kernel_rfl) (by kernel_rfl) hHeld (Rg.y_func (f := Fn.func 66) (xs := #[]) (ys := #[Operand.tmp 2, Operand.tmp 3]) (vs := #[]) (us := #[(.pointer (some ⟨bd, 0, none⟩)), (.pointer (some ⟨bp, 0, none⟩))]) (by kernel_rfl) (by kernel_rfl) (by kernel_rfl)) ?_
  refine Rg.call (ops := (Rg.opsOf Tryz.f27 1)) (fn := Tryz.f65) (xs := #[Operand.tmp 6, Operand.tmp 7]) (ats := #[23, 9]) 3 (some 8) 65 #[dv, (.string p)] (by kernel_rfl) (by kernel_rfl) (by kernel_rfl) (by kernel_rfl) (by kernel_rfl) Tryz.func65 (by kernel_rfl) (by kernel_rfl) (by kernel_rfl) ?_
  refine hm.mono ?_
  rintro e w5 ⟨rfl, hA5⟩
  refine ⟨_, rfl, hAS _ hA5, fun hHeld => ?_⟩
  refine Rg.call (ops := (Rg.opsOf Tryz.f27 1)) (fn := Tryz.f64) (xs := #[Operand.tmp 5, Operand.tmp 8, Operand.tmp 9]) (ats := #[23, 33, 1]) 5 (some 10) 64 #[dv, (.int .i64 (r : Nat)), .func (Fn.func 66) #[] #[(.pointer (some ⟨bd, 0, none⟩)), (.pointer (some ⟨bp, 0, none⟩))]] (by kernel_rfl) (by kernel_rfl) (by kernel_rfl) (by kernel_rfl) (by kernel_rfl) Tryz.func64 (by kernel_rfl) (by kernel_rfl) (by kernel_rfl) ?_
  refine (hst _ hA5).mono ?_
  rintro e w6 ⟨rfl, hB6⟩
  refine ⟨_, rfl, hBS _ hB6, fun hHeld => ?_⟩
  refine Rg.take (ops := (Rg.opsOf Tryz.f27 1)) 6 (some 4) ((.int .i64 (X : Nat))) hNS (by kernel_rfl) (by kernel_rfl) (by kernel_rfl) (by kernel_rfl) (by kernel_rfl) hHeld (Rg.y_move (x := (Operand.tmp 10)) (Or.inr (by kernel_rfl)) (by kernel_rfl)) ?_
  refine Rg.done (ops := (Rg.opsOf Tryz.f27 1)) (by kernel_rfl) ?_
  exact ⟨by kernel_rfl, hB6⟩
set_option maxRecDepth 100000 in
set_option maxHeartbeats 2000000 in
theorem regWrite (ops : Array Oper) (hops : ops = (Rg.opsOf Tryz.f28 1)) (id : Nat) (bd bp bq : Nat) (dv : Value) (p q : ByteArray) (r X : Nat) {u0 u1 u2 u6 u7 u8 u9 u10 u11 u12 u13 : Value} (w : World) (A B : World → Prop)
    (hS : (fun W => Cap W bd dv ∧ Cap W bp (.string p) ∧ Cap W bq (.string q)) w.drew) (hm : Calls Tryz.prog 67 #[dv, .string p, .string q] w.drew fun e w' => e = .returned (.int .i64 (r : Nat)) ∧ A w') (hAS : ∀ W, A W → (fun W => Cap W bd dv ∧ Cap W bp (.string p) ∧ Cap W bq (.string q)) W)
    (hst : ∀ W, A W → Calls Tryz.prog 64 #[dv, .int .i64 (r : Nat), .func (.func 68) #[] #[.pointer (some ⟨bd, 0, none⟩), .pointer (some ⟨bp, 0, none⟩), .pointer (some ⟨bq, 0, none⟩)]] W fun e w' => e = .returned (.int .i64 (X : Nat)) ∧ B w') (hBS : ∀ W, B W → (fun W => Cap W bd dv ∧ Cap W bp (.string p) ∧ Cap W bq (.string q)) W) :
    (Code.region id ops true).wp Tryz.prog (Rg.Only fun a' w' => a' = ⟨#[u0, u1, u2, (.pointer (some ⟨bd, 0, none⟩)), (.pointer (some ⟨bp, 0, none⟩)), (.pointer (some ⟨bq, 0, none⟩)), (.int .i64 (X : Nat)), dv, dv, (.string p), (.string q), (.int .i64 (r : Nat)), .func (Fn.func 68) #[] #[(.pointer (some ⟨bd, 0, none⟩)), (.pointer (some ⟨bp, 0, none⟩)), (.pointer (some ⟨bq, 0, none⟩))], (.int .i64 (X : Nat))], []⟩ ∧ B w') ⟨#[u0, u1, u2, (.pointer (some ⟨bd, 0, none⟩)), (.pointer (some ⟨bp, 0, none⟩)), (.pointer (some ⟨bq, 0, none⟩)), u6, u7, u8, u9, u10, u11, u12, u13], []⟩ w := by
  subst hops
  have hNS : Region.noSelect (Rg.opsOf Tryz.f28 1) = true := by kernel_rfl
  refine wp_region_held_drew (S := (fun W => Cap W bd dv ∧ Cap W bp (.string p) ∧ Cap W bq (.string q))) (by kernel_rfl) hS (fun hHeld => ?_)
  rw [show (Rg.opsOf Tryz.f28 1).size = 8 by kernel_rfl]
  refine Rg.take (ops := (Rg.opsOf Tryz.f28 1)) 0 (some 7) (dv) hNS (by kernel_rfl) (by kernel_rfl) (by kernel_rfl) (by kernel_rfl) (by kernel_rfl) hHeld (Rg.y_load (T := 23) (x := (Operand.tmp 3)) (vx := (.pointer (some ⟨bd, 0, none⟩))) (by kernel_rfl) (by kernel_rfl) ?_) ?_
  · (intro w hSw; obtain ⟨s0, s1, s2⟩ := hSw; unfold Cap at *; go_simp)
  refine Rg.take (ops := (Rg.opsOf Tryz.f28 1)) 1 (some 8) (dv) hNS (by kernel_rfl) (by kernel_rfl) (by kernel_rfl) (by kernel_rfl) (by kernel_rfl) hHeld (Rg.y_load (T := 23) (x := (Operand.tmp 3)) (vx := (.pointer (some ⟨bd, 0, none⟩))) (by kernel_rfl) (by kernel_rfl) ?_) ?_
  · (intro w hSw; obtain ⟨s0, s1, s2⟩ := hSw; unfold Cap at *; go_simp)
  refine Rg.take (ops := (Rg.opsOf Tryz.f28 1)) 2 (some 9) ((.string p)) hNS (by kernel_rfl) (by kernel_rfl) (by kernel_rfl) (by kernel_rfl) (by kernel_rfl) hHeld (Rg.y_load (T := 9) (x := (Operand.tmp 4)) (vx := (.pointer (some ⟨bp, 0, none⟩))) (by kernel_rfl) (by kernel_rfl) ?_) ?_
  · (intro w hSw; obtain ⟨s0, s1, s2⟩ := hSw; unfold Cap at *; go_simp)
  refine Rg.take (ops := (Rg.opsOf Tryz.f28 1)) 3 (some 10) ((.string q)) hNS (by kernel_rfl) (by kernel_rfl) (by kernel_rfl) (by kernel_rfl) (by kernel_rfl) hHeld (Rg.y_load (T := 9) (x := (Operand.tmp 5)) (vx := (.pointer (some ⟨bq, 0, none⟩))) (by kernel_rfl) (by kernel_rfl) ?_) ?_
  · (intro w hSw; obtain ⟨s0, s1, s2⟩ := hSw; unfold Cap at *; go_simp)
  refine Rg.take (ops := (Rg.opsOf Tryz.f28 1)) 5 (some 12) (.func (Fn.func 68) #[] #[(.pointer (some ⟨bd, 0, none⟩)), (.pointer (some ⟨bp, 0, none⟩)), (.pointer (some ⟨bq, 0, none⟩))]) hNS (by kernel_rfl) (by kernel_rfl) (by kernel_rfl) (by kernel_rfl) (by kernel_rfl) hHeld (Rg.y_func (f := Fn.func 68) (xs := #[]) (ys := #[Operand.tmp 3, Operand.tmp 4, Operand.tmp 5]) (vs := #[]) (us := #[(.pointer (some ⟨bd, 0, none⟩)), (.pointer (some ⟨bp, 0, none⟩)), (.pointer (some ⟨bq, 0, none⟩))]) (by kernel_rfl) (by kernel_rfl) (by kernel_rfl)) ?_
  refine Rg.call (ops := (Rg.opsOf Tryz.f28 1)) (fn := Tryz.f67) (xs := #[Operand.tmp 8, Operand.tmp 9, Operand.tmp 10]) (ats := #[23, 9, 9]) 4 (some 11) 67 #[dv, (.string p), (.string q)] (by kernel_rfl) (by kernel_rfl) (by kernel_rfl) (by kernel_rfl) (by kernel_rfl) Tryz.func67 (by kernel_rfl) (by kernel_rfl) (by kernel_rfl) ?_
  refine hm.mono ?_
  rintro e w5 ⟨rfl, hA5⟩
  refine ⟨_, rfl, hAS _ hA5, fun hHeld => ?_⟩
  refine Rg.call (ops := (Rg.opsOf Tryz.f28 1)) (fn := Tryz.f64) (xs := #[Operand.tmp 7, Operand.tmp 11, Operand.tmp 12]) (ats := #[23, 33, 1]) 6 (some 13) 64 #[dv, (.int .i64 (r : Nat)), .func (Fn.func 68) #[] #[(.pointer (some ⟨bd, 0, none⟩)), (.pointer (some ⟨bp, 0, none⟩)), (.pointer (some ⟨bq, 0, none⟩))]] (by kernel_rfl) (by kernel_rfl) (by kernel_rfl) (by kernel_rfl) (by kernel_rfl) Tryz.func64 (by kernel_rfl) (by kernel_rfl) (by kernel_rfl) ?_
  refine (hst _ hA5).mono ?_
  rintro e w6 ⟨rfl, hB6⟩
  refine ⟨_, rfl, hBS _ hB6, fun hHeld => ?_⟩
  refine Rg.take (ops := (Rg.opsOf Tryz.f28 1)) 7 (some 6) ((.int .i64 (X : Nat))) hNS (by kernel_rfl) (by kernel_rfl) (by kernel_rfl) (by kernel_rfl) (by kernel_rfl) hHeld (Rg.y_move (x := (Operand.tmp 13)) (Or.inr (by kernel_rfl)) (by kernel_rfl)) ?_
  refine Rg.done (ops := (Rg.opsOf Tryz.f28 1)) (by kernel_rfl) ?_
  exact ⟨by kernel_rfl, hB6⟩
set_option maxRecDepth 100000 in
set_option maxHeartbeats 2000000 in
theorem regAppend (ops : Array Oper) (hops : ops = (Rg.opsOf Tryz.f35 1)) (id : Nat) (bd bp bq : Nat) (dv : Value) (p q : ByteArray) (r X : Nat) {u0 u1 u2 u6 u7 u8 u9 u10 u11 u12 u13 : Value} (w : World) (A B : World → Prop)
    (hS : (fun W => Cap W bd dv ∧ Cap W bp (.string p) ∧ Cap W bq (.string q)) w.drew) (hm : Calls Tryz.prog 83 #[dv, .string p, .string q] w.drew fun e w' => e = .returned (.int .i64 (r : Nat)) ∧ A w') (hAS : ∀ W, A W → (fun W => Cap W bd dv ∧ Cap W bp (.string p) ∧ Cap W bq (.string q)) W)
    (hst : ∀ W, A W → Calls Tryz.prog 64 #[dv, .int .i64 (r : Nat), .func (.func 84) #[] #[.pointer (some ⟨bd, 0, none⟩), .pointer (some ⟨bp, 0, none⟩), .pointer (some ⟨bq, 0, none⟩)]] W fun e w' => e = .returned (.int .i64 (X : Nat)) ∧ B w') (hBS : ∀ W, B W → (fun W => Cap W bd dv ∧ Cap W bp (.string p) ∧ Cap W bq (.string q)) W) :
    (Code.region id ops true).wp Tryz.prog (Rg.Only fun a' w' => a' = ⟨#[u0, u1, u2, (.pointer (some ⟨bd, 0, none⟩)), (.pointer (some ⟨bp, 0, none⟩)), (.pointer (some ⟨bq, 0, none⟩)), (.int .i64 (X : Nat)), dv, dv, (.string p), (.string q), (.int .i64 (r : Nat)), .func (Fn.func 84) #[] #[(.pointer (some ⟨bd, 0, none⟩)), (.pointer (some ⟨bp, 0, none⟩)), (.pointer (some ⟨bq, 0, none⟩))], (.int .i64 (X : Nat))], []⟩ ∧ B w') ⟨#[u0, u1, u2, (.pointer (some ⟨bd, 0, none⟩)), (.pointer (some ⟨bp, 0, none⟩)), (.pointer (some ⟨bq, 0, none⟩)), u6, u7, u8, u9, u10, u11, u12, u13], []⟩ w := by
  subst hops
  have hNS : Region.noSelect (Rg.opsOf Tryz.f35 1) = true := by kernel_rfl
  refine wp_region_held_drew (S := (fun W => Cap W bd dv ∧ Cap W bp (.string p) ∧ Cap W bq (.string q))) (by kernel_rfl) hS (fun hHeld => ?_)
  rw [show (Rg.opsOf Tryz.f35 1).size = 8 by kernel_rfl]
  refine Rg.take (ops := (Rg.opsOf Tryz.f35 1)) 0 (some 7) (dv) hNS (by kernel_rfl) (by kernel_rfl) (by kernel_rfl) (by kernel_rfl) (by kernel_rfl) hHeld (Rg.y_load (T := 23) (x := (Operand.tmp 3)) (vx := (.pointer (some ⟨bd, 0, none⟩))) (by kernel_rfl) (by kernel_rfl) ?_) ?_
  · (intro w hSw; obtain ⟨s0, s1, s2⟩ := hSw; unfold Cap at *; go_simp)
  refine Rg.take (ops := (Rg.opsOf Tryz.f35 1)) 1 (some 8) (dv) hNS (by kernel_rfl) (by kernel_rfl) (by kernel_rfl) (by kernel_rfl) (by kernel_rfl) hHeld (Rg.y_load (T := 23) (x := (Operand.tmp 3)) (vx := (.pointer (some ⟨bd, 0, none⟩))) (by kernel_rfl) (by kernel_rfl) ?_) ?_
  · (intro w hSw; obtain ⟨s0, s1, s2⟩ := hSw; unfold Cap at *; go_simp)
  refine Rg.take (ops := (Rg.opsOf Tryz.f35 1)) 2 (some 9) ((.string p)) hNS (by kernel_rfl) (by kernel_rfl) (by kernel_rfl) (by kernel_rfl) (by kernel_rfl) hHeld (Rg.y_load (T := 9) (x := (Operand.tmp 4)) (vx := (.pointer (some ⟨bp, 0, none⟩))) (by kernel_rfl) (by kernel_rfl) ?_) ?_
  · (intro w hSw; obtain ⟨s0, s1, s2⟩ := hSw; unfold Cap at *; go_simp)
  refine Rg.take (ops := (Rg.opsOf Tryz.f35 1)) 3 (some 10) ((.string q)) hNS (by kernel_rfl) (by kernel_rfl) (by kernel_rfl) (by kernel_rfl) (by kernel_rfl) hHeld (Rg.y_load (T := 9) (x := (Operand.tmp 5)) (vx := (.pointer (some ⟨bq, 0, none⟩))) (by kernel_rfl) (by kernel_rfl) ?_) ?_
  · (intro w hSw; obtain ⟨s0, s1, s2⟩ := hSw; unfold Cap at *; go_simp)
  refine Rg.take (ops := (Rg.opsOf Tryz.f35 1)) 5 (some 12) (.func (Fn.func 84) #[] #[(.pointer (some ⟨bd, 0, none⟩)), (.pointer (some ⟨bp, 0, none⟩)), (.pointer (some ⟨bq, 0, none⟩))]) hNS (by kernel_rfl) (by kernel_rfl) (by kernel_rfl) (by kernel_rfl) (by kernel_rfl) hHeld (Rg.y_func (f := Fn.func 84) (xs := #[]) (ys := #[Operand.tmp 3, Operand.tmp 4, Operand.tmp 5]) (vs := #[]) (us := #[(.pointer (some ⟨bd, 0, none⟩)), (.pointer (some ⟨bp, 0, none⟩)), (.pointer (some ⟨bq, 0, none⟩))]) (by kernel_rfl) (by kernel_rfl) (by kernel_rfl)) ?_
  refine Rg.call (ops := (Rg.opsOf Tryz.f35 1)) (fn := Tryz.f83) (xs := #[Operand.tmp 8, Operand.tmp 9, Operand.tmp 10]) (ats := #[23, 9, 9]) 4 (some 11) 83 #[dv, (.string p), (.string q)] (by kernel_rfl) (by kernel_rfl) (by kernel_rfl) (by kernel_rfl) (by kernel_rfl) Tryz.func83 (by kernel_rfl) (by kernel_rfl) (by kernel_rfl) ?_
  refine hm.mono ?_
  rintro e w5 ⟨rfl, hA5⟩
  refine ⟨_, rfl, hAS _ hA5, fun hHeld => ?_⟩
  refine Rg.call (ops := (Rg.opsOf Tryz.f35 1)) (fn := Tryz.f64) (xs := #[Operand.tmp 7, Operand.tmp 11, Operand.tmp 12]) (ats := #[23, 33, 1]) 6 (some 13) 64 #[dv, (.int .i64 (r : Nat)), .func (Fn.func 84) #[] #[(.pointer (some ⟨bd, 0, none⟩)), (.pointer (some ⟨bp, 0, none⟩)), (.pointer (some ⟨bq, 0, none⟩))]] (by kernel_rfl) (by kernel_rfl) (by kernel_rfl) (by kernel_rfl) (by kernel_rfl) Tryz.func64 (by kernel_rfl) (by kernel_rfl) (by kernel_rfl) ?_
  refine (hst _ hA5).mono ?_
  rintro e w6 ⟨rfl, hB6⟩
  refine ⟨_, rfl, hBS _ hB6, fun hHeld => ?_⟩
  refine Rg.take (ops := (Rg.opsOf Tryz.f35 1)) 7 (some 6) ((.int .i64 (X : Nat))) hNS (by kernel_rfl) (by kernel_rfl) (by kernel_rfl) (by kernel_rfl) (by kernel_rfl) hHeld (Rg.y_move (x := (Operand.tmp 13)) (Or.inr (by kernel_rfl)) (by kernel_rfl)) ?_
  refine Rg.done (ops := (Rg.opsOf Tryz.f35 1)) (by kernel_rfl) ?_
  exact ⟨by kernel_rfl, hB6⟩
set_option maxRecDepth 100000 in
set_option maxHeartbeats 2000000 in
theorem regSync (ops : Array Oper) (hops : ops = (Rg.opsOf Tryz.f99 1)) (id : Nat) (bd bp : Nat) (dv : Value) (p : ByteArray) (r X : Nat) {u0 u1 u4 u5 u6 u7 u8 u9 u10 : Value} (w : World) (A B : World → Prop)
    (hS : (fun W => Cap W bd dv ∧ Cap W bp (.string p)) w.drew) (hm : Calls Tryz.prog 87 #[dv, .string p] w.drew fun e w' => e = .returned (.int .i64 (r : Nat)) ∧ A w') (hAS : ∀ W, A W → (fun W => Cap W bd dv ∧ Cap W bp (.string p)) W)
    (hst : ∀ W, A W → Calls Tryz.prog 64 #[dv, .int .i64 (r : Nat), .func (.func 112) #[] #[.pointer (some ⟨bd, 0, none⟩), .pointer (some ⟨bp, 0, none⟩)]] W fun e w' => e = .returned (.int .i64 (X : Nat)) ∧ B w') (hBS : ∀ W, B W → (fun W => Cap W bd dv ∧ Cap W bp (.string p)) W) :
    (Code.region id ops true).wp Tryz.prog (Rg.Only fun a' w' => a' = ⟨#[u0, u1, (.pointer (some ⟨bd, 0, none⟩)), (.pointer (some ⟨bp, 0, none⟩)), (.int .i64 (X : Nat)), dv, dv, (.string p), (.int .i64 (r : Nat)), .func (Fn.func 112) #[] #[(.pointer (some ⟨bd, 0, none⟩)), (.pointer (some ⟨bp, 0, none⟩))], (.int .i64 (X : Nat))], []⟩ ∧ B w') ⟨#[u0, u1, (.pointer (some ⟨bd, 0, none⟩)), (.pointer (some ⟨bp, 0, none⟩)), u4, u5, u6, u7, u8, u9, u10], []⟩ w := by
  subst hops
  have hNS : Region.noSelect (Rg.opsOf Tryz.f99 1) = true := by kernel_rfl
  refine wp_region_held_drew (S := (fun W => Cap W bd dv ∧ Cap W bp (.string p))) (by kernel_rfl) hS (fun hHeld => ?_)
  rw [show (Rg.opsOf Tryz.f99 1).size = 7 by kernel_rfl]
  refine Rg.take (ops := (Rg.opsOf Tryz.f99 1)) 0 (some 5) (dv) hNS (by kernel_rfl) (by kernel_rfl) (by kernel_rfl) (by kernel_rfl) (by kernel_rfl) hHeld (Rg.y_load (T := 23) (x := (Operand.tmp 2)) (vx := (.pointer (some ⟨bd, 0, none⟩))) (by kernel_rfl) (by kernel_rfl) ?_) ?_
  · (intro w hSw; obtain ⟨s0, s1⟩ := hSw; unfold Cap at *; go_simp)
  refine Rg.take (ops := (Rg.opsOf Tryz.f99 1)) 1 (some 6) (dv) hNS (by kernel_rfl) (by kernel_rfl) (by kernel_rfl) (by kernel_rfl) (by kernel_rfl) hHeld (Rg.y_load (T := 23) (x := (Operand.tmp 2)) (vx := (.pointer (some ⟨bd, 0, none⟩))) (by kernel_rfl) (by kernel_rfl) ?_) ?_
  · (intro w hSw; obtain ⟨s0, s1⟩ := hSw; unfold Cap at *; go_simp)
  refine Rg.take (ops := (Rg.opsOf Tryz.f99 1)) 2 (some 7) ((.string p)) hNS (by kernel_rfl) (by kernel_rfl) (by kernel_rfl) (by kernel_rfl) (by kernel_rfl) hHeld (Rg.y_load (T := 9) (x := (Operand.tmp 3)) (vx := (.pointer (some ⟨bp, 0, none⟩))) (by kernel_rfl) (by kernel_rfl) ?_) ?_
  · (intro w hSw; obtain ⟨s0, s1⟩ := hSw; unfold Cap at *; go_simp)
  refine Rg.take (ops := (Rg.opsOf Tryz.f99 1)) 4 (some 9) (.func (Fn.func 112) #[] #[(.pointer (some ⟨bd, 0, none⟩)), (.pointer (some ⟨bp, 0, none⟩))]) hNS (by kernel_rfl) (by kernel_rfl) (by kernel_rfl) (by kernel_rfl) (by kernel_rfl) hHeld (Rg.y_func (f := Fn.func 112) (xs := #[]) (ys := #[Operand.tmp 2, Operand.tmp 3]) (vs := #[]) (us := #[(.pointer (some ⟨bd, 0, none⟩)), (.pointer (some ⟨bp, 0, none⟩))]) (by kernel_rfl) (by kernel_rfl) (by kernel_rfl)) ?_
  refine Rg.call (ops := (Rg.opsOf Tryz.f99 1)) (fn := Tryz.f87) (xs := #[Operand.tmp 6, Operand.tmp 7]) (ats := #[23, 9]) 3 (some 8) 87 #[dv, (.string p)] (by kernel_rfl) (by kernel_rfl) (by kernel_rfl) (by kernel_rfl) (by kernel_rfl) Tryz.func87 (by kernel_rfl) (by kernel_rfl) (by kernel_rfl) ?_
  refine hm.mono ?_
  rintro e w5 ⟨rfl, hA5⟩
  refine ⟨_, rfl, hAS _ hA5, fun hHeld => ?_⟩
  refine Rg.call (ops := (Rg.opsOf Tryz.f99 1)) (fn := Tryz.f64) (xs := #[Operand.tmp 5, Operand.tmp 8, Operand.tmp 9]) (ats := #[23, 33, 1]) 5 (some 10) 64 #[dv, (.int .i64 (r : Nat)), .func (Fn.func 112) #[] #[(.pointer (some ⟨bd, 0, none⟩)), (.pointer (some ⟨bp, 0, none⟩))]] (by kernel_rfl) (by kernel_rfl) (by kernel_rfl) (by kernel_rfl) (by kernel_rfl) Tryz.func64 (by kernel_rfl) (by kernel_rfl) (by kernel_rfl) ?_
  refine (hst _ hA5).mono ?_
  rintro e w6 ⟨rfl, hB6⟩
  refine ⟨_, rfl, hBS _ hB6, fun hHeld => ?_⟩
  refine Rg.take (ops := (Rg.opsOf Tryz.f99 1)) 6 (some 4) ((.int .i64 (X : Nat))) hNS (by kernel_rfl) (by kernel_rfl) (by kernel_rfl) (by kernel_rfl) (by kernel_rfl) hHeld (Rg.y_move (x := (Operand.tmp 10)) (Or.inr (by kernel_rfl)) (by kernel_rfl)) ?_
  refine Rg.done (ops := (Rg.opsOf Tryz.f99 1)) (by kernel_rfl) ?_
  exact ⟨by kernel_rfl, hB6⟩
set_option maxRecDepth 100000 in
set_option maxHeartbeats 2000000 in
theorem regRename (ops : Array Oper) (hops : ops = (Rg.opsOf Tryz.f33 1)) (id : Nat) (bd bp bq : Nat) (dv : Value) (p q : ByteArray) (r X : Nat) {u0 u1 u2 u6 u7 u8 u9 u10 u11 u12 u13 : Value} (w : World) (A B : World → Prop)
    (hS : (fun W => Cap W bd dv ∧ Cap W bp (.string p) ∧ Cap W bq (.string q)) w.drew) (hm : Calls Tryz.prog 80 #[dv, .string p, .string q] w.drew fun e w' => e = .returned (.int .i64 (r : Nat)) ∧ A w') (hAS : ∀ W, A W → (fun W => Cap W bd dv ∧ Cap W bp (.string p) ∧ Cap W bq (.string q)) W)
    (hst : ∀ W, A W → Calls Tryz.prog 64 #[dv, .int .i64 (r : Nat), .func (.func 81) #[] #[.pointer (some ⟨bd, 0, none⟩), .pointer (some ⟨bp, 0, none⟩), .pointer (some ⟨bq, 0, none⟩)]] W fun e w' => e = .returned (.int .i64 (X : Nat)) ∧ B w') (hBS : ∀ W, B W → (fun W => Cap W bd dv ∧ Cap W bp (.string p) ∧ Cap W bq (.string q)) W) :
    (Code.region id ops true).wp Tryz.prog (Rg.Only fun a' w' => a' = ⟨#[u0, u1, u2, (.pointer (some ⟨bd, 0, none⟩)), (.pointer (some ⟨bp, 0, none⟩)), (.pointer (some ⟨bq, 0, none⟩)), (.int .i64 (X : Nat)), dv, dv, (.string p), (.string q), (.int .i64 (r : Nat)), .func (Fn.func 81) #[] #[(.pointer (some ⟨bd, 0, none⟩)), (.pointer (some ⟨bp, 0, none⟩)), (.pointer (some ⟨bq, 0, none⟩))], (.int .i64 (X : Nat))], []⟩ ∧ B w') ⟨#[u0, u1, u2, (.pointer (some ⟨bd, 0, none⟩)), (.pointer (some ⟨bp, 0, none⟩)), (.pointer (some ⟨bq, 0, none⟩)), u6, u7, u8, u9, u10, u11, u12, u13], []⟩ w := by
  subst hops
  have hNS : Region.noSelect (Rg.opsOf Tryz.f33 1) = true := by kernel_rfl
  refine wp_region_held_drew (S := (fun W => Cap W bd dv ∧ Cap W bp (.string p) ∧ Cap W bq (.string q))) (by kernel_rfl) hS (fun hHeld => ?_)
  rw [show (Rg.opsOf Tryz.f33 1).size = 8 by kernel_rfl]
  refine Rg.take (ops := (Rg.opsOf Tryz.f33 1)) 0 (some 7) (dv) hNS (by kernel_rfl) (by kernel_rfl) (by kernel_rfl) (by kernel_rfl) (by kernel_rfl) hHeld (Rg.y_load (T := 23) (x := (Operand.tmp 3)) (vx := (.pointer (some ⟨bd, 0, none⟩))) (by kernel_rfl) (by kernel_rfl) ?_) ?_
  · (intro w hSw; obtain ⟨s0, s1, s2⟩ := hSw; unfold Cap at *; go_simp)
  refine Rg.take (ops := (Rg.opsOf Tryz.f33 1)) 1 (some 8) (dv) hNS (by kernel_rfl) (by kernel_rfl) (by kernel_rfl) (by kernel_rfl) (by kernel_rfl) hHeld (Rg.y_load (T := 23) (x := (Operand.tmp 3)) (vx := (.pointer (some ⟨bd, 0, none⟩))) (by kernel_rfl) (by kernel_rfl) ?_) ?_
  · (intro w hSw; obtain ⟨s0, s1, s2⟩ := hSw; unfold Cap at *; go_simp)
  refine Rg.take (ops := (Rg.opsOf Tryz.f33 1)) 2 (some 9) ((.string p)) hNS (by kernel_rfl) (by kernel_rfl) (by kernel_rfl) (by kernel_rfl) (by kernel_rfl) hHeld (Rg.y_load (T := 9) (x := (Operand.tmp 4)) (vx := (.pointer (some ⟨bp, 0, none⟩))) (by kernel_rfl) (by kernel_rfl) ?_) ?_
  · (intro w hSw; obtain ⟨s0, s1, s2⟩ := hSw; unfold Cap at *; go_simp)
  refine Rg.take (ops := (Rg.opsOf Tryz.f33 1)) 3 (some 10) ((.string q)) hNS (by kernel_rfl) (by kernel_rfl) (by kernel_rfl) (by kernel_rfl) (by kernel_rfl) hHeld (Rg.y_load (T := 9) (x := (Operand.tmp 5)) (vx := (.pointer (some ⟨bq, 0, none⟩))) (by kernel_rfl) (by kernel_rfl) ?_) ?_
  · (intro w hSw; obtain ⟨s0, s1, s2⟩ := hSw; unfold Cap at *; go_simp)
  refine Rg.take (ops := (Rg.opsOf Tryz.f33 1)) 5 (some 12) (.func (Fn.func 81) #[] #[(.pointer (some ⟨bd, 0, none⟩)), (.pointer (some ⟨bp, 0, none⟩)), (.pointer (some ⟨bq, 0, none⟩))]) hNS (by kernel_rfl) (by kernel_rfl) (by kernel_rfl) (by kernel_rfl) (by kernel_rfl) hHeld (Rg.y_func (f := Fn.func 81) (xs := #[]) (ys := #[Operand.tmp 3, Operand.tmp 4, Operand.tmp 5]) (vs := #[]) (us := #[(.pointer (some ⟨bd, 0, none⟩)), (.pointer (some ⟨bp, 0, none⟩)), (.pointer (some ⟨bq, 0, none⟩))]) (by kernel_rfl) (by kernel_rfl) (by kernel_rfl)) ?_
  refine Rg.call (ops := (Rg.opsOf Tryz.f33 1)) (fn := Tryz.f80) (xs := #[Operand.tmp 8, Operand.tmp 9, Operand.tmp 10]) (ats := #[23, 9, 9]) 4 (some 11) 80 #[dv, (.string p), (.string q)] (by kernel_rfl) (by kernel_rfl) (by kernel_rfl) (by kernel_rfl) (by kernel_rfl) Tryz.func80 (by kernel_rfl) (by kernel_rfl) (by kernel_rfl) ?_
  refine hm.mono ?_
  rintro e w5 ⟨rfl, hA5⟩
  refine ⟨_, rfl, hAS _ hA5, fun hHeld => ?_⟩
  refine Rg.call (ops := (Rg.opsOf Tryz.f33 1)) (fn := Tryz.f64) (xs := #[Operand.tmp 7, Operand.tmp 11, Operand.tmp 12]) (ats := #[23, 33, 1]) 6 (some 13) 64 #[dv, (.int .i64 (r : Nat)), .func (Fn.func 81) #[] #[(.pointer (some ⟨bd, 0, none⟩)), (.pointer (some ⟨bp, 0, none⟩)), (.pointer (some ⟨bq, 0, none⟩))]] (by kernel_rfl) (by kernel_rfl) (by kernel_rfl) (by kernel_rfl) (by kernel_rfl) Tryz.func64 (by kernel_rfl) (by kernel_rfl) (by kernel_rfl) ?_
  refine (hst _ hA5).mono ?_
  rintro e w6 ⟨rfl, hB6⟩
  refine ⟨_, rfl, hBS _ hB6, fun hHeld => ?_⟩
  refine Rg.take (ops := (Rg.opsOf Tryz.f33 1)) 7 (some 6) ((.int .i64 (X : Nat))) hNS (by kernel_rfl) (by kernel_rfl) (by kernel_rfl) (by kernel_rfl) (by kernel_rfl) hHeld (Rg.y_move (x := (Operand.tmp 13)) (Or.inr (by kernel_rfl)) (by kernel_rfl)) ?_
  refine Rg.done (ops := (Rg.opsOf Tryz.f33 1)) (by kernel_rfl) ?_
  exact ⟨by kernel_rfl, hB6⟩
set_option maxRecDepth 100000 in
set_option maxHeartbeats 2000000 in
theorem regRemove (ops : Array Oper) (hops : ops = (Rg.opsOf Tryz.f31 1)) (id : Nat) (bd bp : Nat) (dv : Value) (p : ByteArray) (r X : Nat) {u0 u1 u4 u5 u6 u7 u8 u9 u10 : Value} (w : World) (A B : World → Prop)
    (hS : (fun W => Cap W bd dv ∧ Cap W bp (.string p)) w.drew) (hm : Calls Tryz.prog 76 #[dv, .string p] w.drew fun e w' => e = .returned (.int .i64 (r : Nat)) ∧ A w') (hAS : ∀ W, A W → (fun W => Cap W bd dv ∧ Cap W bp (.string p)) W)
    (hst : ∀ W, A W → Calls Tryz.prog 64 #[dv, .int .i64 (r : Nat), .func (.func 77) #[] #[.pointer (some ⟨bd, 0, none⟩), .pointer (some ⟨bp, 0, none⟩)]] W fun e w' => e = .returned (.int .i64 (X : Nat)) ∧ B w') (hBS : ∀ W, B W → (fun W => Cap W bd dv ∧ Cap W bp (.string p)) W) :
    (Code.region id ops true).wp Tryz.prog (Rg.Only fun a' w' => a' = ⟨#[u0, u1, (.pointer (some ⟨bd, 0, none⟩)), (.pointer (some ⟨bp, 0, none⟩)), (.int .i64 (X : Nat)), dv, dv, (.string p), (.int .i64 (r : Nat)), .func (Fn.func 77) #[] #[(.pointer (some ⟨bd, 0, none⟩)), (.pointer (some ⟨bp, 0, none⟩))], (.int .i64 (X : Nat))], []⟩ ∧ B w') ⟨#[u0, u1, (.pointer (some ⟨bd, 0, none⟩)), (.pointer (some ⟨bp, 0, none⟩)), u4, u5, u6, u7, u8, u9, u10], []⟩ w := by
  subst hops
  have hNS : Region.noSelect (Rg.opsOf Tryz.f31 1) = true := by kernel_rfl
  refine wp_region_held_drew (S := (fun W => Cap W bd dv ∧ Cap W bp (.string p))) (by kernel_rfl) hS (fun hHeld => ?_)
  rw [show (Rg.opsOf Tryz.f31 1).size = 7 by kernel_rfl]
  refine Rg.take (ops := (Rg.opsOf Tryz.f31 1)) 0 (some 5) (dv) hNS (by kernel_rfl) (by kernel_rfl) (by kernel_rfl) (by kernel_rfl) (by kernel_rfl) hHeld (Rg.y_load (T := 23) (x := (Operand.tmp 2)) (vx := (.pointer (some ⟨bd, 0, none⟩))) (by kernel_rfl) (by kernel_rfl) ?_) ?_
  · (intro w hSw; obtain ⟨s0, s1⟩ := hSw; unfold Cap at *; go_simp)
  refine Rg.take (ops := (Rg.opsOf Tryz.f31 1)) 1 (some 6) (dv) hNS (by kernel_rfl) (by kernel_rfl) (by kernel_rfl) (by kernel_rfl) (by kernel_rfl) hHeld (Rg.y_load (T := 23) (x := (Operand.tmp 2)) (vx := (.pointer (some ⟨bd, 0, none⟩))) (by kernel_rfl) (by kernel_rfl) ?_) ?_
  · (intro w hSw; obtain ⟨s0, s1⟩ := hSw; unfold Cap at *; go_simp)
  refine Rg.take (ops := (Rg.opsOf Tryz.f31 1)) 2 (some 7) ((.string p)) hNS (by kernel_rfl) (by kernel_rfl) (by kernel_rfl) (by kernel_rfl) (by kernel_rfl) hHeld (Rg.y_load (T := 9) (x := (Operand.tmp 3)) (vx := (.pointer (some ⟨bp, 0, none⟩))) (by kernel_rfl) (by kernel_rfl) ?_) ?_
  · (intro w hSw; obtain ⟨s0, s1⟩ := hSw; unfold Cap at *; go_simp)
  refine Rg.take (ops := (Rg.opsOf Tryz.f31 1)) 4 (some 9) (.func (Fn.func 77) #[] #[(.pointer (some ⟨bd, 0, none⟩)), (.pointer (some ⟨bp, 0, none⟩))]) hNS (by kernel_rfl) (by kernel_rfl) (by kernel_rfl) (by kernel_rfl) (by kernel_rfl) hHeld (Rg.y_func (f := Fn.func 77) (xs := #[]) (ys := #[Operand.tmp 2, Operand.tmp 3]) (vs := #[]) (us := #[(.pointer (some ⟨bd, 0, none⟩)), (.pointer (some ⟨bp, 0, none⟩))]) (by kernel_rfl) (by kernel_rfl) (by kernel_rfl)) ?_
  refine Rg.call (ops := (Rg.opsOf Tryz.f31 1)) (fn := Tryz.f76) (xs := #[Operand.tmp 6, Operand.tmp 7]) (ats := #[23, 9]) 3 (some 8) 76 #[dv, (.string p)] (by kernel_rfl) (by kernel_rfl) (by kernel_rfl) (by kernel_rfl) (by kernel_rfl) Tryz.func76 (by kernel_rfl) (by kernel_rfl) (by kernel_rfl) ?_
  refine hm.mono ?_
  rintro e w5 ⟨rfl, hA5⟩
  refine ⟨_, rfl, hAS _ hA5, fun hHeld => ?_⟩
  refine Rg.call (ops := (Rg.opsOf Tryz.f31 1)) (fn := Tryz.f64) (xs := #[Operand.tmp 5, Operand.tmp 8, Operand.tmp 9]) (ats := #[23, 33, 1]) 5 (some 10) 64 #[dv, (.int .i64 (r : Nat)), .func (Fn.func 77) #[] #[(.pointer (some ⟨bd, 0, none⟩)), (.pointer (some ⟨bp, 0, none⟩))]] (by kernel_rfl) (by kernel_rfl) (by kernel_rfl) (by kernel_rfl) (by kernel_rfl) Tryz.func64 (by kernel_rfl) (by kernel_rfl) (by kernel_rfl) ?_
  refine (hst _ hA5).mono ?_
  rintro e w6 ⟨rfl, hB6⟩
  refine ⟨_, rfl, hBS _ hB6, fun hHeld => ?_⟩
  refine Rg.take (ops := (Rg.opsOf Tryz.f31 1)) 6 (some 4) ((.int .i64 (X : Nat))) hNS (by kernel_rfl) (by kernel_rfl) (by kernel_rfl) (by kernel_rfl) (by kernel_rfl) hHeld (Rg.y_move (x := (Operand.tmp 10)) (Or.inr (by kernel_rfl)) (by kernel_rfl)) ?_
  refine Rg.done (ops := (Rg.opsOf Tryz.f31 1)) (by kernel_rfl) ?_
  exact ⟨by kernel_rfl, hB6⟩
end Go.Proofs.YtdpnmdnfnplcfaaGreat.Dk

namespace Go.Proofs.YtdpnmdnfnplcfaaGreat.Dk
open Go.RowKit Tx Pm Pl Pr
set_option linter.unusedVariables false
theorem Mp.put {w : World} {bi : Nat} {L : List It} (h : Mp w bi L) {x : It} {p : ByteArray} {v : Value} (hx : x.path = p) (hv : iv3 x = v) (hp : p.size ≤ 8000000000000) (hn : L.length ≤ 1000000000) :
    ∃ w', (Instr.mapUpdate 61 (.map (some bi)) (.string p) v).run Tryz.prog w = .ok () w' ∧ Mp w' bi (ins L x) ∧ w.mapTurned w' bi := by
  subst hx
  subst hv
  exact h.store (maxLen_of hp) (by unfold maxLen; omega)
theorem kOf_file {x : It} (h : x.dir = false) : kOf x = 2 := by unfold kOf; rw [h]; rfl
set_option maxRecDepth 100000 in
set_option maxHeartbeats 1000000 in
theorem iWriteC_any (b bi bl bd bp bq : Nat) (l : Int) (s : St) (p d : ByteArray) (w : World) (h : Ia b bi bl l w s) (hd : Cap w bd (.pointer (some ⟨b, 0, none⟩))) (hp : Cap w bp (.string p)) (hq : Cap w bq (.string d)) (hps : p.size ≤ 8000000000000) (hn : s.L.length ≤ 1000000000) (hst : s.stamps ≤ 1000000000000)
    (ho : (old s.L p).dir = false) :
    Calls Tryz.prog 68 #[.pointer (some ⟨bd, 0, none⟩), .pointer (some ⟨bp, 0, none⟩), .pointer (some ⟨bq, 0, none⟩)] w fun e w' => e = .returned (.tuple #[]) ∧ Ip b bi bl w (putS s { old s.L p with data := d, loose := true, anew := true }) w' := by
  obtain ⟨c0, _⟩ := h.cell
  unfold Cap at hd hp hq
  have h0 := h.below (Below.refl _ w).drew
  have hl := h0.look (maxLen_of hps)
  have cs := iSet_any b bi bl l s { old s.L p with data := d, loose := true, anew := true } 0 p w.drew h0 (old_path _ _) hps hn hst
  have e1 : kOf { old s.L p with data := d, loose := true, anew := true } = 2 := kOf_file ho
  rw [e1] at cs
  have cs : Calls Tryz.prog 58 #[.pointer (some ⟨b, 0, none⟩), .string p, .agg #[.int .i64 2, .string d, .string (old s.L p).kept, .int .i64 2, .int .i64 0]] w.drew fun e w' => e = .returned (.tuple #[]) ∧ Ip b bi bl w.drew (putS s { old s.L p with data := d, loose := true, anew := true }) w' := cs
  have hf2 := fld2
  have hend : ∀ w', Ip b bi bl w.drew (putS s { old s.L p with data := d, loose := true, anew := true }) w' → Ip b bi bl w (putS s { old s.L p with data := d, loose := true, anew := true }) w' := fun w' hh => Ip.after (Below.refl _ w).drew hh
  have HE := Lib.hid hend
  generalize (putS s { old s.L p with data := d, loose := true, anew := true }) = s' at cs HE ⊢
  generalize (old s.L p).kept = X1 at cs hl
  generalize stOf (old s.L p) = X2 at hl
  clear h h0 hend e1 ho
  go_enter Tryz.func68, Tryz.ntmps68
  go_wp2
  go_still_tail 11, (by kernel_rfl)
  change wpList _ _ _ _ _ w.drew
  go_wp2_with (go_at_call 58; refine cs.mono ?_; rintro e w5 ⟨rfl, h5⟩)
  go_end0
  exact ⟨rfl, HE.out _ h5⟩
set_option maxRecDepth 100000 in
theorem iRemoveC_any (b bi bl bd bp : Nat) (l : Int) (s : St) (p : ByteArray) (w : World) (h : Ia b bi bl l w s) (hR : Rises s.L) (hd : Cap w bd (.pointer (some ⟨b, 0, none⟩))) (hp : Cap w bp (.string p)) (hps : p.size ≤ 8000000000000) :
    Calls Tryz.prog 77 #[.pointer (some ⟨bd, 0, none⟩), .pointer (some ⟨bp, 0, none⟩)] w fun e w' => e = .returned (.tuple #[]) ∧ Ip b bi bl w { s with L := drop s.L p } w' := by
  obtain ⟨c0, _⟩ := h.cell
  unfold Cap at hd hp
  have h0 := h.below (Below.refl _ w).drew
  obtain ⟨w1, hrun, hm, ht⟩ := h0.items.del hR (maxLen_of hps) 0
  have HE := Lib.hid (show Ip b bi bl w { s with L := drop s.L p } w1 from ⟨l, h0.turned hm ht, (Chg.of_below (Below.refl _ w).drew).then ((turned_chg ht).mono ft_i)⟩)
  clear h h0 hm ht
  go_enter Tryz.func77, Tryz.ntmps77
  go_region
  all_goals (go_end0; exact ⟨rfl, HE.out⟩)
set_option maxRecDepth 100000 in
set_option maxHeartbeats 1000000 in
theorem iSyncC_any (b bi bl bd bp : Nat) (l : Int) (s : St) (p : ByteArray) (w : World) (h : Ia b bi bl l w s) (hd : Cap w bd (.pointer (some ⟨b, 0, none⟩))) (hp : Cap w bp (.string p)) (hps : p.size ≤ 8000000000000) (hn : s.L.length ≤ 1000000000)
    (ho : kind s.L p = 2) :
    Calls Tryz.prog 112 #[.pointer (some ⟨bd, 0, none⟩), .pointer (some ⟨bp, 0, none⟩)] w fun e w' => e = .returned (.tuple #[]) ∧ Ip b bi bl w { s with L := ins s.L { old s.L p with kept := (old s.L p).data, loose := false, anew := false } } w' := by
  obtain ⟨c0, _⟩ := h.cell
  unfold Cap at hd hp
  have hl := (h.below (Below.refl _ w).drew).look (maxLen_of hps)
  have hl2 := fun o => (h.below ((Below.refl _ w).alloc (Nat.le_refl _) o).drew).look (maxLen_of hps)
  rw [ho] at hl hl2
  have hod : (old s.L p).dir = false := old_dir (by omega)
  have hbd : bd < w.heap.size := World.block_lt_of_cell? w _ hd
  have hbp : bp < w.heap.size := World.block_lt_of_cell? w _ hp
  have hb : b < w.heap.size := h.lt b (.inl rfl)
  generalize hX0 : (old s.L p).data = X0 at hl hl2
  have hB2 := ((Below.refl _ w).alloc (Nat.le_refl _) (.cells #[.int .i64 2, .string X0, .string X0, .int .i64 0, .int .i64 (old s.L p).stamp] 97)).drew.drew
  have a2 := h.below hB2
  have e1 : iv3 { old s.L p with kept := X0, loose := false, anew := false } = .agg #[.int .i64 2, .string X0, .string X0, .int .i64 0, .int .i64 (old s.L p).stamp] := by
    unfold iv3
    rw [show kOf { old s.L p with kept := X0, loose := false, anew := false } = 2 from kOf_file hod, ← hX0]
    rfl
  obtain ⟨w3, hrun, hm, ht⟩ := a2.items.put (x := { old s.L p with kept := X0, loose := false, anew := false }) (old_path s.L p) e1 hps hn
  have HE := Lib.hid (show Ip b bi bl w { s with L := ins s.L { old s.L p with kept := X0, loose := false, anew := false } } w3 from ⟨l, a2.turned hm ht, (Chg.of_below hB2).then ((turned_chg ht).mono ft_i)⟩)
  generalize stOf (old s.L p) = X2 at hl hl2
  generalize ((old s.L p).stamp : Int) = X3 at hl hl2 hrun
  generalize (old s.L p).kept = X4 at hl hl2
  clear h hB2 a2 hm ht e1 hod ho hX0
  go_enter Tryz.func112, Tryz.ntmps112
  go_wp2
  go_region
  all_goals go_wp2
  all_goals go_region
  all_goals (go_end0; exact ⟨rfl, HE.out⟩)
end Go.Proofs.YtdpnmdnfnplcfaaGreat.Dk

namespace Go.Proofs.YtdpnmdnfnplcfaaGreat.Dk
open Go.RowKit Tx Pm Pl Pr
set_option linter.unusedVariables false
set_option maxRecDepth 100000 in
set_option maxHeartbeats 2000000 in
theorem iAppendC_any (b bi bl bd bp bq : Nat) (l : Int) (s : St) (p d : ByteArray) (w : World) (h : Ia b bi bl l w s) (hd : Cap w bd (.pointer (some ⟨b, 0, none⟩))) (hp : Cap w bp (.string p)) (hq : Cap w bq (.string d)) (hps : p.size ≤ 8000000000000) (hn : s.L.length ≤ 1000000000) (hst : s.stamps ≤ 1000000000000)
    (ho : kind s.L p = 2) (hca : (old s.L p).loose = false → (old s.L p).anew = false) (hsz : (old s.L p).data.size + d.size ≤ 1000000000000000000) :
    Calls Tryz.prog 84 #[.pointer (some ⟨bd, 0, none⟩), .pointer (some ⟨bp, 0, none⟩), .pointer (some ⟨bq, 0, none⟩)] w fun e w' => e = .returned (.tuple #[]) ∧ Ip b bi bl w (putS s { old s.L p with data := (old s.L p).data ++ d, loose := true }) w' := by
  obtain ⟨c0, _⟩ := h.cell
  unfold Cap at hd hp hq
  have hbd : bd < w.heap.size := World.block_lt_of_cell? w _ hd
  have hbp : bp < w.heap.size := World.block_lt_of_cell? w _ hp
  have hbq : bq < w.heap.size := World.block_lt_of_cell? w _ hq
  have hb : b < w.heap.size := h.lt b (.inl rfl)
  have hl := (h.below (Below.refl _ w).drew).look (maxLen_of hps)
  have hl2 := fun o => (h.below ((Below.refl _ w).alloc (Nat.le_refl _) o).drew).look (maxLen_of hps)
  rw [ho] at hl hl2
  have hod : (old s.L p).dir = false := old_dir (by omega)
  have hst2 : stOf { old s.L p with data := (old s.L p).data ++ d, loose := true } = if stOf (old s.L p) = 0 then 1 else stOf (old s.L p) := by
    unfold stOf
    cases hlo : (old s.L p).loose with
    | false =>
      rw [hca hlo]
      rfl
    | true => cases (old s.L p).anew <;> rfl
  have hst3 : stOf (old s.L p) = 0 ∨ stOf (old s.L p) = 1 ∨ stOf (old s.L p) = 2 := by
    unfold stOf
    cases (old s.L p).loose <;> cases (old s.L p).anew <;> simp
  have cs := fun W (hW : Below w.heap.size w W) => iSet_any b bi bl l s { old s.L p with data := (old s.L p).data ++ d, loose := true } (old s.L p).stamp p W (h.below hW) (old_path _ _) hps hn hst
  rw [show kOf { old s.L p with data := (old s.L p).data ++ d, loose := true } = 2 from kOf_file hod, hst2] at cs
  simp only at cs
  have HE := Lib.hid (fun W w' (hW : Below w.heap.size w W) (hh : Ip b bi bl W (putS s { old s.L p with data := (old s.L p).data ++ d, loose := true }) w') => Ip.after hW hh)
  generalize (putS s { old s.L p with data := (old s.L p).data ++ d, loose := true }) = s' at cs HE ⊢
  generalize (old s.L p).data = X0 at hl hl2 cs hsz
  generalize (old s.L p).kept = X1 at hl hl2 cs
  generalize ((old s.L p).stamp : Int) = X3 at hl hl2 cs
  generalize stOf (old s.L p) = X2 at hl hl2 cs hst3
  clear h ho hca hod hst2
  have hBW : ∀ o, Below w.heap.size w (w.alloc o).drew := fun o => ((Below.refl _ w).alloc (Nat.le_refl _) o).drew
  have HC := Lib.hid cs
  have HB := Lib.hid hBW
  clear cs hBW
  rcases hst3 with rfl | rfl | rfl
  · go_enter Tryz.func84, Tryz.ntmps84
    go_wp2
    go_region
    all_goals go_wp2_with (go_at_call 58; refine (HC.out _ (HB.out _)).mono ?_; rintro e w5 ⟨rfl, h5⟩)
    all_goals (go_end0; exact ⟨rfl, HE.out _ _ (HB.out _) h5⟩)
  · go_enter Tryz.func84, Tryz.ntmps84
    go_wp2
    go_region
    all_goals go_wp2_with (go_at_call 58; refine (HC.out _ (HB.out _)).mono ?_; rintro e w5 ⟨rfl, h5⟩)
    all_goals (go_end0; exact ⟨rfl, HE.out _ _ (HB.out _) h5⟩)
  · go_enter Tryz.func84, Tryz.ntmps84
    go_wp2
    go_region
    all_goals go_wp2_with (go_at_call 58; refine (HC.out _ (HB.out _)).mono ?_; rintro e w5 ⟨rfl, h5⟩)
    all_goals (go_end0; exact ⟨rfl, HE.out _ _ (HB.out _) h5⟩)
theorem turned_cell {w w' : World} {b i : Nat} (h : w.mapTurned w' b) (hi : i ≠ b) (o : Nat) : w'.cell? ⟨i, o, none⟩ = w.cell? ⟨i, o, none⟩ := by
  unfold World.cell?
  simp only [turned_block h hi]
theorem cell_ne {w : World} {bi : Nat} {L : List It} (h : Mp w bi L) {g : Nat} {o : Nat} {v : Value} (hc : w.cell? ⟨g, o, none⟩ = some v) : g ≠ bi := by
  rintro rfl
  obtain ⟨D, ⟨es, clock, hb, _⟩, _⟩ := h
  unfold World.cell? at hc
  simp [hb] at hc
set_option maxRecDepth 100000 in
set_option maxHeartbeats 2000000 in
theorem iRenameC_any (b bi bl bd bp bq : Nat) (l : Int) (s : St) (f t : ByteArray) (w : World) (h : Ia b bi bl l w s) (hR : Rises s.L) (hd : Cap w bd (.pointer (some ⟨b, 0, none⟩))) (hp : Cap w bp (.string f)) (hq : Cap w bq (.string t)) (hfs : f.size ≤ 8000000000000) (hts : t.size ≤ 8000000000000) (hn : s.L.length ≤ 1000000000) (hst : s.stamps ≤ 1000000000000)
    (ho : kind s.L f = 2) :
    Calls Tryz.prog 81 #[.pointer (some ⟨bd, 0, none⟩), .pointer (some ⟨bp, 0, none⟩), .pointer (some ⟨bq, 0, none⟩)] w fun e w' => e = .returned (.tuple #[]) ∧ Ip b bi bl w (putS { s with L := drop s.L f } { old s.L f with path := t }) w' := by
  obtain ⟨c0, _⟩ := h.cell
  unfold Cap at hd hp hq
  have hbd : bd < w.heap.size := World.block_lt_of_cell? w _ hd
  have hbp : bp < w.heap.size := World.block_lt_of_cell? w _ hp
  have hbq : bq < w.heap.size := World.block_lt_of_cell? w _ hq
  have hb : b < w.heap.size := h.lt b (.inl rfl)
  have nd := cell_ne h.items hd
  have np := cell_ne h.items hp
  have nq := cell_ne h.items hq
  have nb := h.nb.1
  have nn : w.heap.size ≠ bi := fun e => by have := h.items.lt; omega
  have hl := (h.below (Below.refl _ w).drew).look (maxLen_of hfs)
  have hl2 := fun o => (h.below ((Below.refl _ w).alloc (Nat.le_refl _) o).drew).look (maxLen_of hfs)
  rw [ho] at hl hl2
  have hod : (old s.L f).dir = false := old_dir (by omega)
  have hB2 := ((Below.refl _ w).alloc (Nat.le_refl _) (.cells #[.int .i64 2, .string (old s.L f).data, .string (old s.L f).kept, .int .i64 (stOf (old s.L f)), .int .i64 (old s.L f).stamp] 97)).drew.drew
  have a2 := h.below hB2
  obtain ⟨w3, hrun, hm, ht⟩ := a2.items.del hR (maxLen_of hfs) 0
  have a3 : Ia b bi bl l w3 { s with L := drop s.L f } := a2.turned hm ht
  have hc3 : Chg (Ft b bi bl) w w3 := (Chg.of_below hB2).then ((turned_chg ht).mono ft_i)
  have hbox : w3.cell? ⟨w.heap.size, 0, none⟩ = some (.int .i64 2) ∧ w3.cell? ⟨w.heap.size, 1, none⟩ = some (.string (old s.L f).data) ∧ w3.cell? ⟨w.heap.size, 2, none⟩ = some (.string (old s.L f).kept) ∧ w3.cell? ⟨w.heap.size, 3, none⟩ = some (.int .i64 (stOf (old s.L f))) ∧ w3.cell? ⟨w.heap.size, 4, none⟩ = some (.int .i64 (old s.L f).stamp) := by
    refine ⟨?_, ?_, ?_, ?_, ?_⟩ <;> · rw [turned_cell ht nn]; exact World.cell?_alloc_at _ _ _ _ rfl
  have g0 : w3.cell? ⟨bd, 0, none⟩ = some (.pointer (some ⟨b, 0, none⟩)) := (turned_cell ht nd 0).trans ((World.cell?_alloc_past _ _ _ hbd).trans hd)
  have g1 : w3.cell? ⟨bq, 0, none⟩ = some (.string t) := (turned_cell ht nq 0).trans ((World.cell?_alloc_past _ _ _ hbq).trans hq)
  have cs := iSet_any b bi bl l { s with L := drop s.L f } { old s.L f with path := t } (old s.L f).stamp t w3 a3 rfl hts (Nat.le_trans (drop_in s.L f).2 hn) hst
  rw [show kOf { old s.L f with path := t } = 2 from kOf_file hod] at cs
  have cs : Calls Tryz.prog 58 #[.pointer (some ⟨b, 0, none⟩), .string t, .agg #[.int .i64 2, .string (old s.L f).data, .string (old s.L f).kept, .int .i64 (stOf (old s.L f)), .int .i64 (old s.L f).stamp]] w3 fun e w' => e = .returned (.tuple #[]) ∧ Ip b bi bl w3 (putS { s with L := drop s.L f } { old s.L f with path := t }) w' := cs
  have hfin : ∀ w', Ip b bi bl w3 (putS { s with L := drop s.L f } { old s.L f with path := t }) w' → Ip b bi bl w (putS { s with L := drop s.L f } { old s.L f with path := t }) w' := fun w' ⟨l2, h1, h2⟩ => ⟨l2, h1, hc3.then h2⟩
  have HE := Lib.hid hfin
  clear h ho hod hB2 a2 a3 hm ht hc3 hfin
  generalize (putS { s with L := drop s.L f } { old s.L f with path := t }) = s' at cs HE ⊢
  generalize (old s.L f).data = X0 at hl hl2 cs hrun hbox
  generalize (old s.L f).kept = X1 at hl hl2 cs hrun hbox
  generalize ((old s.L f).stamp : Int) = X3 at hl hl2 cs hrun hbox
  generalize stOf (old s.L f) = X2 at hl hl2 cs hrun hbox
  obtain ⟨k0, k1, k2, k3, k4⟩ := hbox
  go_enter Tryz.func81, Tryz.ntmps81
  go_wp2
  go_region
  all_goals go_wp2
  all_goals go_region
  all_goals go_wp2_with (go_at_call 58; refine cs.mono ?_; rintro e w5 ⟨rfl, h5⟩)
  all_goals (go_end0; exact ⟨rfl, HE.out _ h5⟩)
end Go.Proofs.YtdpnmdnfnplcfaaGreat.Dk
