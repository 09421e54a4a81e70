/- Texts of this seat, one behind the other. -/
import Derived.Test.YtjdfffkkpbabpaaGreatT2
import Derived.Maps.RangeWalk
import Derived.Deep.AppendLies
import Derived.Deep.QuietTactic
import Derived.BigQuiet
import Derived.Shelf.Strings.Builder1
import Derived.Shelf.Strings.Builder2
import Derived.Shelf.Strings.OnBuilder
import Derived.Shelf.Strings.Search1
import Derived.Shelf.Sort.Plain
import Derived.Shelf.Slices.In.SortNone
import Derived.Test.YtjdfffkkpbabpaaGreatProg
import Derived.Lib.Strings
import Derived.Lib.Bytealg
import Derived.Lib.IndexLaws
import Derived.Laws.RangeAny
import Derived.Shelf.RegionOpenPlain
import Derived.RegionTactic
import Derived.BigRegion
import Derived.Deep.CutRange
import Derived.StillTailTactics
namespace Go.Proofs.YtjdfffkkpbabpaaGreat.Dk
open Go.RowKit Tx Pm
set_option linter.unusedVariables false
theorem find_ins_same (l : List It) {x : It} {p : ByteArray} (h : x.path = p) : find (ins l x) p = some x := by
  unfold ins
  rw [find_app]
  have h1 : find (l.takeWhile (fun y => Op.bytesLess y.path.toList x.path.toList)) p = none := by
    refine List.find?_eq_none.2 (fun y hy => ?_)
    have hl := List.all_eq_true.1 (List.all_takeWhile (p := fun y => Op.bytesLess y.path.toList x.path.toList) (l := l)) y hy
    intro he
    have he := of_decide_eq_true he
    rw [he, h, less_irrefl] at hl
    cases hl
  rw [h1, Option.none_or]
  unfold find
  rw [List.find?_cons_of_pos (by simpa using h)]
theorem find_drop_same (l : List It) (p : ByteArray) : find (drop l p) p = none := by
  unfold find drop
  refine List.find?_eq_none.2 (fun y hy => ?_)
  have := (List.mem_filter.1 hy).2
  simpa using this
theorem find_paths {l : List It} {x : It} (hr : Rises l) (hx : x ∈ l) : find l x.path = some x := by
  unfold find
  induction l with
  | nil => cases hx
  | cons y l ih =>
    obtain ⟨h1, h2⟩ := List.pairwise_cons.1 hr
    by_cases he : y.path = x.path
    · rw [List.find?_cons_of_pos (by simpa using he)]
      rcases List.mem_cons.1 hx with rfl | hx
      · rfl
      · have := h1 x hx
        rw [he, less_irrefl] at this
        cases this
    · rw [List.find?_cons_of_neg (by simpa using he)]
      rcases List.mem_cons.1 hx with rfl | hx
      · exact absurd rfl he
      · exact ih h2 hx
theorem drop_none {l : List It} {p : ByteArray} (h : find l p = none) : drop l p = l := by
  unfold find at h
  unfold drop
  refine List.filter_eq_self.2 (fun y hy => ?_)
  have := List.find?_eq_none.1 h y hy
  simpa using this
theorem len_drop {l : List It} (hr : Rises l) (p : ByteArray) : l.length ≤ (drop l p).length + (if (find l p).isSome then 1 else 0) := by
  induction l with
  | nil => exact Nat.zero_le _
  | cons y l ih =>
    obtain ⟨h1, h2⟩ := List.pairwise_cons.1 hr
    by_cases he : y.path = p
    · have hn : find l p = none := by
        refine List.find?_eq_none.2 (fun z hz hzp => ?_)
        have hzp := of_decide_eq_true hzp
        have := h1 z hz
        rw [he, hzp, less_irrefl] at this
        cases this
      have e1 : drop (y :: l) p = drop l p := by unfold drop; rw [List.filter_cons_of_neg (by simpa using he)]
      have e2 : find (y :: l) p = some y := by unfold find; rw [List.find?_cons_of_pos (by simpa using he)]
      rw [e1, e2, drop_none hn]
      exact Nat.le_refl _
    · have e1 : drop (y :: l) p = y :: drop l p := by unfold drop; rw [List.filter_cons_of_pos (by simpa using he)]
      have e2 : find (y :: l) p = find l p := by unfold find; rw [List.find?_cons_of_neg (by simpa using he)]
      rw [e1, e2]
      have := ih h2
      simp only [List.length_cons]
      omega
theorem len_ins_more {l : List It} (x : It) : l.length + (if (find l x.path).isSome then 0 else 1) ≤ (ins l x).length := by
  have e : l = l.takeWhile (fun y => Op.bytesLess y.path.toList x.path.toList) ++ l.dropWhile (fun y => Op.bytesLess y.path.toList x.path.toList) := (List.takeWhile_append_dropWhile).symm
  have hall := List.all_takeWhile (p := fun y => Op.bytesLess y.path.toList x.path.toList) (l := l)
  unfold ins
  generalize l.takeWhile (fun y => Op.bytesLess y.path.toList x.path.toList) = a at e hall ⊢
  generalize l.dropWhile (fun y => Op.bytesLess y.path.toList x.path.toList) = b at e ⊢
  subst e
  cases b with
  | nil =>
    simp only [List.append_nil, List.length_append, List.length_cons, List.length_nil]
    split <;> omega
  | cons y r =>
    by_cases he : y.path = x.path
    · have hs : (find (a ++ y :: r) x.path).isSome = true := List.find?_isSome.2 ⟨y, by simp, by simpa using he⟩
      rw [if_pos hs]
      simp only [he, if_true, List.length_append, List.length_cons]
      omega
    · simp only [he, if_false, List.length_append, List.length_cons]
      split <;> omega
def stOf (x : It) : Int := if x.loose then (if x.anew then 2 else 1) else 0
def kOf (x : It) : Int := if x.dir then 1 else 2
def mv (k : Int) (s t : ByteArray) (st n : Int) : Value := .agg #[.int .i64 k, .string s, .string t, .int .i64 st, .int .i64 n]
def iv3 (x : It) : Value := mv (kOf x) x.data x.kept (stOf x) (x.stamp : Nat)
def dv3 (k : Int) (s t : ByteArray) (st n : Int) : DataW Unit := .agg [.lit (.int .i64 k), .lit (.string s.data.toList), .lit (.string t.data.toList), .lit (.int .i64 st), .lit (.int .i64 n)]
def itD (x : It) : DataW Unit := dv3 (kOf x) x.data x.kept (stOf x) (x.stamp : Nat)
def itemR : Value → Option (DataW Unit × List MemPlace)
  | .agg ⟨[.int .i64 k, .string s, .string t, .int .i64 st, .int .i64 n]⟩ => some (dv3 k s t st n, [])
  | _ => none
theorem itemR_mv (k : Int) (s t : ByteArray) (st n : Int) : itemR (mv k s t st n) = some (dv3 k s t st n, []) := rfl
theorem itemR_inv {v : Value} {z : DataW Unit × List MemPlace} (h : itemR v = some z) : ∃ k s t st n, v = mv k s t st n ∧ z = (dv3 k s t st n, []) := by
  unfold itemR at h
  split at h
  · cases h
    exact ⟨_, _, _, _, _, rfl, rfl⟩
  · cases h
theorem dv3_inj {k k' : Int} {s s' t t' : ByteArray} {st st' n n' : Int} (h : dv3 k s t st n = dv3 k' s' t' st' n') : k = k' ∧ s = s' ∧ t = t' ∧ st = st' ∧ n = n' := by
  unfold dv3 at h
  simp only [DataW.agg.injEq, List.cons.injEq, DataW.lit.injEq, Lit.int.injEq, Lit.string.injEq, true_and, and_true] at h
  obtain ⟨h1, h2, h3, h4, h5⟩ := h
  exact ⟨h1, ByteArray.ext (Array.toList_inj.1 h2), ByteArray.ext (Array.toList_inj.1 h3), h4, h5⟩
def lookV (L : List It) (p : ByteArray) : Value := match find L p with
  | some x => iv3 x
  | none => mv 0 ⟨#[]⟩ ⟨#[]⟩ 0 0
def kL (p : ByteArray) : Lit := .string p.data.toList
theorem kL_inj {p q : ByteArray} (h : kL p = kL q) : p = q := by
  injection h with h
  exact ByteArray.ext (Array.toList_inj.1 h)
theorem kL_key (p : ByteArray) : WideAt.IsKeyLit (kL p) := trivial
theorem strK : Go.Maps.Keyed Tryz.prog 9 := Go.Maps.string_keyed Tryz.underlying9
theorem keyP {p : ByteArray} (hp : p.size ≤ maxLen) : keyOf Tryz.prog 9 (.string p) = some (kL p) := Go.WideMaps.keyOf_string_mk Tryz.underlying9 hp
theorem zeroI (w : World) : (zeroValue 100).run Tryz.prog w = .ok (mv 0 ⟨#[]⟩ ⟨#[]⟩ 0 0) w := by kernel_rfl
theorem zeroN (w : World) : (zeroValue 3).run Tryz.prog w = .ok (.int .i64 0) w := by kernel_rfl
def ReadsI (D : DataW Unit) (L : List It) : Prop := ∀ p z, D.atKey (kL p) z = match find L p with
  | some x => itD x
  | none => z
def Mp (w : World) (bi : Nat) (L : List It) : Prop := ∃ D : DataW Unit, w.ownsMap Tryz.prog 9 itemR bi L.length D ∧ ReadsI D L ∧ Go.Maps.size D ≤ L.length
theorem Mp.lt {w : World} {bi : Nat} {L : List It} (h : Mp w bi L) : bi < w.heap.size := by
  obtain ⟨D, h, _⟩ := h
  exact h.lt
theorem ownsMap_at {H : Type} {w w1 : World} {P : Program} {k : TypeId} {R : Value → Option (DataW H × List MemPlace)} {b n : Nat} {D : DataW H} (h : w.ownsMap P k R b n D) (he : w1.heap[b]? = w.heap[b]?) : w1.ownsMap P k R b n D := by
  obtain ⟨es, clock, hb, r⟩ := h
  exact ⟨es, clock, he.trans hb, r⟩
theorem Mp.kept {w w1 : World} {bi : Nat} {L : List It} (h : Mp w bi L) (he : w1.heap[bi]? = w.heap[bi]?) : Mp w1 bi L := by
  obtain ⟨D, h, r⟩ := h
  exact ⟨D, ownsMap_at h he, r⟩
theorem readsI_has {D : DataW Unit} {L : List It} (h : ReadsI D L) (p : ByteArray) : Go.Maps.has D (kL p) = (find L p).isSome := by
  cases hf : find L p with
  | none =>
    refine (Go.Maps.has_false_of_atKey fun z => ?_).trans rfl
    rw [h p z, hf]
  | some x =>
    refine (Go.Maps.has_true_of_atKey (y := itD x) fun z => ?_).trans rfl
    rw [h p z, hf]
theorem Mp.look {w : World} {bi : Nat} {L : List It} (h : Mp w bi L) {p : ByteArray} (hp : p.size ≤ maxLen) :
    (Instr.lookup 57 (.map (some bi)) (.string p) false).run Tryz.prog w = .ok (lookV L p) w := by
  obtain ⟨D, ho, hr, _⟩ := h
  obtain ⟨v, ps, hrun, hv⟩ := ho.lookup strK Tryz.underlying57 (zeroI w) (itemR_mv _ _ _ _ _) (keyP hp)
  rw [hrun]
  obtain ⟨k, s, t, st, n, rfl, hz⟩ := itemR_inv hv
  have hz := congrArg Prod.fst hz
  simp only [hr p] at hz
  unfold lookV
  cases hf : find L p with
  | none =>
    rw [hf] at hz
    obtain ⟨rfl, rfl, rfl, rfl, rfl⟩ := dv3_inj hz
    rfl
  | some x =>
    rw [hf] at hz
    obtain ⟨rfl, rfl, rfl, rfl, rfl⟩ := dv3_inj (k := kOf x) (s := x.data) (t := x.kept) (st := stOf x) (n := (x.stamp : Nat)) hz
    rfl
theorem turned_block {w w' : World} {b i : Nat} (h : w.mapTurned w' b) (hi : i ≠ b) : w'.heap[i]? = w.heap[i]? := by
  obtain ⟨es, clock, es', clock', hb, rfl⟩ := h
  exact Go.ChangeMaps.heap_setBlock_other hb _ hi
theorem turned_chg {w w' : World} {b : Nat} (h : w.mapTurned w' b) : Chg (· = b) w w' := by
  have hg := h.grown
  exact ⟨hg.os, hg.tape, hg.output, hg.size, fun i hi hn => turned_block h hn⟩
theorem own_len {w : World} {b n : Nat} {D : DataW Unit} {R : Value → Option (DataW Unit × List MemPlace)} (h : w.ownsMap Tryz.prog 9 R b n D) {m : Nat} (hm : Go.Maps.size D ≤ m) : w.ownsMap Tryz.prog 9 R b m D := by
  obtain ⟨es, clock, hb, F, hs, rfl⟩ := h
  refine ⟨es, clock, hb, F, ?_, rfl⟩
  simp only [Go.Maps.size, length_sorted, List.length_map, Array.length_toList] at hm
  exact hm
theorem Mp.store {w : World} {bi : Nat} {L : List It} (h : Mp w bi L) {x : It} (hp : x.path.size ≤ maxLen) (hn : L.length < maxLen) :
    ∃ w', (Instr.mapUpdate 57 (.map (some bi)) (.string x.path) (iv3 x)).run Tryz.prog w = .ok () w' ∧ Mp w' bi (ins L x) ∧ w.mapTurned w' bi := by
  obtain ⟨D, ho, hr, hs⟩ := h
  obtain ⟨w', hrun, ho', ht⟩ := ho.store strK Tryz.underlying57 hn (keyP hp) (itemR_mv (kOf x) x.data x.kept (stOf x) (x.stamp : Nat))
  have hsz : Go.Maps.size (D.put (kL x.path) (dv3 (kOf x) x.data x.kept (stOf x) (x.stamp : Nat))) ≤ (ins L x).length := by
    have h1 := Go.Maps.size_put (ho.tidy strK) (k := kL x.path) (dv3 (kOf x) x.data x.kept (stOf x) (x.stamp : Nat))
    rw [readsI_has hr] at h1
    have h2 := len_ins_more (l := L) x
    rw [h1]
    split at h2 <;> split <;> first | omega | simp_all
  refine ⟨w', hrun, ⟨_, own_len ho' hsz, fun p z => ?_, hsz⟩, ht⟩
  by_cases he : p = x.path
  · subst he
    rw [Go.Maps.atKey_put_same ho.isMap (kL_key _), find_ins_same L rfl]
    rfl
  · rw [Go.Maps.atKey_put_other (fun e => he (kL_inj e)), find_ins L (fun e => he e.symm)]
    exact hr p z
theorem Mp.del {w : World} {bi : Nat} {L : List It} (h : Mp w bi L) (hR : Rises L) {p : ByteArray} (hp : p.size ≤ maxLen) (ty : TypeId) :
    ∃ w', (Builtin.delete_ #[57, 9] ty #[.map (some bi), .string p]).run Tryz.prog w = .ok (.tuple #[]) w' ∧ Mp w' bi (drop L p) ∧ w.mapTurned w' bi := by
  obtain ⟨D, ho, hr, hs⟩ := h
  obtain ⟨w', hrun, ho', ht⟩ := ho.drop strK Tryz.underlying57 (keyP hp) ty
  have hsz : Go.Maps.size (D.del (kL p)) ≤ (drop L p).length := by
    have h1 := Go.Maps.size_del (ho.tidy strK) (k := kL p)
    rw [readsI_has hr] at h1
    have h2 := len_drop hR p
    omega
  refine ⟨w', hrun, ⟨_, own_len ho' hsz, fun q z => ?_, hsz⟩, ht⟩
  by_cases he : q = p
  · subst he
    rw [Go.Maps.atKey_del_same, find_drop_same]
  · rw [Go.Maps.atKey_del_other (fun e => he (kL_inj e)), find_drop L (fun e => he e.symm)]
    exact hr q z
theorem mp_made (w : World) : Mp (w.alloc (.map #[] 0)) w.heap.size [] := ⟨_, World.ownsMap_made w _ _ _, fun p z => rfl, Nat.le_refl _⟩
def roomOf (R : List Rm) (v : ByteArray) : Option Rm := R.find? (fun r => decide (r.vol = v))
def ReadsR (D : DataW Unit) (R : List Rm) : Prop := ∀ v z, D.atKey (kL v) z = match roomOf R v with
  | some r => .lit (.int .i64 r.n)
  | none => z
def Lm (w : World) (bl : Nat) (R : List Rm) : Prop := ∃ D : DataW Unit, w.ownsMap Tryz.prog 9 (plainElem Tryz.prog 3) bl R.length D ∧ ReadsR D R ∧ Go.Maps.size D ≤ R.length
theorem Lm.lt {w : World} {bl : Nat} {R : List Rm} (h : Lm w bl R) : bl < w.heap.size := by
  obtain ⟨D, h, _⟩ := h
  exact h.lt
theorem Lm.kept {w w1 : World} {bl : Nat} {R : List Rm} (h : Lm w bl R) (he : w1.heap[bl]? = w.heap[bl]?) : Lm w1 bl R := by
  obtain ⟨D, h, r⟩ := h
  exact ⟨D, ownsMap_at h he, r⟩
theorem readsR_has {D : DataW Unit} {R : List Rm} (h : ReadsR D R) (v : ByteArray) : Go.Maps.has D (kL v) = (roomOf R v).isSome := by
  cases hf : roomOf R v with
  | none =>
    refine (Go.Maps.has_false_of_atKey fun z => ?_).trans rfl
    rw [h v z, hf]
  | some x =>
    refine (Go.Maps.has_true_of_atKey (y := .lit (.int .i64 x.n)) fun z => ?_).trans rfl
    rw [h v z, hf]
def limV (R : List Rm) (v : ByteArray) : Value := match roomOf R v with
  | some r => .tuple #[.int .i64 r.n, .bool true]
  | none => .tuple #[.int .i64 0, .bool false]
theorem Lm.look {w : World} {bl : Nat} {R : List Rm} (h : Lm w bl R) {v : ByteArray} (hp : v.size ≤ maxLen) :
    (Instr.lookup 58 (.map (some bl)) (.string v) true).run Tryz.prog w = .ok (limV R v) w := by
  obtain ⟨D, ho, hr, _⟩ := h
  obtain ⟨u, ps, hrun, hv⟩ := ho.look_ok strK Tryz.underlying58 (zeroN w) (plainElem_int Tryz.underlying3 (by decide)) (keyP hp)
  rw [hrun, readsR_has hr]
  obtain ⟨c, rfl, hc, hwc⟩ := plainElem_int_inv Tryz.underlying3 hv
  have hc := congrArg Prod.fst hc
  simp only [hr v] at hc
  unfold limV
  cases hf : roomOf R v with
  | none =>
    rw [hf] at hc
    cases hc
    rfl
  | some x =>
    rw [hf] at hc
    cases hc
    rfl
theorem lm_made (w : World) : Lm (w.alloc (.map #[] 0)) w.heap.size [] := ⟨_, World.ownsMap_made w _ _ _, fun p z => rfl, Nat.le_refl _⟩
end Go.Proofs.YtjdfffkkpbabpaaGreat.Dk

namespace Go.Proofs.YtjdfffkkpbabpaaGreat.Dk
open Go.RowKit Tx Pm
set_option linter.unusedVariables false
def Ft (b bi bl : Nat) (i : Nat) : Prop := i = b ∨ i = bi ∨ i = bl
structure Ia (b bi bl : Nat) (l : Int) (w : World) (s : St) : Prop where
  blk : w.heap[b]? = some (.cells #[.map (some bi), .map (some bl), .int .i64 l, .int .i64 s.steps, .int .i64 s.stamps, .bool s.down] 60 (0, 0))
  items : Mp w bi s.L
  limits : Lm w bl s.rooms
  ne : bi ≠ bl
  left : s.down = true ∨ l = s.armed
  low : -1 ≤ l ∧ l ≤ 9223372036854775807
theorem Ia.lt {b bi bl : Nat} {l : Int} {w : World} {s : St} (h : Ia b bi bl l w s) : ∀ i, Ft b bi bl i → i < w.heap.size := by
  rintro i (rfl | rfl | rfl)
  · exact (Array.getElem?_eq_some_iff.1 h.blk).1
  · exact h.items.lt
  · exact h.limits.lt
theorem map_block {H : Type} {w : World} {P : Program} {k : TypeId} {R : Value → Option (DataW H × List MemPlace)} {b n : Nat} {D : DataW H} (h : w.ownsMap P k R b n D) {cs : Array Value} {T : TypeId} {fz : Nat × Nat} : w.heap[b]? ≠ some (.cells cs T fz) := by
  obtain ⟨es, clock, hb, _⟩ := h
  rw [hb]
  intro e
  cases e
theorem Ia.nb {b bi bl : Nat} {l : Int} {w : World} {s : St} (h : Ia b bi bl l w s) : b ≠ bi ∧ b ≠ bl := by
  obtain ⟨D, hD, _⟩ := h.items
  obtain ⟨E, hE, _⟩ := h.limits
  exact ⟨fun e => map_block hD (e ▸ h.blk), fun e => map_block hE (e ▸ h.blk)⟩
theorem Ia.kept {b bi bl : Nat} {l : Int} {w w1 : World} {s : St} (h : Ia b bi bl l w s) (hk : ∀ i, Ft b bi bl i → w1.heap[i]? = w.heap[i]?) : Ia b bi bl l w1 s :=
  ⟨(hk b (.inl rfl)).trans h.blk, h.items.kept (hk bi (.inr (.inl rfl))), h.limits.kept (hk bl (.inr (.inr rfl))), h.ne, h.left, h.low⟩
theorem Ia.below {b bi bl : Nat} {l : Int} {w w1 : World} {s : St} (h : Ia b bi bl l w s) (hb : Below w.heap.size w w1) : Ia b bi bl l w1 s := h.kept (fun i hi => hb.block i (h.lt i hi))
theorem Ia.cell {b bi bl : Nat} {l : Int} {w : World} {s : St} (h : Ia b bi bl l w s) : w.cell? ⟨b, 0, none⟩ = some (.map (some bi)) ∧ w.cell? ⟨b, 1, none⟩ = some (.map (some bl)) ∧ w.cell? ⟨b, 2, none⟩ = some (.int .i64 l) ∧
    w.cell? ⟨b, 3, none⟩ = some (.int .i64 s.steps) ∧ w.cell? ⟨b, 4, none⟩ = some (.int .i64 s.stamps) ∧ w.cell? ⟨b, 5, none⟩ = some (.bool s.down) := by
  have hb := h.blk
  refine ⟨?_, ?_, ?_, ?_, ?_, ?_⟩ <;> · unfold World.cell?; rw [hb]; rfl
theorem Ia.warm {b bi bl : Nat} {l : Int} {w : World} {s : St} (h : Ia b bi bl l w s) (k : Nat) : w.frozen? ⟨b, k, none⟩ = false := by
  unfold World.frozen?
  rw [h.blk]
  simp
theorem Ia.poke {b bi bl : Nat} {l l1 : Int} {w w1 : World} {s s1 : St} (h : Ia b bi bl l w s) (hc : Chg (· = b) w w1)
    (hb : w1.heap[b]? = some (.cells #[.map (some bi), .map (some bl), .int .i64 l1, .int .i64 s1.steps, .int .i64 s1.stamps, .bool s1.down] 60 (0, 0)))
    (hL : s1.L = s.L) (hR : s1.rooms = s.rooms) (hl : s1.down = true ∨ l1 = s1.armed) (hlo : -1 ≤ l1 ∧ l1 ≤ 9223372036854775807) : Ia b bi bl l1 w1 s1 := by
  obtain ⟨n1, n2⟩ := h.nb
  exact ⟨hb, by rw [hL]; exact h.items.kept (hc.block bi h.items.lt (fun e => n1 e.symm)), by rw [hR]; exact h.limits.kept (hc.block bl h.limits.lt (fun e => n2 e.symm)), h.ne, hl, hlo⟩
theorem Ia.turned {b bi bl : Nat} {l : Int} {w w1 : World} {s : St} {L : List It} (h : Ia b bi bl l w s) (hm : Mp w1 bi L) (ht : w.mapTurned w1 bi) : Ia b bi bl l w1 { s with L := L } := by
  obtain ⟨n1, n2⟩ := h.nb
  exact ⟨(turned_block ht n1).trans h.blk, hm, h.limits.kept (turned_block ht (fun e => h.ne e.symm)), h.ne, h.left, h.low⟩
def Ip (b bi bl : Nat) (w : World) (s : St) (w' : World) : Prop := ∃ l, Ia b bi bl l w' s ∧ Chg (Ft b bi bl) w w'
theorem ft_b {b bi bl : Nat} : ∀ i, i = b → Ft b bi bl i := fun i hi => .inl hi
theorem ft_i {b bi bl : Nat} : ∀ i, i = bi → Ft b bi bl i := fun i hi => .inr (.inl hi)
theorem Ip.after {b bi bl : Nat} {w w1 w2 : World} {s : St} (hb : Below w.heap.size w w1) (h : Ip b bi bl w1 s w2) : Ip b bi bl w s w2 := by
  obtain ⟨l, h1, h2⟩ := h
  exact ⟨l, h1, (Chg.of_below hb).then h2⟩
theorem kindK (L : List It) (p : ByteArray) {x : It} (h : find L p = some x) : kOf x = (kind L p : Nat) := by
  unfold kind kOf
  rw [h]
  unfold kindOf
  simp only
  split <;> rfl
theorem lookV_is (L : List It) (p : ByteArray) : lookV L p = .agg #[.int .i64 (kind L p : Nat), .string (old L p).data, .string (old L p).kept, .int .i64 (stOf (old L p)), .int .i64 (old L p).stamp] := by
  unfold lookV
  cases h : find L p with
  | none =>
    have h1 : kind L p = 0 := by unfold kind; rw [h]; rfl
    have h2 : old L p = mk p := by unfold old; rw [h]; rfl
    rw [h1, h2]
    rfl
  | some x =>
    have h2 : old L p = x := by unfold old; rw [h]; rfl
    rw [h2, ← kindK L p h]
    rfl
theorem Ia.look {b bi bl : Nat} {l : Int} {w : World} {s : St} (h : Ia b bi bl l w s) {p : ByteArray} (hp : p.size ≤ maxLen) : (Instr.lookup 57 (.map (some bi)) (.string p) false).run Tryz.prog w =
    .ok (.agg #[.int .i64 (kind s.L p : Nat), .string (old s.L p).data, .string (old s.L p).kept, .int .i64 (stOf (old s.L p)), .int .i64 (old s.L p).stamp]) w := by
  rw [← lookV_is]
  exact h.items.look hp
theorem maxLen_of {n : Nat} (h : n ≤ 8000000000000) : n ≤ maxLen := by unfold maxLen; omega
structure Good (s : St) : Prop where
  rises : Rises s.L
  dirs : ∀ x ∈ s.L, x.dir = true → x.data = ⟨#[]⟩ ∧ x.kept = ⟨#[]⟩ ∧ x.loose = false ∧ x.anew = false ∧ x.stamp = 0
  calm : ∀ x ∈ s.L, x.loose = false → x.anew = false
  vols : s.rooms.Pairwise (fun r r' => r.vol ≠ r'.vol)
theorem good_new : Good newS := ⟨List.Pairwise.nil, (fun x hx => by cases hx), (fun x hx => by cases hx), List.Pairwise.nil⟩
theorem good_of {s s' : St} (h : Good s) (hL : s'.L = s.L) (hR : s'.rooms = s.rooms) : Good s' := ⟨by rw [hL]; exact h.rises, by rw [hL]; exact h.dirs, by rw [hL]; exact h.calm, by rw [hR]; exact h.vols⟩
theorem good_done {s : St} (h : Good s) : Good (done s).2 := good_of h (done_L s) (done_rooms s)
theorem good_ins {s s' : St} {l : List It} {x : It} (h : Good s) (hl : Rises l ∧ ∀ y ∈ l, y ∈ s.L) (hL : s'.L = ins l x) (hd : x.dir = true → x.data = ⟨#[]⟩ ∧ x.kept = ⟨#[]⟩ ∧ x.loose = false ∧ x.anew = false ∧ x.stamp = 0)
    (hc : x.loose = false → x.anew = false) (hR : s'.rooms = s.rooms) : Good s' := by
  have hm : ∀ y ∈ s'.L, y = x ∨ y ∈ s.L := fun y hy => by
    rw [hL] at hy
    exact (mem_ins hy).imp id (fun hh => hl.2 y hh)
  refine ⟨by rw [hL]; exact rises_ins hl.1, fun y hy => ?_, fun y hy => ?_, by rw [hR]; exact h.vols⟩
  · rcases hm y hy with rfl | hy
    · exact hd
    · exact h.dirs y hy
  · rcases hm y hy with rfl | hy
    · exact hc
    · exact h.calm y hy
theorem old_file {s : St} {p : ByteArray} (h : there s p = 0) : (old s.L p).dir = false ∧ (old s.L p) ∈ s.L ∧ (old s.L p).path = p := by
  obtain ⟨k, x, _, hk, hf, _, hp, hd⟩ := there_file h
  have e : old s.L p = x := by rw [old, hf]; rfl
  rw [e]
  exact ⟨hd, List.mem_of_getElem? hk, hp⟩
theorem old_dir {l : List It} {p : ByteArray} (h : kind l p ≠ 1) : (old l p).dir = false := by
  unfold kind at h
  unfold old
  cases hf : find l p with
  | none => rfl
  | some x =>
    rw [hf] at h
    unfold kindOf at h
    cases hd : x.dir with
    | false => exact hd
    | true => simp [hd] at h
theorem good_mkdir {s : St} {p : ByteArray} (h : Good s) : Good (mkdirS s p).2 := by
  unfold mkdirS
  repeat' split
  all_goals first
    | exact h
    | exact good_done h
    | exact good_ins (good_done h) ⟨(good_done h).rises, fun _ hy => hy⟩ rfl (fun _ => ⟨rfl, rfl, rfl, rfl, rfl⟩) (fun _ => rfl) rfl
theorem good_put {s : St} {l : List It} {x : It} (h : Good s) (hl : Rises l ∧ ∀ y ∈ l, y ∈ s.L) (hd : x.dir = false) (hc : x.loose = false → x.anew = false) : Good (putS { s with L := l } x) :=
  good_ins h hl (x := stamped { s with L := l } x) rfl (fun e => by have e : x.dir = true := e; rw [hd] at e; cases e) hc rfl
theorem good_write {s : St} {p d : ByteArray} (h : Good s) : Good (writeS s p d).2 := by
  unfold writeS
  split
  · exact h
  split
  · exact h
  split
  · exact h
  split
  · exact h
  split
  · exact good_done h
  · rename_i h3 _ _
    exact good_put (l := (done s).2.L) (good_done h) ⟨(good_done h).rises, fun _ hy => hy⟩ (old_dir h3) (fun e => by cases e)
theorem calm_old {s : St} (h : Good s) (p : ByteArray) : (old s.L p).loose = false → (old s.L p).anew = false := by
  rcases old_cases s.L p with e | ⟨hm, _⟩
  · rw [e]; exact fun _ => rfl
  · exact h.calm _ hm
theorem there_dir {s : St} {p : ByteArray} (h : ¬ there s p ≠ 0) : (old s.L p).dir = false := (old_file (by omega)).1
theorem good_append {s : St} {p d : ByteArray} (h : Good s) : Good (appendS s p d).2 := by
  unfold appendS
  split
  · exact h
  split
  · exact h
  split
  · exact good_done h
  · rename_i h1 _ _
    exact good_put (l := (done s).2.L) (good_done h) ⟨(good_done h).rises, fun _ hy => hy⟩ (there_dir h1) (fun e => by cases e)
theorem good_sync {s : St} {p : ByteArray} (h : Good s) : Good (syncS s p).2 := by
  unfold syncS
  split
  · exact h
  split
  · exact good_done h
  · rename_i h1 _
    exact good_ins (good_done h) ⟨(good_done h).rises, fun _ hy => hy⟩ rfl (fun e => by have := there_dir h1; rw [show (old s.L p).dir = true from e] at this; cases this) (fun _ => rfl) rfl
theorem good_rename {s : St} {f t : ByteArray} (h : Good s) : Good (renameS s f t).2 := by
  unfold renameS
  split
  · exact h
  split
  · exact h
  split
  · exact h
  split
  · exact h
  split
  · exact h
  split
  · exact good_done h
  · rename_i h4 _ _
    have h1 : kind s.L f ≠ 1 := fun e => h4 (.inl e)
    obtain ⟨d1, _⟩ := drop_in (done s).2.L f
    exact good_put (l := drop (done s).2.L f) (good_done h) ⟨rises_drop f (good_done h).rises, d1⟩ (old_dir h1) (calm_old h f)
theorem restartL_good (loss : Nat) : ∀ (l : List It) (n st : Nat), (∀ x ∈ l, x.dir = true → x.data = ⟨#[]⟩ ∧ x.kept = ⟨#[]⟩ ∧ x.loose = false ∧ x.anew = false ∧ x.stamp = 0) → (∀ x ∈ l, x.loose = false → x.anew = false) →
    (restartL loss l n st).1.map (·.path) = l.map (·.path) ∧ ∀ x ∈ (restartL loss l n st).1, (x.dir = true → x.data = ⟨#[]⟩ ∧ x.kept = ⟨#[]⟩ ∧ x.loose = false ∧ x.anew = false ∧ x.stamp = 0) ∧ (x.loose = false → x.anew = false)
  | [], n, st, _, _ => ⟨rfl, fun x hx => by cases hx⟩
  | y :: l, n, st, h1, h2 => by
    have a1 := fun x hx => h1 x (List.mem_cons_of_mem y hx)
    have a2 := fun x hx => h2 x (List.mem_cons_of_mem y hx)
    rw [restartL]
    split
    · rename_i hl
      obtain ⟨i1, i2⟩ := restartL_good loss l (n + 1) (st + 1) a1 a2
      refine ⟨congrArg (y.path :: ·) i1, fun x hx => ?_⟩
      rcases List.mem_cons.1 hx with rfl | hx
      · refine ⟨fun hd => ?_, fun _ => rfl⟩
        have := (h1 y List.mem_cons_self hd).2.2.1
        rw [hl] at this
        cases this
      · exact i2 x hx
    · obtain ⟨i1, i2⟩ := restartL_good loss l n st a1 a2
      refine ⟨congrArg (y.path :: ·) i1, fun x hx => ?_⟩
      rcases List.mem_cons.1 hx with rfl | hx
      · exact ⟨h1 x List.mem_cons_self, h2 x List.mem_cons_self⟩
      · exact i2 x hx
theorem good_restart {s : St} {loss : Int} (h : Good s) : Good (restartS s loss) := by
  obtain ⟨h1, h2⟩ := restartL_good (u64 loss) s.L 0 s.stamps h.dirs h.calm
  exact ⟨rises_paths h1.symm h.rises, fun x hx => (h2 x hx).1, fun x hx => (h2 x hx).2, h.vols⟩
def ImpAt (b : Nat) (w : World) (F : Nat → Prop) (s : St) : Prop := ∃ bi bl l, Ia b bi bl l w s ∧ Good s ∧ ∀ i, F i ↔ Ft b bi bl i
theorem imp_kind (b : Nat) : Kind (ImpAt b) where
  lt := fun ⟨bi, bl, l, h, _, hF⟩ i hi => h.lt i ((hF i).1 hi)
  kept := fun ⟨bi, bl, l, h, hg, hF⟩ hk => ⟨bi, bl, l, h.kept (fun i hi => hk i ((hF i).2 hi)), hg, hF⟩
theorem Ip.left {b bi bl : Nat} {w w' : World} {F : Nat → Prop} {s : St} (h : Ip b bi bl w s w') (hg : Good s) (hF : ∀ i, F i ↔ Ft b bi bl i) : Left (ImpAt b) w F s w' := by
  obtain ⟨l, h1, h2⟩ := h
  exact ⟨F, ⟨bi, bl, l, h1, hg, hF⟩, h2.mono (fun i hi => (hF i).2 hi), fun g hg => .inl hg⟩
end Go.Proofs.YtjdfffkkpbabpaaGreat.Dk

namespace Go.Proofs.YtjdfffkkpbabpaaGreat.Fr
open Go.RowKit Wm Wr Fm
set_option linter.unusedVariables false
theorem info9 : (Tryz.prog.info? 9).map (fun i => (i.zero, i.size, i.bytes)) = some (some (.string ⟨#[]⟩), 1, 16) := by kernel_rfl
def sv (s : ByteArray) : Value := .string s
theorem sv_one (l : List ByteArray) : ∀ u ∈ l.map sv, u.oneCell' = true := by
  intro u hu
  obtain ⟨s, _, rfl⟩ := List.mem_map.1 hu
  rfl
def Texts (w : World) (B : Nat) (v : Value) (l : List ByteArray) : Prop := w.ownsRow B 9 1 v l.length (l.map sv)
theorem Texts.below {w w1 : World} {B : Nat} {v : Value} {l : List ByteArray} (h : Texts w B v l) (hb : Below w.heap.size w w1) : Texts w1 B v l := by
  refine ⟨h.1, ?_⟩
  rcases h.2 with h0 | ⟨g', cap', cur, hv, hg, hh, r⟩
  · exact .inl h0
  · exact .inr ⟨g', cap', cur, hv, hg, (hb.block g' (Array.getElem?_eq_some_iff.1 hh).1).trans hh, r⟩
def ScanTo (s : ByteArray) (w : World) (e : Ending) (w' : World) : Prop := ∃ v, e = .returned (.tuple #[v, .int .i64 ((sc s 0).2.1 : Int), .int .i64 ((sc s 0).2.2 : Int)]) ∧ Texts w' w.heap.size v (sc s 0).1 ∧ Below w.heap.size w w'
def Far (s : ByteArray) (pre : List ByteArray) (a : Nat) : Prop := sc s 0 = (pre ++ (sc s a).1, (sc s a).2.1, (sc s a).2.2) ∧ a ≤ s.size ∧ pre.length ≤ a
theorem far_start (s : ByteArray) : Far s [] 0 := ⟨rfl, Nat.zero_le _, Nat.le_refl _⟩
theorem far_step {s t : ByteArray} {pre : List ByteArray} {a n : Nat} (h : Far s pre a) (ha : a < s.size) (h2 : fr (s.extract a s.size) = (t, n, 0)) : Far s (pre ++ [t]) (a + n) := by
  obtain ⟨h1, h3, h4⟩ := h
  have hk := fr_ok h2
  have hs : (s.extract a s.size).size = s.size - a := by simp
  refine ⟨?_, by omega, by rw [List.length_append]; show _ + 1 ≤ _; omega⟩
  rw [h1, sc_one ha h2]
  simp
theorem far_bad {s t : ByteArray} {pre : List ByteArray} {a n e : Nat} (h : Far s pre a) (ha : a < s.size) (h2 : fr (s.extract a s.size) = (t, n, e)) (he : e ≠ 0) : sc s 0 = (pre, a, e) := by
  rw [h.1, sc_bad ha h2 he, List.append_nil]
theorem far_end {s : ByteArray} {pre : List ByteArray} {a : Nat} (h : Far s pre a) (ha : ¬ a < s.size) : sc s 0 = (pre, a, 0) := by
  rw [h.1, sc_end ha, List.append_nil]
set_option maxRecDepth 100000 in
set_option maxHeartbeats 1000000 in
theorem refScan_any (s : ByteArray) (w : World) (hs : s.size ≤ 8796093022207) :
    Calls Tryz.prog 83 #[.string s] w (ScanTo s w) := by
  obtain ⟨i0, hi, hz0, hz1, hz2⟩ := info_parts info9
  go_enter Tryz.func83, Tryz.ntmps83
  go_wp2_with fail
  go_loopw [5, 6] (fun v i wr => ∃ (pre : List ByteArray) (a : Nat), i = .int .i64 a ∧ Far s pre a ∧ Texts wr w.heap.size v pre ∧ Below w.heap.size w wr) (fun _ i _ => s.size - (intOf i).toNat)
  case atStart => exact ⟨[], 0, rfl, far_start s, World.ownsRow_nil _ _ _ _, Below.refl _ _⟩
  case round =>
    obtain ⟨pre, a, rfl, hfar, htx, hb⟩ := hrel
    have ha := hfar.2.1
    have hp := hfar.2.2
    have hsz := hb.size
    by_cases hlt : a < s.size
    · obtain ⟨t, n, e, h2⟩ := trip (fr (s.extract a s.size))
      have c := refRead_any (s.extract a s.size) wr (by simp; omega)
      rw [h2] at c
      simp only at c
      have ha' : (a : Int) ≤ s.size := by omega
      by_cases he : e = 0
      · subst he
        have hfar' := far_step hfar hlt h2
        have hn := (fr_ok h2).2.1
        have ha2 := hfar'.2.1
        have HF := Lib.hid hfar'
        clear hfar hfar' h2
        go_wp2_with fail
        go_at_call 33
        refine c.mono ?_
        rintro e w1 ⟨rfl, hb1⟩
        have htx1 := htx.below hb1
        have hb2 := below_call hb hb1
        have hsz2 := hb2.size
        have hown := htx1
        unfold Texts at hown
        clear htx htx1 hb1 hb c
        go_wp2_with (at_builtin; refine wpList_append_own _ rfl _ _ 84 rfl w.heap.size 9 i0 (.string ⟨#[]⟩) 1 16 Tryz.underlying84 hi hz0 hz1 hz2 rfl (by decide) _ _ _ rfl (hown.alloc _) ⟨w1.heap.size, 0, none⟩ 1 1 [sv t] rfl rfl ?c1 ?c2 ?c3 ?c4 ?c5 ?_)
        case c1 => exact cell_one_new _ _ _
        case c2 => exact sv_one [t]
        case c3 => unfold maxLen; omega
        case c4 => omega
        case c5 => simp; omega
        intro v' w2 hown' hgrow _
        have hb3 := below_step hb2 hown hgrow
        have htx2 : Texts w2 w.heap.size v' (pre ++ [t]) := by
          unfold Texts
          rw [List.length_append, List.map_append]
          exact hown'
        clear hown hown' hgrow hb2
        go_wp2_with fail
        go_roundw
        case rel => exact ⟨pre ++ [t], a + n, by go_num, HF.out, htx2, hb3⟩
        case measure => simp only [intOf]; omega
      · have hend := far_bad hfar hlt h2 he
        have hne : ((e : Int) == 0) = false := by simp; omega
        have hne' : (!((e : Int) == 0)) = true := by simp; omega
        have HE := Lib.hid hend
        clear hfar h2 hend he
        go_wp2_with fail
        go_at_call 33
        refine c.mono ?_
        rintro e w1 ⟨rfl, hb1⟩
        have htx1 := htx.below hb1
        have hb2 := below_call hb hb1
        clear htx hb hb1 c
        go_wp2_with fail
        go_ret3
        unfold ScanTo
        rw [HE.out]
        exact ⟨_, rfl, htx1, hb2⟩
    · have hend := far_end hfar hlt
      have HE := Lib.hid hend
      clear hfar hend
      go_wp2_with fail
      go_ret3
      unfold ScanTo
      rw [HE.out]
      exact ⟨_, rfl, htx, hb⟩
end Go.Proofs.YtjdfffkkpbabpaaGreat.Fr

namespace Go.Proofs.YtjdfffkkpbabpaaGreat.Fr
open Go.RowKit Wm Wr Fm
set_option linter.unusedVariables false
def Strs (w : World) (a : Option Addr) (n : Nat) (l : List ByteArray) : Prop := l.length = n ∧ (n = 0 ∨ ∃ b off, a = some ⟨b, off, none⟩ ∧ b < w.heap.size ∧ ∀ k x, l[k]? = some x → w.cell? ⟨b, off + k, none⟩ = some (.string x))
theorem Strs.take {w : World} {a : Option Addr} {n m : Nat} {l : List ByteArray} (h : Strs w a n l) (hm : m ≤ n) : Strs w a m (l.take m) := by
  refine ⟨by rw [List.length_take, h.1]; omega, ?_⟩
  rcases h.2 with h0 | ⟨b, off, ha, hlt, hc⟩
  · exact .inl (by omega)
  · refine .inr ⟨b, off, ha, hlt, fun k x hx => hc k x ?_⟩
    rw [List.getElem?_take] at hx
    split at hx
    · exact hx
    · cases hx
theorem Texts.form {w : World} {B : Nat} {v : Value} {l : List ByteArray} (h : Texts w B v l) : ∃ a c, v = .slice a l.length c ∧ Strs w a l.length l ∧ l.length ≤ c ∧ c ≤ maxLen := by
  have hh := h
  rcases h.2 with ⟨rfl, h0⟩ | ⟨g, cap, cur, rfl, hg, hh2, hn, hc, _⟩
  · exact ⟨none, 0, by rw [h0], ⟨rfl, .inl h0⟩, by omega, Nat.zero_le _⟩
  · refine ⟨some ⟨g, 0, none⟩, cap, rfl, ⟨rfl, .inr ⟨g, 0, rfl, (Array.getElem?_eq_some_iff.1 hh2).1, fun k x hx => ?_⟩⟩, hn, hc⟩
    have := hh.cells (g := g) rfl k (sv x) (by rw [List.getElem?_map, hx]; rfl)
    rw [← WideShapes.add_plain]
    exact this
end Go.Proofs.YtjdfffkkpbabpaaGreat.Fr

namespace Go.Proofs.YtjdfffkkpbabpaaGreat.Wl
open Go.RowKit Tx Pm Dk Fr
set_option linter.unusedVariables false
def tT : ByteArray := ⟨#[95, 116]⟩
structure Jst where
  s : St
  R : List ByteArray
  dm : Bool
def fillS (s : St) (p d : ByteArray) : Nat × St :=
  if (writeS s (p ++ tT) d).1 ≠ 0 then writeS s (p ++ tT) d else
  if (syncS (writeS s (p ++ tT) d).2 (p ++ tT)).1 ≠ 0 then syncS (writeS s (p ++ tT) d).2 (p ++ tT) else
  renameS (syncS (writeS s (p ++ tT) d).2 (p ++ tT)).2 (p ++ tT) p
def addS (x : Jst) (p r : ByteArray) : Nat × Jst :=
  if (appendS x.s p (Fm.pk r)).1 ≠ 0 then ((appendS x.s p (Fm.pk r)).1, ⟨(appendS x.s p (Fm.pk r)).2, x.R, x.dm⟩) else
  if (syncS (appendS x.s p (Fm.pk r)).2 p).1 ≠ 0 then ((syncS (appendS x.s p (Fm.pk r)).2 p).1, ⟨(syncS (appendS x.s p (Fm.pk r)).2 p).2, x.R, x.dm⟩) else
  (0, ⟨(syncS (appendS x.s p (Fm.pk r)).2 p).2, x.R ++ [r], x.dm⟩)
def resetS (x : Jst) (p : ByteArray) : Nat × Jst :=
  if (fillS x.s p ⟨#[]⟩).1 ≠ 0 then ((fillS x.s p ⟨#[]⟩).1, ⟨(fillS x.s p ⟨#[]⟩).2, x.R, x.dm⟩) else (0, ⟨(fillS x.s p ⟨#[]⟩).2, [], x.dm⟩)
def bad (e : Nat) : Bool := decide (e = 6) || decide (e = 3)
def openS (s : St) (p : ByteArray) : Nat × Jst :=
  if kind s.L p = 0 then ((fillS s p ⟨#[]⟩).1, ⟨(fillS s p ⟨#[]⟩).2, [], false⟩) else
  if (readS s p).2 ≠ 0 then ((readS s p).2, ⟨s, [], false⟩) else
  if (Fm.sc (readS s p).1 0).2.2 = 0 then (0, ⟨s, (Fm.sc (readS s p).1 0).1, bad (Fm.sc (readS s p).1 0).2.2⟩) else
  ((fillS s p ((readS s p).1.extract 0 (Fm.sc (readS s p).1 0).2.1)).1, ⟨(fillS s p ((readS s p).1.extract 0 (Fm.sc (readS s p).1 0).2.1)).2, (Fm.sc (readS s p).1 0).1, bad (Fm.sc (readS s p).1 0).2.2⟩)
def LeftA {α : Type} (Obj : World → (Nat → Prop) → α → Prop) (w : World) (F : Nat → Prop) (x : α) (w' : World) : Prop := ∃ F', Obj w' F' x ∧ Chg F w w' ∧ ∀ g, F' g → F g ∨ w.heap.size ≤ g
structure JAt (O : World → (Nat → Prop) → St → Prop) (T : TypeId) (b j : Nat) (p : ByteArray) (v : Value) (Fd : Nat → Prop) (w : World) (F : Nat → Prop) (x : Jst) : Prop where
  dsk : O w Fd x.s
  blk : w.heap[j]? = some (.cells #[.pointer (some ⟨b, 0, none⟩), .string p, v, .bool x.dm] T (0, 0))
  row : Fr.Texts w 0 v x.R
  ne : v.ownBlock ≠ some j
  off : ∀ i, Fd i → i ≠ j ∧ v.ownBlock ≠ some i
  foot : ∀ i, F i ↔ Fd i ∨ i = j ∨ v.ownBlock = some i
def Jn (O : World → (Nat → Prop) → St → Prop) (T : TypeId) (b j : Nat) (p : ByteArray) (w : World) (F : Nat → Prop) (x : Jst) : Prop := ∃ v Fd, JAt O T b j p v Fd w F x
theorem JAt.lt {O : World → (Nat → Prop) → St → Prop} (k : Dk.Kind O) {T : TypeId} {b j : Nat} {p : ByteArray} {v : Value} {Fd : Nat → Prop} {w : World} {F : Nat → Prop} {x : Jst} (h : JAt O T b j p v Fd w F x) : ∀ i, F i → i < w.heap.size := fun i hi => by
  rcases (h.foot i).1 hi with h1 | rfl | h1
  · exact k.lt h.dsk i h1
  · exact (Array.getElem?_eq_some_iff.1 h.blk).1
  · exact (h.row.lt i h1).2
theorem JAt.kept {O : World → (Nat → Prop) → St → Prop} (k : Dk.Kind O) {T : TypeId} {b j : Nat} {p : ByteArray} {v : Value} {Fd : Nat → Prop} {w w1 : World} {F : Nat → Prop} {x : Jst} (h : JAt O T b j p v Fd w F x) (hk : ∀ i, F i → w1.heap[i]? = w.heap[i]?) : JAt O T b j p v Fd w1 F x :=
  ⟨k.kept h.dsk (fun i hi => hk i ((h.foot i).2 (.inl hi))), (hk j ((h.foot j).2 (.inr (.inl rfl)))).trans h.blk, own_kept h.row (fun g hg => hk g ((h.foot g).2 (.inr (.inr hg)))), h.ne, h.off, h.foot⟩
theorem JAt.below {O : World → (Nat → Prop) → St → Prop} (k : Dk.Kind O) {T : TypeId} {b j : Nat} {p : ByteArray} {v : Value} {Fd : Nat → Prop} {w w1 : World} {F : Nat → Prop} {x : Jst} (h : JAt O T b j p v Fd w F x) (hb : Below w.heap.size w w1) : JAt O T b j p v Fd w1 F x := h.kept k (fun i hi => hb.block i (h.lt k i hi))
theorem JAt.cell {O : World → (Nat → Prop) → St → Prop} {T : TypeId} {b j : Nat} {p : ByteArray} {v : Value} {Fd : Nat → Prop} {w : World} {F : Nat → Prop} {x : Jst} (h : JAt O T b j p v Fd w F x) :
    w.cell? ⟨j, 0, none⟩ = some (.pointer (some ⟨b, 0, none⟩)) ∧ w.cell? ⟨j, 1, none⟩ = some (.string p) ∧ w.cell? ⟨j, 2, none⟩ = some v ∧ w.cell? ⟨j, 3, none⟩ = some (.bool x.dm) := by
  have hb := h.blk
  refine ⟨?_, ?_, ?_, ?_⟩ <;> · unfold World.cell?; rw [hb]; rfl
theorem JAt.warm {O : World → (Nat → Prop) → St → Prop} {T : TypeId} {b j : Nat} {p : ByteArray} {v : Value} {Fd : Nat → Prop} {w : World} {F : Nat → Prop} {x : Jst} (h : JAt O T b j p v Fd w F x) (q : Nat) : w.frozen? ⟨j, q, none⟩ = false := by
  unfold World.frozen?
  rw [h.blk]
  simp
theorem JAt.disk_left {O : World → (Nat → Prop) → St → Prop} (k : Dk.Kind O) {T : TypeId} {b j : Nat} {p : ByteArray} {v : Value} {Fd : Nat → Prop} {w w1 : World} {F : Nat → Prop} {x : Jst} {s' : St} (h : JAt O T b j p v Fd w F x) (hl : Dk.Left O w Fd s' w1) :
    ∃ Fd' F', JAt O T b j p v Fd' w1 F' ⟨s', x.R, x.dm⟩ ∧ Chg F w w1 ∧ ∀ g, F' g → F g ∨ w.heap.size ≤ g := by
  obtain ⟨Fd', h1, h2, h3⟩ := hl
  have hj : j < w.heap.size := (Array.getElem?_eq_some_iff.1 h.blk).1
  have hvl := h.row.lt
  refine ⟨Fd', fun i => Fd' i ∨ i = j ∨ v.ownBlock = some i, ⟨h1, (h2.block j hj (fun hh => (h.off j hh).1 rfl)).trans h.blk, own_kept h.row (fun g hg => h2.block g (hvl g hg).2 (fun hh => (h.off g hh).2 hg)), h.ne, fun i hi => ?_, fun i => Iff.rfl⟩, h2.mono (fun i hi => (h.foot i).2 (.inl hi)), fun g hg => ?_⟩
  · rcases h3 i hi with hh | hh
    · exact h.off i hh
    · exact ⟨by omega, fun e => by have := (hvl i e).2; omega⟩
  · rcases hg with hg | hg
    · exact (h3 g hg).imp (fun hh => (h.foot g).2 (.inl hh)) id
    · exact .inl ((h.foot g).2 (.inr hg))
theorem jn_kind {O : World → (Nat → Prop) → St → Prop} (k : Dk.Kind O) (T : TypeId) (b j : Nat) (p : ByteArray) : (∀ {w F x}, Jn O T b j p w F x → ∀ i, F i → i < w.heap.size) ∧ (∀ {w w1 F x}, Jn O T b j p w F x → (∀ i, F i → w1.heap[i]? = w.heap[i]?) → Jn O T b j p w1 F x) :=
  ⟨fun ⟨v, Fd, h⟩ => h.lt k, fun ⟨v, Fd, h⟩ hk => ⟨v, Fd, h.kept k hk⟩⟩
theorem LeftA.trans {α : Type} {Obj : World → (Nat → Prop) → α → Prop} {w w1 w2 : World} {F F1 : Nat → Prop} {y : α} (hc : Chg F w w1) (hn : ∀ g, F1 g → F g ∨ w.heap.size ≤ g) (h : LeftA Obj w1 F1 y w2) : LeftA Obj w F y w2 := by
  obtain ⟨F2, h1, h2, h3⟩ := h
  have hs := hc.size
  exact ⟨F2, h1, hc.trans h2 hn, fun g hg => (h3 g hg).elim (fun hh => hn g hh) (fun hh => .inr (by omega))⟩
theorem left_trans {O : World → (Nat → Prop) → St → Prop} {w w1 w2 : World} {F F1 : Nat → Prop} {s : St} (hc : Chg F w w1) (hn : ∀ g, F1 g → F g ∨ w.heap.size ≤ g) (h : Dk.Left O w1 F1 s w2) : Dk.Left O w F s w2 := by
  obtain ⟨F2, h1, h2, h3⟩ := h
  have hs := hc.size
  exact ⟨F2, h1, hc.trans h2 hn, fun g hg => (h3 g hg).elim (fun hh => hn g hh) (fun hh => .inr (by omega))⟩
def Mid (O : World → (Nat → Prop) → St → Prop) (T : TypeId) (b j : Nat) (p : ByteArray) (v : Value) (w : World) (F : Nat → Prop) (x : Jst) (W : World) : Prop := ∃ Fd' F', JAt O T b j p v Fd' W F' x ∧ Chg F w W ∧ ∀ g, F' g → F g ∨ w.heap.size ≤ g
theorem Mid.left {O : World → (Nat → Prop) → St → Prop} {T : TypeId} {b j : Nat} {p : ByteArray} {v : Value} {w W : World} {F : Nat → Prop} {x : Jst} (h : Mid O T b j p v w F x W) : LeftA (Jn O T b j p) w F x W := by
  obtain ⟨Fd, F', q, h1, h2⟩ := h
  exact ⟨F', ⟨v, Fd, q⟩, h1, h2⟩
theorem Mid.of {O : World → (Nat → Prop) → St → Prop} (k : Dk.Kind O) {T : TypeId} {b j : Nat} {p : ByteArray} {v : Value} {w W : World} {F Fd : Nat → Prop} {x : Jst} (h : JAt O T b j p v Fd w F x) (hb : Below w.heap.size w W) : Mid O T b j p v w F x W := ⟨Fd, F, h.below k hb, Chg.of_below hb, fun g hg => .inl hg⟩
theorem Mid.trans {O : World → (Nat → Prop) → St → Prop} {T : TypeId} {b j : Nat} {p : ByteArray} {v : Value} {w W W2 : World} {F F1 : Nat → Prop} {x : Jst} (hc : Chg F w W) (hn : ∀ g, F1 g → F g ∨ w.heap.size ≤ g) (h : Mid O T b j p v W F1 x W2) : Mid O T b j p v w F x W2 := by
  obtain ⟨Fd, F2, q, h1, h2⟩ := h
  have hs := hc.size
  exact ⟨Fd, F2, q, hc.trans h1 hn, fun g hg => (h2 g hg).elim (fun hh => hn g hh) (fun hh => .inr (by omega))⟩
theorem Mid.below {O : World → (Nat → Prop) → St → Prop} (k : Dk.Kind O) {T : TypeId} {b j : Nat} {p : ByteArray} {v : Value} {w W W2 : World} {F : Nat → Prop} {x : Jst} (h : Mid O T b j p v w F x W) (hb : Below W.heap.size W W2) : Mid O T b j p v w F x W2 := by
  obtain ⟨Fd, F', q, h1, h2⟩ := h
  exact Mid.trans h1 h2 (Mid.of k q hb)
theorem JAt.poke {O : World → (Nat → Prop) → St → Prop} (k : Dk.Kind O) {T : TypeId} {b j : Nat} {p : ByteArray} {v v' : Value} {Fd : Nat → Prop} {w w1 : World} {F : Nat → Prop} {x : Jst} {R : List ByteArray} {dm : Bool} (h : JAt O T b j p v Fd w F x) (hc : Chg (fun i => i = j ∨ v.ownBlock = some i) w w1)
    (hb : w1.heap[j]? = some (.cells #[.pointer (some ⟨b, 0, none⟩), .string p, v', .bool dm] T (0, 0))) (hr : Fr.Texts w1 0 v' R) (hv : ∀ i, v'.ownBlock = some i → v.ownBlock = some i ∨ w.heap.size ≤ i) :
    Mid O T b j p v' w F ⟨x.s, R, dm⟩ w1 := by
  have hvl := h.row.lt
  refine ⟨Fd, fun i => Fd i ∨ i = j ∨ v'.ownBlock = some i, ⟨k.kept h.dsk (fun i hi => hc.block i (k.lt h.dsk i hi) (fun hh => by rcases hh with hh | hh; exact (h.off i hi).1 hh; exact (h.off i hi).2 hh)), hb, hr, fun e => by rcases hv j e with hh | hh; exact h.ne hh; have := (Array.getElem?_eq_some_iff.1 h.blk).1; omega, fun i hi => ⟨(h.off i hi).1, fun e => ?_⟩, fun i => Iff.rfl⟩, hc.mono (fun i hi => (h.foot i).2 (.inr hi)), fun g hg => ?_⟩
  · rcases hv i e with hh | hh
    · exact (h.off i hi).2 hh
    · have := k.lt h.dsk i hi; omega
  · rcases hg with hg | hg | hg
    · exact .inl ((h.foot g).2 (.inl hg))
    · exact .inl ((h.foot g).2 (.inr (.inl hg)))
    · exact (hv g hg).imp (fun hh => (h.foot g).2 (.inr (.inr hh))) id
end Go.Proofs.YtjdfffkkpbabpaaGreat.Wl

namespace Go.Proofs.YtjdfffkkpbabpaaGreat.Fr
open Go.RowKit Wm Wr Fm
set_option linter.unusedVariables false
theorem cstep_both (D Y : Nat) : cstep (D ^^^ Y) 0 = cstep D (Y % 2) ^^^ (Y / 2) := by
  have h1 : (D ^^^ Y) / 2 = D / 2 ^^^ Y / 2 := Nat.xor_div_two
  have h2 : (D ^^^ Y) % 2 = (D + Y) % 2 := by
    have h := @Nat.xor_mod_two_eq_one D Y
    omega
  unfold cstep
  rw [h1, h2]
  by_cases h : D % 2 = Y % 2
  · rw [if_pos h, if_pos (by omega)]
  · rw [if_neg h, if_neg (by omega), Nat.xor_assoc, Nat.xor_comm (Y / 2), ← Nat.xor_assoc]
theorem cbits_both : ∀ (k c x : Nat), cbits k (c ^^^ x) 0 = cbits k c x ^^^ (x / 2 ^ k)
  | 0, c, x => by simp [cbits]
  | k + 1, c, x => by
    rw [cbits, cbits]
    show cbits k (cstep (c ^^^ x) 0) 0 = _
    rw [cstep_both, cbits_both k (cstep c (x % 2)) (x / 2), Nat.div_div_eq_div_mul, Nat.pow_succ, Nat.mul_comm 2]
theorem cbits_byte (c x : Nat) (h : x < 256) : cbits 8 (c ^^^ x) 0 = cbits 8 c x := by
  rw [cbits_both, Nat.div_eq_of_lt (by omega), Nat.xor_zero]
theorem cbits_snoc0 : ∀ (k c : Nat), cbits (k + 1) c 0 = cstep (cbits k c 0) 0
  | 0, c => by simp [cbits]
  | k + 1, c => by
    rw [cbits, Nat.zero_div, cbits_snoc0 k, cbits, Nat.zero_div]
theorem and32 (x : Nat) (h : x < 4294967296) : bits .and .u32 (x : Int) 1 = ((x % 2 : Nat) : Int) := by
  have := u32_and_nat x 1 h (by omega)
  rw [nat_mask1] at this
  exact this
theorem not32 (y : Nat) (h : y < 4294967296) : bits .xor .u32 IntKind.u32.max (y : Int) = ((4294967295 - y : Nat) : Int) := by
  have e : BitVec.ofInt 32 IntKind.u32.max = BitVec.allOnes 32 := by decide
  have h2 : (BitVec.allOnes 32 ^^^ BitVec.ofInt 32 (y : Int)).toNat = 4294967295 - y := by
    rw [BitVec.allOnes_xor, BitVec.toNat_not, ofInt_u32 y h]
  rw [← e] at h2
  show IntKind.u32.wrap ((BitVec.ofInt 32 IntKind.u32.max ^^^ BitVec.ofInt 32 (y : Int)).toNat : Int) = _
  rw [h2, IntKind.wrap_u32']
  omega
set_option maxRecDepth 100000 in
set_option maxHeartbeats 1000000 in
theorem fSum_same (s : ByteArray) (w : World) (hs : s.size ≤ maxLen) :
    Calls Tryz.prog 126 #[.string s] w fun e w' => e = .returned (.int .u32 (fsum s.data.toList : Nat)) ∧ w = w' := by
  unfold maxLen at hs
  go_enter Tryz.func126, Tryz.ntmps126
  go_wp2
  go_loop [3, 8] (fun c i => ∃ (k C : Nat), k ≤ s.size ∧ i = .int .i64 k ∧ Hid (C = csum 4294967295 (s.data.toList.take k)) ∧ C < 4294967296 ∧ c = .int .u32 (C : Nat)) (fun _ i => s.size - (intOf i).toNat)
  case atStart => exact ⟨0, 4294967295, Nat.zero_le _, rfl, rfl, by decide, rfl⟩
  case round =>
    obtain ⟨k, C, hk, rfl, hC, hlt, rfl⟩ := hrel
    by_cases hks : k < s.size
    · have hb := s[k].toNat_lt
      have hnext := csum_take s k hks
      rw [← hC.out] at hnext
      have hxor := u32_xor_nat C s[k].toNat hlt (by omega)
      have hl := xor_lt (a := C) (b := s[k].toNat) hlt (by omega)
      go_wp2
      obtain ⟨X, hX⟩ : ∃ X, X = s[k].toNat := ⟨_, rfl⟩
      rw [← hX] at hb hnext hl hxor ⊢
      rw [← cbits_byte C X hb] at hnext
      obtain ⟨Z, hZ⟩ : ∃ Z, Z = C ^^^ X := ⟨_, rfl⟩
      rw [← hZ] at hnext hl ⊢
      have HN := Lib.hid hnext
      clear hX hnext hC hZ hxor
      go_loop [3, 5, 17] (fun c g i => ∃ (j D : Nat), j ≤ 8 ∧ i = .int .i64 j ∧ Hid (D = cbits j Z 0) ∧ D < 4294967296 ∧ c = .int .u32 (D : Nat)) (fun _ _ i => 8 - (intOf i).toNat)
      case atStart => exact ⟨0, Z, by omega, rfl, rfl, hl, rfl⟩
      case round =>
        obtain ⟨j, D, hj, rfl, hD, hDl, rfl⟩ := hrel
        by_cases hj8 : j < 8
        · have hnD : cbits (j + 1) Z 0 = cstep D 0 := by rw [cbits_snoc0, ← hD.out]
          have HD := Lib.hid hnD
          have ha := and32 D hDl
          clear hnD hD
          rcases Nat.mod_two_eq_zero_or_one D with hd | hd
          · have HE := Lib.hid (cstep_eq (c := D) (b := 0) hd)
            rw [hd] at ha
            clear hd
            go_wp2
            go_round
            case rel => exact ⟨j + 1, D / 2, by omega, by go_num, by show _ = _; rw [HD.out, HE.out], by omega, by go_num⟩
            case measure => simp [intOf]; omega
          · have HE := Lib.hid (cstep_other (c := D) (b := 0) (by omega))
            have hxor := xor32 (D / 2) (by omega)
            rw [show ((D / 2 : Nat) : Int) = (D : Int) / 2 by omega] at hxor
            have hl2 := xor_lt (a := D / 2) (b := 3988292384) (by omega) (by decide)
            rw [hd] at ha
            clear hd
            go_wp2
            go_round
            case rel => exact ⟨j + 1, _, by omega, by go_num, by show _ = _; rw [HD.out, HE.out], hl2, rfl⟩
            case measure => simp [intOf]; omega
        · obtain rfl : j = 8 := by omega
          go_wp2
          go_round
          case rel => exact ⟨k + 1, D, by omega, by go_num, by show D = _; rw [HN.out, hD.out], hDl, rfl⟩
          case measure => simp [intOf]; omega
    · obtain rfl : k = s.size := by omega
      have hall := csum_all s
      rw [← hC.out] at hall
      have hn := not32 C hlt
      go_wp2
      go_ret
      refine ⟨?_, rfl⟩
      rw [← hall]
      exact ret1 (by omega)
end Go.Proofs.YtjdfffkkpbabpaaGreat.Fr

namespace Go.Proofs
open Go.Shelf
def Tryz.lays156_ren : Go.Shelf.Ren := ⟨fun | 156 => 102 | 165 => 132 | 166 => 133 | 169 => 134 | 240 => 159 | 241 => 160 | 276 => 173 | 277 => 174 | n => n, fun | 31 => 84 | 9 => 9 | 3 => 3 | 4 => 4 | 0 => 0 | 20 => 20 | 72 => 165 | 76 => 168 | 70 => 163 | 37 => 143 | 75 => 167 | 127 => 193 | 164 => 204 | 5 => 5 | 80 => 170 | n => n, fun | n => n⟩
theorem Tryz.lays156 : Go.Proofs.Lays.n156 Tryz.prog Tryz.lays156_ren := {
  mixed := by kernel_rfl
  f156 := Tryz.func102.trans (congrArg some (by kernel_rfl))
  f165 := Tryz.func132.trans (congrArg some (by kernel_rfl))
  f166 := Tryz.func133.trans (congrArg some (by kernel_rfl))
  f169 := Tryz.func134.trans (congrArg some (by kernel_rfl))
  f240 := Tryz.func159.trans (congrArg some (by kernel_rfl))
  f241 := Tryz.func160.trans (congrArg some (by kernel_rfl))
  f276 := Tryz.func173.trans (congrArg some (by kernel_rfl))
  f277 := Tryz.func174.trans (congrArg some (by kernel_rfl))
  t0 := Tryz.underlying0
  a0 := Tryz.isAgg0
  z0 := Tryz.sizeOf0
  v0 := Tryz.zeroValue0
  t3 := Tryz.underlying3
  a3 := Tryz.isAgg3
  z3 := Tryz.sizeOf3
  v3 := Tryz.zeroValue3
  t4 := Tryz.underlying4
  a4 := Tryz.isAgg4
  z4 := Tryz.sizeOf4
  v4 := Tryz.zeroValue4
  t9 := Tryz.underlying9
  a9 := Tryz.isAgg9
  z9 := Tryz.sizeOf9
  v9 := Tryz.zeroValue9
  t20 := Tryz.underlying20
  a20 := Tryz.isAgg20
  z20 := Tryz.sizeOf20
  v20 := Tryz.zeroValue20
  t31 := Tryz.underlying84
  a31 := Tryz.isAgg84
  z31 := Tryz.sizeOf84
  v31 := Tryz.zeroValue84
  t37 := Tryz.underlying143
  a37 := Tryz.isAgg143
  z37 := Tryz.sizeOf143
  v37 := Tryz.zeroValue143
  t70 := Tryz.underlying163
  a70 := Tryz.isAgg163
  z70 := Tryz.sizeOf163
  v70 := Tryz.zeroValue163
  t72 := Tryz.underlying165
  a72 := Tryz.isAgg165
  z72 := Tryz.sizeOf165
  v72 := Tryz.zeroValue165
  t75 := Tryz.underlying167
  a75 := Tryz.isAgg167
  z75 := Tryz.sizeOf167
  v75 := Tryz.zeroValue167
  t76 := Tryz.underlying168
  a76 := Tryz.isAgg168
  z76 := Tryz.sizeOf168
  v76 := Tryz.zeroValue168
  t127 := Tryz.underlying193
  a127 := Tryz.isAgg193
  z127 := Tryz.sizeOf193
  v127 := Tryz.zeroValue193
  t164 := Tryz.underlying204
  a164 := Tryz.isAgg204
  z164 := Tryz.sizeOf204
  v164 := Tryz.zeroValue204 }
theorem Tryz.Builder_Extra_156 : Builder.Extra Tryz.prog Tryz.lays156_ren := {
  sizeBuilder := by kernel_rfl
  liesBuilder := by kernel_rfl
  t5 := Tryz.underlying5
  a5 := Tryz.isAgg5
  z5 := Tryz.sizeOf5
  v5 := Tryz.zeroValue5
  infoByte := by kernel_rfl
  cellsByte := by kernel_rfl
  sizeByte := by kernel_rfl
  neB5 := by decide }
end Go.Proofs

namespace Go.Proofs.YtjdfffkkpbabpaaGreat.Wr
open Go.RowKit Wm
set_option linter.unusedVariables false
def cat (l : List ByteArray) : ByteArray := ⟨(l.map (·.data.toList)).flatten.toArray⟩
theorem join_empty (l : List (List UInt8)) : Lib.join l (ByteArray.mk #[]).data.toList = l.flatten := by
  cases l with
  | nil => rfl
  | cons x l =>
    rw [Lib.join_cons, Lib.joinTail]
    simp
theorem join_any (bk o c : Nat) (xs : List ByteArray) (w : World)
    (hcells : ∀ (j : Nat) x, xs[j]? = some x → w.cell? ⟨bk, o + j, none⟩ = some (.string x))
    (hbk : bk < w.heap.size) (hN : xs.length ≤ 140737488355328) (hcap : xs.length ≤ c) (hlen : (cat xs).size ≤ 140737488355328) :
    Calls Tryz.prog 68 #[.slice (some ⟨bk, o, none⟩) xs.length c] w fun e w' => e = .returned (.string (cat xs)) ∧ Below w.heap.size w w' := by
  have e : (cat xs) = ⟨(Lib.join (xs.map (·.data.toList)) (ByteArray.mk #[]).data.toList).toArray⟩ := by
    rw [cat, join_empty]
  have hl : (Lib.join (xs.map (·.data.toList)) (ByteArray.mk #[]).data.toList).length ≤ 140737488355328 := by
    rw [join_empty]
    simpa [cat, ByteArray.size] using hlen
  have c1 := fun W (h : ∀ (j : Nat) x, xs[j]? = some x → W.cell? ⟨bk, o + j, none⟩ = some (.string x)) (h2 : bk < W.heap.size) => Any.strings_Join Tryz.lays156 Tryz.Builder_Extra_156 bk o c xs ⟨#[]⟩ W h h2 hN hcap hl
  rw [← e] at c1
  have HC := Lib.hid hcells
  have HB := Lib.hid hbk
  clear hcells e hl hlen hbk
  go_enter Tryz.func68, Tryz.ntmps68
  go_wp2_with (go_at_call 102; refine (c1 _ HC.out HB.out).mono ?_; rintro e w1 ⟨rfl, hb⟩)
  go_ret
  exact ⟨rfl, hb⟩
end Go.Proofs.YtjdfffkkpbabpaaGreat.Wr

namespace Go.Proofs.YtjdfffkkpbabpaaGreat.Fr
open Go.RowKit Wm Wr Fm
set_option linter.unusedVariables false
def lay4 (F j : Nat) : Array Value := (((le4 F).take j).map bv ++ List.replicate (4 - j) (Value.int .u8 0)).toArray
theorem lay4_at (F j : Nat) (h : j < 4) : (lay4 F j)[j]? = some (.int .u8 0) := by
  match j, h with
  | 0, _ => rfl
  | 1, _ => rfl
  | 2, _ => rfl
  | 3, _ => rfl
theorem lay4_set (F j : Nat) (h : j < 4) : (lay4 F j).setIfInBounds j (bv (UInt8.ofNat (F / 256 ^ j % 256))) = lay4 F (j + 1) := by
  have e2 : F / 256 ^ 2 = F / 256 / 256 := by rw [Nat.div_div_eq_div_mul]
  have e3 : F / 256 ^ 3 = F / 256 / 256 / 256 := by rw [Nat.div_div_eq_div_mul, Nat.div_div_eq_div_mul]
  match j, h with
  | 0, _ => simp [lay4, le4]
  | 1, _ => simp [lay4, le4]
  | 2, _ => simp [lay4, le4, e2]
  | 3, _ => simp [lay4, le4, e3]
theorem lay4_full (F : Nat) : lay4 F 4 = ((le4 F).map bv).toArray := rfl
theorem lay4_conv (w : World) (F : Nat) : (convert 143 9 (.slice (some ⟨w.heap.size, 0, none⟩) 4 4)).run Tryz.prog (w.alloc (.cells (lay4 F 4) 160)) = .ok (.string ⟨(le4 F).toArray⟩) (w.alloc (.cells (lay4 F 4) 160)) :=
  run_convert_bytes_back _ 143 9 5 ⟨w.heap.size, 0, none⟩ 4 (le4 F) Tryz.underlying143 Tryz.underlying5 Tryz.underlying9 (fun j hj => by
    have hj : j < 4 := hj
    obtain rfl | rfl | rfl | rfl : j = 0 ∨ j = 1 ∨ j = 2 ∨ j = 3 := by omega
    all_goals
      rw [lay4_full]
      go_simp
      rfl)
theorem put_byte {w : World} {F j : Nat} {x : Int} (h : j < 4) (hx : x = ((F / 256 ^ j % 256 : Nat) : Int)) : w.alloc (.cells ((lay4 F j).setIfInBounds j (.int .u8 x)) 160) = w.alloc (.cells (lay4 F (j + 1)) 160) := by
  rw [← lay4_set F j h, ← mod_byte, hx]
  rfl
set_option maxRecDepth 100000 in
set_option maxHeartbeats 1000000 in
theorem sumOf_any (s : ByteArray) (w : World) (hs : s.size ≤ maxLen) :
    Calls Tryz.prog 93 #[.string s] w fun e w' => e = .returned (.string (sum4 s.data.toList)) ∧ Below w.heap.size w w' := by
  have cs := fun W => fSum_same s W hs
  have hFl := fsum_lt s.data.toList
  have hres : Hid ((⟨(le4 (fsum s.data.toList)).toArray⟩ : ByteArray) = sum4 s.data.toList) := rfl
  obtain ⟨F, hF⟩ : ∃ F, F = fsum s.data.toList := ⟨_, rfl⟩
  rw [← hF] at cs hFl hres
  clear hF
  have hcv := lay4_conv w F
  go_enter Tryz.func93, Tryz.ntmps93
  go_wp2_with (go_at_call 126; refine (cs _).mono ?_; rintro e w1 ⟨rfl, rfl⟩)
  go_loopw [5, 8] (fun g i wr => ∃ j : Nat, j ≤ 4 ∧ i = .int .i64 j ∧ wr = w.alloc (.cells (lay4 F j) 160)) (fun _ i _ => 4 - (intOf i).toNat)
  case atStart => exact ⟨0, by omega, rfl, rfl⟩
  case round =>
    obtain ⟨j, hj, rfl, rfl⟩ := hrel
    clear cs
    by_cases hlt : j < 4
    · have hat := lay4_at F j hlt
      obtain rfl | rfl | rfl | rfl : j = 0 ∨ j = 1 ∨ j = 2 ∨ j = 3 := by omega
      all_goals
        go_wp2
        go_roundw
        case measure => simp [intOf]
      · exact ⟨1, by omega, by go_num, put_byte (by omega) (by omega)⟩
      · exact ⟨2, by omega, by go_num, put_byte (by omega) (by omega)⟩
      · exact ⟨3, by omega, by go_num, put_byte (by omega) (by omega)⟩
      · exact ⟨4, by omega, by go_num, put_byte (by omega) (by omega)⟩
    · obtain rfl : j = 4 := by omega
      go_wp2
      go_ret
      exact ⟨by rw [← hres.out]; rfl, (Below.refl _ _).alloc (Nat.le_refl _) _⟩
theorem cat_two (x y : ByteArray) : cat [x, y] = x ++ y := by
  apply ByteArray.ext
  simp [cat]
theorem join2_any (bk : Nat) (x y : ByteArray) (w : World) (h0 : w.cell? ⟨bk, 0, none⟩ = some (.string x)) (h1 : w.cell? ⟨bk, 1, none⟩ = some (.string y)) (hbk : bk < w.heap.size) (hlen : x.size + y.size ≤ 140737488355328) :
    Calls Tryz.prog 68 #[.slice (some ⟨bk, 0, none⟩) 2 2] w fun e w' => e = .returned (.string (x ++ y)) ∧ Below w.heap.size w w' := by
  have h := join_any bk 0 2 [x, y] w (fun j z hz => by
    match j, hz with
    | 0, hz => simp at hz; subst hz; exact h0
    | 1, hz => simp at hz; subst hz; exact h1
    | j + 2, hz => simp at hz) hbk (by simp) (by simp) (by rw [cat_two, ByteArray.size_append]; exact hlen)
  rw [cat_two] at h
  exact h
set_option maxRecDepth 100000 in
set_option maxHeartbeats 1000000 in
theorem fPack_any (s : ByteArray) (w : World) (hs : s.size ≤ 140737488355300) :
    Calls Tryz.prog 44 #[.string s] w fun e w' => e = .returned (.string (pk s)) ∧ Below w.heap.size w w' := by
  have ct := fun W => putText_any s W (by omega)
  have cs := fun W => sumOf_any s W (by unfold maxLen; omega)
  have hTl : (ts s).size ≤ 10 + s.size := by
    rw [ts, ByteArray.size_append]
    have := vs_le (x := s.size) (by omega)
    omega
  have hpk : Hid (ts s ++ sum4 s.data.toList = pk s) := rfl
  have hQl : (sum4 s.data.toList).size ≤ 4 := by rw [sum4_size]; exact Nat.le_refl _
  obtain ⟨T, hT⟩ : ∃ T, T = ts s := ⟨_, rfl⟩
  obtain ⟨Q, hQ⟩ : ∃ Q, Q = sum4 s.data.toList := ⟨_, rfl⟩
  rw [← hT] at ct hTl hpk
  rw [← hQ] at cs hQl hpk
  have cj := fun W B h0 h1 hb => join2_any B T Q W h0 h1 hb (by omega)
  clear hT hQ
  go_enter Tryz.func44, Tryz.ntmps44
  go_wp2_with (first
    | (go_at_call 67; refine (ct _).mono ?_; rintro e w1 ⟨rfl, hb1⟩)
    | (go_at_call 93; refine (cs _).mono ?_; rintro e w2 ⟨rfl, hb2⟩)
    | (go_at_call 68; refine (cj _ _ (by go_simp) (by go_simp) (by go_simp)).mono ?_; rintro e w3 ⟨rfl, hb3⟩))
  go_ret
  exact ⟨by rw [← hpk.out]; rfl, below_call ((below_call hb1 hb2).alloc (below_call hb1 hb2).size _) hb3⟩
end Go.Proofs.YtjdfffkkpbabpaaGreat.Fr

namespace Go.Proofs.YtjdfffkkpbabpaaGreat.Fr
open Go.RowKit Wm Wr Fm
set_option linter.unusedVariables false
def frAt (s : ByteArray) (a : Int) : ByteArray × Int × Nat :=
  if a < 0 ∨ (s.size : Int) < a then (⟨#[]⟩, 0, 1)
  else if (fr (s.extract a.toNat s.size)).2.2 ≠ 0 then (⟨#[]⟩, 0, (fr (s.extract a.toNat s.size)).2.2)
  else ((fr (s.extract a.toNat s.size)).1, a + (fr (s.extract a.toNat s.size)).2.1, 0)
theorem frAt_out {s : ByteArray} {a : Int} (h : a < 0 ∨ (s.size : Int) < a) : frAt s a = (⟨#[]⟩, 0, 1) := by rw [frAt, if_pos h]
theorem frAt_bad {s : ByteArray} {a : Nat} {t : ByteArray} {n e : Nat} (h : a ≤ s.size) (h2 : fr (s.extract a s.size) = (t, n, e)) (he : e ≠ 0) : frAt s a = (⟨#[]⟩, 0, e) := by
  rw [frAt, if_neg (by omega), Int.toNat_natCast, h2, if_pos he]
theorem frAt_ok {s : ByteArray} {a : Nat} {t : ByteArray} {n : Nat} (h : a ≤ s.size) (h2 : fr (s.extract a s.size) = (t, n, 0)) : frAt s a = (t, (a : Int) + n, 0) := by
  rw [frAt, if_neg (by omega), Int.toNat_natCast, h2, if_neg (fun h => h rfl)]
theorem ts_front {X t : ByteArray} {n : Nat} (h : rdT X = (t, n, 0)) : X.extract 0 n = ts t := by
  rcases rdT_cases X with ⟨e, h0, h1, _, h3⟩ | ⟨x, m, _, _, _, _, h3⟩ | ⟨x, m, hu, hn, hx, h3⟩
  · rw [h3] at h
    simp only [Prod.mk.injEq] at h
    exact absurd h.2.2 h0
  · rw [h3] at h
    simp at h
  · rw [h3] at h
    simp only [Prod.mk.injEq] at h
    obtain ⟨rfl, rfl, _⟩ := h
    have hk := rdU_ok hu
    have e1 : (X.extract m (m + x)).size = x := by simp; omega
    have e2 : vs x = X.extract 0 m := by
      apply ByteArray.ext
      rw [vs, hk.2.1, ByteArray.data_extract]
      apply Array.toList_inj.1
      simp
    rw [ts, e1, e2]
    apply ByteArray.ext
    rw [ByteArray.data_append, ByteArray.data_extract, ByteArray.data_extract, ByteArray.data_extract, Array.extract_append_extract]
    congr 1 <;> omega
theorem pk_iff {X t : ByteArray} {n : Nat} (h : rdT X = (t, n, 0)) : X.extract 0 (n + 4) = pk t ↔ X.extract n (n + 4) = sum4 t.data.toList := by
  have e : X.extract 0 (n + 4) = ts t ++ X.extract n (n + 4) := by
    rw [← ts_front h]
    apply ByteArray.ext
    rw [ByteArray.data_append, ByteArray.data_extract, ByteArray.data_extract, ByteArray.data_extract, Array.extract_append_extract]
    congr 1 <;> omega
  rw [e, pk]
  constructor
  · intro h2
    have h3 := congrArg (fun x : ByteArray => x.data.toList) h2
    simp only [ByteArray.data_append, Array.toList_append] at h3
    exact ByteArray.ext (Array.toList_inj.1 (List.append_cancel_left h3))
  · intro h2
    rw [h2]
theorem within (s : ByteArray) (k n : Nat) (h : k + n + 4 ≤ s.size) : (s.extract k s.size).extract n (n + 4) = s.extract (k + n) (k + n + 4) := by
  rw [ByteArray.extract_extract]
  congr 1
  omega
theorem ret3s {v v' : ByteArray} {x y x' y' : Int} (h : v = v') (h1 : x = x') (h2 : y = y') : Ending.returned (.tuple #[.string v, .int .i64 x, .int .i64 y]) = .returned (.tuple #[.string v', .int .i64 x', .int .i64 y']) := by rw [h, h1, h2]
set_option maxRecDepth 100000 in
set_option maxHeartbeats 1000000 in
theorem fRead_any (s : ByteArray) (a : Int) (w : World) (hs : s.size ≤ 281474976710656) (h1 : -9223372036854775808 ≤ a) (h2 : a ≤ 9223372036854775807) :
    Calls Tryz.prog 73 #[.string s, .int .i64 a] w fun e w' => e = .returned (.tuple #[.string (frAt s a).1, .int .i64 (frAt s a).2.1, .int .i64 ((frAt s a).2.2 : Int)]) ∧ Below w.heap.size w w' := by
  by_cases hout : a < 0 ∨ (s.size : Int) < a
  · rw [frAt_out hout]
    by_cases h0 : a < 0
    · clear hout
      go_enter Tryz.func73, Tryz.ntmps73
      go_wp2_with fail
      go_ret3
      exact ⟨rfl, Below.refl _ _⟩
    · have h3 : (s.size : Int) < a := by omega
      clear hout
      go_enter Tryz.func73, Tryz.ntmps73
      go_wp2_with fail
      go_ret3
      exact ⟨rfl, Below.refl _ _⟩
  · obtain ⟨k, rfl⟩ : ∃ k : Nat, a = (k : Int) := ⟨a.toNat, by omega⟩
    have hk : k ≤ s.size := by omega
    have hk' : (k : Int) ≤ s.size := by omega
    have hXs : (s.extract k s.size).size = s.size - k := by simp
    have cn := fun W => new_any (s.extract k s.size) W
    have ct := fun W (h : Rat W w.heap.size (s.extract k s.size)) => text_any w.heap.size (s.extract k s.size) W h (by unfold maxLen; omega)
    have hR0 := rat_new w (s.extract k s.size)
    clear hout
    rcases fr_e (s.extract k s.size) with ⟨e, h0, h1, h2, h3⟩ | ⟨t, n, h, hn, ht, hlt, h3⟩ | ⟨t, n, h, hn, ht, hne, h3⟩ | ⟨t, n, h, hn, ht, heq, h3⟩
    · obtain ⟨t, n, e', h⟩ := trip (rdT (s.extract k s.size))
      rw [h] at ct h2
      have h2' : e' = e := h2
      subst h2'
      rw [frAt_bad hk h3 h0]
      have hne : ((e' : Int) == 0) = false := by simp; omega
      have hne' : (!((e' : Int) == 0)) = true := by simp; omega
      clear h h3 h2 h0
      go_enter Tryz.func73, Tryz.ntmps73
      go_wp2_with (go_at_call 106; refine (cn _).mono ?_; rintro e w1 ⟨rfl, rfl⟩)
      go_at_call 107
      refine (ct _ hR0).mono ?_
      rintro e w2 ⟨rfl, hR, hg⟩
      have hb := below_at ((Below.refl w.heap.size w).alloc (Nat.le_refl _) _) hg (Nat.le_refl _)
      go_wp2_with fail
      go_ret3
      exact ⟨rfl, hb⟩
    · rw [frAt_bad hk h3 (by omega)]
      rw [h] at ct
      have hL : ((s.extract k s.size).extract n (s.extract k s.size).size).size = (s.extract k s.size).size - n := by simp
      have cl := fun W b h => left_any b ((s.extract k s.size).extract n (s.extract k s.size).size) W h (by unfold maxLen; omega)
      rw [hL] at cl
      have hlt' : (((s.extract k s.size).size - n : Nat) : Int) < 4 := by omega
      obtain ⟨L, hL2⟩ : ∃ L, L = (s.extract k s.size).size - n := ⟨_, rfl⟩
      rw [← hL2] at cl hlt'
      clear h h3 hL hL2
      go_enter Tryz.func73, Tryz.ntmps73
      go_wp2_with (go_at_call 106; refine (cn _).mono ?_; rintro e w1 ⟨rfl, rfl⟩)
      go_at_call 107
      refine (ct _ hR0).mono ?_
      rintro e w2 ⟨rfl, hR, hg⟩
      have hb := below_at ((Below.refl w.heap.size w).alloc (Nat.le_refl _) _) hg (Nat.le_refl _)
      go_wp2_with (go_at_call 108; refine (cl _ _ hR).mono ?_; rintro e w3 ⟨rfl, rfl⟩)
      go_ret3
      exact ⟨rfl, hb⟩
    · rw [frAt_bad hk h3 (by omega)]
      have hne2 : (s.extract k s.size).extract n (n + 4) ≠ sum4 t.data.toList := fun h4 => hne ((pk_iff h).2 h4)
      rw [within s k n (by omega)] at hne2
      rw [h] at ct
      have hL : ((s.extract k s.size).extract n (s.extract k s.size).size).size = (s.extract k s.size).size - n := by simp
      have cl := fun W b h => left_any b ((s.extract k s.size).extract n (s.extract k s.size).size) W h (by unfold maxLen; omega)
      rw [hL] at cl
      obtain ⟨L, hL2⟩ : ∃ L, L = (s.extract k s.size).size - n := ⟨_, rfl⟩
      rw [← hL2] at cl
      have hL3 : 4 ≤ (L : Int) := by omega
      have hL4 : (s.size : Int) - (L : Int) = ((k + n : Nat) : Int) := by omega
      have hw : IntKind.i64.wrap (((k + n : Nat) : Int)) = ((k + n : Nat) : Int) := IntWalk.i64_in _ (by omega)
      have hw2 : IntKind.i64.wrap (((k + n : Nat) : Int) + 4) = ((k + n : Nat) : Int) + 4 := IntWalk.i64_in _ (by omega)
      have hx := bytes_ne hne2
      have csu := fun W => sumOf_any t W (by unfold maxLen; omega)
      obtain ⟨Q, hQ⟩ : ∃ Q, Q = sum4 t.data.toList := ⟨_, rfl⟩
      rw [← hQ] at hx csu
      have hle : ((k + n : Nat) : Int) + 4 ≤ s.size := by omega
      clear h h3 hL hL2 hne hne2 hQ
      go_enter Tryz.func73, Tryz.ntmps73
      go_wp2_with (go_at_call 106; refine (cn _).mono ?_; rintro e w1 ⟨rfl, rfl⟩)
      go_at_call 107
      refine (ct _ hR0).mono ?_
      rintro e w2 ⟨rfl, hR, hg⟩
      have hb := below_at ((Below.refl w.heap.size w).alloc (Nat.le_refl _) _) hg (Nat.le_refl _)
      go_wp2_with (go_at_call 108; refine (cl _ _ hR).mono ?_; rintro e w3 ⟨rfl, rfl⟩)
      go_region_with ((go_at_call 93; refine (csu _).mono ?_; rintro e w1 ⟨rfl, hb1⟩))
      all_goals
        go_wp2_with fail
        go_ret3
        exact ⟨rfl, below_call hb.drew hb1⟩
    · rw [frAt_ok hk h3]
      have hne2 : (s.extract k s.size).extract n (n + 4) = sum4 t.data.toList := (pk_iff h).1 heq
      rw [within s k n (by omega)] at hne2
      rw [h] at ct
      have hL : ((s.extract k s.size).extract n (s.extract k s.size).size).size = (s.extract k s.size).size - n := by simp
      have cl := fun W b h => left_any b ((s.extract k s.size).extract n (s.extract k s.size).size) W h (by unfold maxLen; omega)
      rw [hL] at cl
      obtain ⟨L, hL2⟩ : ∃ L, L = (s.extract k s.size).size - n := ⟨_, rfl⟩
      rw [← hL2] at cl
      have hL3 : 4 ≤ (L : Int) := by omega
      have hL4 : (s.size : Int) - (L : Int) = ((k + n : Nat) : Int) := by omega
      have hw : IntKind.i64.wrap (((k + n : Nat) : Int)) = ((k + n : Nat) : Int) := IntWalk.i64_in _ (by omega)
      have hw2 : IntKind.i64.wrap (((k + n : Nat) : Int) + 4) = ((k + n : Nat) : Int) + 4 := IntWalk.i64_in _ (by omega)
      have hx : ((s.extract (k + n) (k + n + 4)).toList == (sum4 t.data.toList).toList) = true := by rw [hne2]; exact beq_self_eq_true _
      have csu := fun W => sumOf_any t W (by unfold maxLen; omega)
      obtain ⟨Q, hQ⟩ : ∃ Q, Q = sum4 t.data.toList := ⟨_, rfl⟩
      rw [← hQ] at hx csu
      have hle : ((k + n : Nat) : Int) + 4 ≤ s.size := by omega
      clear h h3 hL hL2 heq hne2 hQ
      go_enter Tryz.func73, Tryz.ntmps73
      go_wp2_with (go_at_call 106; refine (cn _).mono ?_; rintro e w1 ⟨rfl, rfl⟩)
      go_at_call 107
      refine (ct _ hR0).mono ?_
      rintro e w2 ⟨rfl, hR, hg⟩
      have hb := below_at ((Below.refl w.heap.size w).alloc (Nat.le_refl _) _) hg (Nat.le_refl _)
      go_wp2_with (go_at_call 108; refine (cl _ _ hR).mono ?_; rintro e w3 ⟨rfl, rfl⟩)
      go_region_with ((go_at_call 93; refine (csu _).mono ?_; rintro e w1 ⟨rfl, hb1⟩))
      all_goals
        go_wp2_with fail
        go_ret3
        exact ⟨ret3s rfl (by omega) rfl, below_call hb.drew hb1⟩
end Go.Proofs.YtjdfffkkpbabpaaGreat.Fr

namespace Go.Proofs.YtjdfffkkpbabpaaGreat.Fr
open Go.RowKit Wm Wr Fm
set_option linter.unusedVariables false
end Go.Proofs.YtjdfffkkpbabpaaGreat.Fr

namespace Go.Proofs.YtjdfffkkpbabpaaGreat.Fr
open Go.RowKit Wm Wr Fm
set_option linter.unusedVariables false
end Go.Proofs.YtjdfffkkpbabpaaGreat.Fr

namespace Go.Proofs.YtjdfffkkpbabpaaGreat.Wr
open Go.RowKit Wm
set_option linter.unusedVariables false
set_option maxRecDepth 100000 in
set_option maxHeartbeats 400000 in
theorem whole_w (s : ByteArray) (w : World) (hs : s.size ≤ 1000000000000000000) :
    Calls Tryz.prog 165 #[.string s] w fun e w' => e = .returned (.tuple #[.int .u64 ((rd s.data.toList).1 : Int), .int .i64 ((rd s.data.toList).2.1 : Int), .int .i64 ((rd s.data.toList).2.2 : Int)]) ∧ w = w' := by
  go_enter Tryz.func165, Tryz.ntmps165
  go_wp2
  go_loop [2, 5] (fun x i => ∃ k : Nat, k ≤ s.size ∧ k ≤ 9 ∧ Hid (k ≤ lead s.data.toList 9) ∧ i = .int .i64 k ∧ x = .int .u64 (pv s.data.toList k : Nat)) (fun _ i => s.size - (intOf i).toNat)
  case atStart => exact ⟨0, Nat.zero_le _, by omega, Nat.zero_le _, rfl, by rw [pv_zero]; rfl⟩
  case round =>
    obtain ⟨k, hk, hk9, hl, rfl, rfl⟩ := hrel
    by_cases hlt : k < s.size
    · by_cases h9 : k = 9
      · subst h9
        go_wp2
        · have h1 : 1 < (s[9].toNat : Int) := by assumption
          go_ret3
          exact ⟨by rw [rd_tenth s hlt hl.out h1]; rfl, rfl⟩
        · have h0 : s[9].toNat = 0 := by assumption
          go_ret3
          exact ⟨by rw [rd_zero s 9 hlt hl.out h0 (by omega)]; rfl, rfl⟩
        · have h0 : ¬ s[9].toNat = 0 := by assumption
          have h1 : (s[9].toNat : Int) ≤ 1 := by assumption
          go_ret3
          refine ⟨?_, rfl⟩
          rw [rd_stop s 9 hlt hl.out (by omega) (fun _ => by omega) (.inr h0)]
          exact ret3 (or_step s.data.toList 9 _ (by rw [len_l]; exact hlt) (by rw [gd s 9 hlt]) (.inr ⟨rfl, by omega⟩)) rfl rfl
      · have h9' : ((k : Int) == 9) = false := by simp; omega
        go_wp2
        · have h1 : 128 ≤ (s[k].toNat : Int) := by assumption
          go_round
          case rel => exact ⟨k + 1, by omega, by omega, lead_more s k hlt (by omega) hl.out h1, by go_num, by rw [or_step s.data.toList k _ (by rw [len_l]; exact hlt) (by rw [gd s k hlt]) (.inl (by omega))]⟩
          case measure => simp [intOf]; omega
        · have h0 : s[k].toNat = 0 := by assumption
          have hp : 0 < k := by assumption
          go_ret3
          exact ⟨by rw [rd_zero s k hlt hl.out h0 hp]; rfl, rfl⟩
        · have h0 : s[k].toNat = 0 := by assumption
          have hp : ¬ 0 < k := by assumption
          go_ret3
          refine ⟨?_, rfl⟩
          rw [rd_stop s k hlt hl.out (by omega) (fun _ => by omega) (.inl (by omega))]
          exact ret3 (or_step s.data.toList k 0 (by rw [len_l]; exact hlt) (by rw [gd s k hlt]; exact h0.symm) (.inl (by omega))) (by simp) rfl
        · have h0 : ¬ s[k].toNat = 0 := by assumption
          have h1 : (s[k].toNat : Int) < 128 := by assumption
          go_ret3
          refine ⟨?_, rfl⟩
          rw [rd_stop s k hlt hl.out (by omega) (fun _ => by omega) (.inr h0)]
          exact ret3 (or_step s.data.toList k _ (by rw [len_l]; exact hlt) (by rw [gd s k hlt]) (.inl (by omega))) (by simp) rfl
    · go_wp2
      go_ret3
      exact ⟨by rw [rd_short s k hlt hl.out]; rfl, rfl⟩
set_option maxRecDepth 100000 in
theorem number_w (s : ByteArray) (w : World) (hs : s.size ≤ 1000000000000000000) :
    Calls Tryz.prog 138 #[.string s] w fun e w' => e = .returned (.tuple #[.int .i64 ((rdU s.data.toList).1 : Int), .int .i64 ((rdU s.data.toList).2.1 : Int), .int .i64 ((rdU s.data.toList).2.2 : Int)]) ∧ w = w' := by
  have c := whole_w s w hs
  rcases rdU_cases s.data.toList with ⟨h, h2⟩ | ⟨h, h2⟩ | ⟨x, n, h2, hx, h⟩ | ⟨x, n, h2, hx, h⟩
  all_goals
    rw [h2] at c
    rw [h]
    clear h h2
    go_enter Tryz.func138, Tryz.ntmps138
    go_wp2_with (go_at_call 165; refine c.mono ?_; rintro e w' ⟨rfl, rfl⟩)
    go_ret3
    exact ⟨rfl, rfl⟩
set_option maxRecDepth 100000 in
theorem text_w (b : Nat) (s : ByteArray) (w : World) (h : Rat w b s) (hs : s.size ≤ 1000000000000000000) :
    Calls Tryz.prog 107 #[.pointer (some ⟨b, 0, none⟩)] w fun e w' => e = .returned (.tuple #[.string (rdT s).1, .int .i64 ((rdT s).2.2 : Int)]) ∧ Rat w' b (s.extract (rdT s).2.1 s.size) ∧ w.grownBy w' (some b) := by
  have c := number_w s w hs
  have hall := rat_set h
  have hsame : Rat w b (s.extract 0 s.size) := by rw [extract_all]; exact h
  obtain ⟨h1, h2⟩ := h
  rcases rdT_cases s with ⟨e, h0, h4, h, h3⟩ | ⟨x, n, h, hn, hx, hxm, h3⟩ | ⟨x, n, h, hn, hx, h3⟩
  · rw [h] at c
    rw [h3]
    have hne : ((e : Int) == 0) = false := by simp; omega
    have hne' : (!((e : Int) == 0)) = true := by simp; omega
    clear h h3 h0
    go_enter Tryz.func107, Tryz.ntmps107
    go_wp2_with (go_at_call 138; refine c.mono ?_; rintro e w' ⟨rfl, rfl⟩)
    go_ret2
    exact ⟨rfl, hsame, grown_refl _ _⟩
  · rw [h] at c
    rw [h3]
    have hlt : (s.size : Int) - n < x := by omega
    have hn' : (n : Int) ≤ s.size := by omega
    clear h h3
    go_enter Tryz.func107, Tryz.ntmps107
    go_wp2_with (go_at_call 138; refine c.mono ?_; rintro e w' ⟨rfl, rfl⟩)
    go_ret2
    exact ⟨rfl, hsame, grown_refl _ _⟩
  · rw [h] at c
    rw [h3]
    have hlt : (x : Int) ≤ (s.size : Int) - n := by omega
    have hn' : (n : Int) ≤ s.size := by omega
    clear h h3
    go_enter Tryz.func107, Tryz.ntmps107
    go_wp2_with (go_at_call 138; refine c.mono ?_; rintro e w' ⟨rfl, rfl⟩)
    go_ret2
    exact ⟨ret2s (front s n x hn hx) rfl, by rw [behind s n x hn hx]; exact hall _, grown_set _ _ _⟩
set_option maxRecDepth 100000 in
theorem left_w (b : Nat) (s : ByteArray) (w : World) (h : Rat w b s) (hs : s.size ≤ 1000000000000000000) :
    Calls Tryz.prog 108 #[.pointer (some ⟨b, 0, none⟩)] w fun e w' => e = .returned (.int .i64 (s.size : Int)) ∧ w = w' := by
  obtain ⟨h1, h2⟩ := h
  go_enter Tryz.func108, Tryz.ntmps108
  go_wp2
  go_ret
  exact ⟨rfl, rfl⟩
end Go.Proofs.YtjdfffkkpbabpaaGreat.Wr
namespace Go.Proofs.YtjdfffkkpbabpaaGreat.Fr
open Go.RowKit Wm Wr Fm
set_option linter.unusedVariables false
set_option maxRecDepth 100000 in
set_option maxHeartbeats 1000000 in
theorem fSum_w (s : ByteArray) (w : World) (hs : s.size ≤ 1000000000000000000) :
    Calls Tryz.prog 126 #[.string s] w fun e w' => e = .returned (.int .u32 (fsum s.data.toList : Nat)) ∧ w = w' := by
  go_enter Tryz.func126, Tryz.ntmps126
  go_wp2
  go_loop [3, 8] (fun c i => ∃ (k C : Nat), k ≤ s.size ∧ i = .int .i64 k ∧ Hid (C = csum 4294967295 (s.data.toList.take k)) ∧ C < 4294967296 ∧ c = .int .u32 (C : Nat)) (fun _ i => s.size - (intOf i).toNat)
  case atStart => exact ⟨0, 4294967295, Nat.zero_le _, rfl, rfl, by decide, rfl⟩
  case round =>
    obtain ⟨k, C, hk, rfl, hC, hlt, rfl⟩ := hrel
    by_cases hks : k < s.size
    · have hb := s[k].toNat_lt
      have hnext := csum_take s k hks
      rw [← hC.out] at hnext
      have hxor := u32_xor_nat C s[k].toNat hlt (by omega)
      have hl := xor_lt (a := C) (b := s[k].toNat) hlt (by omega)
      go_wp2
      obtain ⟨X, hX⟩ : ∃ X, X = s[k].toNat := ⟨_, rfl⟩
      rw [← hX] at hb hnext hl hxor ⊢
      rw [← cbits_byte C X hb] at hnext
      obtain ⟨Z, hZ⟩ : ∃ Z, Z = C ^^^ X := ⟨_, rfl⟩
      rw [← hZ] at hnext hl ⊢
      have HN := Lib.hid hnext
      clear hX hnext hC hZ hxor
      go_loop [3, 5, 17] (fun c g i => ∃ (j D : Nat), j ≤ 8 ∧ i = .int .i64 j ∧ Hid (D = cbits j Z 0) ∧ D < 4294967296 ∧ c = .int .u32 (D : Nat)) (fun _ _ i => 8 - (intOf i).toNat)
      case atStart => exact ⟨0, Z, by omega, rfl, rfl, hl, rfl⟩
      case round =>
        obtain ⟨j, D, hj, rfl, hD, hDl, rfl⟩ := hrel
        by_cases hj8 : j < 8
        · have hnD : cbits (j + 1) Z 0 = cstep D 0 := by rw [cbits_snoc0, ← hD.out]
          have HD := Lib.hid hnD
          have ha := and32 D hDl
          clear hnD hD
          rcases Nat.mod_two_eq_zero_or_one D with hd | hd
          · have HE := Lib.hid (cstep_eq (c := D) (b := 0) hd)
            rw [hd] at ha
            clear hd
            go_wp2
            go_round
            case rel => exact ⟨j + 1, D / 2, by omega, by go_num, by show _ = _; rw [HD.out, HE.out], by omega, by go_num⟩
            case measure => simp [intOf]; omega
          · have HE := Lib.hid (cstep_other (c := D) (b := 0) (by omega))
            have hxor := xor32 (D / 2) (by omega)
            rw [show ((D / 2 : Nat) : Int) = (D : Int) / 2 by omega] at hxor
            have hl2 := xor_lt (a := D / 2) (b := 3988292384) (by omega) (by decide)
            rw [hd] at ha
            clear hd
            go_wp2
            go_round
            case rel => exact ⟨j + 1, _, by omega, by go_num, by show _ = _; rw [HD.out, HE.out], hl2, rfl⟩
            case measure => simp [intOf]; omega
        · obtain rfl : j = 8 := by omega
          go_wp2
          go_round
          case rel => exact ⟨k + 1, D, by omega, by go_num, by show D = _; rw [HN.out, hD.out], hDl, rfl⟩
          case measure => simp [intOf]; omega
    · obtain rfl : k = s.size := by omega
      have hall := csum_all s
      rw [← hC.out] at hall
      have hn := not32 C hlt
      go_wp2
      go_ret
      refine ⟨?_, rfl⟩
      rw [← hall]
      exact ret1 (by omega)
set_option maxRecDepth 100000 in
set_option maxHeartbeats 1000000 in
theorem sumOf_w (s : ByteArray) (w : World) (hs : s.size ≤ 1000000000000000000) :
    Calls Tryz.prog 93 #[.string s] w fun e w' => e = .returned (.string (sum4 s.data.toList)) ∧ Below w.heap.size w w' := by
  have cs := fun W => fSum_w s W hs
  have hFl := fsum_lt s.data.toList
  have hres : Hid ((⟨(le4 (fsum s.data.toList)).toArray⟩ : ByteArray) = sum4 s.data.toList) := rfl
  obtain ⟨F, hF⟩ : ∃ F, F = fsum s.data.toList := ⟨_, rfl⟩
  rw [← hF] at cs hFl hres
  clear hF
  have hcv := lay4_conv w F
  go_enter Tryz.func93, Tryz.ntmps93
  go_wp2_with (go_at_call 126; refine (cs _).mono ?_; rintro e w1 ⟨rfl, rfl⟩)
  go_loopw [5, 8] (fun g i wr => ∃ j : Nat, j ≤ 4 ∧ i = .int .i64 j ∧ wr = w.alloc (.cells (lay4 F j) 160)) (fun _ i _ => 4 - (intOf i).toNat)
  case atStart => exact ⟨0, by omega, rfl, rfl⟩
  case round =>
    obtain ⟨j, hj, rfl, rfl⟩ := hrel
    clear cs
    by_cases hlt : j < 4
    · have hat := lay4_at F j hlt
      obtain rfl | rfl | rfl | rfl : j = 0 ∨ j = 1 ∨ j = 2 ∨ j = 3 := by omega
      all_goals
        go_wp2
        go_roundw
        case measure => simp [intOf]
      · exact ⟨1, by omega, by go_num, put_byte (by omega) (by omega)⟩
      · exact ⟨2, by omega, by go_num, put_byte (by omega) (by omega)⟩
      · exact ⟨3, by omega, by go_num, put_byte (by omega) (by omega)⟩
      · exact ⟨4, by omega, by go_num, put_byte (by omega) (by omega)⟩
    · obtain rfl : j = 4 := by omega
      go_wp2
      go_ret
      exact ⟨by rw [← hres.out]; rfl, (Below.refl _ _).alloc (Nat.le_refl _) _⟩
set_option maxRecDepth 100000 in
set_option maxHeartbeats 1000000 in
theorem fRead_w (s : ByteArray) (a : Int) (w : World) (hs : s.size ≤ 1000000000000000000) (h1 : -9223372036854775808 ≤ a) (h2 : a ≤ 9223372036854775807) :
    Calls Tryz.prog 73 #[.string s, .int .i64 a] w fun e w' => e = .returned (.tuple #[.string (frAt s a).1, .int .i64 (frAt s a).2.1, .int .i64 ((frAt s a).2.2 : Int)]) ∧ Below w.heap.size w w' := by
  by_cases hout : a < 0 ∨ (s.size : Int) < a
  · rw [frAt_out hout]
    by_cases h0 : a < 0
    · clear hout
      go_enter Tryz.func73, Tryz.ntmps73
      go_wp2_with fail
      go_ret3
      exact ⟨rfl, Below.refl _ _⟩
    · have h3 : (s.size : Int) < a := by omega
      clear hout
      go_enter Tryz.func73, Tryz.ntmps73
      go_wp2_with fail
      go_ret3
      exact ⟨rfl, Below.refl _ _⟩
  · obtain ⟨k, rfl⟩ : ∃ k : Nat, a = (k : Int) := ⟨a.toNat, by omega⟩
    have hk : k ≤ s.size := by omega
    have hk' : (k : Int) ≤ s.size := by omega
    have hXs : (s.extract k s.size).size = s.size - k := by simp
    have cn := fun W => new_any (s.extract k s.size) W
    have ct := fun W (h : Rat W w.heap.size (s.extract k s.size)) => text_w w.heap.size (s.extract k s.size) W h (by omega)
    have hR0 := rat_new w (s.extract k s.size)
    clear hout
    rcases fr_e (s.extract k s.size) with ⟨e, h0, h1, h2, h3⟩ | ⟨t, n, h, hn, ht, hlt, h3⟩ | ⟨t, n, h, hn, ht, hne, h3⟩ | ⟨t, n, h, hn, ht, heq, h3⟩
    · obtain ⟨t, n, e', h⟩ := trip (rdT (s.extract k s.size))
      rw [h] at ct h2
      have h2' : e' = e := h2
      subst h2'
      rw [frAt_bad hk h3 h0]
      have hne : ((e' : Int) == 0) = false := by simp; omega
      have hne' : (!((e' : Int) == 0)) = true := by simp; omega
      clear h h3 h2 h0
      go_enter Tryz.func73, Tryz.ntmps73
      go_wp2_with (go_at_call 106; refine (cn _).mono ?_; rintro e w1 ⟨rfl, rfl⟩)
      go_at_call 107
      refine (ct _ hR0).mono ?_
      rintro e w2 ⟨rfl, hR, hg⟩
      have hb := below_at ((Below.refl w.heap.size w).alloc (Nat.le_refl _) _) hg (Nat.le_refl _)
      go_wp2_with fail
      go_ret3
      exact ⟨rfl, hb⟩
    · rw [frAt_bad hk h3 (by omega)]
      rw [h] at ct
      have hL : ((s.extract k s.size).extract n (s.extract k s.size).size).size = (s.extract k s.size).size - n := by simp
      have cl := fun W b h => left_w b ((s.extract k s.size).extract n (s.extract k s.size).size) W h (by omega)
      rw [hL] at cl
      have hlt' : (((s.extract k s.size).size - n : Nat) : Int) < 4 := by omega
      obtain ⟨L, hL2⟩ : ∃ L, L = (s.extract k s.size).size - n := ⟨_, rfl⟩
      rw [← hL2] at cl hlt'
      clear h h3 hL hL2
      go_enter Tryz.func73, Tryz.ntmps73
      go_wp2_with (go_at_call 106; refine (cn _).mono ?_; rintro e w1 ⟨rfl, rfl⟩)
      go_at_call 107
      refine (ct _ hR0).mono ?_
      rintro e w2 ⟨rfl, hR, hg⟩
      have hb := below_at ((Below.refl w.heap.size w).alloc (Nat.le_refl _) _) hg (Nat.le_refl _)
      go_wp2_with (go_at_call 108; refine (cl _ _ hR).mono ?_; rintro e w3 ⟨rfl, rfl⟩)
      go_ret3
      exact ⟨rfl, hb⟩
    · rw [frAt_bad hk h3 (by omega)]
      have hne2 : (s.extract k s.size).extract n (n + 4) ≠ sum4 t.data.toList := fun h4 => hne ((pk_iff h).2 h4)
      rw [within s k n (by omega)] at hne2
      rw [h] at ct
      have hL : ((s.extract k s.size).extract n (s.extract k s.size).size).size = (s.extract k s.size).size - n := by simp
      have cl := fun W b h => left_w b ((s.extract k s.size).extract n (s.extract k s.size).size) W h (by omega)
      rw [hL] at cl
      obtain ⟨L, hL2⟩ : ∃ L, L = (s.extract k s.size).size - n := ⟨_, rfl⟩
      rw [← hL2] at cl
      have hL3 : 4 ≤ (L : Int) := by omega
      have hL4 : (s.size : Int) - (L : Int) = ((k + n : Nat) : Int) := by omega
      have hw : IntKind.i64.wrap (((k + n : Nat) : Int)) = ((k + n : Nat) : Int) := IntWalk.i64_in _ (by omega)
      have hw2 : IntKind.i64.wrap (((k + n : Nat) : Int) + 4) = ((k + n : Nat) : Int) + 4 := IntWalk.i64_in _ (by omega)
      have hx := bytes_ne hne2
      have csu := fun W => sumOf_w t W (by omega)
      obtain ⟨Q, hQ⟩ : ∃ Q, Q = sum4 t.data.toList := ⟨_, rfl⟩
      rw [← hQ] at hx csu
      have hle : ((k + n : Nat) : Int) + 4 ≤ s.size := by omega
      clear h h3 hL hL2 hne hne2 hQ
      go_enter Tryz.func73, Tryz.ntmps73
      go_wp2_with (go_at_call 106; refine (cn _).mono ?_; rintro e w1 ⟨rfl, rfl⟩)
      go_at_call 107
      refine (ct _ hR0).mono ?_
      rintro e w2 ⟨rfl, hR, hg⟩
      have hb := below_at ((Below.refl w.heap.size w).alloc (Nat.le_refl _) _) hg (Nat.le_refl _)
      go_wp2_with (go_at_call 108; refine (cl _ _ hR).mono ?_; rintro e w3 ⟨rfl, rfl⟩)
      go_region_with ((go_at_call 93; refine (csu _).mono ?_; rintro e w1 ⟨rfl, hb1⟩))
      all_goals
        go_wp2_with fail
        go_ret3
        exact ⟨rfl, below_call hb.drew hb1⟩
    · rw [frAt_ok hk h3]
      have hne2 : (s.extract k s.size).extract n (n + 4) = sum4 t.data.toList := (pk_iff h).1 heq
      rw [within s k n (by omega)] at hne2
      rw [h] at ct
      have hL : ((s.extract k s.size).extract n (s.extract k s.size).size).size = (s.extract k s.size).size - n := by simp
      have cl := fun W b h => left_w b ((s.extract k s.size).extract n (s.extract k s.size).size) W h (by omega)
      rw [hL] at cl
      obtain ⟨L, hL2⟩ : ∃ L, L = (s.extract k s.size).size - n := ⟨_, rfl⟩
      rw [← hL2] at cl
      have hL3 : 4 ≤ (L : Int) := by omega
      have hL4 : (s.size : Int) - (L : Int) = ((k + n : Nat) : Int) := by omega
      have hw : IntKind.i64.wrap (((k + n : Nat) : Int)) = ((k + n : Nat) : Int) := IntWalk.i64_in _ (by omega)
      have hw2 : IntKind.i64.wrap (((k + n : Nat) : Int) + 4) = ((k + n : Nat) : Int) + 4 := IntWalk.i64_in _ (by omega)
      have hx : ((s.extract (k + n) (k + n + 4)).toList == (sum4 t.data.toList).toList) = true := by rw [hne2]; exact beq_self_eq_true _
      have csu := fun W => sumOf_w t W (by omega)
      obtain ⟨Q, hQ⟩ : ∃ Q, Q = sum4 t.data.toList := ⟨_, rfl⟩
      rw [← hQ] at hx csu
      have hle : ((k + n : Nat) : Int) + 4 ≤ s.size := by omega
      clear h h3 hL hL2 heq hne2 hQ
      go_enter Tryz.func73, Tryz.ntmps73
      go_wp2_with (go_at_call 106; refine (cn _).mono ?_; rintro e w1 ⟨rfl, rfl⟩)
      go_at_call 107
      refine (ct _ hR0).mono ?_
      rintro e w2 ⟨rfl, hR, hg⟩
      have hb := below_at ((Below.refl w.heap.size w).alloc (Nat.le_refl _) _) hg (Nat.le_refl _)
      go_wp2_with (go_at_call 108; refine (cl _ _ hR).mono ?_; rintro e w3 ⟨rfl, rfl⟩)
      go_region_with ((go_at_call 93; refine (csu _).mono ?_; rintro e w1 ⟨rfl, hb1⟩))
      all_goals
        go_wp2_with fail
        go_ret3
        exact ⟨ret3s rfl (by omega) rfl, below_call hb.drew hb1⟩
set_option maxRecDepth 100000 in
set_option maxHeartbeats 1000000 in
theorem fScan_w (s : ByteArray) (w : World) (hs : s.size ≤ 1000000000000000000) (hk : (sc s 0).1.length ≤ 10000000000) :
    Calls Tryz.prog 142 #[.string s] w (ScanTo s w) := by
  obtain ⟨i0, hi, hz0, hz1, hz2⟩ := info_parts info9
  go_enter Tryz.func142, Tryz.ntmps142
  go_wp2_with fail
  go_loopw [2, 3, 5, 6, 7] (fun v i _ _ _ wr => ∃ (pre : List ByteArray) (a : Nat), i = .int .i64 a ∧ Far s pre a ∧ Texts wr w.heap.size v pre ∧ Below w.heap.size w wr) (fun _ i _ _ _ _ => s.size - (intOf i).toNat)
  case atStart => exact ⟨[], 0, rfl, far_start s, World.ownsRow_nil _ _ _ _, Below.refl _ _⟩
  case round =>
    obtain ⟨pre, a, rfl, hfar, htx, hb⟩ := hrel
    have ha := hfar.2.1
    have hp := hfar.2.2
    have hsz := hb.size
    by_cases hlt : a < s.size
    · obtain ⟨t, n, e, h2⟩ := trip (fr (s.extract a s.size))
      have c := fRead_w s a wr (by omega) (by omega) (by omega)
      have ha' : (a : Int) ≤ s.size := by omega
      by_cases he : e = 0
      · subst he
        rw [frAt_ok ha h2] at c
        simp only at c
        have hfar' := far_step hfar hlt h2
        have hn := (fr_ok h2).2.1
        have ha2 := hfar'.2.1
        have hmore : pre.length + 1 ≤ 10000000000 := by
          have h5 := congrArg (fun q => q.1.length) hfar'.1
          simp only [List.length_append, List.length_cons, List.length_nil] at h5
          omega
        have HF := Lib.hid hfar'
        clear hfar hfar' h2
        go_wp2_with fail
        go_at_call 73
        refine c.mono ?_
        rintro e w1 ⟨rfl, hb1⟩
        have htx1 := htx.below hb1
        have hb2 := below_call hb hb1
        have hsz2 := hb2.size
        have hown := htx1
        unfold Texts at hown
        clear htx htx1 hb1 hb c
        go_wp2_with (at_builtin; refine wpList_append_own _ rfl _ _ 84 rfl w.heap.size 9 i0 (.string ⟨#[]⟩) 1 16 Tryz.underlying84 hi hz0 hz1 hz2 rfl (by decide) _ _ _ rfl (hown.alloc _) ⟨w1.heap.size, 0, none⟩ 1 1 [sv t] rfl rfl ?c1 ?c2 ?c3 ?c4 ?c5 ?_)
        case c1 => exact cell_one_new _ _ _
        case c2 => exact sv_one [t]
        case c3 => have := hmore; unfold maxLen; omega
        case c4 => have := hmore; omega
        case c5 => have := hmore; simp; omega
        intro v' w2 hown' hgrow _
        have hb3 := below_step hb2 hown hgrow
        have htx2 : Texts w2 w.heap.size v' (pre ++ [t]) := by
          unfold Texts
          rw [List.length_append, List.map_append]
          exact hown'
        clear hown hown' hgrow hb2
        go_wp2_with fail
        go_roundw
        case rel => exact ⟨pre ++ [t], a + n, by go_num, HF.out, htx2, hb3⟩
        case measure => simp only [intOf]; omega
      · have hend := far_bad hfar hlt h2 he
        rw [frAt_bad ha h2 he] at c
        have hne : ((e : Int) == 0) = false := by simp; omega
        have hne' : (!((e : Int) == 0)) = true := by simp; omega
        have HE := Lib.hid hend
        clear hfar h2 hend he
        go_wp2_with fail
        go_at_call 73
        refine c.mono ?_
        rintro e w1 ⟨rfl, hb1⟩
        have htx1 := htx.below hb1
        have hb2 := below_call hb hb1
        clear htx hb hb1 c
        go_wp2_with fail
        go_ret3
        unfold ScanTo
        rw [HE.out]
        exact ⟨_, rfl, htx1, hb2⟩
    · have hend := far_end hfar hlt
      have HE := Lib.hid hend
      clear hfar hend
      go_wp2_with fail
      go_ret3
      unfold ScanTo
      rw [HE.out]
      exact ⟨_, rfl, htx, hb⟩
end Go.Proofs.YtjdfffkkpbabpaaGreat.Fr

namespace Go.Proofs.YtjdfffkkpbabpaaGreat.Pl
open Go.RowKit Pm Tx
set_option linter.unusedVariables false
def st : ByteArray := ⟨#[47]⟩
set_option maxRecDepth 100000 in
set_option maxHeartbeats 1000000 in
theorem lastByte_any (s : ByteArray) (w : World) (hs : s.size ≤ 562949953421312) :
    Calls Tryz.prog 183 #[.string s, .int .u8 47] w fun e w' => e = .returned (.int .i64 ((lastN s.data.toList : Nat) - 1)) ∧ w = w' := by
  go_enter Tryz.func183, Tryz.ntmps183
  go_wp2
  go_loop [5] (fun vi => ∃ k : Nat, k ≤ s.size ∧ vi = .int .i64 ((k : Int) - 1) ∧ Hid (lastN s.data.toList = lastN (s.data.toList.take k))) (fun vi => ((intOf vi) + 1).toNat)
  case atStart => exact ⟨s.size, Nat.le_refl _, by first | rfl | go_num | (congr 1; omega), by rw [Pr.take_all]; rfl⟩
  case round =>
    obtain ⟨k, hk, rfl, hh⟩ := hrel
    rcases Nat.eq_zero_or_pos k with rfl | hpos
    · have h0 := Lib.hid hh.out
      clear hh
      go_wp2
      go_ret
      rw [h0.out]
      exact ⟨rfl, rfl⟩
    · obtain ⟨j, rfl⟩ : ∃ j, k = j + 1 := ⟨k - 1, by omega⟩
      have hlt : j < s.size := by omega
      have hn := lastN_snoc (s.data.toList.take j) s[j]
      rw [← Pr.take_at s j hlt, List.length_take, len_l, Nat.min_eq_left (by omega), ← hh.out] at hn
      have ej : ((j + 1 : Nat) : Int) - 1 = (j : Int) := by omega
      rw [ej]
      by_cases hc : s[j].toNat = 47
      · rw [if_pos (UInt8.toNat_inj.1 hc)] at hn
        have HN := Lib.hid hn
        have e : ((s[j].toNat : Int) == 47) = true := by simp [hc]
        clear hn hc hh
        go_wp2
        go_ret
        rw [HN.out]
        exact ⟨by rw [ej]; rfl, rfl⟩
      · rw [if_neg (fun e => hc (by rw [e]; rfl))] at hn
        have HN := Lib.hid hn
        have e : ((s[j].toNat : Int) == 47) = false := beq_eq_false_iff_ne.2 (by omega)
        clear hn hc hh
        go_wp2
        go_round
        case rel => exact ⟨j, by omega, rfl, HN.out⟩
        case measure => simp [intOf]
set_option maxRecDepth 100000 in
set_option maxHeartbeats 1000000 in
theorem last_any (s : ByteArray) (w : World) (hs : s.size ≤ 562949953421312) :
    Calls Tryz.prog 180 #[.string s, .string ⟨#[47]⟩] w fun e w' => e = .returned (.int .i64 ((lastN s.data.toList : Nat) - 1)) ∧ w = w' := by
  go_enter Tryz.func180, Tryz.ntmps180
  go_wp2_with (go_at_call 183; refine (lastByte_any _ _ hs).mono ?_; rintro e w' ⟨rfl, rfl⟩)
  go_ret
  exact ⟨rfl, rfl⟩
set_option maxRecDepth 100000 in
set_option maxHeartbeats 1000000 in
theorem count_any (s : ByteArray) (w : World) :
    Calls Tryz.prog 163 #[.string s, .string ⟨#[47]⟩] w fun e w' => e = .returned (.int .i64 (s.data.toList.count 47 : Nat)) ∧ w = w' := by
  go_enter Tryz.func163, Tryz.ntmps163
  go_wp2
  rw [run_callFunc_extern Tryz.func178 (by kernel_rfl) (by kernel_rfl) (by kernel_rfl) (e := Extern.BytealgCount.count) (by kernel_rfl), Lib.run_countString]
  simp only [Result.andThen]
  rw [Oper.upon_value]
  go_wp2
  go_ret
  exact ⟨rfl, rfl⟩
set_option maxRecDepth 100000 in
set_option maxHeartbeats 1000000 in
theorem indexByte_any (s : ByteArray) (w : World) :
    Calls Tryz.prog 185 #[.string s, .int .u8 47] w fun e w' => e = .returned (.int .i64 (Lib.indexByte s.data.toList 47)) ∧ w = w' := by
  go_enter Tryz.func185, Tryz.ntmps185
  go_wp2
  rw [run_callFunc_extern Tryz.func190 (by kernel_rfl) (by kernel_rfl) (by kernel_rfl) (e := Extern.BytealgIndexByte.indexByte) (by kernel_rfl), Lib.run_indexByteString]
  simp only [Result.andThen]
  rw [Oper.upon_value]
  go_wp2
  go_ret
  exact ⟨rfl, rfl⟩
set_option maxRecDepth 100000 in
set_option maxHeartbeats 1000000 in
theorem index_any (s : ByteArray) (w : World) :
    Calls Tryz.prog 182 #[.string s, .string ⟨#[47]⟩] w fun e w' => e = .returned (.int .i64 (Lib.indexByte s.data.toList 47)) ∧ w = w' := by
  go_enter Tryz.func182, Tryz.ntmps182
  go_wp2_with (go_at_call 185; refine (indexByte_any _ _).mono ?_; rintro e w' ⟨rfl, rfl⟩)
  · have h : ([47] == s.toList) = true := by assumption
    go_ret
    refine ⟨?_, rfl⟩
    have e : s.data.toList = [47] := by rw [← Lib.toList_data]; exact (beq_iff_eq.1 h).symm
    rw [e]
    simp [Lib.indexByte]
  · go_ret
    exact ⟨rfl, rfl⟩
def hasSt (l : List UInt8) : Bool := l.contains 47
def cutA : List UInt8 → List UInt8
  | [] => []
  | c :: r => if c = 47 then [] else c :: cutA r
def cutB : List UInt8 → List UInt8
  | [] => []
  | c :: r => if c = 47 then r else cutB r
theorem cut_in (l : List UInt8) (i : Nat) (h : Lib.indexByte l 47 = i) : i < l.length ∧ cutA l = l.take i ∧ cutB l = l.drop (i + 1) ∧ 47 ∈ l := by
  induction l generalizing i with
  | nil => simp [Lib.indexByte] at h
  | cons c r ih =>
    rw [Lib.indexByte] at h
    by_cases hc : c = 47
    · rw [if_pos (by simp [hc])] at h
      obtain rfl : i = 0 := by omega
      simp [cutA, cutB, hc]
    · rw [if_neg (by simpa using hc)] at h
      have hge := Lib.indexByte_ge r 47
      by_cases hn : Lib.indexByte r 47 = -1
      · rw [if_pos (by simp [hn])] at h
        omega
      · rw [if_neg (by simp [hn])] at h
        obtain ⟨j, rfl⟩ : ∃ j, i = j + 1 := ⟨i - 1, by omega⟩
        obtain ⟨h1, h2, h3, h4⟩ := ih j (by push_cast at h; omega)
        simp [cutA, cutB, hc, h2, h3, h4]
        omega
theorem cut_out (l : List UInt8) (h : Lib.indexByte l 47 = -1) : cutA l = l ∧ cutB l = [] ∧ 47 ∉ l := by
  induction l with
  | nil => simp [cutA, cutB]
  | cons c r ih =>
    rw [Lib.indexByte] at h
    by_cases hc : c = 47
    · rw [if_pos (by simp [hc])] at h
      omega
    · rw [if_neg (by simpa using hc)] at h
      have hge := Lib.indexByte_ge r 47
      by_cases hn : Lib.indexByte r 47 = -1
      · obtain ⟨h1, h2, h3⟩ := ih hn
        simp [cutA, cutB, hc, h1, h2, h3, Ne.symm hc]
      · rw [if_neg (by simp [hn])] at h
        omega
set_option maxRecDepth 100000 in
set_option maxHeartbeats 1000000 in
theorem cutLite_any (s : ByteArray) (w : World) (hs : s.size ≤ 562949953421312) :
    Calls Tryz.prog 175 #[.string s, .string ⟨#[47]⟩] w fun e w' => e = .returned (.tuple #[.string (tb (cutA s.data.toList)), .string (tb (cutB s.data.toList)), .bool (hasSt s.data.toList)]) ∧ ∃ n, w' = w.drewN n := by
  have hge := Lib.indexByte_ge s.data.toList 47
  by_cases hm : Lib.indexByte s.data.toList 47 = -1
  · obtain ⟨e1, e2, e3⟩ := cut_out _ hm
    have e4 : hasSt s.data.toList = false := by simpa [hasSt] using e3
    rw [e1, e2, e4, tb_of]
    clear e1 e2 e3 e4
    go_enter Tryz.func175, Tryz.ntmps175
    go_wp2_with (go_at_call 182; refine (index_any _ _).mono ?_; rintro e w' ⟨rfl, rfl⟩; rw [hm])
    go_ret3
    exact ⟨rfl, 0, rfl⟩
  · obtain ⟨i, hi⟩ : ∃ i : Nat, Lib.indexByte s.data.toList 47 = i := ⟨(Lib.indexByte s.data.toList 47).toNat, by omega⟩
    obtain ⟨hlt, e1, e2, e3⟩ := cut_in _ i hi
    rw [len_l] at hlt
    have e4 : hasSt s.data.toList = true := by simpa [hasSt] using e3
    have x1 : tb (cutA s.data.toList) = s.extract 0 i := by
      apply ByteArray.ext
      apply Array.toList_inj.1
      rw [ByteArray.data_extract, Array.toList_extract, List.extract_eq_take_drop, e1]
      simp [tb]
    have x2 : tb (cutB s.data.toList) = s.extract (i + 1) s.size := by
      apply ByteArray.ext
      apply Array.toList_inj.1
      rw [ByteArray.data_extract, Array.toList_extract, List.extract_eq_take_drop, e2]
      rw [List.take_of_length_le (by rw [List.length_drop, len_l]; omega)]
      rfl
    rw [x1, x2, e4]
    have c1 : (0 : Int) ≤ ↑i := by omega
    have c2 : (↑i : Int) ≤ ↑s.size := by omega
    have c3 : (0 : Int) ≤ ↑i + 1 := by omega
    have c4 : (↑i + 1 : Int) ≤ ↑s.size := by omega
    clear e1 e2 e3 e4 x1 x2 hge hm
    go_enter Tryz.func175, Tryz.ntmps175
    go_wp2_with (go_at_call 182; refine (index_any _ _).mono ?_; rintro e w' ⟨rfl, rfl⟩; rw [hi])
    go_region
    go_wp2
    go_ret3
    exact ⟨rfl, 1, rfl⟩
set_option maxRecDepth 100000 in
set_option maxHeartbeats 1000000 in
theorem cut_any (s : ByteArray) (w : World) (hs : s.size ≤ 562949953421312) :
    Calls Tryz.prog 161 #[.string s, .string ⟨#[47]⟩] w fun e w' => e = .returned (.tuple #[.string (tb (cutA s.data.toList)), .string (tb (cutB s.data.toList)), .bool (hasSt s.data.toList)]) ∧ ∃ n, w' = w.drewN n := by
  go_enter Tryz.func161, Tryz.ntmps161
  go_wp2_with (go_at_call 175; refine (cutLite_any _ _ hs).mono ?_; rintro e w' ⟨rfl, n, rfl⟩)
  go_ret3
  exact ⟨rfl, n, rfl⟩
set_option maxRecDepth 100000 in
set_option maxHeartbeats 1000000 in
theorem hasPrefixLite_any (s p : ByteArray) (w : World) (hs : s.size ≤ 562949953421312) (hp : p.size ≤ 562949953421312) :
    Calls Tryz.prog 131 #[.string s, .string p] w fun e w' => e = .returned (.bool (Lib.hasPrefix s.data.toList p.data.toList)) ∧ w = w' := by
  rw [← Lib.hasPrefix_raw]
  go_enter Tryz.func131, Tryz.ntmps131
  go_wp2
  · rename_i h
    go_ret
    refine ⟨?_, rfl⟩
    simp [h]
  · rename_i h
    go_ret
    refine ⟨?_, rfl⟩
    simp [h]
set_option maxRecDepth 100000 in
set_option maxHeartbeats 1000000 in
theorem hasPrefix_any (s p : ByteArray) (w : World) (hs : s.size ≤ 562949953421312) (hp : p.size ≤ 562949953421312) :
    Calls Tryz.prog 99 #[.string s, .string p] w fun e w' => e = .returned (.bool (Lib.hasPrefix s.data.toList p.data.toList)) ∧ w = w' := by
  go_enter Tryz.func99, Tryz.ntmps99
  go_wp2_with (go_at_call 131; refine (hasPrefixLite_any _ _ _ hs hp).mono ?_; rintro e w' ⟨rfl, rfl⟩)
  go_ret
  exact ⟨rfl, rfl⟩
end Go.Proofs.YtjdfffkkpbabpaaGreat.Pl

namespace Go.Proofs.YtjdfffkkpbabpaaGreat.Pr
open Go.RowKit Pm Tx Pl
set_option linter.unusedVariables false
theorem count_spl (l : List UInt8) : l.count 47 + 1 = (spl l).length := by
  induction l with
  | nil => rfl
  | cons c r ih =>
    rw [spl]
    by_cases hc : c = 47
    · rw [if_pos hc, List.length_cons, ← ih, hc, List.count_cons_self]
    · rw [if_neg hc, List.count_cons_of_ne hc]
      cases hs : spl r with
      | nil => exact absurd hs (spl_ne r)
      | cons x xs => rw [ih, hs]; rfl
theorem spl_cut (l : List UInt8) : spl l = cutA l :: (if hasSt l then spl (cutB l) else []) := by
  induction l with
  | nil => rfl
  | cons c r ih =>
    rw [spl]
    by_cases hc : c = 47
    · simp [hc, cutA, cutB, hasSt]
    · have e : hasSt (c :: r) = hasSt r := by simp [hasSt, Ne.symm hc]
      rw [if_neg hc, ih, cutA, if_neg hc, cutB, if_neg hc, e]
theorem cutB_le (l : List UInt8) : (cutB l).length ≤ l.length := by
  induction l with
  | nil => exact Nat.le_refl _
  | cons c r ih =>
    rw [cutB]
    split
    · simp
    · simp; omega
theorem cutB_lt (l : List UInt8) (h : hasSt l = true) : (cutB l).length < l.length := by
  induction l with
  | nil => simp [hasSt] at h
  | cons c r ih =>
    rw [cutB]
    by_cases hc : c = 47
    · rw [if_pos hc]; simp
    · rw [if_neg hc]
      have := ih (by simpa [hasSt, Ne.symm hc] using h)
      simp; omega
theorem cutA_le (l : List UInt8) : (cutA l).length ≤ l.length := by
  induction l with
  | nil => exact Nat.le_refl _
  | cons c r ih =>
    rw [cutA]
    split
    · simp
    · simp; omega
def okR (c : Nat) : Bool := (97 ≤ c && c ≤ 122) || (48 ≤ c && c ≤ 57) || c == 95
set_option maxRecDepth 100000 in
set_option maxHeartbeats 1000000 in
theorem inName_any (X : Nat) (w : World) (hX : X ≤ 2147483647) :
    Calls Tryz.prog 176 #[.int .i32 X] w fun e w' => e = .returned (.bool (okR X)) ∧ w = w' := by
  rcases show (X < 48) ∨ (57 < X ∧ X < 95) ∨ X = 96 ∨ 122 < X ∨ (48 ≤ X ∧ X ≤ 57) ∨ X = 95 ∨ (97 ≤ X ∧ X ≤ 122) by omega with h | h | h | h | h | h | h
  · have hb : okR X = false := by simp [okR]; omega
    have e : ((X : Int) == 95) = false := beq_eq_false_iff_ne.2 (by omega)
    rw [hb]
    go_enter Tryz.func176, Tryz.ntmps176
    go_wp2
    go_ret
    exact ⟨rfl, rfl⟩
  · have hb : okR X = false := by simp [okR]; omega
    have e : ((X : Int) == 95) = false := beq_eq_false_iff_ne.2 (by omega)
    have d57 : decide ((X : Int) ≤ 57) = false := decide_eq_false (by omega)
    rw [hb]
    go_enter Tryz.func176, Tryz.ntmps176
    go_wp2
    go_ret
    exact ⟨rfl, rfl⟩
  · have hb : okR X = false := by simp [okR]; omega
    have e : ((X : Int) == 95) = false := beq_eq_false_iff_ne.2 (by omega)
    have d57 : decide ((X : Int) ≤ 57) = false := decide_eq_false (by omega)
    rw [hb]
    go_enter Tryz.func176, Tryz.ntmps176
    go_wp2
    go_ret
    exact ⟨rfl, rfl⟩
  · have hb : okR X = false := by simp [okR]; omega
    have e : ((X : Int) == 95) = false := beq_eq_false_iff_ne.2 (by omega)
    have d57 : decide ((X : Int) ≤ 57) = false := decide_eq_false (by omega)
    have d122 : decide ((X : Int) ≤ 122) = false := decide_eq_false (by omega)
    rw [hb]
    go_enter Tryz.func176, Tryz.ntmps176
    go_wp2
    go_ret
    exact ⟨rfl, rfl⟩
  · have hb : okR X = true := by simp [okR]; omega
    have e : ((X : Int) == 95) = false := beq_eq_false_iff_ne.2 (by omega)
    rw [hb]
    go_enter Tryz.func176, Tryz.ntmps176
    go_wp2
    go_ret
    exact ⟨rfl, rfl⟩
  · have hb : okR X = true := by simp [okR]; omega
    have e : ((X : Int) == 95) = true := by simp [h]
    rw [hb]
    go_enter Tryz.func176, Tryz.ntmps176
    go_wp2
    go_ret
    exact ⟨rfl, rfl⟩
  · have hb : okR X = true := by simp [okR]; omega
    have e : ((X : Int) == 95) = false := beq_eq_false_iff_ne.2 (by omega)
    rw [hb]
    go_enter Tryz.func176, Tryz.ntmps176
    go_wp2
    go_ret
    exact ⟨rfl, rfl⟩
theorem below_iter (w : World) (s : ByteArray) (pos : Nat) : Below w.heap.size w (w.iter s pos) := by
  have := (Below.refl w.heap.size w).alloc (Nat.le_refl _) (.stringIter s pos)
  exact this
set_option maxRecDepth 100000 in
set_option maxHeartbeats 1000000 in
theorem pName_any (s : ByteArray) (w : World) (hs : s.size ≤ 562949953421312) :
    Calls Tryz.prog 162 #[.string s] w fun e w' => e = .returned (.bool (isName s.data.toList)) ∧ Below w.heap.size w w' := by
  by_cases h0 : s = ⟨#[]⟩
  · have hn : isName s.data.toList = false := by rw [list_nil h0]; rfl
    have e1 := is_empty h0
    rw [hn]
    clear hn h0
    go_enter Tryz.func162, Tryz.ntmps162
    go_wp2
    go_ret
    exact ⟨rfl, Below.refl _ _⟩
  have hpos : 1 ≤ s.size := by
    rcases Nat.eq_zero_or_pos s.size with h | h
    · exact absurd (size_zero.1 h) h0
    · exact h
  have e1 := not_empty h0
  clear h0
  by_cases h12 : s.size ≤ 12
  · go_enter Tryz.func162, Tryz.ntmps162
    go_wp2
    go_loopw [] (fun wr => ∃ k : Nat, k ≤ s.size ∧ wr = w.iter s k ∧ Hid ((s.data.toList.take k).all okC = true)) (fun wr => s.size - wr.iterPos w.heap.size)
    case atStart => exact ⟨0, Nat.zero_le _, rfl, rfl⟩
    case round =>
      obtain ⟨k, hk, rfl, hall⟩ := hrel
      by_cases hlt : k < s.size
      · have hnx : ∀ ty, (Instr.next (.pointer (some ⟨w.heap.size, 0, none⟩)) true ty).run Tryz.prog (w.iter s k) = _ := fun ty => run_next_any w s k ty hlt
        have hd1 := decode_le s k
        by_cases ha : s[k].toNat < 128
        · rw [decode_ascii s k hlt ha] at hnx
          have hgood := fun h => Lib.hid (all_at s k hlt hall.out h)
          have hbad := fun h => Lib.hid (all_not s k hlt h)
          obtain ⟨X, hXe⟩ : ∃ X, X = s[k].toNat := ⟨_, rfl⟩
          have hok : okC s[k] = okR X := by rw [hXe]; rfl
          rw [hok] at hgood hbad
          rw [← hXe] at hnx ha
          clear hok hXe hall hd1
          cases hx : okR X with
          | true =>
            have hb := hgood hx
            clear hgood hbad
            go_wp2_with (go_at_call 176; refine (inName_any X _ (by omega)).mono ?_; rintro e w' ⟨rfl, rfl⟩; rw [hx])
            go_roundw
            case rel => exact ⟨k + 1, by omega, rfl, hb.out⟩
            case measure => simp; omega
          | false =>
            have hb := hbad hx
            clear hgood hbad
            go_wp2_with (go_at_call 176; refine (inName_any X _ (by omega)).mono ?_; rintro e w' ⟨rfl, rfl⟩; rw [hx])
            go_ret
            exact ⟨by rw [hb.out]; rfl, below_iter _ _ _⟩
        · have hdh := (decode_high s k hlt (by omega)).1
          have hb := Lib.hid (all_not s k hlt (by simp [okC]; omega))
          obtain ⟨X, hXe⟩ : ∃ X, X = (Utf8.decode s k).1 := ⟨_, rfl⟩
          rw [← hXe] at hnx hdh hd1
          have hx : okR X = false := by simp [okR]; omega
          clear hXe hall
          go_wp2_with (go_at_call 176; refine (inName_any X _ (by omega)).mono ?_; rintro e w' ⟨rfl, rfl⟩; rw [hx])
          go_ret
          exact ⟨by rw [hb.out]; rfl, below_iter _ _ _⟩
      · have hnx : ∀ ty, (Instr.next (.pointer (some ⟨w.heap.size, 0, none⟩)) true ty).run Tryz.prog (w.iter s k) = _ := fun ty => run_next_end w s k ty hlt
        obtain rfl : k = s.size := by omega
        have hn : isName s.data.toList = true := by
          have h := hall.out
          rw [take_all] at h
          rw [isName, h, len_l]
          simp [hpos, h12]
        have HN := Lib.hid hn
        clear hn hall
        go_wp2
        go_ret
        exact ⟨by rw [HN.out]; rfl, below_iter _ _ _⟩
  · have hn : isName s.data.toList = false := by
      rw [isName, len_l]
      simp [h12]
    rw [hn]
    go_enter Tryz.func162, Tryz.ntmps162
    go_wp2
    go_ret
    exact ⟨rfl, Below.refl _ _⟩
set_option maxRecDepth 100000 in
set_option maxHeartbeats 1000000 in
theorem lastStroke_any (s : ByteArray) (w : World) (hs : s.size ≤ 562949953421312) :
    Calls Tryz.prog 164 #[.string s] w fun e w' => e = .returned (.int .i64 ((lastN s.data.toList : Nat) - 1)) ∧ w = w' := by
  go_enter Tryz.func164, Tryz.ntmps164
  go_wp2_with (go_at_call 180; refine (last_any _ _ hs).mono ?_; rintro e w' ⟨rfl, rfl⟩)
  go_ret
  exact ⟨rfl, rfl⟩
set_option maxRecDepth 100000 in
set_option maxHeartbeats 1000000 in
theorem pParent_any (s : ByteArray) (w : World) (hs : s.size ≤ 562949953421312) :
    Calls Tryz.prog 137 #[.string s] w fun e w' => e = .returned (.string (tb (par s.data.toList))) ∧ Below w.heap.size w w' := by
  have cl := fun W => lastStroke_any s W hs
  have hL := lastN_le s.data.toList
  rw [len_l] at hL
  rw [← par_ext]
  obtain ⟨L, hLe⟩ : ∃ L, L = lastN s.data.toList := ⟨_, rfl⟩
  rw [← hLe] at cl hL ⊢
  clear hLe
  by_cases h0 : L = 0
  · subst h0
    go_enter Tryz.func137, Tryz.ntmps137
    go_wp2_with (go_at_call 164; refine (cl _).mono ?_; rintro e w1 ⟨rfl, rfl⟩)
    go_ret
    exact ⟨by first | (simp; done) | (simp; exact Or.inl (by decide)), Below.refl _ _⟩
  · obtain ⟨K, rfl⟩ : ∃ K, L = K + 1 := ⟨L - 1, by omega⟩
    have e1 : ((K + 1 : Nat) : Int) - 1 = K := by omega
    rw [e1] at cl
    rw [Nat.add_sub_cancel]
    clear h0
    go_enter Tryz.func137, Tryz.ntmps137
    go_wp2_with (go_at_call 164; refine (cl _).mono ?_; rintro e w1 ⟨rfl, rfl⟩)
    go_ret
    exact ⟨rfl, Below.refl _ _⟩
set_option maxRecDepth 100000 in
set_option maxHeartbeats 1000000 in
theorem pJoin_any (a b : ByteArray) (w : World) (hs : a.size + b.size ≤ 562949953421312) :
    Calls Tryz.prog 27 #[.string a, .string b] w fun e w' => e = .returned (.string (tb (joi a.data.toList b.data.toList))) ∧ Below w.heap.size w w' := by
  by_cases h1 : a = ⟨#[]⟩
  · have e1 := is_empty h1
    have HR : tb (joi a.data.toList b.data.toList) = b := by
      rw [joi, if_neg (fun h => h.1 (list_nil h1)), list_nil h1]
      exact tb_of b
    rw [HR]
    clear HR h1
    go_enter Tryz.func27, Tryz.ntmps27
    go_wp2
    go_ret
    exact ⟨rfl, Below.refl _ _⟩
  · by_cases h2 : b = ⟨#[]⟩
    · have e1 := not_empty h1
      have e2 := is_empty h2
      have HR : tb (joi a.data.toList b.data.toList) = a := by
        rw [joi, if_neg (fun h => h.2 (list_nil h2)), list_nil h2, List.append_nil]
        exact tb_of a
      rw [HR]
      clear HR h1 h2
      go_enter Tryz.func27, Tryz.ntmps27
      go_wp2
      go_ret
      exact ⟨rfl, Below.refl _ _⟩
    · have e1 := not_empty h1
      have e2 := not_empty h2
      have HR : tb (joi a.data.toList b.data.toList) = a ++ ⟨#[47]⟩ ++ b := by
        rw [joi, if_pos ⟨list_ne h1, list_ne h2⟩]
        apply ByteArray.ext
        apply Array.toList_inj.1
        simp [tb]
      rw [HR]
      clear HR h1 h2
      go_enter Tryz.func27, Tryz.ntmps27
      go_wp2
      go_ret
      exact ⟨rfl, Below.refl _ _⟩
set_option maxRecDepth 100000 in
set_option maxHeartbeats 1000000 in
theorem pDeep_any (p : ByteArray) (w : World) (hs : p.size ≤ 562949953421312) :
    Calls Tryz.prog 136 #[.string p] w fun e w' => e = .returned (.int .i64 (dep p.data.toList : Nat)) ∧ Below w.heap.size w w' := by
  by_cases h1 : p = ⟨#[]⟩
  · have e1 := is_empty h1
    have e2 : dep p.data.toList = 0 := by rw [dep, if_pos (list_nil h1)]
    rw [e2]
    clear h1 e2
    go_enter Tryz.func136, Tryz.ntmps136
    go_wp2
    go_ret
    exact ⟨rfl, Below.refl _ _⟩
  · have e1 := not_empty h1
    have e2 : dep p.data.toList = p.data.toList.count 47 + 1 := by rw [dep, if_neg (list_ne h1), count_spl]
    rw [e2]
    have cs := fun W => count_any p W
    have hc : p.data.toList.count 47 ≤ p.size := by rw [← len_l]; exact List.count_le_length
    obtain ⟨C, hC⟩ : ∃ C, C = p.data.toList.count 47 := ⟨_, rfl⟩
    rw [← hC] at cs hc ⊢
    clear h1 e2 hC
    go_enter Tryz.func136, Tryz.ntmps136
    go_wp2_with (go_at_call 163; refine (cs _).mono ?_; rintro e w1 ⟨rfl, rfl⟩)
    go_ret
    exact ⟨by first | rfl | go_num, Below.refl _ _⟩
theorem names_cut (l : List UInt8) : (spl l).all isName = (isName (cutA l) && (if hasSt l then (spl (cutB l)).all isName else true)) := by
  rw [spl_cut, List.all_cons]
  cases hasSt l <;> rfl
def strLen : Value → Nat
  | .string s => s.size
  | _ => 0
set_option maxRecDepth 100000 in
set_option maxHeartbeats 1000000 in
theorem pCheck_any (p : ByteArray) (d : Int) (w : World) (hs : p.size ≤ 562949953421312) (h1 : -9223372036854775808 ≤ d) (h2 : d ≤ 9223372036854775807) :
    Calls Tryz.prog 135 #[.string p, .int .i64 d] w fun e w' => e = .returned (.int .i64 (chk p.data.toList d : Nat)) ∧ Below w.heap.size w w' := by
  have cd := fun W => pDeep_any p W hs
  by_cases hd : (dep p.data.toList : Int) > d
  · have hr : chk p.data.toList d = 10 := by
      rw [chk, isPath, if_neg]
      intro h
      rw [Bool.and_eq_true] at h
      have := of_decide_eq_true h.1
      rw [dep] at hd
      split at hd
      · rename_i h0
        rw [h0] at h
        have := h.2
        revert this
        decide
      · omega
    rw [hr]
    have hdl : dep p.data.toList ≤ p.size + 1 := by
      have := spl_len p.data.toList
      rw [len_l] at this
      rw [dep]
      split <;> omega
    obtain ⟨D, hD⟩ : ∃ D, D = dep p.data.toList := ⟨_, rfl⟩
    rw [← hD] at cd hd hdl
    clear hr hD
    go_enter Tryz.func135, Tryz.ntmps135
    go_wp2_with (go_at_call 136; refine (cd _).mono ?_; rintro e w1 ⟨rfl, hb1⟩)
    go_ret
    exact ⟨rfl, hb1⟩
  · have hr : chk p.data.toList d = if (spl p.data.toList).all isName then 0 else 10 := by
      rw [chk, isPath]
      rw [dep] at hd
      split at hd
      · rename_i h0
        rw [h0]
        have e : (spl []).all isName = false := by decide
        rw [e, Bool.and_false]
      · rw [decide_eq_true (by omega), Bool.true_and]
    have HR := Lib.hid hr
    have hdl : dep p.data.toList ≤ p.size + 1 := by
      have := spl_len p.data.toList
      rw [len_l] at this
      rw [dep]
      split <;> omega
    obtain ⟨D, hD⟩ : ∃ D, D = dep p.data.toList := ⟨_, rfl⟩
    rw [← hD] at cd hd hdl
    clear hr hD
    go_enter Tryz.func135, Tryz.ntmps135
    go_wp2_with (go_at_call 136; refine (cd _).mono ?_; rintro e w1 ⟨rfl, hb1⟩)
    go_loopw [0, 5, 6, 7] (fun q a b m wr => ∃ l : List UInt8, q = .string (tb l) ∧ l.length ≤ p.size ∧ Hid ((spl p.data.toList).all isName = (spl l).all isName) ∧ Below w.heap.size w wr) (fun q _ _ _ _ => strLen q)
    case atStart => exact ⟨p.data.toList, by rw [tb_of], by rw [len_l]; exact Nat.le_refl _, rfl, hb1⟩
    case round =>
      obtain ⟨l, rfl, hl, hinv, hb⟩ := hrel
      have cc := fun W => cut_any (tb l) W (by rw [tb_size]; omega)
      have hA := cutA_le l
      have hB := cutB_le l
      have hB2 := cutB_lt l
      have cn := fun W => pName_any (tb (cutA l)) W (by rw [tb_size]; omega)
      rw [tb_list] at cc cn
      have hcut := names_cut l
      cases hn : isName (cutA l) with
      | false =>
        have hno : (spl p.data.toList).all isName = false := by rw [hinv.out, hcut, hn]; rfl
        have hr := Lib.hid (show chk p.data.toList d = 10 by rw [HR.out, hno]; rfl)
        rw [hn] at cn
        clear hinv HR hcut hno hn hB2
        go_wp2_with (first | (go_at_call 161; refine (cc _).mono ?_; rintro e w1 ⟨rfl, n1, rfl⟩) | (go_at_call 162; refine (cn _).mono ?_; rintro e w2 ⟨rfl, hb2⟩))
        go_ret
        exact ⟨by rw [hr.out]; rfl, below_call (below_drewN hb n1) hb2⟩
      | true =>
        rw [hn] at cn
        cases hst : hasSt l with
        | false =>
          have hyes : (spl p.data.toList).all isName = true := by rw [hinv.out, hcut, hn, hst]; rfl
          have hr := Lib.hid (show chk p.data.toList d = 0 by rw [HR.out, hyes]; rfl)
          rw [hst] at cc
          clear hinv HR hcut hyes hn hB2 hst
          go_wp2_with (first | (go_at_call 161; refine (cc _).mono ?_; rintro e w1 ⟨rfl, n1, rfl⟩) | (go_at_call 162; refine (cn _).mono ?_; rintro e w2 ⟨rfl, hb2⟩))
          go_ret
          exact ⟨by rw [hr.out]; rfl, below_call (below_drewN hb n1) hb2⟩
        | true =>
          have hnext : Hid ((spl p.data.toList).all isName = (spl (cutB l)).all isName) := Lib.hid (by rw [hinv.out, hcut, hn, hst]; rfl)
          have hlt := hB2 hst
          rw [hst] at cc
          clear hinv HR hcut hn hB2 hst
          go_wp2_with (first | (go_at_call 161; refine (cc _).mono ?_; rintro e w1 ⟨rfl, n1, rfl⟩) | (go_at_call 162; refine (cn _).mono ?_; rintro e w2 ⟨rfl, hb2⟩))
          go_roundw
          case rel => exact ⟨cutB l, rfl, by omega, hnext, below_call (below_drewN hb n1) hb2⟩
          case measure => simp [strLen, tb_size]; omega
end Go.Proofs.YtjdfffkkpbabpaaGreat.Pr

namespace Go.Proofs.YtjdfffkkpbabpaaGreat.Dk
open Go.RowKit Tx Pm Pl Pr
set_option linter.unusedVariables false
theorem vol_cut (p : ByteArray) : vol p = tb (cutA p.data.toList) := by
  unfold vol
  rw [spl_cut]
  rfl
theorem below_drewN (w : World) (n : Nat) : Below w.heap.size w (w.drewN n) := by
  induction n with
  | zero => exact Below.refl _ _
  | succ n ih => exact ih.drew
set_option maxRecDepth 100000 in
theorem iVol_any (p : ByteArray) (w : World) (hp : p.size ≤ 8000000000000) :
    Calls Tryz.prog 146 #[.string p] w fun e w' => e = .returned (.string (vol p)) ∧ ∃ n, w' = w.drewN n := by
  have c1 := fun W => cut_any p W (by omega)
  rw [vol_cut]
  go_enter Tryz.func146, Tryz.ntmps146
  go_wp2_with (go_at_call 161; refine (c1 _).mono ?_; rintro e w' ⟨rfl, n, rfl⟩)
  go_ret
  exact ⟨rfl, _, rfl⟩
def mbf (L : List It) (p : ByteArray) : Nat := if kind L p = 0 then 11 else if kind L p = 1 then 12 else 0
theorem fld0 (k : Int) (s t : ByteArray) (st n : Int) (w : World) : (Instr.field 100 (.agg #[.int .i64 k, .string s, .string t, .int .i64 st, .int .i64 n]) 0).run Tryz.prog w = .ok (.int .i64 k) w := by kernel_rfl
theorem fld1 (k : Int) (s t : ByteArray) (st n : Int) (w : World) : (Instr.field 100 (.agg #[.int .i64 k, .string s, .string t, .int .i64 st, .int .i64 n]) 1).run Tryz.prog w = .ok (.string s) w := by kernel_rfl
theorem fld2 (k : Int) (s t : ByteArray) (st n : Int) (w : World) : (Instr.field 100 (.agg #[.int .i64 k, .string s, .string t, .int .i64 st, .int .i64 n]) 2).run Tryz.prog w = .ok (.string t) w := by kernel_rfl
set_option maxRecDepth 100000 in
theorem iMbf_any (b bi bl : Nat) (l : Int) (s : St) (p : ByteArray) (w : World) (h : Ia b bi bl l w s) (hp : p.size ≤ 8000000000000) :
    Calls Tryz.prog 105 #[.pointer (some ⟨b, 0, none⟩), .string p] w fun e w' => e = .returned (.int .i64 (mbf s.L p : Nat)) ∧ w = w' := by
  have hl := h.look (maxLen_of hp)
  obtain ⟨c0, c1, c2, c3, c4, c5⟩ := h.cell
  have f0 := fld0
  unfold mbf
  generalize kind s.L p = K at hl ⊢
  clear h c1 c2 c3 c4 c5
  by_cases h0 : K = 0
  · subst h0
    rw [if_pos rfl]
    go_enter Tryz.func105, Tryz.ntmps105
    go_wp2
    go_ret
    exact ⟨rfl, rfl⟩
  · rw [if_neg h0]
    by_cases h1 : K = 1
    · subst h1
      rw [if_pos rfl]
      go_enter Tryz.func105, Tryz.ntmps105
      go_wp2
      go_ret
      exact ⟨rfl, rfl⟩
    · rw [if_neg h1]
      have e0 : ((K : Int) == 0) = false := beq_eq_false_iff_ne.2 (by omega)
      have e1 : ((K : Int) == 1) = false := beq_eq_false_iff_ne.2 (by omega)
      clear h0 h1
      go_enter Tryz.func105, Tryz.ntmps105
      go_wp2
      go_ret
      exact ⟨rfl, rfl⟩
set_option maxRecDepth 100000 in
theorem iKind_any (b bi bl : Nat) (l : Int) (s : St) (p : ByteArray) (w : World) (h : Ia b bi bl l w s) (hp : p.size ≤ 8000000000000) :
    Calls Tryz.prog 25 #[.pointer (some ⟨b, 0, none⟩), .string p] w fun e w' => e = .returned (.int .i64 (kind s.L p : Nat)) ∧ w = w' := by
  have hl := h.look (maxLen_of hp)
  obtain ⟨c0, c1, c2, c3, c4, c5⟩ := h.cell
  have f0 := fld0
  generalize kind s.L p = K at hl ⊢
  clear h c1 c2 c3 c4 c5
  go_enter Tryz.func25, Tryz.ntmps25
  go_wp2
  go_ret
  exact ⟨rfl, rfl⟩
set_option maxRecDepth 100000 in
theorem iSteps_any (b bi bl : Nat) (l : Int) (s : St) (w : World) (h : Ia b bi bl l w s) :
    Calls Tryz.prog 22 #[.pointer (some ⟨b, 0, none⟩)] w fun e w' => e = .returned (.int .i64 (s.steps : Nat)) ∧ w = w' := by
  obtain ⟨c0, c1, c2, c3, c4, c5⟩ := h.cell
  clear h c0 c1 c2 c4 c5
  go_enter Tryz.func22, Tryz.ntmps22
  go_wp2
  go_ret
  exact ⟨rfl, rfl⟩
set_option maxRecDepth 100000 in
theorem iDown_any (b bi bl : Nat) (l : Int) (s : St) (w : World) (h : Ia b bi bl l w s) :
    Calls Tryz.prog 20 #[.pointer (some ⟨b, 0, none⟩)] w fun e w' => e = .returned (.bool s.down) ∧ w = w' := by
  obtain ⟨c0, c1, c2, c3, c4, c5⟩ := h.cell
  clear h c0 c1 c2 c3 c4
  go_enter Tryz.func20, Tryz.ntmps20
  go_wp2
  go_ret
  exact ⟨rfl, rfl⟩
theorem tb_nil {l : List UInt8} (h : l = []) : tb l = ⟨#[]⟩ := by rw [h]; rfl
theorem tb_ne {l : List UInt8} (h : l ≠ []) : tb l ≠ ⟨#[]⟩ := fun e => h (by
  have := congrArg (fun x : ByteArray => x.data.toList) e
  simpa [tb] using this)
theorem par_len (l : List UInt8) : (tb (par l)).size ≤ l.length := by
  unfold par
  simp [tb, ByteArray.size]
  exact Nat.min_le_right _ _
set_option maxRecDepth 100000 in
theorem iHome_any (b bi bl : Nat) (l : Int) (s : St) (p : ByteArray) (w : World) (h : Ia b bi bl l w s) (hp : p.size ≤ 8000000000000) :
    Calls Tryz.prog 104 #[.pointer (some ⟨b, 0, none⟩), .string p] w fun e w' => e = .returned (.bool (home s.L p)) ∧ Below w.heap.size w w' := by
  have cp := pParent_any p w (by omega)
  have hq := par_len p.data.toList
  rw [len_l] at hq
  have hl := fun W (hW : Below w.heap.size w W) => (h.below hW).look (p := tb (par p.data.toList)) (maxLen_of (by omega))
  have hc := fun W (hW : Below w.heap.size w W) => (h.below hW).cell.1
  have f0 := fld0
  unfold home
  by_cases h0 : par p.data.toList = []
  · have e0 : (tb (par p.data.toList)).toList.isEmpty = true := is_empty (tb_nil h0)
    rw [tb_nil h0] at cp
    have e1 : (decide (par p.data.toList = []) || decide (kind s.L (tb (par p.data.toList)) = 1)) = true := by simp [h0]
    rw [e1]
    clear hl hc h e0 e1 h0 hq
    go_enter Tryz.func104, Tryz.ntmps104
    go_wp2_with (go_at_call 137; refine cp.mono ?_; rintro e w1 ⟨rfl, hb⟩)
    go_ret
    exact ⟨rfl, hb⟩
  · have e0 : (tb (par p.data.toList)).toList.isEmpty = false := not_empty (tb_ne h0)
    have e1 : (decide (par p.data.toList = []) || decide (kind s.L (tb (par p.data.toList)) = 1)) = decide (kind s.L (tb (par p.data.toList)) = 1) := by simp [h0]
    rw [e1]
    clear e1 h0 hq h
    generalize tb (par p.data.toList) = q at hl hc cp e0 ⊢
    generalize kind s.L q = K at hl ⊢
    have HL := Lib.hid hl
    have HC := Lib.hid hc
    clear hl hc
    by_cases h1 : K = 1
    · subst h1
      go_enter Tryz.func104, Tryz.ntmps104
      go_wp2_with (go_at_call 137; refine cp.mono ?_; rintro e w1 ⟨rfl, hb⟩; have c0 := HC.out _ hb; have l0 := HL.out _ hb)
      go_ret
      exact ⟨rfl, hb⟩
    · have e2 : ((K : Int) == 1) = false := beq_eq_false_iff_ne.2 (by omega)
      have e3 : decide (K = 1) = false := decide_eq_false h1
      rw [e3]
      clear h1 e3
      go_enter Tryz.func104, Tryz.ntmps104
      go_wp2_with (go_at_call 137; refine cp.mono ?_; rintro e w1 ⟨rfl, hb⟩; have c0 := HC.out _ hb; have l0 := HL.out _ hb)
      go_ret
      exact ⟨rfl, hb⟩
end Go.Proofs.YtjdfffkkpbabpaaGreat.Dk

namespace Go.Proofs.YtjdfffkkpbabpaaGreat.Dk
open Go.RowKit Tx Pm
set_option linter.unusedVariables false
def came (L : List It) (left : Lit → Bool) : List It := L.filter (fun y => !left (kL y.path))
def less (left : Lit → Bool) (p : ByteArray) : Lit → Bool := fun z => left z && !z.sameKey (kL p)
theorem less_same (left : Lit → Bool) (p : ByteArray) : less left p (kL p) = false := by
  unfold less
  rw [WideAt.sameKey_self (kL_key p)]
  simp
theorem less_other (left : Lit → Bool) {p q : ByteArray} (h : q ≠ p) : less left p (kL q) = left (kL q) := by
  unfold less
  rw [Go.Maps.sameKey_ne (fun e => h (kL_inj e))]
  simp
theorem came_step {left : Lit → Bool} {x : It} (hl : left (kL x.path) = true) : ∀ {L : List It}, Rises L → x ∈ L → (came L (less left x.path)).Perm (x :: came L left)
  | [], _, hx => by cases hx
  | y :: L, hr, hx => by
    obtain ⟨h1, h2⟩ := List.pairwise_cons.1 hr
    by_cases he : y.path = x.path
    · have hyx : x = y := by
        rcases List.mem_cons.1 hx with h | h
        · exact h
        · have := h1 x h
          rw [he, less_irrefl] at this
          cases this
      subst hyx
      have e1 : came L (less left x.path) = came L left := by
        unfold came
        refine List.filter_congr (fun z hz => ?_)
        rw [less_other left (fun e => by have := h1 z hz; rw [e, less_irrefl] at this; cases this)]
      have e2 : came (x :: L) (less left x.path) = x :: came L (less left x.path) := by
        unfold came
        rw [List.filter_cons_of_pos (by rw [less_same]; rfl)]
      have e3 : came (x :: L) left = came L left := by
        unfold came
        rw [List.filter_cons_of_neg (by rw [hl]; simp)]
      rw [e2, e3, e1]
    · have hxL : x ∈ L := by
        rcases List.mem_cons.1 hx with h | h
        · exact absurd (by rw [h]) he
        · exact h
      have ih := came_step hl h2 hxL
      cases hy : left (kL y.path) with
      | true =>
        have e2 : came (y :: L) (less left x.path) = came L (less left x.path) := by
          unfold came
          rw [List.filter_cons_of_neg (by rw [less_other left he, hy]; simp)]
        have e3 : came (y :: L) left = came L left := by
          unfold came
          rw [List.filter_cons_of_neg (by rw [hy]; simp)]
        rw [e2, e3]
        exact ih
      | false =>
        have e2 : came (y :: L) (less left x.path) = y :: came L (less left x.path) := by
          unfold came
          rw [List.filter_cons_of_pos (by rw [less_other left he, hy]; rfl)]
        have e3 : came (y :: L) left = y :: came L left := by
          unfold came
          rw [List.filter_cons_of_pos (by rw [hy]; rfl)]
        rw [e2, e3]
        exact (ih.cons y).trans (List.Perm.swap x y _)
theorem came_start {D : DataW Unit} {L : List It} (h : ReadsI D L) : came L (Go.Maps.has D) = [] := by
  unfold came
  refine List.filter_eq_nil_iff.2 (fun y hy => ?_)
  rw [readsI_has h]
  have : (find L y.path).isSome = true := List.find?_isSome.2 ⟨y, hy, by simp⟩
  rw [this]
  simp
theorem came_end {left : Lit → Bool} (L : List It) (h : ∀ z, left z = false) : came L left = L := by
  unfold came
  exact List.filter_eq_self.2 (fun y hy => by rw [h]; rfl)
theorem came_sub (L : List It) (left : Lit → Bool) : (came L left).Sublist L := List.filter_sublist
theorem key_is {v : ByteArray} {kl : Lit} (h : keyOf Tryz.prog 9 (.string v) = some kl) : kl = kL v ∧ v.size ≤ maxLen := by
  obtain ⟨s, h1, h2, h3⟩ := Go.WideMaps.string_of_keyOf Tryz.underlying9 h
  cases h1
  exact ⟨h2, h3⟩
theorem key_string {key : Value} {kl : Lit} (h : keyOf Tryz.prog 9 key = some kl) : ∃ x : ByteArray, key = .string x := by
  obtain ⟨s, h1, _⟩ := Go.WideMaps.string_of_keyOf Tryz.underlying9 h
  exact ⟨s, h1⟩
theorem next_items (w : World) {ops : Array Oper} {rest : List Oper} {o : Oper} {a : Act} {Q : Exit → Act → World → Prop} (hg : o.guard = none) (it : Operand) (hop : o.op = Op.next it false) (b r n : Nat) (D : DataW Unit) (left : Lit → Bool) (cnt : Nat) (L : List It)
    (hit : a.eval it = .pointer (some ⟨r, 0, none⟩)) (h : w.ranges Tryz.prog 9 itemR b r n D left cnt) (hD : ReadsI D L)
    (hDone : (∀ z, left z = false) → wpList Tryz.prog ops Q rest (a.put o.dst (.tuple #[.bool false])) w)
    (hMore : ∀ (x : It) (w' : World) (cnt' : Nat), x ∈ L → left (kL x.path) = true → w'.ranges Tryz.prog 9 itemR b r n D (less left x.path) cnt' → cnt' < cnt → w.grownBy w' (some r) → w'.heap.size = w.heap.size →
      (Instr.entry (.pointer (some ⟨r, 0, none⟩))).run Tryz.prog w' = .ok (.tuple #[.string x.path, .agg #[.int .i64 (kOf x), .string x.data, .string x.kept, .int .i64 (stOf x), .int .i64 x.stamp]]) w' →
      wpList Tryz.prog ops Q rest (a.put o.dst (.tuple #[.bool true, .string x.path, .agg #[.int .i64 (kOf x), .string x.data, .string x.kept, .int .i64 (stOf x), .int .i64 x.stamp]])) w') :
    wpList Tryz.prog ops Q (o :: rest) a w := by
  refine wpList_next_ranges w hg it hop 9 strK itemR (Value.string) (fun c : Int × ByteArray × ByteArray × Int × Int => mv c.1 c.2.1 c.2.2.1 c.2.2.2.1 c.2.2.2.2)
    (fun key kl hk => key_string hk) (fun v y hv => by obtain ⟨k, s, t, st, m, rfl, _⟩ := itemR_inv hv; exact ⟨(k, s, t, st, m), rfl⟩)
    b r n D left cnt hit h (fun _ hl => hDone hl) (fun p c kl y w' cnt' hkey hlk hv hat hrg hlt hgr hsz hen => ?_)
  obtain ⟨k, s, t, st, m⟩ := c
  obtain ⟨rfl, hps⟩ := key_is hkey
  have hv : itemR (mv k s t st m) = some y := hv
  rw [itemR_mv] at hv
  injection hv with hv
  subst hv
  have hat : ∀ zd, D.atKey (kL p) zd = dv3 k s t st m := hat
  cases hf : find L p with
  | none =>
    have h1 := hat .nil
    rw [hD p, hf] at h1
    cases h1
  | some x =>
    have h1 := hat .nil
    rw [hD p, hf] at h1
    obtain ⟨rfl, rfl, rfl, rfl, rfl⟩ := dv3_inj h1
    obtain ⟨hm, rfl⟩ := find_mem hf
    exact hMore x w' cnt' hm hlk hrg hlt hgr hsz hen
theorem range_items (w : World) {ops : Array Oper} {rest : List Oper} {o : Oper} {a : Act} {Q : Exit → Act → World → Prop} (hg : o.guard = none) (m : Operand) (hop : o.op = Op.range 57 m) (b : Nat) (L : List It)
    (hm : a.eval m = .map (some b)) (h : Mp w b L)
    (hK : ∀ (D : DataW Unit) (w' : World), ReadsI D L → w'.ranges Tryz.prog 9 itemR b w.heap.size L.length D (Go.Maps.has D) (Go.Maps.size D) → w.grownBy w' none → w'.heap.size = w.heap.size + 1 → wpList Tryz.prog ops Q rest (a.put o.dst (.pointer (some ⟨w.heap.size, 0, none⟩))) w') :
    wpList Tryz.prog ops Q (o :: rest) a w := by
  obtain ⟨D, ho, hr, _⟩ := h
  exact wpList_range_own w hg m _ hop 9 100 strK Tryz.underlying57 itemR b L.length D hm ho (fun w' h1 h2 h3 => hK D w' hr h1 h2 h3)
theorem below_grown {W w w' : World} {B r : Nat} (h : Below B W w) (hg : w.grownBy w' (some r)) (hB : B ≤ w.heap.size) (hr : B ≤ r) : Below B W w' := h.grown hg hB (fun j hj => by cases hj; exact hr)
end Go.Proofs.YtjdfffkkpbabpaaGreat.Dk

namespace Go.Proofs.YtjdfffkkpbabpaaGreat.Dk
open Go.RowKit Tx Pm
set_option linter.unusedVariables false
theorem ret_int {k : IntKind} {a b : Int} (h : a = b) : Ending.returned (.int k a) = .returned (.int k b) := by rw [h]
theorem used_perm {a b : List It} (h : a.Perm b) (v : ByteArray) : used a v = used b v := (h.map _).sum_nat
theorem used_cons (x : It) (l : List It) (v : ByteArray) : used (x :: l) v = (if vol x.path = v then x.data.size else 0) + used l v := by
  unfold used
  rw [List.map_cons, List.sum_cons]
theorem used_came (L : List It) (left : Lit → Bool) (v : ByteArray) : used (came L left) v ≤ whole L := by
  refine Nat.le_trans (used_le _ v) ?_
  have h := came_sub L left
  generalize came L left = c at h
  induction h with
  | slnil => exact Nat.le_refl _
  | cons x _ ih =>
    unfold whole at *
    rw [List.map_cons, List.sum_cons]
    omega
  | cons_cons x _ ih =>
    unfold whole at *
    rw [List.map_cons, List.sum_cons, List.map_cons, List.sum_cons]
    omega
set_option maxRecDepth 100000 in
set_option maxHeartbeats 1000000 in
theorem iUsed_any (b bi bl : Nat) (l : Int) (s : St) (v : ByteArray) (w : World) (h : Ia b bi bl l w s) (hr : Rises s.L) (hf : Fit s) :
    Calls Tryz.prog 166 #[.pointer (some ⟨b, 0, none⟩), .string v] w fun e w' => e = .returned (.int .i64 (used s.L v : Nat)) ∧ Below w.heap.size w w' := by
  have hw := hf.2.2
  have hpp := hf.2.1
  have hub := fun left => used_came s.L left v
  obtain ⟨c0, _⟩ := h.cell
  have hm := h.items
  go_enter Tryz.func166, Tryz.ntmps166
  go_wp2_with (at_range; refine range_items _ rfl _ rfl bi s.L rfl hm ?_; intro D w0 hD hrg0 hg0 hs0)
  go_frame
  have HD := Lib.hid hD
  have HR := Lib.hid hr
  have HP := Lib.hid hpp
  have HU := Lib.hid hub
  have hsm : w.heap.size < w0.heap.size := by omega
  have HS := Lib.hid hs0
  clear hD hr hpp hub hs0
  go_loopw [5] (fun u wr => ∃ (left : Lit → Bool) (cnt T : Nat), wr.ranges Tryz.prog 9 itemR bi w.heap.size s.L.length D left cnt ∧ u = .int .i64 (T : Nat) ∧ Hid (T = used (came s.L left) v) ∧ Below w.heap.size w wr ∧ w.heap.size < wr.heap.size) (fun _ wr => wr.rangeLeft bi w.heap.size)
  case atStart => exact ⟨_, _, 0, hrg0, rfl, by show 0 = _; rw [came_start HD.out]; rfl, (Below.refl _ _).grown hg0 (Nat.le_refl _) (fun j hj => by cases hj), hsm⟩
  case round =>
    obtain ⟨left, cnt, T, hrg, rfl, hT, hbr, hlt⟩ := hrel
    go_wp2_with (at_next; refine next_items _ rfl _ rfl bi w.heap.size s.L.length D left cnt s.L rfl hrg HD.out ?_ ?_)
    · intro hl
      have hT' := hT.out
      rw [came_end s.L hl] at hT'
      have HT := Lib.hid hT'
      clear hl hT hT' hrg h
      go_wp2
      go_ret
      exact ⟨ret_int (by rw [HT.out]), hbr⟩
    · intro x w1 cnt1 hx hlx hrg1 hlt1 hg1 hs1 hen
      have hxp := HP.out x hx
      have hU1 := HU.out (less left x.path)
      have hst := used_perm (came_step hlx HR.out hx) v
      rw [used_cons, ← hT.out] at hst
      have hme : w1.rangeLeft bi w.heap.size < wr.rangeLeft bi w.heap.size := by rw [hrg1.left_eq, hrg.left_eq]; exact hlt1
      have hb1 : Below w.heap.size w w1 := below_grown hbr hg1 (Nat.le_of_lt hlt) (Nat.le_refl _)
      have hs2 : w.heap.size < w1.heap.size := by omega
      have hrg2 := hrg1.alloc (.cells #[.int .i64 (kOf x), .string x.data, .string x.kept, .int .i64 (stOf x), .int .i64 x.stamp] 100)
      have cv := fun W => iVol_any x.path W hxp
      have HME := Lib.hid hme
      clear hlx hs1 hx hme hrg hlt1 hT h hg1
      generalize less left x.path = left1 at hst hU1 hrg1 hrg2
      obtain ⟨V, hV⟩ : ∃ V, V = vol x.path := ⟨_, rfl⟩
      rw [← hV] at hst cv
      clear hV
      by_cases hvv : V = v
      · have e1 : (V.toList == v.toList) = true := by rw [hvv]; exact beq_self_eq_true _
        rw [if_pos hvv] at hst
        have hle : T + x.data.size ≤ 4000000000000000000 := by omega
        have HST := Lib.hid hst
        clear hst hvv hU1
        go_wp2_with (go_at_call 146; refine (cv _).mono ?_; rintro e w3 ⟨rfl, n3, rfl⟩)
        go_roundw
        case rel => exact ⟨left1, cnt1, T + x.data.size, hrg2, by go_num, (HST.out.trans (Nat.add_comm _ _)).symm, (hb1.alloc (Nat.le_of_lt hs2) _).trans (below_drewN _ _ |>.mono (by simp; omega)), by simp; omega⟩
        case measure => have e : (w1.alloc (.cells #[.int .i64 (kOf x), .string x.data, .string x.kept, .int .i64 (stOf x), .int .i64 x.stamp] 100)).rangeLeft bi w.heap.size = w1.rangeLeft bi w.heap.size := by rw [hrg2.left_eq, hrg1.left_eq]
                        show (w1.alloc _).rangeLeft _ _ < _
                        rw [e]
                        exact HME.out
      · have e1 : (V.toList == v.toList) = false := bytes_ne hvv
        rw [if_neg hvv, Nat.zero_add] at hst
        have HST := Lib.hid hst
        clear hst hvv hU1
        go_wp2_with (go_at_call 146; refine (cv _).mono ?_; rintro e w3 ⟨rfl, n3, rfl⟩)
        go_roundw
        case rel => exact ⟨left1, cnt1, T, hrg2, rfl, HST.out.symm, (hb1.alloc (Nat.le_of_lt hs2) _).trans (below_drewN _ _ |>.mono (by simp; omega)), by simp; omega⟩
        case measure => have e : (w1.alloc (.cells #[.int .i64 (kOf x), .string x.data, .string x.kept, .int .i64 (stOf x), .int .i64 x.stamp] 100)).rangeLeft bi w.heap.size = w1.rangeLeft bi w.heap.size := by rw [hrg2.left_eq, hrg1.left_eq]
                        show (w1.alloc _).rangeLeft _ _ < _
                        rw [e]
                        exact HME.out
end Go.Proofs.YtjdfffkkpbabpaaGreat.Dk

namespace Go.Proofs.YtjdfffkkpbabpaaGreat.Dk
open Go.RowKit Tx Pm Pl Pr
set_option linter.unusedVariables false
def full (s : St) (v : ByteArray) (more : Int) : Bool := match roomOf s.rooms v with
  | none => false
  | some r => decide (0 < more) && decide (r.n < (used s.L v : Nat) + more)
theorem roomOf_mem {R : List Rm} {v : ByteArray} {r : Rm} (h : roomOf R v = some r) : r ∈ R ∧ r.vol = v := ⟨List.mem_of_find?_eq_some h, by have := List.find?_some h; simpa using this⟩
theorem roomOf_of {R : List Rm} (hv : R.Pairwise (fun r r' => r.vol ≠ r'.vol)) {r : Rm} (hr : r ∈ R) : roomOf R r.vol = some r := by
  unfold roomOf
  induction R with
  | nil => cases hr
  | cons q R ih =>
    obtain ⟨h1, h2⟩ := List.pairwise_cons.1 hv
    rcases List.mem_cons.1 hr with rfl | hr
    · rw [List.find?_cons_of_pos (by simp)]
    · rw [List.find?_cons_of_neg (by simpa using h1 r hr)]
      exact ih h2 hr
theorem fits_full {s : St} (hg : Good s) (p : ByteArray) (more : Int) : fits s p more = !full s (vol p) more := by
  unfold fits full
  by_cases hm : more ≤ 0
  · rw [decide_eq_true hm, Bool.true_or]
    cases roomOf s.rooms (vol p) with
    | none => rfl
    | some r =>
      simp only
      rw [decide_eq_false (by omega), Bool.false_and]
      rfl
  · rw [decide_eq_false hm, Bool.false_or]
    cases hf : roomOf s.rooms (vol p) with
    | none =>
      refine List.all_eq_true.2 (fun r hr => ?_)
      have : r.vol ≠ vol p := fun e => by
        have := roomOf_of hg.vols hr
        rw [e, hf] at this
        cases this
      rw [decide_eq_false this, Bool.false_and]
      rfl
    | some r =>
      obtain ⟨hr, hrv⟩ := roomOf_mem hf
      simp only
      rw [decide_eq_true (show 0 < more by omega), Bool.true_and, Bool.eq_iff_iff, List.all_eq_true]
      constructor
      · intro h
        have := h r hr
        rw [decide_eq_true hrv, Bool.true_and] at this
        simp only [Bool.not_eq_true', decide_eq_false_iff_not] at this ⊢
        omega
      · intro h q hq
        by_cases hqv : q.vol = vol p
        · have h2 := roomOf_of hg.vols hq
          rw [hqv, hf] at h2
          cases h2
          rw [decide_eq_true hrv, Bool.true_and]
          simp only [Bool.not_eq_true', decide_eq_false_iff_not] at h ⊢
          omega
        · rw [decide_eq_false hqv, Bool.false_and]
          rfl
theorem vol_le (p : ByteArray) : (vol p).size ≤ p.size := by
  rw [vol_cut, tb_size]
  have := cutA_le p.data.toList
  rw [len_l] at this
  exact this
set_option maxRecDepth 100000 in
set_option maxHeartbeats 1000000 in
theorem iFull_any (b bi bl : Nat) (l : Int) (s : St) (v : ByteArray) (more : Int) (w : World) (h : Ia b bi bl l w s) (hr : Rises s.L) (hf : Fit s) (hv : v.size ≤ 8000000000000) (hm : -4000000000000000000 ≤ more ∧ more ≤ 4000000000000000000) :
    Calls Tryz.prog 145 #[.pointer (some ⟨b, 0, none⟩), .string v, .int .i64 more] w fun e w' => e = .returned (.bool (full s v more)) ∧ Below w.heap.size w w' := by
  have hl := h.limits.look (maxLen_of hv)
  have cu := iUsed_any b bi bl l s v w h hr hf
  have hu := Nat.le_trans (used_le s.L v) hf.2.2
  obtain ⟨_, c1, _⟩ := h.cell
  unfold full
  unfold limV at hl
  clear hf hr h
  generalize used s.L v = U at cu hu ⊢
  cases hR : roomOf s.rooms v with
  | none =>
    rw [hR] at hl
    simp only at hl ⊢
    clear hR cu
    go_enter Tryz.func145, Tryz.ntmps145
    go_wp2
    go_ret
    exact ⟨rfl, Below.refl _ _⟩
  | some r =>
    rw [hR] at hl
    simp only at hl ⊢
    clear hR
    generalize r.n = N at hl ⊢
    by_cases h0 : 0 < more
    · rw [decide_eq_true h0, Bool.true_and]
      go_enter Tryz.func145, Tryz.ntmps145
      go_wp2_with (go_at_call 166; refine cu.mono ?_; rintro e w1 ⟨rfl, hb⟩)
      go_ret
      exact ⟨rfl, hb⟩
    · rw [decide_eq_false h0, Bool.false_and]
      have h0' : more ≤ 0 := by omega
      clear h0 cu
      go_enter Tryz.func145, Tryz.ntmps145
      go_wp2
      go_ret
      exact ⟨rfl, Below.refl _ _⟩
def bad (m : Nat) (p : ByteArray) : Bool := decide (chk p.data.toList 6 ≠ 0) || decide ((spl p.data.toList).length ≤ m)
def rdy (s : St) (m : Nat) (l : List ByteArray) : Nat := if s.down then 14 else if l.any (bad m) then 10 else 0
theorem rdy_one (s : St) (m : Nat) (p : ByteArray) : rdy s m [p] = first s p m := by
  unfold rdy first bad
  rw [List.any_cons, List.any_nil, Bool.or_false]
  cases s.down with
  | true => rfl
  | false =>
    simp only [Bool.false_eq_true, if_false]
    by_cases h : chk p.data.toList 6 ≠ 0 ∨ (spl p.data.toList).length ≤ m
    · rw [if_pos h, if_pos (by simpa [Bool.or_eq_true] using h)]
    · rw [if_neg h, if_neg (by simpa [Bool.or_eq_true] using h)]
theorem rdy_two (s : St) (m : Nat) (p q : ByteArray) : rdy s m [p, q] = if first s p m ≠ 0 then first s p m else first s q m := by
  rw [← rdy_one, ← rdy_one]
  unfold rdy
  rw [List.any_cons, List.any_cons, List.any_cons, List.any_nil]
  cases s.down with
  | true => rfl
  | false => cases bad m p <;> cases bad m q <;> rfl
theorem bad_dep {p : ByteArray} {m : Nat} (h : chk p.data.toList 6 = 0) : bad m p = decide ((dep p.data.toList : Int) < ((m + 1 : Nat) : Int)) := by
  have hp : p.data.toList ≠ [] := fun e => by rw [e] at h; revert h; decide
  have hd : dep p.data.toList = (spl p.data.toList).length := by rw [dep, if_neg hp]
  unfold bad
  rw [h, hd, Bool.eq_iff_iff]
  simp
  omega
set_option maxRecDepth 100000 in
set_option maxHeartbeats 1000000 in
theorem iReady_any (b bi bl g n c m : Nat) (M l : Int) (s : St) (ps : List ByteArray) (w : World) (h : Ia b bi bl l w s) (hn : ps.length = n) (hm : m ≤ 1000) (hM : M = (m : Int) + 1) (hc : ∀ k p, ps[k]? = some p → w.cell? ⟨g, k, none⟩ = some (.string p)) (hg : g < w.heap.size) (hp : ∀ p ∈ ps, p.size ≤ 8000000000000) (hnm : n ≤ 1000) :
    Calls Tryz.prog 103 #[.pointer (some ⟨b, 0, none⟩), .int .i64 M, .slice (some ⟨g, 0, none⟩) n c] w fun e w' => e = .returned (.int .i64 (rdy s m ps : Nat)) ∧ Below w.heap.size w w' := by
  obtain ⟨c0, c1, c2, c3, c4, c5⟩ := h.cell
  unfold rdy
  clear h c0 c1 c2 c3 c4
  generalize s.down = D at c5 ⊢
  cases D with
  | true =>
    rw [if_pos rfl]
    clear hc hp hn
    go_enter Tryz.func103, Tryz.ntmps103
    go_wp2
    go_ret
    exact ⟨rfl, Below.refl _ _⟩
  | false =>
    rw [if_neg (by decide)]
    have HC := Lib.hid hc
    have HP := Lib.hid hp
    have HN := Lib.hid hn
    have HM := Lib.hid hM
    have hM2 : 1 ≤ M ∧ M ≤ 1001 := by omega
    obtain ⟨RES, hRES⟩ : ∃ RES, RES = if ps.any (bad m) = true then 10 else 0 := ⟨_, rfl⟩
    rw [← hRES]
    have HRES := Lib.hid hRES
    clear hc hp hn hM hRES
    go_enter Tryz.func103, Tryz.ntmps103
    go_wp2
    go_loopw [19] (fun i wr => ∃ k : Nat, k ≤ n ∧ i = .int .i64 k ∧ Hid ((ps.take k).any (bad m) = false) ∧ Below w.heap.size w wr) (fun i _ => n - (intOf i).toNat)
    case atStart => exact ⟨0, Nat.zero_le _, rfl, by show (ps.take 0).any _ = _; simp, Below.refl _ _⟩
    case round =>
      obtain ⟨k, hk, rfl, hT, hB⟩ := hrel
      by_cases hlt : k < n
      · obtain ⟨p, hx⟩ : ∃ p, ps[k]? = some p := ⟨_, List.getElem?_eq_getElem (by rw [HN.out]; exact hlt)⟩
        have f0 := (hB.cell (p := ⟨g, _, none⟩) hg).trans (HC.out k p hx)
        have hpm := List.mem_of_getElem? hx
        have hps := HP.out p hpm
        have cc := fun W => pCheck_any p 6 W (by omega) (by omega) (by omega)
        have cd := fun W => pDeep_any p W (by omega)
        have hch : chk p.data.toList 6 = 0 ∨ chk p.data.toList 6 = 10 := by unfold chk; split <;> simp
        have htk : (ps.take (k + 1)).any (bad m) = ((ps.take k).any (bad m) || bad m p) := by rw [take_more hx, List.any_append, List.any_cons, List.any_nil, Bool.or_false]
        rw [hT.out, Bool.false_or] at htk
        have hany : bad m p = true → ps.any (bad m) = true := fun hb => List.any_eq_true.2 ⟨p, hpm, hb⟩
        rcases hch with hch | hch
        · have hbd := bad_dep (m := m) hch
          rw [hch] at cc
          have e9 : ((m + 1 : Nat) : Int) = M := by rw [HM.out]; omega
          rw [e9] at hbd
          generalize dep p.data.toList = Dp at cd hbd
          by_cases hd : (Dp : Int) < M
          · rw [decide_eq_true hd] at hbd
            have HA := Lib.hid (hany hbd)
            clear htk hany hbd hch hx hT hpm hps e9
            go_wp2_with (first | (go_at_call 135; refine (cc _).mono ?_; rintro e w1 ⟨rfl, hb1⟩) | (go_at_call 136; refine (cd _).mono ?_; rintro e w2 ⟨rfl, hb2⟩))
            go_ret
            exact ⟨ret_int (by rw [HRES.out, HA.out]; rfl), below_call (below_call hB hb1) hb2⟩
          · rw [decide_eq_false hd] at hbd
            rw [hbd] at htk
            have HT := Lib.hid htk
            have hd' : M ≤ Dp := by omega
            clear htk hany hbd hch hx hT hpm hps hd e9
            go_wp2_with (first | (go_at_call 135; refine (cc _).mono ?_; rintro e w1 ⟨rfl, hb1⟩) | (go_at_call 136; refine (cd _).mono ?_; rintro e w2 ⟨rfl, hb2⟩))
            go_roundw
            case rel => exact ⟨k + 1, by omega, by go_num, HT, below_call (below_call hB hb1) hb2⟩
            case measure => simp [intOf]; omega
        · have hbd : bad m p = true := by unfold bad; rw [hch]; rfl
          rw [hch] at cc
          have HA := Lib.hid (hany hbd)
          clear htk hany hbd hch hx hT hpm hps cd
          go_wp2_with (go_at_call 135; refine (cc _).mono ?_; rintro e w1 ⟨rfl, hb1⟩)
          go_ret
          exact ⟨ret_int (by rw [HRES.out, HA.out]; rfl), below_call hB hb1⟩
      · obtain rfl : k = n := by omega
        have hT' := hT.out
        rw [List.take_of_length_le (by rw [HN.out]; exact Nat.le_refl _)] at hT'
        have HT := Lib.hid hT'
        clear hT hT'
        go_wp2
        go_ret
        exact ⟨ret_int (by rw [HRES.out, HT.out]; rfl), hB⟩
end Go.Proofs.YtjdfffkkpbabpaaGreat.Dk

namespace Go.Proofs.YtjdfffkkpbabpaaGreat.Dk
open Go.RowKit Tx Pm Pl Pr
set_option linter.unusedVariables false
def Cap (w : World) (g : Nat) (v : Value) : Prop := w.cell? ⟨g, 0, none⟩ = some v
set_option maxRecDepth 100000 in
theorem iMkdirC_any (b bi bl bd bp : Nat) (l : Int) (s : St) (p : ByteArray) (w : World) (h : Ia b bi bl l w s) (hd : Cap w bd (.pointer (some ⟨b, 0, none⟩))) (hp : Cap w bp (.string p)) (hps : p.size ≤ 8000000000000) (hn : s.L.length ≤ 1000000000) :
    Calls Tryz.prog 71 #[.pointer (some ⟨bd, 0, none⟩), .pointer (some ⟨bp, 0, none⟩)] w fun e w' => e = .returned (.tuple #[]) ∧ Ip b bi bl w { s with L := ins s.L ⟨p, true, ⟨#[]⟩, ⟨#[]⟩, false, false, 0⟩ } w' := by
  obtain ⟨c0, _⟩ := h.cell
  unfold Cap at hd hp
  have h0 := h.below (Below.refl _ w).drew
  obtain ⟨w1, hrun, hm, ht⟩ := h0.items.store (x := ⟨p, true, ⟨#[]⟩, ⟨#[]⟩, false, false, 0⟩) (maxLen_of hps) (by unfold maxLen; omega)
  have hend : Ip b bi bl w { s with L := ins s.L ⟨p, true, ⟨#[]⟩, ⟨#[]⟩, false, false, 0⟩ } w1 := ⟨l, h0.turned hm ht, (Chg.of_below (Below.refl _ w).drew).then ((turned_chg ht).mono ft_i)⟩
  have HE := Lib.hid hend
  clear h h0 hm ht hend
  have hrun : (Instr.mapUpdate 57 (.map (some bi)) (.string p) (.agg #[.int .i64 1, .string ⟨#[]⟩, .string ⟨#[]⟩, .int .i64 0, .int .i64 0])).run Tryz.prog w.drew = .ok () w1 := hrun
  go_enter Tryz.func71, Tryz.ntmps71
  go_region
  all_goals (go_end0; exact ⟨rfl, HE.out⟩)
theorem own_cells {b bi bl : Nat} {l : Int} {w : World} {s : St} (h : Ia b bi bl l w s) (k : Nat) (u : Value) {cs : Array Value} (hk : (#[.map (some bi), .map (some bl), .int .i64 l, .int .i64 s.steps, .int .i64 s.stamps, .bool s.down] : Array Value).setIfInBounds k u = cs) :
    (w.setCell ⟨b, k, none⟩ u).heap[b]? = some (.cells cs 60 (0, 0)) := by
  rw [set_block h.blk, hk]
set_option maxRecDepth 100000 in
theorem iSet_any (b bi bl : Nat) (l : Int) (s : St) (x : It) (N : Int) (p : ByteArray) (w : World) (h : Ia b bi bl l w s) (hxp : x.path = p) (hps : p.size ≤ 8000000000000) (hn : s.L.length ≤ 1000000000) (hst : s.stamps ≤ 1000000000000) :
    Calls Tryz.prog 52 #[.pointer (some ⟨b, 0, none⟩), .string p, .agg #[.int .i64 (kOf x), .string x.data, .string x.kept, .int .i64 (stOf x), .int .i64 N]] w fun e w' => e = .returned (.tuple #[]) ∧ Ip b bi bl w (putS s x) w' := by
  obtain ⟨c0, c1, c2, c3, c4, c5⟩ := h.cell
  have hwm := h.warm
  have hbl : b < w.heap.size := h.lt b (.inl rfl)
  have a1 : Ia b bi bl l (w.setCell ⟨b, 4, none⟩ (.int .i64 ((s.stamps : Int) + 1))) { s with stamps := s.stamps + 1 } :=
    h.poke (chg_set _) (own_cells h 4 _ rfl) rfl rfl h.left h.low
  have hc1 : Chg (Ft b bi bl) w (w.setCell ⟨b, 4, none⟩ (.int .i64 ((s.stamps : Int) + 1))) := (chg_set _).mono ft_b
  have hB2 := ((Below.refl _ (w.setCell ⟨b, 4, none⟩ (.int .i64 ((s.stamps : Int) + 1)))).alloc (Nat.le_refl _) (.cells #[.int .i64 (kOf x), .string x.data, .string x.kept, .int .i64 (stOf x), .int .i64 ((s.stamps : Int) + 1)] 100)).drew
  have a2 := a1.below hB2
  obtain ⟨w3, hrun, hm, ht⟩ := a2.items.store (x := stamped s x) (by rw [show (stamped s x).path = p from hxp]; exact maxLen_of hps) (by unfold maxLen; show s.L.length < _; omega)
  have hrun : (Instr.mapUpdate 57 (.map (some bi)) (.string p) (.agg #[.int .i64 (kOf x), .string x.data, .string x.kept, .int .i64 (stOf x), .int .i64 ((s.stamps : Int) + 1)])).run Tryz.prog
      ((w.setCell ⟨b, 4, none⟩ (.int .i64 ((s.stamps : Int) + 1))).alloc (.cells #[.int .i64 (kOf x), .string x.data, .string x.kept, .int .i64 (stOf x), .int .i64 ((s.stamps : Int) + 1)] 100)).drew = .ok () w3 := by
    rw [← hxp]
    exact hrun
  have hend : Ip b bi bl w (putS s x) w3 := ⟨l, a2.turned hm ht, (hc1.then (Chg.of_below hB2 |>.mono (fun _ hi => hi))).then ((turned_chg ht).mono ft_i)⟩
  have HE := Lib.hid hend
  generalize kOf x = K at hrun ⊢
  generalize stOf x = T at hrun ⊢
  clear h a1 a2 hc1 hB2 hm ht hend hxp
  go_enter Tryz.func52, Tryz.ntmps52
  go_wp2
  go_region
  all_goals (go_end0; exact ⟨rfl, HE.out⟩)
end Go.Proofs.YtjdfffkkpbabpaaGreat.Dk

namespace Go.Proofs.YtjdfffkkpbabpaaGreat.Dk
open Go.RowKit Tx Pm Pl Pr
set_option linter.unusedVariables false
def stepR (s : St) (r : Nat) (s' : St) : Nat × St := if r ≠ 0 then (r, s) else if (done s).1 ≠ 0 then done s else (0, s')
set_option maxRecDepth 100000 in
theorem iStep_any (b bi bl : Nat) (l : Int) (s : St) (r : Nat) (f : FuncId) (cap : Array Value) (s' : St) (w : World) (h : Ia b bi bl l w s) (hd : r = 0 → s.down = false) (hst : s.steps ≤ 1000000000000)
    (hen : ∀ W, (callFunc f cap).run Tryz.prog W = .ok (.enter f cap) W)
    (cf : ∀ l1 W, r = 0 → (done s).1 = 0 → Ia b bi bl l1 W (done s).2 → Chg (· = b) w W → Calls Tryz.prog f cap W fun e w' => e = .returned (.tuple #[]) ∧ Ip b bi bl W s' w') :
    Calls Tryz.prog 69 #[.pointer (some ⟨b, 0, none⟩), .int .i64 r, .func (.func f) #[] cap] w fun e w' => e = .returned (.int .i64 ((stepR s r s').1 : Nat)) ∧ Ip b bi bl w (stepR s r s').2 w' := by
  obtain ⟨c0, c1, c2, c3, c4, c5⟩ := h.cell
  have hwm := h.warm
  have hlow := h.low
  unfold stepR
  by_cases hr : r = 0
  · subst hr
    rw [if_neg (by decide)]
    have hdn := hd rfl
    have hla : l = s.armed := h.left.resolve_left (by rw [hdn]; decide)
    by_cases h0 : l = 0
    · have hD : done s = (14, { s with down := true, armed := -1 }) := by unfold done; rw [if_pos (by omega)]
      rw [hD, if_pos (fun e => by cases e)]
      subst h0
      have a1 : Ia b bi bl 0 (w.setCell ⟨b, 5, none⟩ (.bool true)) { s with down := true, armed := -1 } := h.poke (chg_set _) (own_cells h 5 _ rfl) rfl rfl (.inl rfl) h.low
      have HE := Lib.hid (show Ip b bi bl w { s with down := true, armed := -1 } (w.setCell ⟨b, 5, none⟩ (.bool true)) from ⟨0, a1, (chg_set _).mono ft_b⟩)
      clear a1 h hd hD hla cf
      go_enter Tryz.func69, Tryz.ntmps69
      go_wp2
      go_ret
      exact ⟨rfl, HE.out⟩
    · have hD : done s = (0, { s with armed := if s.armed > 0 then s.armed - 1 else s.armed, steps := s.steps + 1 }) := by unfold done; rw [if_neg (by omega)]
      rw [hD] at cf
      rw [hD, if_neg (fun e => e rfl)]
      have e0 : (l == 0) = false := beq_eq_false_iff_ne.2 h0
      by_cases hl1 : l = -1
      · have hl2 : (-1 : Int) = s.armed := hl1 ▸ hla
        subst hl1
        have hx1 : max ((-1 : Int) - 1) (-1) = -1 := by omega
        have hx2 : max (-2 : Int) (-1) = -1 := by omega
        have hb1 : (w.setCell ⟨b, 2, none⟩ (.int .i64 (-1))).heap[b]? = some (.cells #[.map (some bi), .map (some bl), .int .i64 (-1), .int .i64 s.steps, .int .i64 s.stamps, .bool s.down] 60 (0, 0)) := own_cells h 2 _ rfl
        have hb2 : ((w.setCell ⟨b, 2, none⟩ (.int .i64 (-1))).setCell ⟨b, 3, none⟩ (.int .i64 ((s.steps : Int) + 1))).heap[b]? = some (.cells #[.map (some bi), .map (some bl), .int .i64 (-1), .int .i64 ((s.steps : Int) + 1), .int .i64 s.stamps, .bool s.down] 60 (0, 0)) := set_block hb1 _
        have hc2 : Chg (· = b) w ((w.setCell ⟨b, 2, none⟩ (.int .i64 (-1))).setCell ⟨b, 3, none⟩ (.int .i64 ((s.steps : Int) + 1))) := (chg_set _).then (chg_set _)
        have a2 : Ia b bi bl (-1) _ { s with armed := if s.armed > 0 then s.armed - 1 else s.armed, steps := s.steps + 1 } := h.poke hc2 hb2 rfl rfl (.inr (by show _ = (if s.armed > 0 then s.armed - 1 else s.armed); split <;> omega)) (by omega)
        have cf2 := cf (-1) _ rfl rfl a2 hc2
        have HC := Lib.hid hc2
        have g3 : (w.setCell ⟨b, 2, none⟩ (.int .i64 (-1))).cell? ⟨b, 3, none⟩ = some (.int .i64 s.steps) := by unfold World.cell?; rw [hb1]; rfl
        clear hl2 a2 h hd hD hla cf hc2 hb1 hb2 h0
        go_enter Tryz.func69, Tryz.ntmps69
        go_wp2_with fail
        refine cf2.mono ?_
        rintro e w5 ⟨rfl, l5, hat5, hc5⟩
        go_wp2
        go_ret
        exact ⟨rfl, l5, hat5, (HC.out.mono ft_b).then hc5⟩
      · have hl2 : 1 ≤ l := by omega
        have hx1 : max (l - 1) (-1) = l - 1 := by omega
        have hb1 : (w.setCell ⟨b, 2, none⟩ (.int .i64 (l - 1))).heap[b]? = some (.cells #[.map (some bi), .map (some bl), .int .i64 (l - 1), .int .i64 s.steps, .int .i64 s.stamps, .bool s.down] 60 (0, 0)) := own_cells h 2 _ rfl
        have hb2 : ((w.setCell ⟨b, 2, none⟩ (.int .i64 (l - 1))).setCell ⟨b, 3, none⟩ (.int .i64 ((s.steps : Int) + 1))).heap[b]? = some (.cells #[.map (some bi), .map (some bl), .int .i64 (l - 1), .int .i64 ((s.steps : Int) + 1), .int .i64 s.stamps, .bool s.down] 60 (0, 0)) := set_block hb1 _
        have hc2 : Chg (· = b) w ((w.setCell ⟨b, 2, none⟩ (.int .i64 (l - 1))).setCell ⟨b, 3, none⟩ (.int .i64 ((s.steps : Int) + 1))) := (chg_set _).then (chg_set _)
        have a2 : Ia b bi bl (l - 1) _ { s with armed := if s.armed > 0 then s.armed - 1 else s.armed, steps := s.steps + 1 } := h.poke hc2 hb2 rfl rfl (.inr (by show _ = (if s.armed > 0 then s.armed - 1 else s.armed); split <;> omega)) (by omega)
        have cf2 := cf (l - 1) _ rfl rfl a2 hc2
        have HC := Lib.hid hc2
        have g3 : (w.setCell ⟨b, 2, none⟩ (.int .i64 (l - 1))).cell? ⟨b, 3, none⟩ = some (.int .i64 s.steps) := by unfold World.cell?; rw [hb1]; rfl
        clear hl1 a2 h hd hD hla cf hc2 hb1 hb2 h0
        go_enter Tryz.func69, Tryz.ntmps69
        go_wp2_with fail
        refine cf2.mono ?_
        rintro e w5 ⟨rfl, l5, hat5, hc5⟩
        go_wp2
        go_ret
        exact ⟨rfl, l5, hat5, (HC.out.mono ft_b).then hc5⟩
  · rw [if_pos hr]
    have e0 : ((r : Int) == 0) = false := beq_eq_false_iff_ne.2 (by omega)
    have HE := Lib.hid (show Ip b bi bl w s w from ⟨l, h, Chg.refl _ _⟩)
    clear h hd cf hr
    go_enter Tryz.func69, Tryz.ntmps69
    go_wp2
    go_ret
    exact ⟨rfl, HE.out⟩
end Go.Proofs.YtjdfffkkpbabpaaGreat.Dk

namespace Go.Proofs.YtjdfffkkpbabpaaGreat.Rg
open Go.RowKit
set_option linter.unusedVariables false
section
variable {P : Program} {ops : Array Oper} {R : Act → World → Prop} {S : World → Prop}
theorem y_look {o : Oper} {a : Act} {T : TypeId} {x y : Operand} {c : Bool} {vx vy v : Value} (ho : o.op = .lookup T x y c) (hx : a.eval x = vx) (hy : a.eval y = vy)
    (hv : ∀ w, S w → (Instr.lookup T vx vy c).run P w = .ok v w) : ∀ w, S w → (execOp a.eval o).run P w = .ok (.value v) w := by
  intro w hw
  obtain ⟨dst, op, ty, pos, after, guard⟩ := o
  simp only at ho
  subst ho
  have := hv w hw
  simp only [execOp, hx, hy, Sem.run_bind]
  rw [this]
  rfl
theorem y_lookk {o : Oper} {a : Act} {T : TypeId} {x y : Operand} {c : Bool} {vx vy v : Value} (hv : ∀ w, S w → (Instr.lookup T vx vy c).run P w = .ok v w) (ho : o.op = .lookup T x y c := by kernel_rfl) (hx : a.eval x = vx := by kernel_rfl) (hy : a.eval y = vy := by kernel_rfl) : ∀ w, S w → (execOp a.eval o).run P w = .ok (.value v) w := y_look ho hx hy hv
theorem y_fld {o : Oper} {a : Act} {T : TypeId} {k : Nat} {x : Operand} {vx v : Value} (ho : o.op = .field T x k) (hx : a.eval x = vx)
    (hv : ∀ w, S w → (Instr.field T vx k).run P w = .ok v w) : ∀ w, S w → (execOp a.eval o).run P w = .ok (.value v) w := by
  intro w hw
  obtain ⟨dst, op, ty, pos, after, guard⟩ := o
  simp only at ho
  subst ho
  have := hv w hw
  simp only [execOp, hx, Sem.run_bind]
  rw [this]
  rfl
theorem y_fldk {o : Oper} {a : Act} {T : TypeId} {k : Nat} {x : Operand} {vx v : Value} (hv : ∀ w, S w → (Instr.field T vx k).run P w = .ok v w) (ho : o.op = .field T x k := by kernel_rfl) (hx : a.eval x = vx := by kernel_rfl) : ∀ w, S w → (execOp a.eval o).run P w = .ok (.value v) w := y_fld ho hx hv
theorem y_func {o : Oper} {a : Act} {f : Fn} {xs ys : Array Operand} {vs us : Array Value} (ho : o.op = .makeFunc f xs ys) (hx : xs.map a.eval = vs) (hy : ys.map a.eval = us) : ∀ w, S w → (execOp a.eval o).run P w = .ok (.value (.func f vs us)) w := by
  intro w hw
  obtain ⟨dst, op, ty, pos, after, guard⟩ := o
  simp only at ho
  subst ho
  subst hx
  subst hy
  rfl
theorem y_funck {o : Oper} {a : Act} {f : Fn} {xs ys : Array Operand} {vs us : Array Value} (ho : o.op = .makeFunc f xs ys := by kernel_rfl) (hx : xs.map a.eval = vs := by kernel_rfl) (hy : ys.map a.eval = us := by kernel_rfl) : ∀ w, S w → (execOp a.eval o).run P w = .ok (.value (.func f vs us)) w := y_func ho hx hy
theorem op_look (i : Nat) (d : Option Tmp) {T : TypeId} {x y : Operand} {c : Bool} {vx vy v : Value} {fuel : Nat} {listed : Array Bool} {a : Act} {w : World}
    (hi : decide (i < ops.size) = true) (hd : (opOf ops i).dst = d)
    (hw : Region.wanted (opOf ops i) (yielded ops a.tmps) = true) (ho : (opOf ops i).op = .lookup T x y c) (hx : a.eval x = vx) (hy : a.eval y = vy)
    (hv : (Instr.lookup T vx vy c).run P w = .ok v w) (hS : S w)
    (h : wpAnyH P .any ops (Only R) S fuel (listed.setIfInBounds i true) (a.put d v) w) :
    wpOp P ops (Only R) i (fun a' w' => S w' ∧ wpAnyH P .any ops (Only R) S fuel (listed.setIfInBounds i true) a' w') a w := by
  subst hd
  unfold wpOp
  rw [opOf_some hi]
  simp only [hw, if_true]
  refine .inl ?_
  have he : (execOp a.eval (opOf ops i)).run P w = .ok (.value v) w := y_look (S := fun W => W = w) ho hx hy (fun W hW => by rw [hW]; exact hv) w rfl
  unfold Oper.wp
  rw [he, Oper.upon_value]
  exact ⟨hS, h⟩
theorem op_lookk (i : Nat) (d : Option Tmp) {T : TypeId} {x y : Operand} {c : Bool} {vx vy v : Value} {fuel : Nat} {listed : Array Bool} {a : Act} {w : World} (hv : (Instr.lookup T vx vy c).run P w = .ok v w) (hS : S w) (h : wpAnyH P .any ops (Only R) S fuel (listed.setIfInBounds i true) (a.put d v) w) (hi : decide (i < ops.size) = true := by kernel_rfl) (hd : (opOf ops i).dst = d := by kernel_rfl) (hw : Region.wanted (opOf ops i) (yielded ops a.tmps) = true := by kernel_rfl) (ho : (opOf ops i).op = .lookup T x y c := by kernel_rfl) (hx : a.eval x = vx := by kernel_rfl) (hy : a.eval y = vy := by kernel_rfl) : wpOp P ops (Only R) i (fun a' w' => S w' ∧ wpAnyH P .any ops (Only R) S fuel (listed.setIfInBounds i true) a' w') a w := op_look i d hi hd hw ho hx hy hv hS h
end
end Go.Proofs.YtjdfffkkpbabpaaGreat.Rg

namespace Go.Proofs.YtjdfffkkpbabpaaGreat.Dk
open Go.RowKit Tx Pm Pl Pr
set_option linter.unusedVariables false
set_option maxRecDepth 100000 in
set_option maxHeartbeats 2000000 in
theorem regMkdir (ops : Array Oper) (hops : ops = (Rg.opsOf Tryz.f26 1)) (id : Nat) (bd bp : Nat) (dv : Value) (p : ByteArray) (r X : Nat) {u0 u1 u4 u5 u6 u7 u8 u9 u10 : Value} (w : World) (A B : World → Prop)
    (hS : (fun W => Cap W bd dv ∧ Cap W bp (.string p)) w.drew) (hm : Calls Tryz.prog 70 #[dv, .string p] w.drew fun e w' => e = .returned (.int .i64 (r : Nat)) ∧ A w') (hAS : ∀ W, A W → (fun W => Cap W bd dv ∧ Cap W bp (.string p)) W)
    (hst : ∀ W, A W → Calls Tryz.prog 69 #[dv, .int .i64 (r : Nat), .func (.func 71) #[] #[.pointer (some ⟨bd, 0, none⟩), .pointer (some ⟨bp, 0, none⟩)]] W fun e w' => e = .returned (.int .i64 (X : Nat)) ∧ B w') (hBS : ∀ W, B W → (fun W => Cap W bd dv ∧ Cap W bp (.string p)) W) :
    (Code.region id ops true).wp Tryz.prog (Rg.Only fun a' w' => a' = ⟨#[u0, u1, (.pointer (some ⟨bd, 0, none⟩)), (.pointer (some ⟨bp, 0, none⟩)), (.int .i64 (X : Nat)), dv, dv, (.string p), (.int .i64 (r : Nat)), .func (Fn.func 71) #[] #[(.pointer (some ⟨bd, 0, none⟩)), (.pointer (some ⟨bp, 0, none⟩))], (.int .i64 (X : Nat))], []⟩ ∧ B w') ⟨#[u0, u1, (.pointer (some ⟨bd, 0, none⟩)), (.pointer (some ⟨bp, 0, none⟩)), u4, u5, u6, u7, u8, u9, u10], []⟩ w := by
  subst hops
  have hNS : Region.noSelect (Rg.opsOf Tryz.f26 1) = true := by kernel_rfl
  refine wp_region_held_drew (S := (fun W => Cap W bd dv ∧ Cap W bp (.string p))) (by kernel_rfl) hS (fun hHeld => ?_)
  rw [show (Rg.opsOf Tryz.f26 1).size = 7 by kernel_rfl]
  refine Rg.takek 0 (some 5) (dv) hNS hHeld (Rg.y_loadk (T := 23) (x := .tmp 2) (vx := (.pointer (some ⟨bd, 0, none⟩))) ?_) ?_
  · (intro w hSw; obtain ⟨s0, s1⟩ := hSw; unfold Cap at *; go_simp)
  refine Rg.takek 1 (some 6) (dv) hNS hHeld (Rg.y_loadk (T := 23) (x := .tmp 2) (vx := (.pointer (some ⟨bd, 0, none⟩))) ?_) ?_
  · (intro w hSw; obtain ⟨s0, s1⟩ := hSw; unfold Cap at *; go_simp)
  refine Rg.takek 2 (some 7) (.string p) hNS hHeld (Rg.y_loadk (T := 9) (x := .tmp 3) (vx := (.pointer (some ⟨bp, 0, none⟩))) ?_) ?_
  · (intro w hSw; obtain ⟨s0, s1⟩ := hSw; unfold Cap at *; go_simp)
  refine Rg.takek 4 (some 9) (.func (Fn.func 71) #[] #[(.pointer (some ⟨bd, 0, none⟩)), (.pointer (some ⟨bp, 0, none⟩))]) hNS hHeld (Rg.y_funck (f := Fn.func 71) (xs := #[]) (ys := #[.tmp 2, .tmp 3]) (vs := #[]) (us := #[(.pointer (some ⟨bd, 0, none⟩)), (.pointer (some ⟨bp, 0, none⟩))])) ?_
  refine Rg.callk (fn := Tryz.f70) (xs := #[.tmp 6, .tmp 7]) (ats := #[23, 9]) 3 (some 8) 70 #[dv, (.string p)] Tryz.func70 ?_
  refine hm.mono ?_
  rintro e w5 ⟨rfl, hA5⟩
  refine ⟨_, rfl, hAS _ hA5, fun hHeld => ?_⟩
  refine Rg.callk (fn := Tryz.f69) (xs := #[.tmp 5, .tmp 8, .tmp 9]) (ats := #[23, 29, 1]) 5 (some 10) 69 #[dv, (.int .i64 (r : Nat)), .func (Fn.func 71) #[] #[(.pointer (some ⟨bd, 0, none⟩)), (.pointer (some ⟨bp, 0, none⟩))]] Tryz.func69 ?_
  refine (hst _ hA5).mono ?_
  rintro e w6 ⟨rfl, hB6⟩
  refine ⟨_, rfl, hBS _ hB6, fun hHeld => ?_⟩
  refine Rg.takek 6 (some 4) (.int .i64 (X : Nat)) hNS hHeld (Rg.y_movekR (x := .tmp 10)) ?_
  refine Rg.donek ?_
  exact ⟨by kernel_rfl, hB6⟩
set_option maxRecDepth 100000 in
set_option maxHeartbeats 2000000 in
theorem regWrite (ops : Array Oper) (hops : ops = (Rg.opsOf Tryz.f91 1)) (id : Nat) (bd bp bq : Nat) (dv : Value) (p q : ByteArray) (r X : Nat) {u0 u1 u2 u6 u7 u8 u9 u10 u11 u12 u13 : Value} (w : World) (A B : World → Prop)
    (hS : (fun W => Cap W bd dv ∧ Cap W bp (.string p) ∧ Cap W bq (.string q)) w.drew) (hm : Calls Tryz.prog 122 #[dv, .string p, .string q] w.drew fun e w' => e = .returned (.int .i64 (r : Nat)) ∧ A w') (hAS : ∀ W, A W → (fun W => Cap W bd dv ∧ Cap W bp (.string p) ∧ Cap W bq (.string q)) W)
    (hst : ∀ W, A W → Calls Tryz.prog 69 #[dv, .int .i64 (r : Nat), .func (.func 123) #[] #[.pointer (some ⟨bd, 0, none⟩), .pointer (some ⟨bp, 0, none⟩), .pointer (some ⟨bq, 0, none⟩)]] W fun e w' => e = .returned (.int .i64 (X : Nat)) ∧ B w') (hBS : ∀ W, B W → (fun W => Cap W bd dv ∧ Cap W bp (.string p) ∧ Cap W bq (.string q)) W) :
    (Code.region id ops true).wp Tryz.prog (Rg.Only fun a' w' => a' = ⟨#[u0, u1, u2, (.pointer (some ⟨bd, 0, none⟩)), (.pointer (some ⟨bp, 0, none⟩)), (.pointer (some ⟨bq, 0, none⟩)), (.int .i64 (X : Nat)), dv, dv, (.string p), (.string q), (.int .i64 (r : Nat)), .func (Fn.func 123) #[] #[(.pointer (some ⟨bd, 0, none⟩)), (.pointer (some ⟨bp, 0, none⟩)), (.pointer (some ⟨bq, 0, none⟩))], (.int .i64 (X : Nat))], []⟩ ∧ B w') ⟨#[u0, u1, u2, (.pointer (some ⟨bd, 0, none⟩)), (.pointer (some ⟨bp, 0, none⟩)), (.pointer (some ⟨bq, 0, none⟩)), u6, u7, u8, u9, u10, u11, u12, u13], []⟩ w := by
  subst hops
  have hNS : Region.noSelect (Rg.opsOf Tryz.f91 1) = true := by kernel_rfl
  refine wp_region_held_drew (S := (fun W => Cap W bd dv ∧ Cap W bp (.string p) ∧ Cap W bq (.string q))) (by kernel_rfl) hS (fun hHeld => ?_)
  rw [show (Rg.opsOf Tryz.f91 1).size = 8 by kernel_rfl]
  refine Rg.takek 0 (some 7) (dv) hNS hHeld (Rg.y_loadk (T := 23) (x := .tmp 3) (vx := (.pointer (some ⟨bd, 0, none⟩))) ?_) ?_
  · (intro w hSw; obtain ⟨s0, s1, s2⟩ := hSw; unfold Cap at *; go_simp)
  refine Rg.takek 1 (some 8) (dv) hNS hHeld (Rg.y_loadk (T := 23) (x := .tmp 3) (vx := (.pointer (some ⟨bd, 0, none⟩))) ?_) ?_
  · (intro w hSw; obtain ⟨s0, s1, s2⟩ := hSw; unfold Cap at *; go_simp)
  refine Rg.takek 2 (some 9) (.string p) hNS hHeld (Rg.y_loadk (T := 9) (x := .tmp 4) (vx := (.pointer (some ⟨bp, 0, none⟩))) ?_) ?_
  · (intro w hSw; obtain ⟨s0, s1, s2⟩ := hSw; unfold Cap at *; go_simp)
  refine Rg.takek 3 (some 10) (.string q) hNS hHeld (Rg.y_loadk (T := 9) (x := .tmp 5) (vx := (.pointer (some ⟨bq, 0, none⟩))) ?_) ?_
  · (intro w hSw; obtain ⟨s0, s1, s2⟩ := hSw; unfold Cap at *; go_simp)
  refine Rg.takek 5 (some 12) (.func (Fn.func 123) #[] #[(.pointer (some ⟨bd, 0, none⟩)), (.pointer (some ⟨bp, 0, none⟩)), (.pointer (some ⟨bq, 0, none⟩))]) hNS hHeld (Rg.y_funck (f := Fn.func 123) (xs := #[]) (ys := #[.tmp 3, .tmp 4, .tmp 5]) (vs := #[]) (us := #[(.pointer (some ⟨bd, 0, none⟩)), (.pointer (some ⟨bp, 0, none⟩)), (.pointer (some ⟨bq, 0, none⟩))])) ?_
  refine Rg.callk (fn := Tryz.f122) (xs := #[.tmp 8, .tmp 9, .tmp 10]) (ats := #[23, 9, 9]) 4 (some 11) 122 #[dv, (.string p), (.string q)] Tryz.func122 ?_
  refine hm.mono ?_
  rintro e w5 ⟨rfl, hA5⟩
  refine ⟨_, rfl, hAS _ hA5, fun hHeld => ?_⟩
  refine Rg.callk (fn := Tryz.f69) (xs := #[.tmp 7, .tmp 11, .tmp 12]) (ats := #[23, 29, 1]) 6 (some 13) 69 #[dv, (.int .i64 (r : Nat)), .func (Fn.func 123) #[] #[(.pointer (some ⟨bd, 0, none⟩)), (.pointer (some ⟨bp, 0, none⟩)), (.pointer (some ⟨bq, 0, none⟩))]] Tryz.func69 ?_
  refine (hst _ hA5).mono ?_
  rintro e w6 ⟨rfl, hB6⟩
  refine ⟨_, rfl, hBS _ hB6, fun hHeld => ?_⟩
  refine Rg.takek 7 (some 6) (.int .i64 (X : Nat)) hNS hHeld (Rg.y_movekR (x := .tmp 13)) ?_
  refine Rg.donek ?_
  exact ⟨by kernel_rfl, hB6⟩
set_option maxRecDepth 100000 in
set_option maxHeartbeats 2000000 in
theorem regAppend (ops : Array Oper) (hops : ops = (Rg.opsOf Tryz.f84 1)) (id : Nat) (bd bp bq : Nat) (dv : Value) (p q : ByteArray) (r X : Nat) {u0 u1 u2 u6 u7 u8 u9 u10 u11 u12 u13 : Value} (w : World) (A B : World → Prop)
    (hS : (fun W => Cap W bd dv ∧ Cap W bp (.string p) ∧ Cap W bq (.string q)) w.drew) (hm : Calls Tryz.prog 115 #[dv, .string p, .string q] w.drew fun e w' => e = .returned (.int .i64 (r : Nat)) ∧ A w') (hAS : ∀ W, A W → (fun W => Cap W bd dv ∧ Cap W bp (.string p) ∧ Cap W bq (.string q)) W)
    (hst : ∀ W, A W → Calls Tryz.prog 69 #[dv, .int .i64 (r : Nat), .func (.func 116) #[] #[.pointer (some ⟨bd, 0, none⟩), .pointer (some ⟨bp, 0, none⟩), .pointer (some ⟨bq, 0, none⟩)]] W fun e w' => e = .returned (.int .i64 (X : Nat)) ∧ B w') (hBS : ∀ W, B W → (fun W => Cap W bd dv ∧ Cap W bp (.string p) ∧ Cap W bq (.string q)) W) :
    (Code.region id ops true).wp Tryz.prog (Rg.Only fun a' w' => a' = ⟨#[u0, u1, u2, (.pointer (some ⟨bd, 0, none⟩)), (.pointer (some ⟨bp, 0, none⟩)), (.pointer (some ⟨bq, 0, none⟩)), (.int .i64 (X : Nat)), dv, dv, (.string p), (.string q), (.int .i64 (r : Nat)), .func (Fn.func 116) #[] #[(.pointer (some ⟨bd, 0, none⟩)), (.pointer (some ⟨bp, 0, none⟩)), (.pointer (some ⟨bq, 0, none⟩))], (.int .i64 (X : Nat))], []⟩ ∧ B w') ⟨#[u0, u1, u2, (.pointer (some ⟨bd, 0, none⟩)), (.pointer (some ⟨bp, 0, none⟩)), (.pointer (some ⟨bq, 0, none⟩)), u6, u7, u8, u9, u10, u11, u12, u13], []⟩ w := by
  subst hops
  have hNS : Region.noSelect (Rg.opsOf Tryz.f84 1) = true := by kernel_rfl
  refine wp_region_held_drew (S := (fun W => Cap W bd dv ∧ Cap W bp (.string p) ∧ Cap W bq (.string q))) (by kernel_rfl) hS (fun hHeld => ?_)
  rw [show (Rg.opsOf Tryz.f84 1).size = 8 by kernel_rfl]
  refine Rg.takek 0 (some 7) (dv) hNS hHeld (Rg.y_loadk (T := 23) (x := .tmp 3) (vx := (.pointer (some ⟨bd, 0, none⟩))) ?_) ?_
  · (intro w hSw; obtain ⟨s0, s1, s2⟩ := hSw; unfold Cap at *; go_simp)
  refine Rg.takek 1 (some 8) (dv) hNS hHeld (Rg.y_loadk (T := 23) (x := .tmp 3) (vx := (.pointer (some ⟨bd, 0, none⟩))) ?_) ?_
  · (intro w hSw; obtain ⟨s0, s1, s2⟩ := hSw; unfold Cap at *; go_simp)
  refine Rg.takek 2 (some 9) (.string p) hNS hHeld (Rg.y_loadk (T := 9) (x := .tmp 4) (vx := (.pointer (some ⟨bp, 0, none⟩))) ?_) ?_
  · (intro w hSw; obtain ⟨s0, s1, s2⟩ := hSw; unfold Cap at *; go_simp)
  refine Rg.takek 3 (some 10) (.string q) hNS hHeld (Rg.y_loadk (T := 9) (x := .tmp 5) (vx := (.pointer (some ⟨bq, 0, none⟩))) ?_) ?_
  · (intro w hSw; obtain ⟨s0, s1, s2⟩ := hSw; unfold Cap at *; go_simp)
  refine Rg.takek 5 (some 12) (.func (Fn.func 116) #[] #[(.pointer (some ⟨bd, 0, none⟩)), (.pointer (some ⟨bp, 0, none⟩)), (.pointer (some ⟨bq, 0, none⟩))]) hNS hHeld (Rg.y_funck (f := Fn.func 116) (xs := #[]) (ys := #[.tmp 3, .tmp 4, .tmp 5]) (vs := #[]) (us := #[(.pointer (some ⟨bd, 0, none⟩)), (.pointer (some ⟨bp, 0, none⟩)), (.pointer (some ⟨bq, 0, none⟩))])) ?_
  refine Rg.callk (fn := Tryz.f115) (xs := #[.tmp 8, .tmp 9, .tmp 10]) (ats := #[23, 9, 9]) 4 (some 11) 115 #[dv, (.string p), (.string q)] Tryz.func115 ?_
  refine hm.mono ?_
  rintro e w5 ⟨rfl, hA5⟩
  refine ⟨_, rfl, hAS _ hA5, fun hHeld => ?_⟩
  refine Rg.callk (fn := Tryz.f69) (xs := #[.tmp 7, .tmp 11, .tmp 12]) (ats := #[23, 29, 1]) 6 (some 13) 69 #[dv, (.int .i64 (r : Nat)), .func (Fn.func 116) #[] #[(.pointer (some ⟨bd, 0, none⟩)), (.pointer (some ⟨bp, 0, none⟩)), (.pointer (some ⟨bq, 0, none⟩))]] Tryz.func69 ?_
  refine (hst _ hA5).mono ?_
  rintro e w6 ⟨rfl, hB6⟩
  refine ⟨_, rfl, hBS _ hB6, fun hHeld => ?_⟩
  refine Rg.takek 7 (some 6) (.int .i64 (X : Nat)) hNS hHeld (Rg.y_movekR (x := .tmp 13)) ?_
  refine Rg.donek ?_
  exact ⟨by kernel_rfl, hB6⟩
set_option maxRecDepth 100000 in
set_option maxHeartbeats 2000000 in
theorem regSync (ops : Array Oper) (hops : ops = (Rg.opsOf Tryz.f85 1)) (id : Nat) (bd bp : Nat) (dv : Value) (p : ByteArray) (r X : Nat) {u0 u1 u4 u5 u6 u7 u8 u9 u10 : Value} (w : World) (A B : World → Prop)
    (hS : (fun W => Cap W bd dv ∧ Cap W bp (.string p)) w.drew) (hm : Calls Tryz.prog 117 #[dv, .string p] w.drew fun e w' => e = .returned (.int .i64 (r : Nat)) ∧ A w') (hAS : ∀ W, A W → (fun W => Cap W bd dv ∧ Cap W bp (.string p)) W)
    (hst : ∀ W, A W → Calls Tryz.prog 69 #[dv, .int .i64 (r : Nat), .func (.func 118) #[] #[.pointer (some ⟨bd, 0, none⟩), .pointer (some ⟨bp, 0, none⟩)]] W fun e w' => e = .returned (.int .i64 (X : Nat)) ∧ B w') (hBS : ∀ W, B W → (fun W => Cap W bd dv ∧ Cap W bp (.string p)) W) :
    (Code.region id ops true).wp Tryz.prog (Rg.Only fun a' w' => a' = ⟨#[u0, u1, (.pointer (some ⟨bd, 0, none⟩)), (.pointer (some ⟨bp, 0, none⟩)), (.int .i64 (X : Nat)), dv, dv, (.string p), (.int .i64 (r : Nat)), .func (Fn.func 118) #[] #[(.pointer (some ⟨bd, 0, none⟩)), (.pointer (some ⟨bp, 0, none⟩))], (.int .i64 (X : Nat))], []⟩ ∧ B w') ⟨#[u0, u1, (.pointer (some ⟨bd, 0, none⟩)), (.pointer (some ⟨bp, 0, none⟩)), u4, u5, u6, u7, u8, u9, u10], []⟩ w := by
  subst hops
  have hNS : Region.noSelect (Rg.opsOf Tryz.f85 1) = true := by kernel_rfl
  refine wp_region_held_drew (S := (fun W => Cap W bd dv ∧ Cap W bp (.string p))) (by kernel_rfl) hS (fun hHeld => ?_)
  rw [show (Rg.opsOf Tryz.f85 1).size = 7 by kernel_rfl]
  refine Rg.takek 0 (some 5) (dv) hNS hHeld (Rg.y_loadk (T := 23) (x := .tmp 2) (vx := (.pointer (some ⟨bd, 0, none⟩))) ?_) ?_
  · (intro w hSw; obtain ⟨s0, s1⟩ := hSw; unfold Cap at *; go_simp)
  refine Rg.takek 1 (some 6) (dv) hNS hHeld (Rg.y_loadk (T := 23) (x := .tmp 2) (vx := (.pointer (some ⟨bd, 0, none⟩))) ?_) ?_
  · (intro w hSw; obtain ⟨s0, s1⟩ := hSw; unfold Cap at *; go_simp)
  refine Rg.takek 2 (some 7) (.string p) hNS hHeld (Rg.y_loadk (T := 9) (x := .tmp 3) (vx := (.pointer (some ⟨bp, 0, none⟩))) ?_) ?_
  · (intro w hSw; obtain ⟨s0, s1⟩ := hSw; unfold Cap at *; go_simp)
  refine Rg.takek 4 (some 9) (.func (Fn.func 118) #[] #[(.pointer (some ⟨bd, 0, none⟩)), (.pointer (some ⟨bp, 0, none⟩))]) hNS hHeld (Rg.y_funck (f := Fn.func 118) (xs := #[]) (ys := #[.tmp 2, .tmp 3]) (vs := #[]) (us := #[(.pointer (some ⟨bd, 0, none⟩)), (.pointer (some ⟨bp, 0, none⟩))])) ?_
  refine Rg.callk (fn := Tryz.f117) (xs := #[.tmp 6, .tmp 7]) (ats := #[23, 9]) 3 (some 8) 117 #[dv, (.string p)] Tryz.func117 ?_
  refine hm.mono ?_
  rintro e w5 ⟨rfl, hA5⟩
  refine ⟨_, rfl, hAS _ hA5, fun hHeld => ?_⟩
  refine Rg.callk (fn := Tryz.f69) (xs := #[.tmp 5, .tmp 8, .tmp 9]) (ats := #[23, 29, 1]) 5 (some 10) 69 #[dv, (.int .i64 (r : Nat)), .func (Fn.func 118) #[] #[(.pointer (some ⟨bd, 0, none⟩)), (.pointer (some ⟨bp, 0, none⟩))]] Tryz.func69 ?_
  refine (hst _ hA5).mono ?_
  rintro e w6 ⟨rfl, hB6⟩
  refine ⟨_, rfl, hBS _ hB6, fun hHeld => ?_⟩
  refine Rg.takek 6 (some 4) (.int .i64 (X : Nat)) hNS hHeld (Rg.y_movekR (x := .tmp 10)) ?_
  refine Rg.donek ?_
  exact ⟨by kernel_rfl, hB6⟩
set_option maxRecDepth 100000 in
set_option maxHeartbeats 2000000 in
theorem regRename (ops : Array Oper) (hops : ops = (Rg.opsOf Tryz.f92 1)) (id : Nat) (bd bp bq : Nat) (dv : Value) (p q : ByteArray) (r X : Nat) {u0 u1 u2 u6 u7 u8 u9 u10 u11 u12 u13 : Value} (w : World) (A B : World → Prop)
    (hS : (fun W => Cap W bd dv ∧ Cap W bp (.string p) ∧ Cap W bq (.string q)) w.drew) (hm : Calls Tryz.prog 124 #[dv, .string p, .string q] w.drew fun e w' => e = .returned (.int .i64 (r : Nat)) ∧ A w') (hAS : ∀ W, A W → (fun W => Cap W bd dv ∧ Cap W bp (.string p) ∧ Cap W bq (.string q)) W)
    (hst : ∀ W, A W → Calls Tryz.prog 69 #[dv, .int .i64 (r : Nat), .func (.func 125) #[] #[.pointer (some ⟨bd, 0, none⟩), .pointer (some ⟨bp, 0, none⟩), .pointer (some ⟨bq, 0, none⟩)]] W fun e w' => e = .returned (.int .i64 (X : Nat)) ∧ B w') (hBS : ∀ W, B W → (fun W => Cap W bd dv ∧ Cap W bp (.string p) ∧ Cap W bq (.string q)) W) :
    (Code.region id ops true).wp Tryz.prog (Rg.Only fun a' w' => a' = ⟨#[u0, u1, u2, (.pointer (some ⟨bd, 0, none⟩)), (.pointer (some ⟨bp, 0, none⟩)), (.pointer (some ⟨bq, 0, none⟩)), (.int .i64 (X : Nat)), dv, dv, (.string p), (.string q), (.int .i64 (r : Nat)), .func (Fn.func 125) #[] #[(.pointer (some ⟨bd, 0, none⟩)), (.pointer (some ⟨bp, 0, none⟩)), (.pointer (some ⟨bq, 0, none⟩))], (.int .i64 (X : Nat))], []⟩ ∧ B w') ⟨#[u0, u1, u2, (.pointer (some ⟨bd, 0, none⟩)), (.pointer (some ⟨bp, 0, none⟩)), (.pointer (some ⟨bq, 0, none⟩)), u6, u7, u8, u9, u10, u11, u12, u13], []⟩ w := by
  subst hops
  have hNS : Region.noSelect (Rg.opsOf Tryz.f92 1) = true := by kernel_rfl
  refine wp_region_held_drew (S := (fun W => Cap W bd dv ∧ Cap W bp (.string p) ∧ Cap W bq (.string q))) (by kernel_rfl) hS (fun hHeld => ?_)
  rw [show (Rg.opsOf Tryz.f92 1).size = 8 by kernel_rfl]
  refine Rg.takek 0 (some 7) (dv) hNS hHeld (Rg.y_loadk (T := 23) (x := .tmp 3) (vx := (.pointer (some ⟨bd, 0, none⟩))) ?_) ?_
  · (intro w hSw; obtain ⟨s0, s1, s2⟩ := hSw; unfold Cap at *; go_simp)
  refine Rg.takek 1 (some 8) (dv) hNS hHeld (Rg.y_loadk (T := 23) (x := .tmp 3) (vx := (.pointer (some ⟨bd, 0, none⟩))) ?_) ?_
  · (intro w hSw; obtain ⟨s0, s1, s2⟩ := hSw; unfold Cap at *; go_simp)
  refine Rg.takek 2 (some 9) (.string p) hNS hHeld (Rg.y_loadk (T := 9) (x := .tmp 4) (vx := (.pointer (some ⟨bp, 0, none⟩))) ?_) ?_
  · (intro w hSw; obtain ⟨s0, s1, s2⟩ := hSw; unfold Cap at *; go_simp)
  refine Rg.takek 3 (some 10) (.string q) hNS hHeld (Rg.y_loadk (T := 9) (x := .tmp 5) (vx := (.pointer (some ⟨bq, 0, none⟩))) ?_) ?_
  · (intro w hSw; obtain ⟨s0, s1, s2⟩ := hSw; unfold Cap at *; go_simp)
  refine Rg.takek 5 (some 12) (.func (Fn.func 125) #[] #[(.pointer (some ⟨bd, 0, none⟩)), (.pointer (some ⟨bp, 0, none⟩)), (.pointer (some ⟨bq, 0, none⟩))]) hNS hHeld (Rg.y_funck (f := Fn.func 125) (xs := #[]) (ys := #[.tmp 3, .tmp 4, .tmp 5]) (vs := #[]) (us := #[(.pointer (some ⟨bd, 0, none⟩)), (.pointer (some ⟨bp, 0, none⟩)), (.pointer (some ⟨bq, 0, none⟩))])) ?_
  refine Rg.callk (fn := Tryz.f124) (xs := #[.tmp 8, .tmp 9, .tmp 10]) (ats := #[23, 9, 9]) 4 (some 11) 124 #[dv, (.string p), (.string q)] Tryz.func124 ?_
  refine hm.mono ?_
  rintro e w5 ⟨rfl, hA5⟩
  refine ⟨_, rfl, hAS _ hA5, fun hHeld => ?_⟩
  refine Rg.callk (fn := Tryz.f69) (xs := #[.tmp 7, .tmp 11, .tmp 12]) (ats := #[23, 29, 1]) 6 (some 13) 69 #[dv, (.int .i64 (r : Nat)), .func (Fn.func 125) #[] #[(.pointer (some ⟨bd, 0, none⟩)), (.pointer (some ⟨bp, 0, none⟩)), (.pointer (some ⟨bq, 0, none⟩))]] Tryz.func69 ?_
  refine (hst _ hA5).mono ?_
  rintro e w6 ⟨rfl, hB6⟩
  refine ⟨_, rfl, hBS _ hB6, fun hHeld => ?_⟩
  refine Rg.takek 7 (some 6) (.int .i64 (X : Nat)) hNS hHeld (Rg.y_movekR (x := .tmp 13)) ?_
  refine Rg.donek ?_
  exact ⟨by kernel_rfl, hB6⟩
end Go.Proofs.YtjdfffkkpbabpaaGreat.Dk

namespace Go.Proofs.YtjdfffkkpbabpaaGreat.Dk
open Go.RowKit Tx Pm Pl Pr
set_option linter.unusedVariables false
set_option maxRecDepth 100000 in
set_option maxHeartbeats 2000000 in
theorem regMayWrite (ops : Array Oper) (hops : ops = (Rg.opsOf Tryz.f122 8)) (id : Nat) (b bi bl : Nat) (l : Int) (s : St) (p d V X0 X1 : ByteArray) (K X2 X3 : Int) (B : Bool) {u3 u4 u5 u6 u7 u8 u9 u10 u11 u12 u13 u14 u15 u16 u17 u18 u19 u20 u21 u22 u23 u24 u25 u26 u27 u28 u29 u30 u31 u32 u33 u34 u35 u36 u37 u38 u39 u40 u41 u42 u43 u44 : Value} (w : World) (h : Ia b bi bl l w s)
    (hlk : ∀ W, Ia b bi bl l W s → (Instr.lookup 57 (.map (some bi)) (.string p) false).run Tryz.prog W = .ok (.agg #[.int .i64 K, .string X0, .string X1, .int .i64 X2, .int .i64 X3]) W)
    (hsub : IntKind.i64.wrap ((d.size : Int) - (X0.size : Int)) = (d.size : Int) - (X0.size : Int))
    (cv : ∀ W, Calls Tryz.prog 146 #[.string p] W fun e w' => e = .returned (.string V) ∧ ∃ n, w' = W.drewN n)
    (cf : ∀ W, Ia b bi bl l W s → Calls Tryz.prog 145 #[.pointer (some ⟨b, 0, none⟩), .string V, .int .i64 ((d.size : Int) - (X0.size : Int))] W fun e w' => e = .returned (.bool B) ∧ Below W.heap.size W w') :
    (Code.region id ops true).wp Tryz.prog (Rg.Only fun a' w' => a' = ⟨#[(.pointer (some ⟨b, 0, none⟩)), (.string p), (.string d), u3, u4, u5, u6, u7, u8, u9, u10, u11, u12, u13, u14, u15, u16, u17, u18, u19, u20, u21, u22, u23, u24, u25, u26, u27, u28, (.bool B), (.pointer (some ⟨b, 0, none⟩)), (.string p), (.string V), (.string d), (.int .i64 (d.size : Int)), (.pointer (some ⟨b, 0, none⟩)), (.pointer (some ⟨b, 0, none⟩)), (.pointer (some ⟨b, 0, none⟩)), (.map (some bi)), (.string p), (.agg #[.int .i64 K, .string X0, .string X1, .int .i64 X2, .int .i64 X3]), (.string X0), (.int .i64 (X0.size : Int)), (.int .i64 ((d.size : Int) - (X0.size : Int))), (.bool B)], []⟩ ∧ Below w.heap.size w w') ⟨#[(.pointer (some ⟨b, 0, none⟩)), (.string p), (.string d), u3, u4, u5, u6, u7, u8, u9, u10, u11, u12, u13, u14, u15, u16, u17, u18, u19, u20, u21, u22, u23, u24, u25, u26, u27, u28, u29, u30, u31, u32, u33, u34, u35, u36, u37, u38, u39, u40, u41, u42, u43, u44], []⟩ w := by
  subst hops
  have hNS : Region.noSelect (Rg.opsOf Tryz.f122 8) = true := by kernel_rfl
  have h0 : Ia b bi bl l w.drew s ∧ Below w.heap.size w w.drew := ⟨h.below (Below.refl _ _).drew, (Below.refl _ _).drew⟩
  refine wp_region_held_drew (S := fun W => Ia b bi bl l W s ∧ Below w.heap.size w W) (by kernel_rfl) h0 (fun hHeld => ?_)
  rw [show (Rg.opsOf Tryz.f122 8).size = 16 by kernel_rfl]
  refine Rg.takek 0 (some 30) (.pointer (some ⟨b, 0, none⟩)) hNS hHeld (Rg.y_movekL (x := .tmp 0)) ?_
  refine Rg.takek 1 (some 31) (.string p) hNS hHeld (Rg.y_movekL (x := .tmp 1)) ?_
  refine Rg.takek 3 (some 33) (.string d) hNS hHeld (Rg.y_movekL (x := .tmp 2)) ?_
  refine Rg.takek 4 (some 34) (.int .i64 (d.size : Int)) hNS hHeld (Rg.y_lenk (x := .tmp 33) (ats := #[9]) (vx := (.string d)) (n := d.size) ?_) ?_
  · (intro ty w hSw; go_simp)
  refine Rg.takek 5 (some 35) (.pointer (some ⟨b, 0, none⟩)) hNS hHeld (Rg.y_movekL (x := .tmp 0)) ?_
  refine Rg.takek 6 (some 36) (.pointer (some ⟨b, 0, none⟩)) hNS hHeld (Rg.y_nilk (x := .tmp 35)) ?_
  refine Rg.takek 7 (some 37) (.pointer (some ⟨b, 0, none⟩)) hNS hHeld (Rg.y_fieldk (T := 60) (k := 0) (x := .tmp 36) (vx := (.pointer (some ⟨b, 0, none⟩))) ?_) ?_
  · (intro w hSw; clear hSw; go_simp)
  refine Rg.takek 8 (some 38) (.map (some bi)) hNS hHeld (Rg.y_loadk (T := 57) (x := .tmp 37) (vx := (.pointer (some ⟨b, 0, none⟩))) ?_) ?_
  · (intro w hSw; have c0 := hSw.1.cell.1; clear hSw; go_simp)
  refine Rg.takek 9 (some 39) (.string p) hNS hHeld (Rg.y_movekL (x := .tmp 1)) ?_
  refine Rg.takek 10 (some 40) (.agg #[.int .i64 K, .string X0, .string X1, .int .i64 X2, .int .i64 X3]) hNS hHeld (Rg.y_lookk (T := 57) (x := .tmp 38) (y := .tmp 39) (c := false) (vx := (.map (some bi))) (vy := (.string p)) ?_) ?_
  · (intro w hSw; exact hlk _ hSw.1)
  refine Rg.takek 11 (some 41) (.string X0) hNS hHeld (Rg.y_fldk (T := 100) (k := 1) (x := .tmp 40) (vx := (.agg #[.int .i64 K, .string X0, .string X1, .int .i64 X2, .int .i64 X3])) ?_) ?_
  · (intro w hSw; exact fld1 _ _ _ _ _ w)
  refine Rg.takek 12 (some 42) (.int .i64 (X0.size : Int)) hNS hHeld (Rg.y_lenk (x := .tmp 41) (ats := #[9]) (vx := (.string X0)) (n := X0.size) ?_) ?_
  · (intro ty w hSw; go_simp)
  refine Rg.takek 13 (some 43) ((.int .i64 ((d.size : Int) - (X0.size : Int)))) hNS hHeld (Rg.y_bink (b := BinOp.sub) (T := 3) (R' := 3) (x := .tmp 34) (y := .tmp 42) (vx := (.int .i64 (d.size : Int))) (vy := (.int .i64 (X0.size : Int))) ?_) ?_
  · (intro w hSw; clear hSw; go_simp <;> exact hsub)
  refine Rg.callk (fn := Tryz.f146) (xs := #[.tmp 31]) (ats := #[9]) 2 (some 32) 146 #[(.string p)] Tryz.func146 ?_
  refine (cv _).mono ?_
  rintro e w5 ⟨rfl, n5, rfl⟩
  refine ⟨_, rfl, ⟨hHeld.1.below (below_drewN _ _), below_call hHeld.2 (below_drewN _ _)⟩, fun hHeld => ?_⟩
  refine Rg.callk (fn := Tryz.f145) (xs := #[.tmp 30, .tmp 32, .tmp 43]) (ats := #[23, 9, 3]) 14 (some 44) 145 #[(.pointer (some ⟨b, 0, none⟩)), (.string V), (.int .i64 ((d.size : Int) - (X0.size : Int)))] Tryz.func145 ?_
  refine (cf _ hHeld.1).mono ?_
  rintro e w6 ⟨rfl, hb6⟩
  refine ⟨_, rfl, ⟨hHeld.1.below hb6, below_call hHeld.2 hb6⟩, fun hHeld => ?_⟩
  refine Rg.takek 15 (some 29) (.bool B) hNS hHeld (Rg.y_movekR (x := .tmp 44)) ?_
  refine Rg.donek ?_
  exact ⟨by kernel_rfl, hHeld.2⟩
set_option maxRecDepth 100000 in
set_option maxHeartbeats 2000000 in
theorem regMayRename1 (ops : Array Oper) (hops : ops = (Rg.opsOf Tryz.f124 12)) (id : Nat) (b bi bl gf gg : Nat) (l : Int) (s : St) (t X Y V : ByteArray) (B : Bool) {u1 u3 u4 u5 u6 u7 u11 u12 u13 u14 u15 u16 u17 u18 u19 u20 u21 u22 u23 u24 u25 u26 u27 u28 u29 u30 u31 u32 u33 u34 u35 u36 u37 u38 u39 u40 u41 u42 u43 u44 u45 u46 u47 u48 u49 u50 u51 u52 u53 u54 u55 u56 u57 u58 u59 u60 u61 u62 u63 u64 u65 : Value} (w : World) (h : Ia b bi bl l w s)
    (hX : w.cell? ⟨gf, 1, none⟩ = some (.string X)) (hY : w.cell? ⟨gg, 1, none⟩ = some (.string Y))
    (hsub : IntKind.i64.wrap ((X.size : Int) - (Y.size : Int)) = (X.size : Int) - (Y.size : Int))
    (cv : ∀ W, Calls Tryz.prog 146 #[.string t] W fun e w' => e = .returned (.string V) ∧ ∃ n, w' = W.drewN n)
    (cf : ∀ W, Ia b bi bl l W s → Calls Tryz.prog 145 #[.pointer (some ⟨b, 0, none⟩), .string V, .int .i64 ((X.size : Int) - (Y.size : Int))] W fun e w' => e = .returned (.bool B) ∧ Below W.heap.size W w') :
    (Code.region id ops true).wp Tryz.prog (Rg.Only fun a' w' => a' = ⟨#[(.pointer (some ⟨b, 0, none⟩)), u1, (.string t), u3, u4, u5, u6, u7, (.pointer (some ⟨gf, 0, none⟩)), (.pointer (some ⟨gg, 0, none⟩)), (.bool true), u11, u12, u13, u14, u15, u16, u17, u18, u19, u20, u21, u22, u23, u24, u25, u26, u27, u28, u29, u30, u31, u32, u33, u34, u35, u36, u37, u38, u39, u40, u41, u42, u43, u44, u45, u46, u47, u48, u49, u50, (.bool B), (.bool true), (.bool true), (.pointer (some ⟨b, 0, none⟩)), (.string t), (.string V), (.pointer (some ⟨gf, 1, none⟩)), (.string X), (.int .i64 (X.size : Int)), (.pointer (some ⟨gg, 1, none⟩)), (.string Y), (.int .i64 (Y.size : Int)), (.int .i64 ((X.size : Int) - (Y.size : Int))), (.bool B), (.bool B)], []⟩ ∧ Below w.heap.size w w') ⟨#[(.pointer (some ⟨b, 0, none⟩)), u1, (.string t), u3, u4, u5, u6, u7, (.pointer (some ⟨gf, 0, none⟩)), (.pointer (some ⟨gg, 0, none⟩)), (.bool true), u11, u12, u13, u14, u15, u16, u17, u18, u19, u20, u21, u22, u23, u24, u25, u26, u27, u28, u29, u30, u31, u32, u33, u34, u35, u36, u37, u38, u39, u40, u41, u42, u43, u44, u45, u46, u47, u48, u49, u50, u51, u52, u53, u54, u55, u56, u57, u58, u59, u60, u61, u62, u63, u64, u65], []⟩ w := by
  subst hops
  have hNS : Region.noSelect (Rg.opsOf Tryz.f124 12) = true := by kernel_rfl
  have h0 : Ia b bi bl l w.drew s ∧ Below w.heap.size w w.drew ∧ w.drew.cell? ⟨gf, 1, none⟩ = some (.string X) ∧ w.drew.cell? ⟨gg, 1, none⟩ = some (.string Y) := ⟨h.below (Below.refl _ _).drew, (Below.refl _ _).drew, hX, hY⟩
  refine wp_region_held_drew (S := fun W => Ia b bi bl l W s ∧ Below w.heap.size w W ∧ W.cell? ⟨gf, 1, none⟩ = some (.string X) ∧ W.cell? ⟨gg, 1, none⟩ = some (.string Y)) (by kernel_rfl) h0 (fun hHeld => ?_)
  rw [show (Rg.opsOf Tryz.f124 12).size = 15 by kernel_rfl]
  refine Rg.takek 0 (some 52) (.bool true) hNS hHeld (Rg.y_movekL (x := .tmp 10)) ?_
  refine Rg.takek 1 (some 53) (.bool true) hNS hHeld (Rg.y_movekL (x := .tmp 52)) ?_
  refine Rg.takek 2 (some 54) (.pointer (some ⟨b, 0, none⟩)) hNS hHeld (Rg.y_movekL (x := .tmp 0)) ?_
  refine Rg.takek 3 (some 55) (.string t) hNS hHeld (Rg.y_movekL (x := .tmp 2)) ?_
  refine Rg.takek 5 (some 57) (.pointer (some ⟨gf, 1, none⟩)) hNS hHeld (Rg.y_fieldk (T := 100) (k := 1) (x := .tmp 8) (vx := (.pointer (some ⟨gf, 0, none⟩))) ?_) ?_
  · (intro w hSw; clear hSw; go_simp)
  refine Rg.takek 6 (some 58) (.string X) hNS hHeld (Rg.y_loadk (T := 9) (x := .tmp 57) (vx := (.pointer (some ⟨gf, 1, none⟩))) ?_) ?_
  · (intro w hSw; obtain ⟨_, _, cx, cy⟩ := hSw; go_simp)
  refine Rg.takek 7 (some 59) (.int .i64 (X.size : Int)) hNS hHeld (Rg.y_lenk (x := .tmp 58) (ats := #[9]) (vx := (.string X)) (n := X.size) ?_) ?_
  · (intro ty w hSw; go_simp)
  refine Rg.takek 8 (some 60) (.pointer (some ⟨gg, 1, none⟩)) hNS hHeld (Rg.y_fieldk (T := 100) (k := 1) (x := .tmp 9) (vx := (.pointer (some ⟨gg, 0, none⟩))) ?_) ?_
  · (intro w hSw; clear hSw; go_simp)
  refine Rg.takek 9 (some 61) (.string Y) hNS hHeld (Rg.y_loadk (T := 9) (x := .tmp 60) (vx := (.pointer (some ⟨gg, 1, none⟩))) ?_) ?_
  · (intro w hSw; obtain ⟨_, _, cx, cy⟩ := hSw; go_simp)
  refine Rg.takek 10 (some 62) (.int .i64 (Y.size : Int)) hNS hHeld (Rg.y_lenk (x := .tmp 61) (ats := #[9]) (vx := (.string Y)) (n := Y.size) ?_) ?_
  · (intro ty w hSw; go_simp)
  refine Rg.takek 11 (some 63) ((.int .i64 ((X.size : Int) - (Y.size : Int)))) hNS hHeld (Rg.y_bink (b := BinOp.sub) (T := 3) (R' := 3) (x := .tmp 59) (y := .tmp 62) (vx := (.int .i64 (X.size : Int))) (vy := (.int .i64 (Y.size : Int))) ?_) ?_
  · (intro w hSw; clear hSw; go_simp <;> exact hsub)
  refine Rg.callk (fn := Tryz.f146) (xs := #[.tmp 55]) (ats := #[9]) 4 (some 56) 146 #[(.string t)] Tryz.func146 ?_
  refine (cv _).mono ?_
  rintro e w5 ⟨rfl, n5, rfl⟩
  refine ⟨_, rfl, ⟨hHeld.1.below (below_drewN _ _), below_call hHeld.2.1 (below_drewN _ _), hHeld.2.2.1, hHeld.2.2.2⟩, fun hHeld => ?_⟩
  refine Rg.callk (fn := Tryz.f145) (xs := #[.tmp 54, .tmp 56, .tmp 63]) (ats := #[23, 9, 3]) 12 (some 64) 145 #[(.pointer (some ⟨b, 0, none⟩)), (.string V), (.int .i64 ((X.size : Int) - (Y.size : Int)))] Tryz.func145 ?_
  refine (cf _ hHeld.1).mono ?_
  rintro e w6 ⟨rfl, hb6⟩
  refine ⟨_, rfl, ⟨hHeld.1.below hb6, below_call hHeld.2.1 hb6, (hb6.cell (p := ⟨gf, 1, none⟩) (World.block_lt_of_cell? _ _ hHeld.2.2.1)).trans hHeld.2.2.1, (hb6.cell (p := ⟨gg, 1, none⟩) (World.block_lt_of_cell? _ _ hHeld.2.2.2)).trans hHeld.2.2.2⟩, fun hHeld => ?_⟩
  refine Rg.takek 13 (some 65) (.bool B) hNS hHeld (Rg.y_pickk (c := .tmp 53) (x := .tmp 64) (y := (.const (Value.bool false))) (b := true)) ?_
  refine Rg.takek 14 (some 51) (.bool B) hNS hHeld (Rg.y_movekR (x := .tmp 65)) ?_
  refine Rg.donek ?_
  exact ⟨by kernel_rfl, hHeld.2.1⟩
set_option maxRecDepth 100000 in
set_option maxHeartbeats 2000000 in
theorem regMayRename0 (ops : Array Oper) (hops : ops = (Rg.opsOf Tryz.f124 12)) (id : Nat) (b bi bl gf gg : Nat) (l : Int) (s : St) (t X Y V : ByteArray) (B : Bool) {u1 u3 u4 u5 u6 u7 u11 u12 u13 u14 u15 u16 u17 u18 u19 u20 u21 u22 u23 u24 u25 u26 u27 u28 u29 u30 u31 u32 u33 u34 u35 u36 u37 u38 u39 u40 u41 u42 u43 u44 u45 u46 u47 u48 u49 u50 u51 u52 u53 u54 u55 u56 u57 u58 u59 u60 u61 u62 u63 u64 u65 : Value} (w : World) (h : Ia b bi bl l w s)
    (hX : w.cell? ⟨gf, 1, none⟩ = some (.string X)) (hY : w.cell? ⟨gg, 1, none⟩ = some (.string Y)) :
    (Code.region id ops true).wp Tryz.prog (Rg.Only fun a' w' => a' = ⟨#[(.pointer (some ⟨b, 0, none⟩)), u1, (.string t), u3, u4, u5, u6, u7, (.pointer (some ⟨gf, 0, none⟩)), (.pointer (some ⟨gg, 0, none⟩)), (.bool false), u11, u12, u13, u14, u15, u16, u17, u18, u19, u20, u21, u22, u23, u24, u25, u26, u27, u28, u29, u30, u31, u32, u33, u34, u35, u36, u37, u38, u39, u40, u41, u42, u43, u44, u45, u46, u47, u48, u49, u50, (Value.bool false), (.bool false), (.bool false), undef, undef, undef, undef, undef, undef, undef, undef, undef, undef, undef, (Value.bool false)], []⟩ ∧ Below w.heap.size w w') ⟨#[(.pointer (some ⟨b, 0, none⟩)), u1, (.string t), u3, u4, u5, u6, u7, (.pointer (some ⟨gf, 0, none⟩)), (.pointer (some ⟨gg, 0, none⟩)), (.bool false), u11, u12, u13, u14, u15, u16, u17, u18, u19, u20, u21, u22, u23, u24, u25, u26, u27, u28, u29, u30, u31, u32, u33, u34, u35, u36, u37, u38, u39, u40, u41, u42, u43, u44, u45, u46, u47, u48, u49, u50, u51, u52, u53, u54, u55, u56, u57, u58, u59, u60, u61, u62, u63, u64, u65], []⟩ w := by
  subst hops
  have hNS : Region.noSelect (Rg.opsOf Tryz.f124 12) = true := by kernel_rfl
  have h0 : Ia b bi bl l w.drew s ∧ Below w.heap.size w w.drew ∧ w.drew.cell? ⟨gf, 1, none⟩ = some (.string X) ∧ w.drew.cell? ⟨gg, 1, none⟩ = some (.string Y) := ⟨h.below (Below.refl _ _).drew, (Below.refl _ _).drew, hX, hY⟩
  refine wp_region_held_drew (S := fun W => Ia b bi bl l W s ∧ Below w.heap.size w W ∧ W.cell? ⟨gf, 1, none⟩ = some (.string X) ∧ W.cell? ⟨gg, 1, none⟩ = some (.string Y)) (by kernel_rfl) h0 (fun hHeld => ?_)
  rw [show (Rg.opsOf Tryz.f124 12).size = 15 by kernel_rfl]
  refine Rg.takek 0 (some 52) (.bool false) hNS hHeld (Rg.y_movekL (x := .tmp 10)) ?_
  refine Rg.takek 1 (some 53) (.bool false) hNS hHeld (Rg.y_movekL (x := .tmp 52)) ?_
  refine Rg.skipk 2 (some 54) hNS hHeld ?_
  refine Rg.skipk 3 (some 55) hNS hHeld ?_
  refine Rg.skipk 4 (some 56) hNS hHeld ?_
  refine Rg.skipk 5 (some 57) hNS hHeld ?_
  refine Rg.skipk 6 (some 58) hNS hHeld ?_
  refine Rg.skipk 7 (some 59) hNS hHeld ?_
  refine Rg.skipk 8 (some 60) hNS hHeld ?_
  refine Rg.skipk 9 (some 61) hNS hHeld ?_
  refine Rg.skipk 10 (some 62) hNS hHeld ?_
  refine Rg.skipk 11 (some 63) hNS hHeld ?_
  refine Rg.skipk 12 (some 64) hNS hHeld ?_
  refine Rg.takek 13 (some 65) (Value.bool false) hNS hHeld (Rg.y_pickk (c := .tmp 53) (x := .tmp 64) (y := (.const (Value.bool false))) (b := false)) ?_
  refine Rg.takek 14 (some 51) (Value.bool false) hNS hHeld (Rg.y_movekR (x := .tmp 65)) ?_
  refine Rg.donek ?_
  exact ⟨by kernel_rfl, hHeld.2.1⟩
end Go.Proofs.YtjdfffkkpbabpaaGreat.Dk

namespace Go.Proofs.YtjdfffkkpbabpaaGreat.Dk
open Go.RowKit Tx Pm Pl Pr
set_option linter.unusedVariables false
theorem ready1 (b bi bl m : Nat) (M l : Int) (s : St) (p : ByteArray) (w : World) (h : Ia b bi bl l w s) (hm : m ≤ 1000) (hM : M = (m : Int) + 1) (hp : p.size ≤ 8000000000000) :
    Calls Tryz.prog 103 #[.pointer (some ⟨b, 0, none⟩), .int .i64 M, .slice (some ⟨w.heap.size, 0, none⟩) 1 1] (w.alloc (.cells #[.string p] 9)) fun e w' => e = .returned (.int .i64 (first s p m : Nat)) ∧ Below w.heap.size w w' := by
  have hb := (Below.refl _ w).alloc (Nat.le_refl _) (.cells #[.string p] 9)
  refine (iReady_any b bi bl w.heap.size 1 1 m M l s [p] _ (h.below hb) rfl hm hM (fun k q hk => ?_) (by simp) (fun q hq => ?_) (by omega)).mono ?_
  · rw [World.cell?_alloc_at _ _ _ _ rfl]
    match k, hk with
    | 0, hk => cases hk; rfl
  · rw [List.mem_singleton.1 hq]
    exact hp
  · rintro e w' ⟨rfl, h2⟩
    rw [rdy_one]
    exact ⟨rfl, below_call hb h2⟩
theorem ready2 (b bi bl m : Nat) (M l : Int) (s : St) (p q : ByteArray) (w : World) (h : Ia b bi bl l w s) (hm : m ≤ 1000) (hM : M = (m : Int) + 1) (hp : p.size ≤ 8000000000000) (hq : q.size ≤ 8000000000000) :
    Calls Tryz.prog 103 #[.pointer (some ⟨b, 0, none⟩), .int .i64 M, .slice (some ⟨w.heap.size, 0, none⟩) 2 2] (w.alloc (.cells #[.string p, .string q] 9)) fun e w' => e = .returned (.int .i64 ((if first s p m ≠ 0 then first s p m else first s q m : Nat) : Nat)) ∧ Below w.heap.size w w' := by
  have hb := (Below.refl _ w).alloc (Nat.le_refl _) (.cells #[.string p, .string q] 9)
  refine (iReady_any b bi bl w.heap.size 2 2 m M l s [p, q] _ (h.below hb) rfl hm hM (fun k x hk => ?_) (by simp) (fun x hx => ?_) (by omega)).mono ?_
  · rw [World.cell?_alloc_at _ _ _ _ rfl]
    match k, hk with
    | 0, hk => cases hk; rfl
    | 1, hk => cases hk; rfl
  · rcases List.mem_cons.1 hx with rfl | hx
    · exact hp
    · rw [List.mem_singleton.1 hx]
      exact hq
  · rintro e w' ⟨rfl, h2⟩
    rw [rdy_two]
    exact ⟨rfl, below_call hb h2⟩
theorem ne_eq {a : Nat} (h : a ≠ 0) : ((a : Int) == 0) = false := beq_eq_false_iff_ne.2 (by omega)
def mayMkdirS (s : St) (p : ByteArray) : Nat := if first s p 0 ≠ 0 then first s p 0 else if home s.L p = false then 11 else if kind s.L p = 2 then 12 else 0
def mayWriteS (s : St) (p d : ByteArray) : Nat := if first s p 1 ≠ 0 then first s p 1 else if home s.L p = false then 11 else if kind s.L p = 1 then 12 else if full s (vol p) ((d.size : Int) - (old s.L p).data.size) = true then 13 else 0
def mayAppendS (s : St) (p d : ByteArray) : Nat := if there s p ≠ 0 then there s p else if full s (vol p) d.size = true then 13 else 0
set_option maxRecDepth 100000 in
set_option maxHeartbeats 1000000 in
theorem iMayMkdir_any (b bi bl : Nat) (l : Int) (s : St) (p : ByteArray) (w : World) (h : Ia b bi bl l w s) (hp : p.size ≤ 8000000000000) :
    Calls Tryz.prog 70 #[.pointer (some ⟨b, 0, none⟩), .string p] w fun e w' => e = .returned (.int .i64 (mayMkdirS s p : Nat)) ∧ Below w.heap.size w w' := by
  have c1 := ready1 b bi bl 0 1 l s p w h (by omega) rfl hp
  have c2 := fun W (hW : Below w.heap.size w W) => iHome_any b bi bl l s p W (h.below hW) hp
  have HL := Lib.hid (fun W (hW : Below w.heap.size w W) => (h.below hW).look (maxLen_of hp))
  have HC := Lib.hid (fun W (hW : Below w.heap.size w W) => (h.below hW).cell.1)
  have f0 := fld0
  unfold mayMkdirS
  generalize first s p 0 = E at c1 ⊢
  generalize home s.L p = H at c2 ⊢
  generalize kind s.L p = K at HL ⊢
  clear h
  by_cases hE : E = 0
  · subst hE
    rw [if_neg (by decide)]
    cases H with
    | false =>
      rw [if_pos rfl]
      go_enter Tryz.func70, Tryz.ntmps70
      go_wp2_with (first | (go_at_call 103; refine c1.mono ?_; rintro e w1 ⟨rfl, hb1⟩; have l0 := HL.out _ hb1; have g0 := HC.out _ hb1) | (go_at_call 104; refine (c2 _ hb1).mono ?_; rintro e w2 ⟨rfl, hb2⟩; have hb3 := below_call hb1 hb2; have l1 := HL.out _ hb3; have g1 := HC.out _ hb3))
      go_ret
      exact ⟨rfl, hb3⟩
    | true =>
      rw [if_neg (by decide)]
      by_cases hK : K = 2
      · subst hK
        rw [if_pos rfl]
        go_enter Tryz.func70, Tryz.ntmps70
        go_wp2_with (first | (go_at_call 103; refine c1.mono ?_; rintro e w1 ⟨rfl, hb1⟩; have l0 := HL.out _ hb1; have g0 := HC.out _ hb1) | (go_at_call 104; refine (c2 _ hb1).mono ?_; rintro e w2 ⟨rfl, hb2⟩; have hb3 := below_call hb1 hb2; have l1 := HL.out _ hb3; have g1 := HC.out _ hb3))
        go_ret
        exact ⟨rfl, hb3⟩
      · rw [if_neg hK]
        have e1 : ((K : Int) == 2) = false := beq_eq_false_iff_ne.2 (by omega)
        clear hK
        go_enter Tryz.func70, Tryz.ntmps70
        go_wp2_with (first | (go_at_call 103; refine c1.mono ?_; rintro e w1 ⟨rfl, hb1⟩; have l0 := HL.out _ hb1; have g0 := HC.out _ hb1) | (go_at_call 104; refine (c2 _ hb1).mono ?_; rintro e w2 ⟨rfl, hb2⟩; have hb3 := below_call hb1 hb2; have l1 := HL.out _ hb3; have g1 := HC.out _ hb3))
        go_ret
        exact ⟨rfl, hb3⟩
  · rw [if_pos hE]
    have e1 := ne_eq hE
    clear hE
    go_enter Tryz.func70, Tryz.ntmps70
    go_wp2_with (first | (go_at_call 103; refine c1.mono ?_; rintro e w1 ⟨rfl, hb1⟩; have l0 := HL.out _ hb1; have g0 := HC.out _ hb1) | (go_at_call 104; refine (c2 _ hb1).mono ?_; rintro e w2 ⟨rfl, hb2⟩; have hb3 := below_call hb1 hb2; have l1 := HL.out _ hb3; have g1 := HC.out _ hb3))
    go_ret
    exact ⟨rfl, hb1⟩
theorem there_mbf (s : St) (p : ByteArray) : there s p = if first s p 1 ≠ 0 then first s p 1 else mbf s.L p := by
  unfold there mbf
  rfl
set_option maxRecDepth 100000 in
set_option maxHeartbeats 1000000 in
theorem iMaySync_any (b bi bl : Nat) (l : Int) (s : St) (p : ByteArray) (w : World) (h : Ia b bi bl l w s) (hp : p.size ≤ 8000000000000) :
    Calls Tryz.prog 117 #[.pointer (some ⟨b, 0, none⟩), .string p] w fun e w' => e = .returned (.int .i64 (there s p : Nat)) ∧ Below w.heap.size w w' := by
  have c1 := ready1 b bi bl 1 2 l s p w h (by omega) rfl hp
  have c2 := fun W (hW : Below w.heap.size w W) => iMbf_any b bi bl l s p W (h.below hW) hp
  rw [there_mbf]
  generalize first s p 1 = E at c1 ⊢
  generalize mbf s.L p = M at c2 ⊢
  clear h
  by_cases hE : E = 0
  · subst hE
    rw [if_neg (by decide)]
    go_enter Tryz.func117, Tryz.ntmps117
    go_wp2_with (first | (go_at_call 103; refine c1.mono ?_; rintro e w1 ⟨rfl, hb1⟩) | (go_at_call 105; refine (c2 _ hb1).mono ?_; rintro e w2 ⟨rfl, rfl⟩))
    go_ret
    exact ⟨rfl, hb1⟩
  · rw [if_pos hE]
    have e1 := ne_eq hE
    clear hE
    go_enter Tryz.func117, Tryz.ntmps117
    go_wp2_with (go_at_call 103; refine c1.mono ?_; rintro e w1 ⟨rfl, hb1⟩)
    go_ret
    exact ⟨rfl, hb1⟩
theorem old_le {s : St} (hf : Fit s) (p : ByteArray) : (old s.L p).data.size ≤ 4000000000000000000 := by
  rcases old_cases s.L p with e | ⟨hm, _⟩
  · rw [e]; show 0 ≤ _; omega
  · exact Nat.le_trans (le_whole hm) hf.2.2
theorem wrap_sub {a b : Nat} (ha : a ≤ 4000000000000000000) (hb : b ≤ 4000000000000000000) : IntKind.i64.wrap ((a : Int) - (b : Int)) = (a : Int) - (b : Int) := IntWalk.i64_in _ (by omega)
set_option maxRecDepth 100000 in
set_option maxHeartbeats 1000000 in
theorem iMayWrite_any (b bi bl : Nat) (l : Int) (s : St) (p d : ByteArray) (w : World) (h : Ia b bi bl l w s) (hR : Rises s.L) (hf : Fit s) (hp : p.size ≤ 8000000000000) (hd : d.size ≤ 1000000000000000000) :
    Calls Tryz.prog 122 #[.pointer (some ⟨b, 0, none⟩), .string p, .string d] w fun e w' => e = .returned (.int .i64 (mayWriteS s p d : Nat)) ∧ Below w.heap.size w w' := by
  have c1 := ready1 b bi bl 1 2 l s p w h (by omega) rfl hp
  have c2 := fun W (hW : Below w.heap.size w W) => iHome_any b bi bl l s p W (h.below hW) hp
  have ho := old_le hf p
  have hv := vol_le p
  have c3 := fun W (hW : Ia b bi bl l W s) => iFull_any b bi bl l s (vol p) ((d.size : Int) - (old s.L p).data.size) W hW hR hf (by omega) (by omega)
  have c4 := fun W => iVol_any p W hp
  have hsub := wrap_sub (a := d.size) (by omega) ho
  have HL := Lib.hid (fun W (hW : Below w.heap.size w W) => (h.below hW).look (maxLen_of hp))
  have hlk := fun W (hW : Ia b bi bl l W s) => hW.look (maxLen_of hp)
  have HC := Lib.hid (fun W (hW : Below w.heap.size w W) => (h.below hW).cell.1)
  have HI := Lib.hid (fun W (hW : Below w.heap.size w W) => h.below hW)
  have f0 := fld0
  unfold mayWriteS
  generalize full s (vol p) ((d.size : Int) - (old s.L p).data.size) = B at c3 ⊢
  generalize first s p 1 = E at c1 ⊢
  generalize home s.L p = H at c2 ⊢
  generalize kind s.L p = K at HL hlk ⊢
  generalize (old s.L p).data = X0 at HL hlk c3 hsub
  generalize (old s.L p).kept = X1 at HL hlk
  generalize stOf (old s.L p) = X2 at HL hlk
  generalize ((old s.L p).stamp : Int) = X3 at HL hlk
  generalize vol p = V at c3 c4
  have HLK := Lib.hid hlk
  have HS := Lib.hid hsub
  clear h hlk hsub ho hv hf hR
  by_cases hE : E = 0
  · subst hE
    rw [if_neg (by decide)]
    cases H with
    | false =>
      rw [if_pos rfl]
      go_enter Tryz.func122, Tryz.ntmps122
      go_wp2_with (first | (go_at_call 103; refine c1.mono ?_; rintro e w1 ⟨rfl, hb1⟩; have l0 := HL.out _ hb1; have g0 := HC.out _ hb1) | (go_at_call 104; refine (c2 _ hb1).mono ?_; rintro e w2 ⟨rfl, hb2⟩; have hb3 := below_call hb1 hb2; have l1 := HL.out _ hb3; have g1 := HC.out _ hb3))
      go_ret
      exact ⟨rfl, hb3⟩
    | true =>
      rw [if_neg (by decide)]
      by_cases hK : K = 1
      · subst hK
        rw [if_pos rfl]
        go_enter Tryz.func122, Tryz.ntmps122
        go_wp2_with (first | (go_at_call 103; refine c1.mono ?_; rintro e w1 ⟨rfl, hb1⟩; have l0 := HL.out _ hb1; have g0 := HC.out _ hb1) | (go_at_call 104; refine (c2 _ hb1).mono ?_; rintro e w2 ⟨rfl, hb2⟩; have hb3 := below_call hb1 hb2; have l1 := HL.out _ hb3; have g1 := HC.out _ hb3))
        go_ret
        exact ⟨rfl, hb3⟩
      · rw [if_neg hK]
        have e1 : ((K : Int) == 1) = false := beq_eq_false_iff_ne.2 (by omega)
        clear hK
        cases B with
        | true =>
          rw [if_pos rfl]
          go_enter Tryz.func122, Tryz.ntmps122
          go_wp2_with (first | (go_at_call 103; refine c1.mono ?_; rintro e w1 ⟨rfl, hb1⟩; have l0 := HL.out _ hb1; have g0 := HC.out _ hb1) | (go_at_call 104; refine (c2 _ hb1).mono ?_; rintro e w2 ⟨rfl, hb2⟩; have hb3 := below_call hb1 hb2; have l1 := HL.out _ hb3; have g1 := HC.out _ hb3))
          refine Rg.wp_only ?_ (regMayWrite _ (by kernel_rfl) _ b bi bl l s p d V X0 X1 K X2 X3 true _ (HI.out _ hb3) HLK.out HS.out c4 c3)
          rintro _ w9 ⟨rfl, hb9⟩
          have hb4 := below_call hb3 hb9
          go_wp2_with fail
          go_ret
          exact ⟨rfl, hb4⟩
        | false =>
          rw [if_neg (by decide)]
          go_enter Tryz.func122, Tryz.ntmps122
          go_wp2_with (first | (go_at_call 103; refine c1.mono ?_; rintro e w1 ⟨rfl, hb1⟩; have l0 := HL.out _ hb1; have g0 := HC.out _ hb1) | (go_at_call 104; refine (c2 _ hb1).mono ?_; rintro e w2 ⟨rfl, hb2⟩; have hb3 := below_call hb1 hb2; have l1 := HL.out _ hb3; have g1 := HC.out _ hb3))
          refine Rg.wp_only ?_ (regMayWrite _ (by kernel_rfl) _ b bi bl l s p d V X0 X1 K X2 X3 false _ (HI.out _ hb3) HLK.out HS.out c4 c3)
          rintro _ w9 ⟨rfl, hb9⟩
          have hb4 := below_call hb3 hb9
          go_wp2_with fail
          go_ret
          exact ⟨rfl, hb4⟩
  · rw [if_pos hE]
    have e1 := ne_eq hE
    clear hE
    go_enter Tryz.func122, Tryz.ntmps122
    go_wp2_with (first | (go_at_call 103; refine c1.mono ?_; rintro e w1 ⟨rfl, hb1⟩; have l0 := HL.out _ hb1; have g0 := HC.out _ hb1) | (go_at_call 104; refine (c2 _ hb1).mono ?_; rintro e w2 ⟨rfl, hb2⟩; have hb3 := below_call hb1 hb2; have l1 := HL.out _ hb3; have g1 := HC.out _ hb3))
    go_ret
    exact ⟨rfl, hb1⟩
set_option maxRecDepth 100000 in
set_option maxHeartbeats 1000000 in
theorem iMayAppend_any (b bi bl : Nat) (l : Int) (s : St) (p d : ByteArray) (w : World) (h : Ia b bi bl l w s) (hR : Rises s.L) (hf : Fit s) (hp : p.size ≤ 8000000000000) (hd : d.size ≤ 1000000000000000000) :
    Calls Tryz.prog 115 #[.pointer (some ⟨b, 0, none⟩), .string p, .string d] w fun e w' => e = .returned (.int .i64 (mayAppendS s p d : Nat)) ∧ Below w.heap.size w w' := by
  have c1 := iMaySync_any b bi bl l s p w h hp
  have hv := vol_le p
  have c3 := fun W (hW : Below w.heap.size w W) => iFull_any b bi bl l s (vol p) (d.size : Int) W (h.below hW) hR hf (by omega) (by omega)
  have c4 := fun W => iVol_any p W hp
  unfold mayAppendS
  generalize full s (vol p) (d.size : Int) = B at c3 ⊢
  generalize there s p = E at c1 ⊢
  generalize vol p = V at c3 c4
  clear h hv hf hR
  by_cases hE : E = 0
  · subst hE
    rw [if_neg (by decide)]
    cases B with
    | true =>
      rw [if_pos rfl]
      go_enter Tryz.func115, Tryz.ntmps115
      go_wp2_with (first | (go_at_call 117; refine c1.mono ?_; rintro e w1 ⟨rfl, hb1⟩) | (go_at_call 146; refine (c4 _).mono ?_; rintro e w2 ⟨rfl, n2, rfl⟩; have hb2 := below_call hb1 (below_drewN _ n2)) | (go_at_call 145; refine (c3 _ hb2).mono ?_; rintro e w3 ⟨rfl, hb3⟩))
      go_ret
      exact ⟨rfl, below_call hb2 hb3⟩
    | false =>
      rw [if_neg (by decide)]
      go_enter Tryz.func115, Tryz.ntmps115
      go_wp2_with (first | (go_at_call 117; refine c1.mono ?_; rintro e w1 ⟨rfl, hb1⟩) | (go_at_call 146; refine (c4 _).mono ?_; rintro e w2 ⟨rfl, n2, rfl⟩; have hb2 := below_call hb1 (below_drewN _ n2)) | (go_at_call 145; refine (c3 _ hb2).mono ?_; rintro e w3 ⟨rfl, hb3⟩))
      go_ret
      exact ⟨rfl, below_call hb2 hb3⟩
  · rw [if_pos hE]
    have e1 := ne_eq hE
    clear hE
    go_enter Tryz.func115, Tryz.ntmps115
    go_wp2_with (first | (go_at_call 117; refine c1.mono ?_; rintro e w1 ⟨rfl, hb1⟩) | (go_at_call 146; refine (c4 _).mono ?_; rintro e w2 ⟨rfl, n2, rfl⟩; have hb2 := below_call hb1 (below_drewN _ n2)) | (go_at_call 145; refine (c3 _ hb2).mono ?_; rintro e w3 ⟨rfl, hb3⟩))
    go_ret
    exact ⟨rfl, hb1⟩
end Go.Proofs.YtjdfffkkpbabpaaGreat.Dk

namespace Go.Proofs.YtjdfffkkpbabpaaGreat.Dk
open Go.RowKit Tx Pm Pl Pr
set_option linter.unusedVariables false
structure Box5 (w : World) (g : Nat) (K : Int) (X0 X1 : ByteArray) (X2 X3 : Int) : Prop where
  lt : g < w.heap.size
  c0 : w.cell? ⟨g, 0, none⟩ = some (.int .i64 K)
  c1 : w.cell? ⟨g, 1, none⟩ = some (.string X0)
  c2 : w.cell? ⟨g, 2, none⟩ = some (.string X1)
  c3 : w.cell? ⟨g, 3, none⟩ = some (.int .i64 X2)
  c4 : w.cell? ⟨g, 4, none⟩ = some (.int .i64 X3)
theorem Box5.below {w w1 : World} {g : Nat} {K : Int} {X0 X1 : ByteArray} {X2 X3 : Int} (h : Box5 w g K X0 X1 X2 X3) (hb : Below w.heap.size w w1) : Box5 w1 g K X0 X1 X2 X3 :=
  ⟨Nat.lt_of_lt_of_le h.lt hb.size, (hb.cell (p := ⟨g, 0, none⟩) h.lt).trans h.c0, (hb.cell (p := ⟨g, 1, none⟩) h.lt).trans h.c1, (hb.cell (p := ⟨g, 2, none⟩) h.lt).trans h.c2, (hb.cell (p := ⟨g, 3, none⟩) h.lt).trans h.c3, (hb.cell (p := ⟨g, 4, none⟩) h.lt).trans h.c4⟩
theorem box5_of {w : World} {g : Nat} {K : Int} {X0 X1 : ByteArray} {X2 X3 : Int} {T : TypeId} {fz : Nat × Nat} (h : w.heap[g]? = some (.cells #[.int .i64 K, .string X0, .string X1, .int .i64 X2, .int .i64 X3] T fz)) : Box5 w g K X0 X1 X2 X3 := by
  refine ⟨(Array.getElem?_eq_some_iff.1 h).1, ?_, ?_, ?_, ?_, ?_⟩ <;> · unfold World.cell?; rw [h]; rfl
theorem two_first (w : World) (o o2 : Obj) : ((w.alloc o).alloc o2).drew.heap[w.heap.size]? = some o := by
  have h := (((Below.refl _ (w.alloc o)).alloc (Nat.le_refl _) o2).drew).block w.heap.size (by simp)
  exact h.trans (new_at w o rfl)
theorem two_second (w : World) (o o2 : Obj) : ((w.alloc o).alloc o2).drew.heap[w.heap.size + 1]? = some o2 := new_at (w.alloc o) o2 (by simp)
def firstR (s : St) (f t : ByteArray) : Nat := if first s f 1 ≠ 0 then first s f 1 else first s t 1
def mayRenS (s : St) (f t : ByteArray) : Nat := if firstR s f t ≠ 0 then firstR s f t else if kind s.L f = 0 then 11 else if home s.L t = false then 11 else if kind s.L f = 1 then 12 else if kind s.L t = 1 then 12 else
  if vol f ≠ vol t ∧ full s (vol t) (((old s.L f).data.size : Int) - (old s.L t).data.size) = true then 13 else 0
set_option maxRecDepth 100000 in
set_option maxHeartbeats 4000000 in
theorem iMayRename_any (b bi bl : Nat) (l : Int) (s : St) (f t : ByteArray) (w : World) (h : Ia b bi bl l w s) (hR : Rises s.L) (hf : Fit s) (hpf : f.size ≤ 8000000000000) (hpt : t.size ≤ 8000000000000) :
    Calls Tryz.prog 124 #[.pointer (some ⟨b, 0, none⟩), .string f, .string t] w fun e w' => e = .returned (.int .i64 (mayRenS s f t : Nat)) ∧ Below w.heap.size w w' := by
  have c1 := ready2 b bi bl 1 2 l s f t w h (by omega) rfl hpf hpt
  have c2 := fun W (hW : Below w.heap.size w W) => iHome_any b bi bl l s t W (h.below hW) hpt
  have ho1 := old_le hf f
  have ho2 := old_le hf t
  have hv := vol_le t
  have c3 := fun W (hW : Ia b bi bl l W s) => iFull_any b bi bl l s (vol t) (((old s.L f).data.size : Int) - (old s.L t).data.size) W hW hR hf (by omega) (by omega)
  have c4 := fun W => iVol_any f W hpf
  have c5 := fun W => iVol_any t W hpt
  have hsub := wrap_sub ho1 ho2
  have hb : b < w.heap.size := h.lt b (.inl rfl)
  have HL := Lib.hid (fun W (hW : Below w.heap.size w W) => (h.below hW).look (maxLen_of hpf))
  have HM := Lib.hid (fun W (hW : Below w.heap.size w W) => (h.below hW).look (maxLen_of hpt))
  have HC := Lib.hid (fun W (hW : Below w.heap.size w W) => (h.below hW).cell.1)
  have HI := Lib.hid (fun W (hW : Below w.heap.size w W) => h.below hW)
  unfold mayRenS
  rw [show (if first s f 1 ≠ 0 then first s f 1 else first s t 1) = firstR s f t from rfl] at c1
  generalize full s (vol t) (((old s.L f).data.size : Int) - (old s.L t).data.size) = B at c3 ⊢
  generalize firstR s f t = E at c1 ⊢
  generalize home s.L t = H at c2 ⊢
  generalize kind s.L f = K at HL ⊢
  generalize kind s.L t = M at HM ⊢
  generalize (old s.L f).data = X0 at HL c3 hsub
  generalize (old s.L f).kept = X1 at HL
  generalize stOf (old s.L f) = X2 at HL
  generalize ((old s.L f).stamp : Int) = X3 at HL
  generalize (old s.L t).data = Y0 at HM c3 hsub
  generalize (old s.L t).kept = Y1 at HM
  generalize stOf (old s.L t) = Y2 at HM
  generalize ((old s.L t).stamp : Int) = Y3 at HM
  generalize vol f = VF at c4 ⊢
  generalize vol t = VT at c3 c5 ⊢
  have HS := Lib.hid hsub
  obtain ⟨RES, hRES⟩ : ∃ RES, RES = if E ≠ 0 then E else if K = 0 then 11 else if H = false then 11 else if K = 1 then 12 else if M = 1 then 12 else if VF ≠ VT ∧ B = true then 13 else 0 := ⟨_, rfl⟩
  rw [← hRES]
  clear h hsub ho1 ho2 hv hf hR
  by_cases hE : E = 0
  · subst hE
    rw [if_neg (by decide)] at hRES
    have HRES := Lib.hid hRES
    clear hRES
    go_enter Tryz.func124, Tryz.ntmps124
    go_upto_region 4 with (go_at_call 103; refine c1.mono ?_; rintro e w1 ⟨rfl, hb1⟩)
    go_cut [8, 9] from 11 (fun v1 v2 wq => ∃ gf gg, v1 = .pointer (some ⟨gf, 0, none⟩) ∧ v2 = .pointer (some ⟨gg, 0, none⟩) ∧ Box5 wq gf K X0 X1 X2 X3 ∧ Box5 wq gg M Y0 Y1 Y2 Y3 ∧ Below w.heap.size w wq)
    case first =>
      have hbw : b < w1.heap.size := Nat.lt_of_lt_of_le hb hb1.size
      have B1 := Lib.hid (Below.refl w1.heap.size w1).drew
      have B2 := fun o => ((Below.refl _ w1).alloc (Nat.le_refl _) o).drew
      have B3 := fun o o2 => (((Below.refl _ w1).alloc (Nat.le_refl _) o).alloc (by simp) o2).drew
      have g0 := HC.out _ hb1
      have k1 := HL.out _ (below_call hb1 B1.out)
      have k2 := fun o => HL.out _ (below_call hb1 (B2 o))
      have k3 := fun o o2 => HL.out _ (below_call hb1 (B3 o o2))
      have m1 := HM.out _ (below_call hb1 B1.out)
      have m2 := fun o => HM.out _ (below_call hb1 (B2 o))
      have m3 := fun o o2 => HM.out _ (below_call hb1 (B3 o o2))
      have HB3 := Lib.hid (fun o o2 => below_call hb1 (B3 o o2))
      clear B2 B3 c1 c2 c3 c4 c5
      go_region
      all_goals (go_wp2_with fail; go_meet)
      · exact ⟨_, _, rfl, rfl, box5_of (two_first _ _ _), box5_of (two_second _ _ _), HB3.out _ _⟩
      · exact ⟨_, _, rfl, rfl, box5_of (two_second _ _ _), box5_of (two_first _ _ _), HB3.out _ _⟩
    case rest =>
      obtain ⟨gf, gg, rfl, rfl, hX, hY, hb2⟩ := hcut
      clear c1 hb1
      have HX := Lib.hid (fun W (hW : Below wc.heap.size wc W) => hX.below hW)
      have HY := Lib.hid (fun W (hW : Below wc.heap.size wc W) => hY.below hW)
      have c0X := hX.c0
      have c0Y := hY.c0
      have hgf := hX.lt
      have hgg := hY.lt
      clear hX hY
      have HSZ := Lib.hid hb2.size
      have hvw : ∀ n, Below wc.heap.size wc (wc.drewN n) := fun n => below_drewN wc n
      have HVW := Lib.hid hvw
      clear hvw
      have HCM := Lib.hid (fun W (hW : Below wc.heap.size wc W) => c2 W (below_call hb2 hW))
      clear c2
      have HVB := Lib.hid (fun n => below_drewN wc n)
      by_cases hV : VF = VT
      · have ev : (VF.toList == VT.toList) = true := by rw [hV]; exact beq_self_eq_true _
        have HV := Lib.hid hV
        clear hV
        clear HVW
        by_cases hK0 : K = 0
        · subst hK0
          have HR2 : Hid (RES = 11) := HRES.out.trans (if_pos rfl)
          clear HRES
          go_wp2_with (first | (go_at_call 146; first | ((with_reducible refine (c4 _).mono ?_); rintro e wv ⟨rfl, n4, rfl⟩) | ((with_reducible refine (c5 _).mono ?_); rintro e wv2 ⟨rfl, n5, rfl⟩)) | (go_at_call 104; refine (HCM.out _ (HVB.out _)).mono ?_; rintro e w3 ⟨rfl, hb3⟩; have hb4 := below_call (HVB.out _) hb3; have x0 := (HX.out _ hb4).c0; have y0 := (HY.out _ hb4).c0))
          go_ret
          exact ⟨ret_int (by rw [HR2.out]; rfl), below_call hb2 (HVB.out _)⟩
        · have HR1 := Lib.hid (HRES.out.trans (if_neg hK0))
          have k0 := ne_eq hK0
          clear hK0 HRES
          cases H with
          | false =>
            have HR2 : Hid (RES = 11) := HR1.out.trans (if_pos rfl)
            go_wp2_with (first | (go_at_call 146; first | ((with_reducible refine (c4 _).mono ?_); rintro e wv ⟨rfl, n4, rfl⟩) | ((with_reducible refine (c5 _).mono ?_); rintro e wv2 ⟨rfl, n5, rfl⟩)) | (go_at_call 104; refine (HCM.out _ (HVB.out _)).mono ?_; rintro e w3 ⟨rfl, hb3⟩; have hb4 := below_call (HVB.out _) hb3; have x0 := (HX.out _ hb4).c0; have y0 := (HY.out _ hb4).c0))
            go_ret
            exact ⟨ret_int (by rw [HR2.out]; rfl), below_call hb2 hb4⟩
          | true =>
            have HR3 := Lib.hid (HR1.out.trans (if_neg (by decide)))
            by_cases hK1 : K = 1
            · subst hK1
              have HR2 : Hid (RES = 12) := HR3.out.trans (if_pos rfl)
              clear HR1 HR3
              go_wp2_with (first | (go_at_call 146; first | ((with_reducible refine (c4 _).mono ?_); rintro e wv ⟨rfl, n4, rfl⟩) | ((with_reducible refine (c5 _).mono ?_); rintro e wv2 ⟨rfl, n5, rfl⟩)) | (go_at_call 104; refine (HCM.out _ (HVB.out _)).mono ?_; rintro e w3 ⟨rfl, hb3⟩; have hb4 := below_call (HVB.out _) hb3; have x0 := (HX.out _ hb4).c0; have y0 := (HY.out _ hb4).c0))
              go_ret
              exact ⟨ret_int (by rw [HR2.out]; rfl), below_call hb2 hb4⟩
            · have HR4 := Lib.hid (HR3.out.trans (if_neg hK1))
              have k1 : ((K : Int) == 1) = false := beq_eq_false_iff_ne.2 (by omega)
              clear hK1 HR1 HR3
              by_cases hM1 : M = 1
              · subst hM1
                have HR2 : Hid (RES = 12) := HR4.out.trans (if_pos rfl)
                clear HR4
                go_wp2_with (first | (go_at_call 146; first | ((with_reducible refine (c4 _).mono ?_); rintro e wv ⟨rfl, n4, rfl⟩) | ((with_reducible refine (c5 _).mono ?_); rintro e wv2 ⟨rfl, n5, rfl⟩)) | (go_at_call 104; refine (HCM.out _ (HVB.out _)).mono ?_; rintro e w3 ⟨rfl, hb3⟩; have hb4 := below_call (HVB.out _) hb3; have x0 := (HX.out _ hb4).c0; have y0 := (HY.out _ hb4).c0))
                go_ret
                exact ⟨ret_int (by rw [HR2.out]; rfl), below_call hb2 hb4⟩
              · have HR5 := Lib.hid (HR4.out.trans (if_neg hM1))
                have m1 : ((M : Int) == 1) = false := beq_eq_false_iff_ne.2 (by omega)
                clear hM1 HR4
                have HR2 : Hid (RES = 0) := HR5.out.trans (if_neg (fun e => e.1 HV.out))
                clear HR5
                go_upto_region 12 with (first | (go_at_call 146; first | ((with_reducible refine (c4 _).mono ?_); rintro e wv ⟨rfl, n4, rfl⟩) | ((with_reducible refine (c5 _).mono ?_); rintro e wv2 ⟨rfl, n5, rfl⟩)) | (go_at_call 104; refine (HCM.out _ (HVB.out _)).mono ?_; rintro e w3 ⟨rfl, hb3⟩; have hb4 := below_call (HVB.out _) hb3; have x0 := (HX.out _ hb4).c0; have y0 := (HY.out _ hb4).c0))
                refine Rg.wp_only ?_ (regMayRename0 _ (by kernel_rfl) _ b bi bl gf gg l s t X0 Y0 VT true _ (HI.out _ (below_call hb2 hb4)) (HX.out _ hb4).c1 (HY.out _ hb4).c1)
                rintro _ w9 ⟨rfl, hb9⟩
                go_wp2_with fail
                go_ret
                exact ⟨ret_int (by rw [HR2.out]; rfl), below_call (below_call hb2 hb4) hb9⟩
      · have ev : (VF.toList == VT.toList) = false := bytes_ne hV
        have HV := Lib.hid hV
        clear hV
        clear HVW
        by_cases hK0 : K = 0
        · subst hK0
          have HR2 : Hid (RES = 11) := HRES.out.trans (if_pos rfl)
          clear HRES
          go_wp2_with (first | (go_at_call 146; first | ((with_reducible refine (c4 _).mono ?_); rintro e wv ⟨rfl, n4, rfl⟩) | ((with_reducible refine (c5 _).mono ?_); rintro e wv2 ⟨rfl, n5, rfl⟩)) | (go_at_call 104; refine (HCM.out _ (HVB.out _)).mono ?_; rintro e w3 ⟨rfl, hb3⟩; have hb4 := below_call (HVB.out _) hb3; have x0 := (HX.out _ hb4).c0; have y0 := (HY.out _ hb4).c0))
          go_ret
          exact ⟨ret_int (by rw [HR2.out]; rfl), below_call hb2 (HVB.out _)⟩
        · have HR1 := Lib.hid (HRES.out.trans (if_neg hK0))
          have k0 := ne_eq hK0
          clear hK0 HRES
          cases H with
          | false =>
            have HR2 : Hid (RES = 11) := HR1.out.trans (if_pos rfl)
            go_wp2_with (first | (go_at_call 146; first | ((with_reducible refine (c4 _).mono ?_); rintro e wv ⟨rfl, n4, rfl⟩) | ((with_reducible refine (c5 _).mono ?_); rintro e wv2 ⟨rfl, n5, rfl⟩)) | (go_at_call 104; refine (HCM.out _ (HVB.out _)).mono ?_; rintro e w3 ⟨rfl, hb3⟩; have hb4 := below_call (HVB.out _) hb3; have x0 := (HX.out _ hb4).c0; have y0 := (HY.out _ hb4).c0))
            go_ret
            exact ⟨ret_int (by rw [HR2.out]; rfl), below_call hb2 hb4⟩
          | true =>
            have HR3 := Lib.hid (HR1.out.trans (if_neg (by decide)))
            by_cases hK1 : K = 1
            · subst hK1
              have HR2 : Hid (RES = 12) := HR3.out.trans (if_pos rfl)
              clear HR1 HR3
              go_wp2_with (first | (go_at_call 146; first | ((with_reducible refine (c4 _).mono ?_); rintro e wv ⟨rfl, n4, rfl⟩) | ((with_reducible refine (c5 _).mono ?_); rintro e wv2 ⟨rfl, n5, rfl⟩)) | (go_at_call 104; refine (HCM.out _ (HVB.out _)).mono ?_; rintro e w3 ⟨rfl, hb3⟩; have hb4 := below_call (HVB.out _) hb3; have x0 := (HX.out _ hb4).c0; have y0 := (HY.out _ hb4).c0))
              go_ret
              exact ⟨ret_int (by rw [HR2.out]; rfl), below_call hb2 hb4⟩
            · have HR4 := Lib.hid (HR3.out.trans (if_neg hK1))
              have k1 : ((K : Int) == 1) = false := beq_eq_false_iff_ne.2 (by omega)
              clear hK1 HR1 HR3
              by_cases hM1 : M = 1
              · subst hM1
                have HR2 : Hid (RES = 12) := HR4.out.trans (if_pos rfl)
                clear HR4
                go_wp2_with (first | (go_at_call 146; first | ((with_reducible refine (c4 _).mono ?_); rintro e wv ⟨rfl, n4, rfl⟩) | ((with_reducible refine (c5 _).mono ?_); rintro e wv2 ⟨rfl, n5, rfl⟩)) | (go_at_call 104; refine (HCM.out _ (HVB.out _)).mono ?_; rintro e w3 ⟨rfl, hb3⟩; have hb4 := below_call (HVB.out _) hb3; have x0 := (HX.out _ hb4).c0; have y0 := (HY.out _ hb4).c0))
                go_ret
                exact ⟨ret_int (by rw [HR2.out]; rfl), below_call hb2 hb4⟩
              · have HR5 := Lib.hid (HR4.out.trans (if_neg hM1))
                have m1 : ((M : Int) == 1) = false := beq_eq_false_iff_ne.2 (by omega)
                clear hM1 HR4
                cases B with
                | true =>
                  have HR2 : Hid (RES = 13) := HR5.out.trans (if_pos ⟨HV.out, rfl⟩)
                  clear HR5
                  go_upto_region 12 with (first | (go_at_call 146; first | ((with_reducible refine (c4 _).mono ?_); rintro e wv ⟨rfl, n4, rfl⟩) | ((with_reducible refine (c5 _).mono ?_); rintro e wv2 ⟨rfl, n5, rfl⟩)) | (go_at_call 104; refine (HCM.out _ (HVB.out _)).mono ?_; rintro e w3 ⟨rfl, hb3⟩; have hb4 := below_call (HVB.out _) hb3; have x0 := (HX.out _ hb4).c0; have y0 := (HY.out _ hb4).c0))
                  refine Rg.wp_only ?_ (regMayRename1 _ (by kernel_rfl) _ b bi bl gf gg l s t X0 Y0 VT true _ (HI.out _ (below_call hb2 hb4)) (HX.out _ hb4).c1 (HY.out _ hb4).c1 HS.out c5 c3)
                  rintro _ w9 ⟨rfl, hb9⟩
                  go_wp2_with fail
                  go_ret
                  exact ⟨ret_int (by rw [HR2.out]; rfl), below_call (below_call hb2 hb4) hb9⟩
                | false =>
                  have HR2 : Hid (RES = 0) := HR5.out.trans (if_neg (fun e => by cases e.2))
                  clear HR5
                  go_upto_region 12 with (first | (go_at_call 146; first | ((with_reducible refine (c4 _).mono ?_); rintro e wv ⟨rfl, n4, rfl⟩) | ((with_reducible refine (c5 _).mono ?_); rintro e wv2 ⟨rfl, n5, rfl⟩)) | (go_at_call 104; refine (HCM.out _ (HVB.out _)).mono ?_; rintro e w3 ⟨rfl, hb3⟩; have hb4 := below_call (HVB.out _) hb3; have x0 := (HX.out _ hb4).c0; have y0 := (HY.out _ hb4).c0))
                  refine Rg.wp_only ?_ (regMayRename1 _ (by kernel_rfl) _ b bi bl gf gg l s t X0 Y0 VT false _ (HI.out _ (below_call hb2 hb4)) (HX.out _ hb4).c1 (HY.out _ hb4).c1 HS.out c5 c3)
                  rintro _ w9 ⟨rfl, hb9⟩
                  go_wp2_with fail
                  go_ret
                  exact ⟨ret_int (by rw [HR2.out]; rfl), below_call (below_call hb2 hb4) hb9⟩
  · rw [if_pos hE] at hRES
    have e1 := ne_eq hE
    have HRES := Lib.hid hRES
    clear hE hRES
    go_enter Tryz.func124, Tryz.ntmps124
    go_wp2_with (go_at_call 103; refine c1.mono ?_; rintro e w1 ⟨rfl, hb1⟩)
    go_ret
    exact ⟨ret_int (by rw [HRES.out]), hb1⟩
end Go.Proofs.YtjdfffkkpbabpaaGreat.Dk

namespace Go.Proofs.YtjdfffkkpbabpaaGreat.Dk
open Go.RowKit Tx Pm Pl Pr
set_option linter.unusedVariables false
theorem Mp.put {w : World} {bi : Nat} {L : List It} (h : Mp w bi L) {x : It} {p : ByteArray} {v : Value} (hx : x.path = p) (hv : iv3 x = v) (hp : p.size ≤ 8000000000000) (hn : L.length ≤ 1000000000) :
    ∃ w', (Instr.mapUpdate 57 (.map (some bi)) (.string p) v).run Tryz.prog w = .ok () w' ∧ Mp w' bi (ins L x) ∧ w.mapTurned w' bi := by
  subst hx
  subst hv
  exact h.store (maxLen_of hp) (by unfold maxLen; omega)
theorem kOf_file {x : It} (h : x.dir = false) : kOf x = 2 := by unfold kOf; rw [h]; rfl
set_option maxRecDepth 100000 in
set_option maxHeartbeats 1000000 in
theorem iWriteC_any (b bi bl bd bp bq : Nat) (l : Int) (s : St) (p d : ByteArray) (w : World) (h : Ia b bi bl l w s) (hd : Cap w bd (.pointer (some ⟨b, 0, none⟩))) (hp : Cap w bp (.string p)) (hq : Cap w bq (.string d)) (hps : p.size ≤ 8000000000000) (hn : s.L.length ≤ 1000000000) (hst : s.stamps ≤ 1000000000000)
    (ho : (old s.L p).dir = false) :
    Calls Tryz.prog 123 #[.pointer (some ⟨bd, 0, none⟩), .pointer (some ⟨bp, 0, none⟩), .pointer (some ⟨bq, 0, none⟩)] w fun e w' => e = .returned (.tuple #[]) ∧ Ip b bi bl w (putS s { old s.L p with data := d, loose := true, anew := true }) w' := by
  obtain ⟨c0, _⟩ := h.cell
  unfold Cap at hd hp hq
  have h0 := h.below (Below.refl _ w).drew
  have hl := h0.look (maxLen_of hps)
  have cs := iSet_any b bi bl l s { old s.L p with data := d, loose := true, anew := true } 0 p w.drew h0 (old_path _ _) hps hn hst
  have e1 : kOf { old s.L p with data := d, loose := true, anew := true } = 2 := kOf_file ho
  rw [e1] at cs
  have cs : Calls Tryz.prog 52 #[.pointer (some ⟨b, 0, none⟩), .string p, .agg #[.int .i64 2, .string d, .string (old s.L p).kept, .int .i64 2, .int .i64 0]] w.drew fun e w' => e = .returned (.tuple #[]) ∧ Ip b bi bl w.drew (putS s { old s.L p with data := d, loose := true, anew := true }) w' := cs
  have hf2 := fld2
  have hend : ∀ w', Ip b bi bl w.drew (putS s { old s.L p with data := d, loose := true, anew := true }) w' → Ip b bi bl w (putS s { old s.L p with data := d, loose := true, anew := true }) w' := fun w' hh => Ip.after (Below.refl _ w).drew hh
  have HE := Lib.hid hend
  generalize (putS s { old s.L p with data := d, loose := true, anew := true }) = s' at cs HE ⊢
  generalize (old s.L p).kept = X1 at cs hl
  generalize stOf (old s.L p) = X2 at hl
  clear h h0 hend e1 ho
  go_enter Tryz.func123, Tryz.ntmps123
  go_wp2
  go_still_tail 11, (by kernel_rfl)
  change wpList _ _ _ _ _ w.drew
  go_wp2_with (go_at_call 52; refine cs.mono ?_; rintro e w5 ⟨rfl, h5⟩)
  go_end0
  exact ⟨rfl, HE.out _ h5⟩
set_option maxRecDepth 100000 in
set_option maxHeartbeats 1000000 in
theorem iSyncC_any (b bi bl bd bp : Nat) (l : Int) (s : St) (p : ByteArray) (w : World) (h : Ia b bi bl l w s) (hd : Cap w bd (.pointer (some ⟨b, 0, none⟩))) (hp : Cap w bp (.string p)) (hps : p.size ≤ 8000000000000) (hn : s.L.length ≤ 1000000000)
    (ho : kind s.L p = 2) :
    Calls Tryz.prog 118 #[.pointer (some ⟨bd, 0, none⟩), .pointer (some ⟨bp, 0, none⟩)] w fun e w' => e = .returned (.tuple #[]) ∧ Ip b bi bl w { s with L := ins s.L { old s.L p with kept := (old s.L p).data, loose := false, anew := false } } w' := by
  obtain ⟨c0, _⟩ := h.cell
  unfold Cap at hd hp
  have hl := (h.below (Below.refl _ w).drew).look (maxLen_of hps)
  have hl2 := fun o => (h.below ((Below.refl _ w).alloc (Nat.le_refl _) o).drew).look (maxLen_of hps)
  rw [ho] at hl hl2
  have hod : (old s.L p).dir = false := old_dir (by omega)
  have hbd : bd < w.heap.size := World.block_lt_of_cell? w _ hd
  have hbp : bp < w.heap.size := World.block_lt_of_cell? w _ hp
  have hb : b < w.heap.size := h.lt b (.inl rfl)
  generalize hX0 : (old s.L p).data = X0 at hl hl2
  have hB2 := ((Below.refl _ w).alloc (Nat.le_refl _) (.cells #[.int .i64 2, .string X0, .string X0, .int .i64 0, .int .i64 (old s.L p).stamp] 100)).drew.drew
  have a2 := h.below hB2
  have e1 : iv3 { old s.L p with kept := X0, loose := false, anew := false } = .agg #[.int .i64 2, .string X0, .string X0, .int .i64 0, .int .i64 (old s.L p).stamp] := by
    unfold iv3
    rw [show kOf { old s.L p with kept := X0, loose := false, anew := false } = 2 from kOf_file hod, ← hX0]
    rfl
  obtain ⟨w3, hrun, hm, ht⟩ := a2.items.put (x := { old s.L p with kept := X0, loose := false, anew := false }) (old_path s.L p) e1 hps hn
  have HE := Lib.hid (show Ip b bi bl w { s with L := ins s.L { old s.L p with kept := X0, loose := false, anew := false } } w3 from ⟨l, a2.turned hm ht, (Chg.of_below hB2).then ((turned_chg ht).mono ft_i)⟩)
  generalize stOf (old s.L p) = X2 at hl hl2
  generalize ((old s.L p).stamp : Int) = X3 at hl hl2 hrun
  generalize (old s.L p).kept = X4 at hl hl2
  clear h hB2 a2 hm ht e1 hod ho hX0
  go_enter Tryz.func118, Tryz.ntmps118
  go_wp2
  go_region
  all_goals go_wp2
  all_goals go_region
  all_goals (go_end0; exact ⟨rfl, HE.out⟩)
end Go.Proofs.YtjdfffkkpbabpaaGreat.Dk
