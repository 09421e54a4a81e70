/- Texts of this seat, one behind the other. -/
import Derived.WalkKit
import Derived.Test.YtdfcbnejnnibpaaGreatDoorRows
import Derived.WalkLawsBesides
import Derived.WalkSpells
import Derived.LoopTactic
import Derived.Lib.Hide
import Derived.Deep.AppendLies
import Derived.Deep.QuietTactic
import Derived.BigQuiet
import Derived.Laws.Rows
import Derived.Laws.NewBlocks
import Derived.Test.YtdfcbnejnnibpaaGreatDoorProg
import Derived.Deep.RegionHeld3
import Derived.Deep.CutBlock
import Derived.Deep.CutRange
import Derived.Deep.RegionWith
import Derived.Maps.AppendAt
import Derived.Laws.BytesArg
import Derived.Laws.IdiomStrings
import Derived.RegionTactic
import Derived.ChangeAlike
import Derived.Maps.RangeWalk
import Derived.Lib.Strings
import Derived.Lib.Bytealg
import Derived.Lib.IndexLaws
import Derived.Laws.RangeAny
import Derived.Shelf.RegionOpenPlain
import Derived.Shelf.Strings.Builder1
import Derived.Shelf.Strings.Builder2
import Derived.Shelf.Strings.OnBuilder
import Derived.Shelf.Strconv.Atoi
import Derived.Shelf.Strconv.Itoa0
import Derived.Shelf.Strconv.Itoa1
import Derived.Shelf.LaysM
import Derived.Shelf.Strconv.Itoa2
import Derived.Shelf.Strconv.Itoa3
import Derived.Shelf.Strings.Search1
import Derived.Shelf.Strings.Search2
import Derived.Shelf.Strings.Search3
import Derived.Shelf.Strings.Cut
import Derived.Shelf.Strings.Count
import Derived.Shelf.Strings.Shaped
import Derived.Shelf.Sort.Plain
import Derived.Shelf.Slices.In.SortNone
namespace Go.Proofs.YtdfcbnejnnibpaaGreatDoor.Pm
set_option linter.unusedVariables false
def spl : List UInt8 → List (List UInt8)
  | [] => [[]]
  | c :: r => if c = 47 then [] :: spl r else
    match spl r with
    | [] => [[c]]
    | x :: xs => (c :: x) :: xs
theorem spl_ne (l : List UInt8) : spl l ≠ [] := by
  cases l with
  | nil => simp [spl]
  | cons c r =>
    rw [spl]
    split
    · simp
    · split <;> simp
theorem spl_len (l : List UInt8) : (spl l).length ≤ l.length + 1 := by
  induction l with
  | nil => simp [spl]
  | cons c r ih =>
    rw [spl]
    split
    · simp; omega
    · split
      · simp
      · rename_i x xs h
        rw [h] at ih
        simp at ih ⊢
        omega
def okC (c : UInt8) : Bool := (97 ≤ c.toNat && c.toNat ≤ 122) || (48 ≤ c.toNat && c.toNat ≤ 57) || c.toNat == 95
def isName (l : List UInt8) : Bool := decide (1 ≤ l.length) && decide (l.length ≤ 12) && l.all okC
def isPath (l : List UInt8) (deep : Int) : Bool := decide (((spl l).length : Int) ≤ deep) && (spl l).all isName
def chk (l : List UInt8) (deep : Int) : Nat := if isPath l deep then 0 else 10
def lastN : List UInt8 → Nat
  | [] => 0
  | c :: r => if lastN r = 0 then (if c = 47 then 1 else 0) else lastN r + 1
theorem lastN_le (l : List UInt8) : lastN l ≤ l.length := by
  induction l with
  | nil => exact Nat.le_refl _
  | cons c r ih =>
    rw [lastN]
    split
    · split <;> simp
    · simp; omega
theorem lastN_snoc (l : List UInt8) (c : UInt8) : lastN (l ++ [c]) = if c = 47 then l.length + 1 else lastN l := by
  induction l with
  | nil => simp [lastN]
  | cons d r ih =>
    rw [List.cons_append, lastN, ih, lastN]
    by_cases h : c = 47
    · simp [h]
    · simp [h]
def par (l : List UInt8) : List UInt8 := l.take (lastN l - 1)
def joi (a b : List UInt8) : List UInt8 := if a ≠ [] ∧ b ≠ [] then a ++ 47 :: b else a ++ b
def dep (p : List UInt8) : Nat := if p = [] then 0 else (spl p).length
end Go.Proofs.YtdfcbnejnnibpaaGreatDoor.Pm

namespace Go.Proofs.YtdfcbnejnnibpaaGreatDoor.Tx
open Go.RowKit
set_option linter.unusedVariables false
theorem info9 : (Tryz.prog.info? 9).map (fun i => (i.zero, i.size, i.bytes)) = some (some (.string ⟨#[]⟩), 1, 16) := by kernel_rfl
theorem below_at {w w1 w2 : World} {b : Nat} (h : Below w.heap.size w w1) (hg : w1.grownBy w2 (some b)) (hb : w.heap.size ≤ b) : Below w.heap.size w w2 :=
  h.grown hg h.size (fun k hk => by injection hk with hk; omega)
theorem below_call {w w1 w2 : World} (h : Below w.heap.size w w1) (h2 : Below w1.heap.size w1 w2) : Below w.heap.size w w2 := h.trans (h2.mono h.size)
theorem below_step {w wr w1 : World} {e : TypeId} {size n : Nat} {v : Value} {xs : List Value} {o : Obj} (hb : Below w.heap.size w wr) (hown : wr.ownsRow w.heap.size e size v n xs) (hg : (wr.alloc o).grownBy w1 v.ownBlock) : Below w.heap.size w w1 :=
  (hb.alloc hb.size o).grown hg (by have := hb.size; simp; omega) (fun k hk => (hown.lt k hk).1)
theorem len_l (s : ByteArray) : s.data.toList.length = s.size := by rw [Array.length_toList]; rfl
theorem gd (s : ByteArray) (k : Nat) (h : k < s.size) : s.data.toList.getD k 0 = s[k] := by
  have h' : k < s.data.size := h
  rw [List.getD_eq_getElem?_getD, Array.getElem?_toList, Array.getElem?_eq_getElem h']
  rfl
theorem mk_len (l : List UInt8) : (⟨l.toArray⟩ : ByteArray).size = l.length := by rw [ByteArray.size, List.size_toArray]
def tb (l : List UInt8) : ByteArray := ⟨l.toArray⟩
theorem tb_list (l : List UInt8) : (tb l).data.toList = l := rfl
theorem tb_of (s : ByteArray) : tb s.data.toList = s := by
  apply ByteArray.ext
  rfl
theorem tb_size (l : List UInt8) : (tb l).size = l.length := mk_len l
theorem bytes_ne {a b : ByteArray} (h : a ≠ b) : (a.toList == b.toList) = false := by
  rw [ByteArray.toList_eq, ByteArray.toList_eq]
  apply Bool.eq_false_iff.2
  intro hc
  exact h (ByteArray.ext (Array.toList_inj.1 (eq_of_beq hc)))
def sv (s : ByteArray) : Value := .string s
theorem sv_one (l : List ByteArray) : ∀ u ∈ l.map sv, u.oneCell' = true := by
  intro u hu
  obtain ⟨s, _, rfl⟩ := List.mem_map.1 hu
  rfl
def Texts (w : World) (B : Nat) (v : Value) (l : List ByteArray) : Prop := w.ownsRow B 9 1 v l.length (l.map sv)
theorem Texts.below {w w1 : World} {B : Nat} {v : Value} {l : List ByteArray} (h : Texts w B v l) (hb : Below w.heap.size w w1) : Texts w1 B v l := by
  refine ⟨h.1, ?_⟩
  rcases h.2 with h0 | ⟨g', cap', cur, hv, hg, hh, r⟩
  · exact .inl h0
  · exact .inr ⟨g', cap', cur, hv, hg, (hb.block g' (Array.getElem?_eq_some_iff.1 hh).1).trans hh, r⟩
def Strs (w : World) (a : Option Addr) (n : Nat) (l : List ByteArray) : Prop := l.length = n ∧ (n = 0 ∨ ∃ b off, a = some ⟨b, off, none⟩ ∧ b < w.heap.size ∧ ∀ k x, l[k]? = some x → w.cell? ⟨b, off + k, none⟩ = some (.string x))
theorem Strs.below {w w1 : World} {a : Option Addr} {n : Nat} {l : List ByteArray} (h : Strs w a n l) (hb : Below w.heap.size w w1) : Strs w1 a n l := by
  refine ⟨h.1, ?_⟩
  rcases h.2 with h0 | ⟨b, off, ha, hlt, hc⟩
  · exact .inl h0
  · exact .inr ⟨b, off, ha, Nat.lt_of_lt_of_le hlt hb.size, fun k x hx => (hb.cell (p := ⟨b, off + k, none⟩) hlt).trans (hc k x hx)⟩
theorem Texts.form {w : World} {B : Nat} {v : Value} {l : List ByteArray} (h : Texts w B v l) : ∃ a c, v = .slice a l.length c ∧ Strs w a l.length l ∧ l.length ≤ c ∧ c ≤ maxLen := by
  have hh := h
  rcases h.2 with ⟨rfl, h0⟩ | ⟨g, cap, cur, rfl, hg, hh2, hn, hc, _⟩
  · exact ⟨none, 0, by rw [h0], ⟨rfl, .inl h0⟩, by omega, Nat.zero_le _⟩
  · refine ⟨some ⟨g, 0, none⟩, cap, rfl, ⟨rfl, .inr ⟨g, 0, rfl, (Array.getElem?_eq_some_iff.1 hh2).1, fun k x hx => ?_⟩⟩, hn, hc⟩
    have := hh.cells (g := g) rfl k (sv x) (by rw [List.getElem?_map, hx]; rfl)
    rw [← WideShapes.add_plain]
    exact this
end Go.Proofs.YtdfcbnejnnibpaaGreatDoor.Tx

namespace Go.Proofs.YtdfcbnejnnibpaaGreatDoor.Pr
open Go.RowKit Pm Tx
set_option linter.unusedVariables false
end Go.Proofs.YtdfcbnejnnibpaaGreatDoor.Pr

namespace Go.Proofs.YtdfcbnejnnibpaaGreatDoor.Pr
open Go.RowKit Pm Tx
set_option linter.unusedVariables false
theorem take_at (p : ByteArray) (k : Nat) (h : k < p.size) : p.data.toList.take (k + 1) = p.data.toList.take k ++ [p[k]] := by
  have h' : k < p.data.toList.length := by rw [len_l]; exact h
  rw [List.take_succ_eq_append_getElem h']
  rfl
theorem take_all (p : ByteArray) : p.data.toList.take p.size = p.data.toList := List.take_of_length_le (by rw [len_l]; omega)
theorem all_at (p : ByteArray) (k : Nat) (h : k < p.size) (ha : (p.data.toList.take k).all okC = true) (hb : okC p[k] = true) : (p.data.toList.take (k + 1)).all okC = true := by
  rw [take_at p k h, List.all_append, ha]
  simp [hb]
theorem all_not (p : ByteArray) (k : Nat) (h : k < p.size) (hb : okC p[k] = false) : isName p.data.toList = false := by
  have h' : k < p.data.toList.length := by rw [len_l]; exact h
  have : p.data.toList.all okC = false := by
    rw [← Bool.not_eq_true, List.all_eq_true]
    intro hall
    have := hall _ (List.getElem_mem h')
    have e : p.data.toList[k] = p[k] := rfl
    rw [e, hb] at this
    cases this
  rw [isName, this, Bool.and_false]
end Go.Proofs.YtdfcbnejnnibpaaGreatDoor.Pr

namespace Go.Proofs.YtdfcbnejnnibpaaGreatDoor.Pr
open Go.RowKit Pm Tx
set_option linter.unusedVariables false
theorem par_ext (s : ByteArray) : s.extract 0 (lastN s.data.toList - 1) = tb (par s.data.toList) := by
  apply ByteArray.ext
  apply Array.toList_inj.1
  rw [ByteArray.data_extract, Array.toList_extract, List.extract_eq_take_drop]
  simp [tb, par]
theorem size_zero {s : ByteArray} : s.size = 0 ↔ s = ⟨#[]⟩ := by
  refine ⟨fun h => ?_, fun h => by rw [h]; rfl⟩
  apply ByteArray.ext
  exact Array.eq_empty_of_size_eq_zero h
theorem list_nil {s : ByteArray} (h : s = ⟨#[]⟩) : s.data.toList = [] := by rw [h]
theorem list_ne {s : ByteArray} (h : s ≠ ⟨#[]⟩) : s.data.toList ≠ [] := fun e => h (ByteArray.ext (Array.toList_inj.1 e))
theorem is_empty {s : ByteArray} (h : s = ⟨#[]⟩) : s.toList.isEmpty = true := by rw [h, ByteArray.toList_eq]; rfl
theorem not_empty {s : ByteArray} (h : s ≠ ⟨#[]⟩) : s.toList.isEmpty = false := by
  rw [ByteArray.toList_eq]
  cases e : s.data.toList with
  | nil => exact absurd e (list_ne h)
  | cons c r => rfl
end Go.Proofs.YtdfcbnejnnibpaaGreatDoor.Pr

namespace Go.Proofs.YtdfcbnejnnibpaaGreatDoor.Dk
open Go.RowKit Tx Pm
set_option linter.unusedVariables false
structure It where
  path : ByteArray
  dir : Bool
  data : ByteArray
  kept : ByteArray
  loose : Bool
  anew : Bool
  stamp : Nat
structure Rm where
  vol : ByteArray
  n : Int
structure St where
  L : List It
  rooms : List Rm
  steps : Nat
  stamps : Nat
  armed : Int
  down : Bool
def find (l : List It) (p : ByteArray) : Option It := l.find? (fun x => decide (x.path = p))
def place (l : List It) (p : ByteArray) : Nat := l.findIdx (fun x => decide (x.path = p))
def kindOf : Option It → Nat
  | none => 0
  | some x => if x.dir then 1 else 2
def kind (l : List It) (p : ByteArray) : Nat := kindOf (find l p)
def vol (p : ByteArray) : ByteArray := tb ((spl p.data.toList).headD [])
def used (l : List It) (v : ByteArray) : Nat := (l.map fun x => if vol x.path = v then x.data.size else 0).sum
def whole (l : List It) : Nat := (l.map fun x => x.data.size).sum
theorem used_le (l : List It) (v : ByteArray) : used l v ≤ whole l := by
  unfold used whole
  induction l with
  | nil => exact Nat.le_refl _
  | cons x l ih =>
    simp only [List.map_cons, List.sum_cons]
    split <;> omega
def fits (s : St) (p : ByteArray) (more : Int) : Bool := decide (more ≤ 0) || s.rooms.all (fun r => !(decide (r.vol = vol p) && decide ((used s.L (vol p) : Int) + more > r.n)))
def first (s : St) (p : ByteArray) (names : Nat) : Nat := if s.down then 14 else if chk p.data.toList 6 ≠ 0 ∨ (spl p.data.toList).length ≤ names then 10 else 0
def home (l : List It) (p : ByteArray) : Bool := decide (par p.data.toList = []) || decide (kind l (tb (par p.data.toList)) = 1)
def there (s : St) (p : ByteArray) : Nat := if first s p 1 ≠ 0 then first s p 1 else if kind s.L p = 0 then 11 else if kind s.L p = 1 then 12 else 0
def done (s : St) : Nat × St := if s.armed = 0 then (14, { s with down := true, armed := -1 }) else (0, { s with armed := if s.armed > 0 then s.armed - 1 else s.armed, steps := s.steps + 1 })
def ins (l : List It) (x : It) : List It := l.takeWhile (fun y => Op.bytesLess y.path.toList x.path.toList) ++ x :: (match l.dropWhile (fun y => Op.bytesLess y.path.toList x.path.toList) with | [] => [] | y :: r => if y.path = x.path then r else y :: r)
def drop (l : List It) (p : ByteArray) : List It := l.filter (fun x => !decide (x.path = p))
def stamped (s : St) (x : It) : It := { x with stamp := s.stamps + 1 }
def putS (s : St) (x : It) : St := { s with L := ins s.L (stamped s x), stamps := s.stamps + 1 }
def list (l : List It) (p : ByteArray) : List ByteArray := (l.filter fun x => decide (tb (par x.path.data.toList) = p)).map (·.path)
def cells (x : It) : List Value := [.string x.path, .bool x.dir, .string x.data, .string x.kept, .bool x.loose, .bool x.anew, .int .i64 x.stamp]
def cellsR (x : Rm) : List Value := [.string x.vol, .int .i64 x.n]
theorem flat_at {α : Type} (f : α → List Value) (m : Nat) (hf : ∀ x, (f x).length = m) : ∀ (l : List α) (k : Nat) (x : α) (j : Nat), l[k]? = some x → j < m → (l.flatMap f)[k * m + j]? = (f x)[j]?
  | [], k, x, j, h, _ => by cases h
  | y :: l, 0, x, j, h, hj => by
    injection h with h
    subst h
    rw [List.flatMap_cons, List.getElem?_append_left (by rw [Nat.zero_mul, Nat.zero_add, hf]; exact hj), Nat.zero_mul, Nat.zero_add]
  | y :: l, k + 1, x, j, h, hj => by
    have e : (k + 1) * m + j = (f y).length + (k * m + j) := by rw [hf, Nat.succ_mul]; omega
    rw [List.flatMap_cons, e, List.getElem?_append_right (by omega), Nat.add_sub_cancel_left]
    exact flat_at f m hf l k x j h hj
theorem own_kept {w w1 : World} {B size n : Nat} {e : TypeId} {v : Value} {xs : List Value} (h : w.ownsRow B e size v n xs) (hk : ∀ g, v.ownBlock = some g → w1.heap[g]? = w.heap[g]?) : w1.ownsRow B e size v n xs := by
  refine ⟨h.1, ?_⟩
  rcases h.2 with h0 | ⟨g, cap, cur, hv, hg, hh, r⟩
  · exact .inl h0
  · exact .inr ⟨g, cap, cur, hv, hg, (hk g (by rw [hv]; rfl)).trans hh, r⟩
structure Chg (F : Nat → Prop) (w w1 : World) : Prop where
  os : w1.os = w.os
  tape : w1.tape = w.tape
  output : w1.output = w.output
  size : w.heap.size ≤ w1.heap.size
  block : ∀ i, i < w.heap.size → ¬ F i → w1.heap[i]? = w.heap[i]?
theorem Chg.of_below {F : Nat → Prop} {w w1 : World} (h : Below w.heap.size w w1) : Chg F w w1 := ⟨h.os, h.tape, h.output, h.size, fun i hi _ => h.block i hi⟩
theorem Chg.trans {F G : Nat → Prop} {w w1 w2 : World} (h : Chg F w w1) (h2 : Chg G w1 w2) (hG : ∀ i, G i → F i ∨ w.heap.size ≤ i) : Chg F w w2 :=
  ⟨h2.os.trans h.os, h2.tape.trans h.tape, h2.output.trans h.output, Nat.le_trans h.size h2.size, fun i hi hn => (h2.block i (Nat.lt_of_lt_of_le hi h.size) (fun hg => by rcases hG i hg with h | h <;> first | exact hn h | omega)).trans (h.block i hi hn)⟩
theorem Chg.mono {F G : Nat → Prop} {w w1 : World} (h : Chg F w w1) (hG : ∀ i, F i → G i) : Chg G w w1 := ⟨h.os, h.tape, h.output, h.size, fun i hi hn => h.block i hi (fun hf => hn (hG i hf))⟩
theorem Chg.below {F : Nat → Prop} {w w1 : World} {B : Nat} (h : Chg F w w1) (hB : B ≤ w.heap.size) (hF : ∀ i, F i → B ≤ i) : Below B w w1 :=
  ⟨h.os, h.tape, h.output, h.size, fun i hi => h.block i (Nat.lt_of_lt_of_le hi hB) (fun hf => by have := hF i hf; omega)⟩
end Go.Proofs.YtdfcbnejnnibpaaGreatDoor.Dk

namespace Go.Proofs.YtdfcbnejnnibpaaGreatDoor.Dk
open Go.RowKit Tx Pm
set_option linter.unusedVariables false
def placeI (l : List It) (p : ByteArray) : Int := if place l p < l.length then (place l p : Int) else -1
theorem find_place {l : List It} {p : ByteArray} : find l p = l[place l p]? := List.find?_eq_getElem?_findIdx
theorem find_hit {l : List It} {p : ByteArray} (h : place l p < l.length) : find l p = some (l[place l p]) := by rw [find_place, List.getElem?_eq_getElem h]
theorem find_none {l : List It} {p : ByteArray} (h : ¬ place l p < l.length) : find l p = none := by rw [find_place]; exact List.getElem?_eq_none (by omega)
theorem find_cases (l : List It) (p : ByteArray) : (find l p = none ∧ placeI l p = -1) ∨ ∃ (k : Nat) (x : It), k < l.length ∧ l[k]? = some x ∧ find l p = some x ∧ placeI l p = k ∧ x.path = p := by
  by_cases h : place l p < l.length
  · refine .inr ⟨place l p, l[place l p], h, List.getElem?_eq_getElem h, find_hit h, by rw [placeI, if_pos h], ?_⟩
    have := List.findIdx_getElem (w := h)
    exact of_decide_eq_true this
  · exact .inl ⟨find_none h, by rw [placeI, if_neg h]⟩
end Go.Proofs.YtdfcbnejnnibpaaGreatDoor.Dk

namespace Go.Proofs.YtdfcbnejnnibpaaGreatDoor.Dk
open Go.RowKit Tx Pm
set_option linter.unusedVariables false
def Fit (s : St) : Prop := s.L.length ≤ 1000000000 ∧ (∀ x ∈ s.L, x.path.size ≤ 8000000000000) ∧ whole s.L ≤ 4000000000000000000
end Go.Proofs.YtdfcbnejnnibpaaGreatDoor.Dk

namespace Go.Proofs.YtdfcbnejnnibpaaGreatDoor.Rg
open Go.RowKit
set_option linter.unusedVariables false
def Only (R : Act → World → Prop) : Exit → Act → World → Prop
  | .normal, a, w => R a w
  | _, _, _ => False
theorem wp_only {P : Program} {c : Code} {Q : Exit → Act → World → Prop} {R : Act → World → Prop} {a : Act} {w : World} (hR : ∀ a w, R a w → Q .normal a w) (h : c.wp P (Only R) a w) : c.wp P Q a w :=
  Code.wp_mono (fun e a w h => by cases e <;> first | exact hR _ _ h | exact (h : False).elim) h
def regOps (n : Nat) : Code → Option (Array Oper)
  | .region id ops _ => if id = n then some ops else none
  | .seq a b => (match regOps n a with | some x => some x | none => regOps n b)
  | .cond _ a b => (match regOps n a with | some x => some x | none => regOps n b)
  | .block _ a => regOps n a
  | .loop a => regOps n a
  | .scope a => regOps n a
  | .rangeFunc _ _ a b => (match regOps n a with | some x => some x | none => regOps n b)
  | _ => none
def opsOf (f : Func) (n : Nat) : Array Oper := match f.body with | some c => (regOps n c).getD #[] | none => #[]
def opOf (ops : Array Oper) (i : Nat) : Oper := (ops[i]?).getD default
section
variable {P : Program} {ops : Array Oper} {R : Act → World → Prop} {S : World → Prop}
theorem opOf_some {i : Nat} (h : decide (i < ops.size) = true) : ops[i]? = some (opOf ops i) := by
  have h := of_decide_eq_true h
  rw [opOf, Array.getElem?_eq_getElem h]
  rfl
theorem take (i : Nat) (d : Option Tmp) (v : Value) {fuel : Nat} {listed : Array Bool} {a : Act} {w : World} (hs : Region.noSelect ops = true)
    (hi : decide (i < ops.size) = true) (hd : (opOf ops i).dst = d) (hf : Region.free .any ops listed i = true) (hr : (Region.ready .any ops listed).contains i = true)
    (hw : Region.wanted (opOf ops i) (yielded ops a.tmps) = true) (hS : S w)
    (hy : ∀ w, S w → (execOp a.eval (opOf ops i)).run P w = .ok (.value v) w)
    (h : wpAnyH P .any ops (Only R) S fuel (listed.setIfInBounds i true) (a.put d v) w) : wpAnyH P .any ops (Only R) S (fuel + 1) listed a w := by
  subst hd
  exact wpAnyH_take (opOf_some hi) hs hf hr (fun _ _ _ h => h) (Or.inl ⟨hw, hy⟩) hS h
theorem skip (i : Nat) (d : Option Tmp) {fuel : Nat} {listed : Array Bool} {a : Act} {w : World} (hs : Region.noSelect ops = true)
    (hi : decide (i < ops.size) = true) (hd : (opOf ops i).dst = d) (hf : Region.free .any ops listed i = true) (hr : (Region.ready .any ops listed).contains i = true)
    (hw : Region.wanted (opOf ops i) (yielded ops a.tmps) = false) (hS : S w)
    (h : wpAnyH P .any ops (Only R) S fuel (listed.setIfInBounds i true) (a.put d undef) w) : wpAnyH P .any ops (Only R) S (fuel + 1) listed a w := by
  subst hd
  exact wpAnyH_take (opOf_some hi) hs hf hr (fun _ _ _ h => h) (Or.inr ⟨hw, rfl⟩) hS h
theorem enters {f : FuncId} {fn : Func} (hf : P.funcs[f]? = some fn) (hn : (fn.name == "runtime.NumGoroutine") = false) (hb : fn.body.isNone = false) (args : Array Value) (w : World) : (callFunc f args).run P w = .ok (.enter f args) w := by
  have h1 : fn.name ≠ "runtime.NumGoroutine" := by simpa using hn
  have h2 : fn.body ≠ none := fun h => by rw [h] at hb; cases hb
  simp [callFunc, hf, h1, h2]
theorem call (i : Nat) (d : Option Tmp) (f : FuncId) (args : Array Value) {fn : Func} {xs : Array Operand} {ats : Array TypeId} {fuel : Nat} {listed : Array Bool} {a : Act} {w : World}
    (hi : decide (i < ops.size) = true) (hd : (opOf ops i).dst = d) (hr : Region.ready .any ops listed = [i])
    (hw : Region.wanted (opOf ops i) (yielded ops a.tmps) = true) (ho : (opOf ops i).op = .call { callee := .value (.func f), args := xs, argTypes := ats })
    (hf : P.funcs[f]? = some fn) (hn : (fn.name == "runtime.NumGoroutine") = false) (hb : fn.body.isNone = false) (hx : xs.map a.eval = args)
    (h : Calls P f args w fun e w' => ∃ v, e = .returned v ∧ S w' ∧ (S w' → wpAnyH P .any ops (Only R) S fuel (listed.setIfInBounds i true) (a.put d v) w')) :
    wpAnyH P .any ops (Only R) S (fuel + 1) listed a w := by
  subst hd
  refine wpAnyH_all hr (by simp) fun j hj => ?_
  obtain rfl : j = i := by simpa using hj
  unfold wpOp
  rw [opOf_some hi]
  simp only [hw, if_true]
  refine .inl ?_
  have he : execOp a.eval (opOf ops j) = callFunc f args := by
    rw [← hx]
    generalize opOf ops j = o at ho
    obtain ⟨dst, op, ty, pos, after, guard⟩ := o
    subst ho
    have := execOp_call_go a dst f xs ats ty pos after guard
    simpa using this
  unfold Oper.wp
  rw [he, enters hf hn hb]
  refine Calls.mono h fun e w' hh => ?_
  obtain ⟨v, rfl, hS, hh⟩ := hh
  exact ⟨hS, hh hS⟩
theorem done {fuel : Nat} {listed : Array Bool} {a : Act} {w : World} (hr : Region.ready .any ops listed = []) (h : R a w) : wpAnyH P .any ops (Only R) S fuel listed a w :=
  wpAnyH_done hr h fuel
theorem y_move {o : Oper} {a : Act} {x : Operand} {v : Value} (ho : o.op = .move x ∨ o.op = .assign x) (hv : a.eval x = v) : ∀ w, S w → (execOp a.eval o).run P w = .ok (.value v) w := by
  intro w _
  obtain ⟨dst, op, ty, pos, after, guard⟩ := o
  rcases ho with ho | ho <;> (simp only at ho; subst ho; rw [← hv]; rfl)
theorem y_bin {o : Oper} {a : Act} {b : BinOp} {T R' : TypeId} {x y : Operand} {vx vy v : Value} (ho : o.op = .binOp b T x y R') (hx : a.eval x = vx) (hy : a.eval y = vy)
    (hv : ∀ w, S w → (do eqGuard b T x y vx vy; binOp b T vx vy : Sem Value).run P w = .ok v w) : ∀ w, S w → (execOp a.eval o).run P w = .ok (.value v) w := by
  intro w hw
  obtain ⟨dst, op, ty, pos, after, guard⟩ := o
  simp only at ho
  subst ho
  have := hv w hw
  simp only [execOp, hx, hy]
  simp only [Sem.run_bind] at this ⊢
  rw [this]
  rfl
theorem y_load {o : Oper} {a : Act} {T : TypeId} {x : Operand} {vx v : Value} (ho : o.op = .load T x) (hx : a.eval x = vx)
    (hv : ∀ w, S w → (Instr.loadAt T vx).run P w = .ok v w) : ∀ w, S w → (execOp a.eval o).run P w = .ok (.value v) w := by
  intro w hw
  obtain ⟨dst, op, ty, pos, after, guard⟩ := o
  simp only at ho
  subst ho
  have := hv w hw
  simp only [execOp, hx, Sem.run_bind]
  rw [this]
  rfl
theorem y_pick {o : Oper} {a : Act} {c x y : Operand} {b : Bool} {v : Value} (ho : o.op = .pick c x y) (hc : a.eval c = .bool b) (hv : (if b then a.eval x else a.eval y) = v) :
    ∀ w, S w → (execOp a.eval o).run P w = .ok (.value v) w := by
  intro w hw
  obtain ⟨dst, op, ty, pos, after, guard⟩ := o
  simp only at ho
  subst ho
  rw [← hv]
  simp only [execOp, hc]
  rfl
theorem y_nil {o : Oper} {a : Act} {x : Operand} {p : Addr} (ho : o.op = .nilCheck x) (hx : a.eval x = .pointer (some p)) : ∀ w, S w → (execOp a.eval o).run P w = .ok (.value (.pointer (some p))) w := by
  intro w hw
  obtain ⟨dst, op, ty, pos, after, guard⟩ := o
  simp only at ho
  subst ho
  simp only [execOp, hx]
  rfl
theorem y_field {o : Oper} {a : Act} {T k : Nat} {x : Operand} {vx v : Value} (ho : o.op = .fieldAddr T x k) (hx : a.eval x = vx)
    (hv : ∀ w, S w → (Instr.fieldAt T vx k).run P w = .ok v w) : ∀ w, S w → (execOp a.eval o).run P w = .ok (.value v) w := by
  intro w hw
  obtain ⟨dst, op, ty, pos, after, guard⟩ := o
  simp only at ho
  subst ho
  have := hv w hw
  simp only [execOp, hx, Sem.run_bind]
  rw [this]
  rfl
theorem y_len {o : Oper} {a : Act} {x : Operand} {ats : Array TypeId} {vx : Value} {n : Nat} (ho : o.op = .call { callee := .builtin .len, args := #[x], argTypes := ats }) (hx : a.eval x = vx)
    (hv : ∀ ty w, S w → (Builtin.len_ ats ty #[vx]).run P w = .ok (.int .i64 n) w) : ∀ w, S w → (execOp a.eval o).run P w = .ok (.value (.int .i64 n)) w := by
  intro w hw
  obtain ⟨dst, op, ty, pos, after, guard⟩ := o
  simp only at ho
  subst ho
  have h2 := hv ty w hw
  rw [← hx] at h2
  generalize a.eval = ρ at h2 ⊢
  simp [go_sem, h2]
theorem store (i : Nat) {T : TypeId} {x y : Operand} {vx vy : Value} {w1 : World} {fuel : Nat} {listed : Array Bool} {a : Act} {w : World}
    (hi : decide (i < ops.size) = true) (hd : (opOf ops i).dst = none) (hr : Region.ready .any ops listed = [i])
    (hw : Region.wanted (opOf ops i) (yielded ops a.tmps) = true) (ho : (opOf ops i).op = .store T x y) (hx : a.eval x = vx) (hy : a.eval y = vy)
    (hv : (Instr.storeAt T vx vy).run P w = .ok () w1) (hS : S w1)
    (h : S w1 → wpAnyH P .any ops (Only R) S fuel (listed.setIfInBounds i true) a w1) :
    wpAnyH P .any ops (Only R) S (fuel + 1) listed a w := by
  refine wpAnyH_all hr (by simp) fun j hj => ?_
  obtain rfl : j = i := by simpa using hj
  unfold wpOp
  rw [opOf_some hi]
  simp only [hw, if_true]
  refine .inl ?_
  have he : (execOp a.eval (opOf ops j)).run P w = .ok .skip w1 := by
    generalize opOf ops j = o at ho
    obtain ⟨dst, op, ty, pos, after, guard⟩ := o
    simp only at ho
    subst ho
    simp only [execOp, hx, hy, Sem.run_bind]
    rw [hv]
    rfl
  unfold Oper.wp
  rw [he, Oper.upon_skip, hd]
  exact ⟨hS, h hS⟩
theorem op_load (i : Nat) (d : Option Tmp) {T : TypeId} {x : Operand} {vx v : Value} {fuel : Nat} {listed : Array Bool} {a : Act} {w : World}
    (hi : decide (i < ops.size) = true) (hd : (opOf ops i).dst = d)
    (hw : Region.wanted (opOf ops i) (yielded ops a.tmps) = true) (ho : (opOf ops i).op = .load T x) (hx : a.eval x = vx)
    (hv : (Instr.loadAt T vx).run P w = .ok v w) (hS : S w)
    (h : wpAnyH P .any ops (Only R) S fuel (listed.setIfInBounds i true) (a.put d v) w) :
    wpOp P ops (Only R) i (fun a' w' => S w' ∧ wpAnyH P .any ops (Only R) S fuel (listed.setIfInBounds i true) a' w') a w := by
  subst hd
  unfold wpOp
  rw [opOf_some hi]
  simp only [hw, if_true]
  refine .inl ?_
  have he : (execOp a.eval (opOf ops i)).run P w = .ok (.value v) w := y_load (S := fun W => W = w) ho hx (fun W hW => by rw [hW]; exact hv) w rfl
  unfold Oper.wp
  rw [he, Oper.upon_value]
  exact ⟨hS, h⟩
theorem one {i : Nat} {fuel : Nat} {listed : Array Bool} {a : Act} {w : World} (hr : Region.ready .any ops listed = [i])
    (h : wpOp P ops (Only R) i (fun a' w' => S w' ∧ wpAnyH P .any ops (Only R) S fuel (listed.setIfInBounds i true) a' w') a w) : wpAnyH P .any ops (Only R) S (fuel + 1) listed a w :=
  wpAnyH_all hr (by simp) fun j hj => by obtain rfl : j = i := by simpa using hj
                                         exact h
theorem two {i j : Nat} {fuel : Nat} {listed : Array Bool} {a : Act} {w : World} (hr : Region.ready .any ops listed = [i, j])
    (h1 : wpOp P ops (Only R) i (fun a' w' => S w' ∧ wpAnyH P .any ops (Only R) S fuel (listed.setIfInBounds i true) a' w') a w)
    (h2 : wpOp P ops (Only R) j (fun a' w' => S w' ∧ wpAnyH P .any ops (Only R) S fuel (listed.setIfInBounds j true) a' w') a w) : wpAnyH P .any ops (Only R) S (fuel + 1) listed a w :=
  wpAnyH_all hr (by simp) fun k hk => by
    rcases (by simpa using hk : k = i ∨ k = j) with rfl | rfl
    · exact h1
    · exact h2
end
end Go.Proofs.YtdfcbnejnnibpaaGreatDoor.Rg



namespace Go.Proofs.YtdfcbnejnnibpaaGreatDoor.Dk
open Go.RowKit Tx Pm
set_option linter.unusedVariables false
theorem all_not {α : Type} (f : α → Bool) (l : List α) (k : Nat) (x : α) (h : l[k]? = some x) (hf : f x = false) : l.all f = false := by
  rw [← Bool.not_eq_true, List.all_eq_true]
  intro hall
  have := hall x (List.mem_of_getElem? h)
  rw [hf] at this
  cases this
end Go.Proofs.YtdfcbnejnnibpaaGreatDoor.Dk

namespace Go.Proofs.YtdfcbnejnnibpaaGreatDoor.Dk
open Go.RowKit Tx Pm
set_option linter.unusedVariables false
theorem set_block {w : World} {b k : Nat} {cs : Array Value} {T : TypeId} {fz : Nat × Nat} (h : w.heap[b]? = some (.cells cs T fz)) (u : Value) : (w.setCell ⟨b, k, none⟩ u).heap[b]? = some (.cells (cs.setIfInBounds k u) T fz) := by
  simp [World.setCell, Array.getElem?_modify, h]
theorem set_other {w : World} {b k i : Nat} (u : Value) (h : i ≠ b) : (w.setCell ⟨b, k, none⟩ u).heap[i]? = w.heap[i]? := Below.heap_setCell w ⟨b, k, none⟩ u i h
theorem chg_set {w : World} {b k : Nat} (u : Value) : Chg (· = b) w (w.setCell ⟨b, k, none⟩ u) := ⟨rfl, rfl, rfl, by simp [World.setCell], fun i _ hi => set_other u hi⟩
theorem Chg.refl (F : Nat → Prop) (w : World) : Chg F w w := ⟨rfl, rfl, rfl, Nat.le_refl _, fun _ _ _ => rfl⟩
theorem Chg.then {F : Nat → Prop} {w w1 w2 : World} (h : Chg F w w1) (h2 : Chg F w1 w2) : Chg F w w2 := h.trans h2 (fun i hi => .inl hi)
theorem new_at (w : World) (o : Obj) {g : Nat} (h : g = w.heap.size) : (w.alloc o).heap[g]? = some o := by
  subst h
  exact heap_alloc_new _ _
def iv (x : It) : Value := .agg #[.string x.path, .bool x.dir, .string x.data, .string x.kept, .bool x.loose, .bool x.anew, .int .i64 x.stamp]
end Go.Proofs.YtdfcbnejnnibpaaGreatDoor.Dk



namespace Go.Proofs.YtdfcbnejnnibpaaGreatDoor.Dk
open Go.RowKit Tx Pm
set_option linter.unusedVariables false
theorem take_more {α : Type} {l : List α} {k : Nat} {x : α} (h : l[k]? = some x) : l.take (k + 1) = l.take k ++ [x] := by
  obtain ⟨hk, he⟩ := List.getElem?_eq_some_iff.1 h
  rw [List.take_succ_eq_append_getElem hk, he]
theorem cells_one (x : It) : ∀ u ∈ cells x, u.oneCell' = true := by
  intro u hu
  simp [cells] at hu
  rcases hu with rfl | rfl | rfl | rfl | rfl | rfl | rfl <;> rfl
structure Seen (w0 : World) (b : Nat) (s : St) (A : Option Addr) (n c : Nat) (W : World) : Prop where
  c0 : W.cell? ⟨b, 0, none⟩ = some (.slice A n c)
  it : ∀ k y, s.L[k]? = some y → ∃ g, A = some ⟨g, 0, none⟩ ∧
    W.cell? ⟨g, k * 7, none⟩ = some (.string y.path) ∧ W.cell? ⟨g, k * 7 + 1, none⟩ = some (.bool y.dir) ∧ W.cell? ⟨g, k * 7 + 2, none⟩ = some (.string y.data) ∧ W.cell? ⟨g, k * 7 + 3, none⟩ = some (.string y.kept) ∧
    W.cell? ⟨g, k * 7 + 4, none⟩ = some (.bool y.loose) ∧ W.cell? ⟨g, k * 7 + 5, none⟩ = some (.bool y.anew) ∧ W.cell? ⟨g, k * 7 + 6, none⟩ = some (.int .i64 y.stamp)
end Go.Proofs.YtdfcbnejnnibpaaGreatDoor.Dk

namespace Go.Proofs.YtdfcbnejnnibpaaGreatDoor.Dk
open Go.RowKit Tx Pm
set_option linter.unusedVariables false
theorem own_toT {w : World} {B T : Nat} {v : Value} {l : List ByteArray} (h : w.ownsRow B 9 1 v T (l.map sv)) (hl : l.length = T) : Texts w B v l := by
  subst hl
  exact h
theorem drop_take (l : List It) (p : ByteArray) (k : Nat) (y : It) (h : l[k]? = some y) : drop (l.take (k + 1)) p = drop (l.take k) p ++ (if y.path = p then [] else [y]) := by
  rw [take_more h, drop, List.filter_append]
  congr 1
  by_cases hp : y.path = p <;> simp [hp]
def ListTo (l : List ByteArray) (w : World) (e : Ending) (w' : World) : Prop := ∃ v, e = .returned v ∧ Texts w' w.heap.size v l ∧ Below w.heap.size w w'
end Go.Proofs.YtdfcbnejnnibpaaGreatDoor.Dk

namespace Go.Proofs.YtdfcbnejnnibpaaGreatDoor.Dk
open Go.RowKit Tx Pm
set_option linter.unusedVariables false
def readS (s : St) (p : ByteArray) : ByteArray × Nat := if s.down then (⟨#[]⟩, 14) else match find s.L p with
  | none => (⟨#[]⟩, 11)
  | some x => if x.dir then (⟨#[]⟩, 12) else (x.data, 0)
def stampS (s : St) (p : ByteArray) : Nat := match find s.L p with
  | none => 0
  | some x => x.stamp
structure Ok (s : St) : Prop where
  fit : Fit s
  rooms : s.rooms.length ≤ 1000000000
  steps : s.steps ≤ 1000000000000
  stamps : s.stamps ≤ 1000000000000
  armed : -1000000000000000000 ≤ s.armed ∧ s.armed ≤ 9223372036854775807
theorem done_L (s : St) : (done s).2.L = s.L := by unfold done; split <;> rfl
theorem done_rooms (s : St) : (done s).2.rooms = s.rooms := by unfold done; split <;> rfl
theorem done_stamps (s : St) : (done s).2.stamps = s.stamps := by unfold done; split <;> rfl
def mkdirS (s : St) (p : ByteArray) : Nat × St :=
  if first s p 0 ≠ 0 then (first s p 0, s) else if home s.L p = false then (11, s) else if kind s.L p = 2 then (12, s) else
  if (done s).1 ≠ 0 then done s else (0, { (done s).2 with L := ins (done s).2.L ⟨p, true, ⟨#[]⟩, ⟨#[]⟩, false, false, 0⟩ })
end Go.Proofs.YtdfcbnejnnibpaaGreatDoor.Dk



namespace Go.Proofs.YtdfcbnejnnibpaaGreatDoor.Dk
open Go.RowKit Tx Pm
set_option linter.unusedVariables false
def mk (p : ByteArray) : It := ⟨p, false, ⟨#[]⟩, ⟨#[]⟩, false, false, 0⟩
def old (l : List It) (p : ByteArray) : It := (find l p).getD (mk p)
def syncS (s : St) (p : ByteArray) : Nat × St :=
  if there s p ≠ 0 then (there s p, s) else if (done s).1 ≠ 0 then done s else
  (0, { (done s).2 with L := ins (done s).2.L { old s.L p with kept := (old s.L p).data, loose := false, anew := false } })
def appendS (s : St) (p d : ByteArray) : Nat × St :=
  if there s p ≠ 0 then (there s p, s) else if fits s p d.size = false then (13, s) else if (done s).1 ≠ 0 then done s else
  (0, putS (done s).2 { old s.L p with data := (old s.L p).data ++ d, loose := true })
def removeS (s : St) (p : ByteArray) : Nat × St :=
  if first s p 0 ≠ 0 then (first s p 0, s) else if kind s.L p = 0 then (11, s) else if list s.L p ≠ [] then (12, s) else if (done s).1 ≠ 0 then done s else
  (0, { (done s).2 with L := drop (done s).2.L p })
theorem there_file {s : St} {p : ByteArray} (h : there s p = 0) : ∃ (k : Nat) (x : It), k < s.L.length ∧ s.L[k]? = some x ∧ find s.L p = some x ∧ placeI s.L p = k ∧ x.path = p ∧ x.dir = false := by
  unfold there at h
  split at h
  · omega
  · split at h
    · omega
    · split at h
      · omega
      · rename_i h1 h2 h3
        rcases find_cases s.L p with ⟨hf, _⟩ | ⟨k, x, a, b, c, d, e⟩
        · rw [kind, hf] at h2
          exact absurd rfl h2
        · refine ⟨k, x, a, b, c, d, e, ?_⟩
          rw [kind, c, kindOf] at h3
          cases hd : x.dir with
          | false => rfl
          | true => rw [hd] at h3; exact absurd rfl h3
end Go.Proofs.YtdfcbnejnnibpaaGreatDoor.Dk

namespace Go.Proofs.YtdfcbnejnnibpaaGreatDoor.Dk
open Go.RowKit Tx Pm
set_option linter.unusedVariables false
end Go.Proofs.YtdfcbnejnnibpaaGreatDoor.Dk

namespace Go.Proofs.YtdfcbnejnnibpaaGreatDoor.Dk
open Go.RowKit Tx Pm
set_option linter.unusedVariables false
def writeS (s : St) (p d : ByteArray) : Nat × St :=
  if first s p 1 ≠ 0 then (first s p 1, s) else if home s.L p = false then (11, s) else if kind s.L p = 1 then (12, s) else
  if fits s p ((d.size : Int) - ((old s.L p).data.size : Int)) = false then (13, s) else if (done s).1 ≠ 0 then done s else
  (0, putS (done s).2 { old s.L p with data := d, loose := true, anew := true })
theorem le_whole {l : List It} {x : It} (h : x ∈ l) : x.data.size ≤ whole l := by
  induction l with
  | nil => cases h
  | cons y l ih =>
    unfold whole at ih ⊢
    rw [List.map_cons, List.sum_cons]
    rcases List.mem_cons.1 h with rfl | h
    · omega
    · have := ih h
      omega
end Go.Proofs.YtdfcbnejnnibpaaGreatDoor.Dk

namespace Go.Proofs.YtdfcbnejnnibpaaGreatDoor.Ap
open Go.RowKit Tx
set_option linter.unusedVariables false
section
variable {P : Program}
theorem append_two (w : World) (base : Nat) (t ty e : TypeId) (i : TypeInfo) (z : Value) (size bytes : Nat) (ht : P.underlying t = some (.slice e)) (hi : P.info? e = some i) (hz : i.zero = some z)
    (hsize : i.size = size) (hby : i.bytes = bytes) (hzs : z.cells.size = size) (hsp : 0 < size) (hs16 : size ≤ 16)
    (v : Value) (n : Nat) (xs : List Value) (hown : w.ownsRow base e size v n xs)
    (a : Addr) (c : Nat) (us : List Value) (hul : us.length = size) (hnews : ∀ j x, us[j]? = some x → w.cell? (a.add j) = some x) (hone : ∀ x ∈ us, x.oneCell' = true)
    (hn : n + 1 ≤ 57646075230342348) (hbytes : (n + 1) * bytes ≤ 140737488355328) (hbase : base ≤ w.heap.size) :
    ∃ v' w', (Builtin.append_ #[t, t] ty #[v, .slice (some a) 1 c]).run P w = .ok v' w' ∧ w'.ownsRow base e size v' (n + 1) (xs ++ us) ∧
      ((v'.ownBlock = v.ownBlock ∧ w.grownBy w' v.ownBlock) ∨ (v'.ownBlock = some w.heap.size ∧ w.grownBy w' none)) := by
  have hlen : (xs ++ us).length = (n + 1) * size := by rw [List.length_append, hown.1, hul, Nat.add_mul, Nat.one_mul]
  have made : ∀ old, old < n + 1 → (w.drew.alloc (.cells (xs.toArray ++ us.toArray ++ Builtin.zeroCells z.cells (grownCap w (n + 1) old e - (n + 1))) e)).ownsRow base e size (.slice (some ⟨w.heap.size, 0, none⟩) (n + 1) (grownCap w (n + 1) old e)) (n + 1) (xs ++ us) ∧
      w.grownBy (w.drew.alloc (.cells (xs.toArray ++ us.toArray ++ Builtin.zeroCells z.cells (grownCap w (n + 1) old e - (n + 1))) e)) none := by
    intro old _
    have hge := grownCap_ge w (n + 1) old e
    have hcm := grownCap_le_maxLen w (n + 1) old e (by unfold maxLen; omega)
    refine ⟨⟨hlen, .inr ⟨w.heap.size, _, _, rfl, hbase, heap_alloc_new w.drew _, hge, hcm, ?_, ?_⟩⟩, ⟨rfl, rfl, rfl, by simp, fun k hk _ => Below.heap_alloc w.drew _ k hk⟩⟩
    · have h0 := hown.1
      simp only [Array.size_append, List.size_toArray, size_zeroCells, hzs, hul]
      obtain ⟨d, hd⟩ : ∃ d, grownCap w (n + 1) old e = n + 1 + d := ⟨grownCap w (n + 1) old e - (n + 1), by omega⟩
      rw [hd, h0, show n + 1 + d - (n + 1) = d by omega, Nat.add_mul, Nat.add_mul, Nat.one_mul]
    · simp only [Array.toList_append, List.append_assoc]
      rw [← List.append_assoc]
      exact List.take_left' hlen
  rcases hown.2 with ⟨rfl, rfl⟩ | ⟨g, cap, cur, rfl, hbg, hg, hnc, hcm, hcs, htake⟩
  · have hx : xs = [] := List.eq_nil_of_length_eq_zero (by simpa using hown.1)
    subst hx
    have hr := run_append_nil (P := P) w t ty e i z ht hi hz a 1 c us (by rw [hsize, hul, Nat.one_mul]) hnews (by omega) (by omega) (by rw [hby]; have h2 := hbytes; simp only [Nat.zero_add] at h2; omega)
    have hm := made 0 (by omega)
    simp only [Nat.zero_add, List.nil_append, Array.empty_append] at hm ⊢
    exact ⟨_, _, hr, hm.1, .inr ⟨rfl, hm.2⟩⟩
  · by_cases hroom : n + 1 ≤ cap
    · have hle : (n + 1) * size ≤ cap * size := Nat.mul_le_mul_right _ hroom
      have hfit : n * i.size + us.length ≤ cur.size := by rw [hsize, hcs, hul]; rw [Nat.add_mul, Nat.one_mul] at hle; exact hle
      have hr := run_append_room (P := P) w t ty e i ht hi g n cap cur hg a 1 c us (by rw [hsize, hul, Nat.one_mul]) hnews hone hroom hfit
      refine ⟨_, _, hr, ⟨hlen, .inr ⟨g, cap, _, rfl, hbg, setRow_heap w g cur _ e _ hg, hroom, hcm, ?_, ?_⟩⟩, .inl ⟨rfl, ⟨rfl, rfl, rfl, by simp, fun k _ hk => setRow_other w g k _ (fun e => hk (by simp [Value.ownBlock, e]))⟩⟩⟩
      · simp only [List.size_toArray, List.length_append, List.length_take, List.length_drop, Array.length_toList]
        omega
      · rw [hsize, htake]
        exact List.take_left' hlen
    · have hr := run_append_grow (P := P) w t ty e i z ht hi hz ⟨g, 0, none⟩ n cap xs (by rw [hsize]; exact hown.1) (hown.cells (g := g) rfl) a 1 c us (by rw [hsize, hul, Nat.one_mul]) hnews (by omega) (by omega) (growslice_fits (by omega) (by rw [hby]; exact hbytes))
      have hm := made cap (by omega)
      exact ⟨_, _, hr, hm.1, .inr ⟨rfl, hm.2⟩⟩
end
end Go.Proofs.YtdfcbnejnnibpaaGreatDoor.Ap

namespace Go.Proofs.YtdfcbnejnnibpaaGreatDoor.Dk
open Go.RowKit Tx Pm Ap
set_option linter.unusedVariables false
def setRm : List Rm → ByteArray → Int → List Rm
  | [], v, n => [⟨v, n⟩]
  | r :: l, v, n => if r.vol = v then ⟨v, n⟩ :: l else r :: setRm l v n
def limitS (s : St) (v : ByteArray) (n : Int) : Nat × St :=
  if n < 0 then (1, s) else if chk v.data.toList 1 ≠ 0 then (10, s) else (0, { s with rooms := setRm s.rooms v n })
theorem flat_set : ∀ (l : List Rm) (k : Nat) (r : Rm) (n : Int), l[k]? = some r → (l.flatMap cellsR).set (k * 2 + 1) (.int .i64 n) = (l.set k ⟨r.vol, n⟩).flatMap cellsR
  | [], k, r, n, h => by cases h
  | x :: l, 0, r, n, h => by
    injection h with h
    subst h
    simp [cellsR]
  | x :: l, k + 1, r, n, h => by
    have e : (k + 1) * 2 + 1 = (k * 2 + 1) + 1 + 1 := by omega
    have := flat_set l k r n h
    rw [e, List.set_cons_succ, List.flatMap_cons, List.flatMap_cons, ← this]
    rfl
end Go.Proofs.YtdfcbnejnnibpaaGreatDoor.Dk

namespace Go.Proofs.YtdfcbnejnnibpaaGreatDoor.Dk
open Go.RowKit Tx Pm
set_option linter.unusedVariables false
def moreS (l : List It) (f t : ByteArray) : Int := (if vol f = vol t then (0 : Int) else ((old l f).data.size : Int)) - (if kind l t = 2 then ((old l t).data.size : Int) else 0)
def renameS (s : St) (f t : ByteArray) : Nat × St :=
  if first s f 1 ≠ 0 then (first s f 1, s) else if first s t 1 ≠ 0 then (first s t 1, s) else if kind s.L f = 0 ∨ home s.L t = false then (11, s) else
  if kind s.L f = 1 ∨ kind s.L t = 1 then (12, s) else if f ≠ t ∧ fits s t (moreS s.L f t) = false then (13, s) else if (done s).1 ≠ 0 then done s else
  (0, putS { (done s).2 with L := drop (done s).2.L f } { old s.L f with path := t })
theorem kind_le (l : List It) (p : ByteArray) : kind l p = 0 ∨ kind l p = 1 ∨ kind l p = 2 := by
  unfold kind kindOf
  split
  · exact .inl rfl
  · split
    · exact .inr (.inl rfl)
    · exact .inr (.inr rfl)
end Go.Proofs.YtdfcbnejnnibpaaGreatDoor.Dk

namespace Go.Proofs.YtdfcbnejnnibpaaGreatDoor.Wm
def vb (x : Nat) : List UInt8 := if x < 128 then [UInt8.ofNat x] else UInt8.ofNat (128 + x % 128) :: vb (x / 128)
termination_by x
decreasing_by omega
theorem vb_lo {x : Nat} (h : x < 128) : vb x = [UInt8.ofNat x] := by rw [vb, if_pos h]
theorem vb_hi {x : Nat} (h : 128 ≤ x) : vb x = UInt8.ofNat (128 + x % 128) :: vb (x / 128) := by rw [vb, if_neg (by omega)]
theorem vb_len_le : ∀ (k x : Nat), x < 128 ^ (k + 1) → (vb x).length ≤ k + 1
  | 0, x, h => by rw [vb_lo (by omega)]; simp
  | k + 1, x, h => by
    by_cases hx : x < 128
    · rw [vb_lo hx]; simp
    · rw [vb_hi (by omega), List.length_cons]
      have : x / 128 < 128 ^ (k + 1) := by
        rw [Nat.div_lt_iff_lt_mul (by omega)]
        rw [Nat.pow_succ] at h
        exact h
      have := vb_len_le k (x / 128) this
      omega
theorem vb_len {x : Nat} (h : x < 18446744073709551616) : (vb x).length ≤ 10 := vb_len_le 9 x (by omega)
theorem vb_pos (x : Nat) : 0 < (vb x).length := by
  by_cases h : x < 128
  · rw [vb_lo h]; simp
  · rw [vb_hi (by omega)]; simp
def vs (x : Nat) : ByteArray := ⟨(vb x).toArray⟩
theorem vs_list (x : Nat) : (vs x).data.toList = vb x := by simp [vs]
theorem vs_size (x : Nat) : (vs x).size = (vb x).length := by simp [vs, ByteArray.size]
def lead : List UInt8 → Nat → Nat
  | b :: r, k + 1 => if 128 ≤ b.toNat then lead r k + 1 else 0
  | _, _ => 0
def pv : List UInt8 → Nat → Nat
  | b :: r, n + 1 => b.toNat % 128 + 128 * pv r n
  | _, _ => 0
def rd (l : List UInt8) : Nat × Nat × Nat :=
  let n := lead l 9
  if n = l.length then (0, 0, 2)
  else if n = 9 ∧ 1 < (l.getD 9 0).toNat ∨ 0 < n ∧ (l.getD n 0).toNat = 0 then (0, 0, 3)
  else (pv l (n + 1), n + 1, 0)
theorem pv_zero (l : List UInt8) : pv l 0 = 0 := by cases l <;> rfl
theorem lead_le_fuel : ∀ (l : List UInt8) (k : Nat), lead l k ≤ k
  | [], k => by cases k <;> simp [lead]
  | b :: r, 0 => by simp [lead]
  | b :: r, k + 1 => by
    rw [lead]
    split
    · have := lead_le_fuel r k; omega
    · omega
theorem lead_le_len : ∀ (l : List UInt8) (k : Nat), lead l k ≤ l.length
  | [], k => by cases k <;> simp [lead]
  | b :: r, 0 => by simp [lead]
  | b :: r, k + 1 => by
    rw [lead]
    split
    · have := lead_le_len r k; simp; omega
    · omega
theorem pv_succ : ∀ (l : List UInt8) (n : Nat), n < l.length → pv l (n + 1) = pv l n + (l.getD n 0).toNat % 128 * 128 ^ n
  | [], n, h => by simp at h
  | b :: r, 0, _ => by simp [pv]
  | b :: r, n + 1, h => by
    have := pv_succ r n (by simpa using h)
    rw [pv, this, pv]
    simp only [List.getD_cons_succ]
    rw [Nat.mul_add, Nat.pow_succ, ← Nat.add_assoc]
    congr 1
    rw [← Nat.mul_assoc, Nat.mul_comm 128, Nat.mul_assoc, Nat.mul_comm 128]
theorem pv_lt : ∀ (l : List UInt8) (n : Nat), pv l n < 128 ^ n
  | [], n => by
    have := Nat.pow_pos (n := n) (show 0 < 128 by omega)
    cases n <;> simp [pv] <;> omega
  | b :: r, 0 => by simp [pv]
  | b :: r, n + 1 => by
    have := pv_lt r n
    rw [pv, Nat.pow_succ]
    omega
theorem lead_step : ∀ (l : List UInt8) (f k : Nat), k ≤ lead l f → k < f → k < l.length → 128 ≤ (l.getD k 0).toNat → k + 1 ≤ lead l f
  | [], _, _, _, _, h, _ => by simp at h
  | _ :: _, 0, k, _, h, _, _ => by omega
  | b :: r, f + 1, 0, _, _, _, hb => by
    rw [lead, if_pos (by simpa using hb)]; omega
  | b :: r, f + 1, k + 1, h, hf, hl, hb => by
    rw [lead] at h ⊢
    split at h
    · have := lead_step r f k (by omega) (by omega) (by simpa using hl) (by simpa using hb)
      rw [if_pos (by assumption)]; omega
    · omega
theorem lead_stop : ∀ (l : List UInt8) (f k : Nat), k ≤ lead l f → k < l.length → (l.getD k 0).toNat < 128 → lead l f = k
  | [], _, _, _, h, _ => by simp at h
  | _ :: _, 0, k, h, _, _ => by simp [lead] at h ⊢; omega
  | b :: r, f + 1, 0, _, _, hb => by
    rw [lead, if_neg (by simp at hb; omega)]
  | b :: r, f + 1, k + 1, h, hl, hb => by
    rw [lead] at h ⊢
    split at h
    · have := lead_stop r f k (by omega) (by simpa using hl) (by simpa using hb)
      rw [if_pos (by assumption)]; omega
    · omega
theorem lead_vb : ∀ (f x : Nat) (r : List UInt8), x < 128 ^ (f + 1) → lead (vb x ++ r) f = (vb x).length - 1
  | 0, x, r, h => by rw [vb_lo (by omega)]; simp [lead]
  | f + 1, x, r, h => by
    by_cases hx : x < 128
    · rw [vb_lo hx]
      have : (UInt8.ofNat x).toNat = x := by simp; omega
      simp [lead, this]; omega
    · rw [vb_hi (by omega)]
      have e : (UInt8.ofNat (128 + x % 128)).toNat = 128 + x % 128 := by simp; omega
      have h2 : x / 128 < 128 ^ (f + 1) := by
        rw [Nat.div_lt_iff_lt_mul (by omega)]
        rw [Nat.pow_succ] at h
        exact h
      have := lead_vb f (x / 128) r h2
      have hp := vb_pos (x / 128)
      rw [List.cons_append, lead, if_pos (by omega), this]
      simp; omega
theorem pv_vb : ∀ (f x : Nat) (r : List UInt8), x < 128 ^ (f + 1) → pv (vb x ++ r) (vb x).length = x
  | 0, x, r, h => by
    rw [vb_lo (by omega)]
    have : (UInt8.ofNat x).toNat = x := by simp; omega
    simp only [List.cons_append, List.nil_append, List.length_singleton, pv, this]; omega
  | f + 1, x, r, h => by
    by_cases hx : x < 128
    · rw [vb_lo hx]
      have : (UInt8.ofNat x).toNat = x := by simp; omega
      simp only [List.cons_append, List.nil_append, List.length_singleton, pv, this]; omega
    · rw [vb_hi (by omega)]
      have e : (UInt8.ofNat (128 + x % 128)).toNat = 128 + x % 128 := by simp; omega
      have h2 : x / 128 < 128 ^ (f + 1) := by
        rw [Nat.div_lt_iff_lt_mul (by omega)]
        rw [Nat.pow_succ] at h
        exact h
      have := pv_vb f (x / 128) r h2
      rw [List.cons_append, List.length_cons, pv, this, e]
      omega
theorem vb_last : ∀ (f x : Nat) (r : List UInt8), x < 128 ^ (f + 1) → 128 ≤ x → ((vb x ++ r).getD ((vb x).length - 1) 0).toNat ≠ 0
  | 0, x, r, h, h2 => by omega
  | f + 1, x, r, h, h2 => by
    rw [vb_hi (by omega)]
    have hp := vb_pos (x / 128)
    rw [List.cons_append, List.length_cons, Nat.add_sub_cancel]
    obtain ⟨n, hn⟩ : ∃ n, (vb (x / 128)).length = n + 1 := ⟨(vb (x / 128)).length - 1, by omega⟩
    rw [hn, List.getD_cons_succ]
    have h3 : x / 128 < 128 ^ (f + 1) := by
      rw [Nat.div_lt_iff_lt_mul (by omega)]
      rw [Nat.pow_succ] at h
      exact h
    by_cases hx : x / 128 < 128
    · rw [vb_lo hx] at hn ⊢
      simp at hn
      subst hn
      have : (UInt8.ofNat (x / 128)).toNat = x / 128 := by simp; omega
      simp [this]; omega
    · have := vb_last f (x / 128) r h3 (by omega)
      rw [hn, Nat.add_sub_cancel] at this
      exact this
theorem vb_tenth : ∀ (f x : Nat) (r : List UInt8), x < 2 * 128 ^ (f + 1) → (vb x).length = f + 2 → ((vb x ++ r).getD (f + 1) 0).toNat ≤ 1
  | 0, x, r, h, h2 => by
    by_cases hx : x < 128
    · rw [vb_lo hx] at h2; simp at h2
    · rw [vb_hi (by omega)]
      rw [List.cons_append, List.getD_cons_succ, vb_lo (by omega)]
      have : (UInt8.ofNat (x / 128)).toNat = x / 128 := by simp; omega
      simp [this]; omega
  | f + 1, x, r, h, h2 => by
    by_cases hx : x < 128
    · rw [vb_lo hx] at h2; simp at h2
    · rw [vb_hi (by omega)] at h2 ⊢
      rw [List.cons_append, List.getD_cons_succ]
      refine vb_tenth f (x / 128) r ?_ (by simpa using h2)
      rw [Nat.div_lt_iff_lt_mul (by omega)]
      rw [Nat.pow_succ] at h
      omega
theorem rd_vb (x : Nat) (r : List UInt8) (h : x < 18446744073709551616) : rd (vb x ++ r) = (x, (vb x).length, 0) := by
  have h10 : x < 128 ^ (9 + 1) := by omega
  have hl := lead_vb 9 x r h10
  have hp := vb_pos x
  have hlen := vb_len h
  have e1 : (vb x).length - 1 + 1 = (vb x).length := by omega
  unfold rd
  simp only [hl]
  rw [if_neg (by simp; omega), if_neg, e1, pv_vb 9 x r h10]
  rintro (⟨h9, h1⟩ | ⟨h0, h1⟩)
  · have : ((vb x ++ r).getD 9 0).toNat ≤ 1 := vb_tenth 8 x r (by omega) (by omega)
    omega
  · refine vb_last 9 x r h10 ?_ h1
    apply Decidable.byContradiction
    intro hx
    rw [vb_lo (by omega)] at h0
    simp at h0
theorem vb_rd : ∀ (n : Nat) (l : List UInt8) (f : Nat), lead l f = n → n < l.length → (l.getD n 0).toNat < 128 → (0 < n → (l.getD n 0).toNat ≠ 0) → vb (pv l (n + 1)) = l.take (n + 1)
  | _, [], _, _, h, _, _ => by simp at h
  | 0, b :: r, f, _, _, hb, _ => by
    have hb' : b.toNat < 128 := by simpa using hb
    rw [vb_lo (by simp [pv]; omega)]
    simp only [pv, List.take_succ_cons, List.take_zero, Nat.mul_zero, Nat.add_zero]
    rw [Nat.mod_eq_of_lt hb']
    simp
  | n + 1, b :: r, 0, h, _, _, _ => by simp [lead] at h
  | n + 1, b :: r, f + 1, h, hl, hb, h0 => by
    rw [lead] at h
    split at h
    · have hb128 : 128 ≤ b.toNat := by assumption
      have hbl := b.toNat_lt
      have ih := vb_rd n r f (by omega) (by simpa using hl) (by simpa using hb) (fun hn => by simpa using h0 (by omega))
      have hne : pv r (n + 1) ≠ 0 := by
        by_cases hn : n = 0
        · subst hn
          cases r with
          | nil => simp at hl
          | cons c r =>
            have hc : c.toNat < 128 := by simpa using hb
            have := h0 (by omega)
            simp [pv] at this ⊢
            omega
        · intro hz
          rw [hz, vb_lo (by omega)] at ih
          have := congrArg List.length ih
          simp at this
          have hl' : n < r.length := by simpa using hl
          omega
      have e : pv (b :: r) (n + 1 + 1) = b.toNat % 128 + 128 * pv r (n + 1) := by rw [pv]
      rw [e, vb_hi (by omega)]
      have e1 : (b.toNat % 128 + 128 * pv r (n + 1)) / 128 = pv r (n + 1) := by omega
      have e2 : 128 + (b.toNat % 128 + 128 * pv r (n + 1)) % 128 = b.toNat := by omega
      rw [e1, e2, ih]
      simp
    · omega
theorem getD_lt (l : List UInt8) (n : Nat) : (l.getD n 0).toNat < 256 := (l.getD n 0).toNat_lt
theorem rd_ok {l : List UInt8} {x n : Nat} (h : rd l = (x, n, 0)) : n ≤ l.length ∧ vb x = l.take n ∧ 0 < n ∧ x < 18446744073709551616 := by
  unfold rd at h
  simp only at h
  split at h
  · simp at h
  · rename_i h1
    split at h
    · simp at h
    · rename_i h2
      simp only [Prod.mk.injEq] at h
      obtain ⟨rfl, rfl, _⟩ := h
      have hf := lead_le_fuel l 9
      have hl := lead_le_len l 9
      have hlt : (l.getD (lead l 9) 0).toNat < 128 := by
        apply Decidable.byContradiction
        intro hc
        by_cases h9 : lead l 9 = 9
        · refine h2 (.inl ⟨h9, ?_⟩)
          rw [h9] at hc
          omega
        · have := lead_step l 9 (lead l 9) (Nat.le_refl _) (by omega) (by omega) (by omega)
          omega
      refine ⟨by omega, vb_rd _ l 9 rfl (by omega) hlt (fun h0 hz => h2 (.inr ⟨h0, hz⟩)), by omega, ?_⟩
      have hp := pv_succ l (lead l 9) (by omega)
      have hq := pv_lt l (lead l 9)
      rw [hp]
      by_cases h9 : lead l 9 = 9
      · have : ¬ 1 < (l.getD 9 0).toNat := fun hc => h2 (.inl ⟨h9, hc⟩)
        rw [h9] at hq ⊢
        have : (l.getD 9 0).toNat % 128 ≤ 1 := by omega
        have := Nat.mul_le_mul_right (128 ^ 9) this
        omega
      · have h8 : lead l 9 ≤ 8 := by omega
        have e1 := Nat.pow_le_pow_right (show 0 < 128 by omega) h8
        have : (l.getD (lead l 9) 0).toNat % 128 ≤ 127 := by omega
        have := Nat.mul_le_mul_right (128 ^ lead l 9) this
        have e8 : 128 ^ 8 = 72057594037927936 := by decide
        omega
theorem rd_cases (l : List UInt8) : (rd l = (0, 0, 2)) ∨ (rd l = (0, 0, 3)) ∨ ∃ x n, rd l = (x, n, 0) := by
  unfold rd
  simp only
  split
  · exact .inl rfl
  · split
    · exact .inr (.inl rfl)
    · exact .inr (.inr ⟨_, _, rfl⟩)
theorem len_l (s : ByteArray) : s.data.toList.length = s.size := by rw [Array.length_toList]; rfl
theorem gd (s : ByteArray) (k : Nat) (h : k < s.size) : s.data.toList.getD k 0 = s[k] := by
  have h' : k < s.data.size := h
  rw [List.getD_eq_getElem?_getD, Array.getElem?_toList, Array.getElem?_eq_getElem h']
  rfl
theorem or_step (l : List UInt8) (k c : Nat) (hl : k < l.length) (hc : c = (l.getD k 0).toNat) (h : k < 9 ∨ k = 9 ∧ c ≤ 1) :
    bits .or .u64 (pv l k : Nat) (IntKind.u64.wrap (IntKind.u64.wrap (bits .andNot .u8 (c : Int) 128) * 2 ^ (7 * k))) = ((pv l (k + 1) : Nat) : Int) := by
  have hcl : c < 256 := by rw [hc]; exact getD_lt l k
  have e1 : bits .andNot .u8 (c : Int) 128 = ((c % 128 : Nat) : Int) := by
    have := u8_andNot_nat c 128 hcl (by omega)
    rw [show 255 - 128 = 127 from rfl, nat_mask7] at this
    exact this
  have hp := pv_lt l k
  have hs := pv_succ l k hl
  rw [← hc] at hs
  have e128 : (128 : Nat) ^ k = 2 ^ (7 * k) := by rw [Nat.pow_mul]
  have hb : pv l (k + 1) < 18446744073709551616 := by
    have h1 := pv_lt l (k + 1)
    rcases h with h | ⟨rfl, h⟩
    · have := Nat.pow_le_pow_right (show 0 < 128 by omega) (show k + 1 ≤ 9 by omega)
      omega
    · have : c % 128 ≤ 1 := by omega
      have := Nat.mul_le_mul_right (128 ^ 9) this
      omega
  have e2 : IntKind.u64.wrap ((c % 128 : Nat) : Int) = ((c % 128 : Nat) : Int) := by rw [IntKind.wrap_u64]; omega
  have e3 : ((c % 128 : Nat) : Int) * 2 ^ (7 * k) = ((c % 128 * 128 ^ k : Nat) : Int) := by rw [e128]; simp
  have e4 : IntKind.u64.wrap ((c % 128 * 128 ^ k : Nat) : Int) = ((c % 128 * 128 ^ k : Nat) : Int) := by rw [IntKind.wrap_u64]; omega
  rw [e1, e2, e3, e4, u64_or_nat _ _ (by omega) (by omega), Nat.or_comm, nat_join (7 * k) _ _ ?_ ?_, hs, Nat.add_comm]
  · rw [← e128]; exact Nat.mul_mod_left _ _
  · rw [← e128]; exact hp
theorem rd_tenth (s : ByteArray) (h : 9 < s.size) (hl : 9 ≤ lead s.data.toList 9) (h1 : 1 < (s[9].toNat : Int)) : rd s.data.toList = (0, 0, 3) := by
  have hf := lead_le_fuel s.data.toList 9
  have e : lead s.data.toList 9 = 9 := by omega
  unfold rd
  simp only [e]
  rw [len_l, if_neg (by omega), if_pos]
  left
  rw [gd s 9 h]
  exact ⟨trivial, by omega⟩
theorem rd_zero (s : ByteArray) (k : Nat) (h : k < s.size) (hl : k ≤ lead s.data.toList 9) (h1 : s[k].toNat = 0) (h0 : 0 < k) : rd s.data.toList = (0, 0, 3) := by
  have e := lead_stop s.data.toList 9 k hl (by rw [len_l]; exact h) (by rw [gd s k h]; omega)
  unfold rd
  simp only [e]
  rw [len_l, if_neg (by omega), if_pos]
  right
  rw [gd s k h]
  exact ⟨h0, h1⟩
theorem rd_stop (s : ByteArray) (k : Nat) (h : k < s.size) (hl : k ≤ lead s.data.toList 9) (h1 : s[k].toNat < 128) (h9 : k = 9 → s[k].toNat ≤ 1) (h0 : k = 0 ∨ s[k].toNat ≠ 0) : rd s.data.toList = (pv s.data.toList (k + 1), k + 1, 0) := by
  have e := lead_stop s.data.toList 9 k hl (by rw [len_l]; exact h) (by rw [gd s k h]; omega)
  unfold rd
  simp only [e]
  rw [len_l, if_neg (by omega), if_neg]
  rintro (⟨h2, h3⟩ | ⟨h2, h3⟩)
  · subst h2
    rw [gd s 9 h] at h3
    have := h9 rfl
    omega
  · rw [gd s k h] at h3
    omega
theorem rd_short (s : ByteArray) (k : Nat) (h : ¬ k < s.size) (hl : k ≤ lead s.data.toList 9) : rd s.data.toList = (0, 0, 2) := by
  have := lead_le_len s.data.toList 9
  rw [len_l] at this
  unfold rd
  simp only
  rw [len_l, if_pos (by omega)]
theorem lead_more (s : ByteArray) (k : Nat) (h : k < s.size) (h9 : k < 9) (hl : k ≤ lead s.data.toList 9) (hb : 128 ≤ (s[k].toNat : Int)) : k + 1 ≤ lead s.data.toList 9 :=
  lead_step s.data.toList 9 k hl h9 (by rw [len_l]; exact h) (by rw [gd s k h]; omega)
def rdU (l : List UInt8) : Nat × Nat × Nat := if (rd l).2.2 = 0 ∧ 9223372036854775807 < (rd l).1 then (0, 0, 3) else rd l
theorem rdU_cases (l : List UInt8) : (rdU l = (0, 0, 2) ∧ rd l = (0, 0, 2)) ∨ (rdU l = (0, 0, 3) ∧ rd l = (0, 0, 3)) ∨ (∃ x n, rd l = (x, n, 0) ∧ 9223372036854775807 < x ∧ rdU l = (0, 0, 3)) ∨ ∃ x n, rd l = (x, n, 0) ∧ x ≤ 9223372036854775807 ∧ rdU l = (x, n, 0) := by
  unfold rdU
  rcases rd_cases l with h | h | ⟨x, n, h⟩
  · rw [h]; simp
  · rw [h]; simp
  · by_cases hx : 9223372036854775807 < x
    · right; right; left
      exact ⟨x, n, h, hx, by rw [h]; simp [hx]⟩
    · right; right; right
      exact ⟨x, n, h, by omega, by rw [h]; simp; omega⟩
def rdT (s : ByteArray) : ByteArray × Nat × Nat :=
  if (rdU s.data.toList).2.2 ≠ 0 then (ByteArray.empty, 0, (rdU s.data.toList).2.2)
  else if s.size < (rdU s.data.toList).2.1 + (rdU s.data.toList).1 then (ByteArray.empty, 0, 2)
  else (s.extract (rdU s.data.toList).2.1 ((rdU s.data.toList).2.1 + (rdU s.data.toList).1), (rdU s.data.toList).2.1 + (rdU s.data.toList).1, 0)
theorem extract_all (s : ByteArray) : s.extract 0 s.size = s := by
  apply ByteArray.ext
  rw [ByteArray.data_extract]
  exact Array.extract_size
end Go.Proofs.YtdfcbnejnnibpaaGreatDoor.Wm

namespace Go.Proofs.YtdfcbnejnnibpaaGreatDoor.Wr
open Go.RowKit Wm
set_option linter.unusedVariables false
theorem ret3 {x y z x' y' z' : Int} {k : IntKind} (h : x = x') (h2 : y = y') (h3 : z = z') :
    Ending.returned (.tuple #[.int k x, .int .i64 y, .int .i64 z]) = .returned (.tuple #[.int k x', .int .i64 y', .int .i64 z']) := by rw [h, h2, h3]
set_option maxRecDepth 100000 in
set_option maxHeartbeats 400000 in
theorem whole_any (s : ByteArray) (w : World) (hs : s.size ≤ maxLen) :
    Calls Tryz.prog 111 #[.string s] w fun e w' => e = .returned (.tuple #[.int .u64 ((rd s.data.toList).1 : Int), .int .i64 ((rd s.data.toList).2.1 : Int), .int .i64 ((rd s.data.toList).2.2 : Int)]) ∧ w = w' := by
  unfold maxLen at hs
  go_enter Tryz.func111, Tryz.ntmps111
  go_wp2
  go_loop [2, 5] (fun x i => ∃ k : Nat, k ≤ s.size ∧ k ≤ 9 ∧ Hid (k ≤ lead s.data.toList 9) ∧ i = .int .i64 k ∧ x = .int .u64 (pv s.data.toList k : Nat)) (fun _ i => s.size - (intOf i).toNat)
  case atStart => exact ⟨0, Nat.zero_le _, by omega, Nat.zero_le _, rfl, by rw [pv_zero]; rfl⟩
  case round =>
    obtain ⟨k, hk, hk9, hl, rfl, rfl⟩ := hrel
    by_cases hlt : k < s.size
    · by_cases h9 : k = 9
      · subst h9
        go_wp2
        · have h1 : 1 < (s[9].toNat : Int) := by assumption
          go_ret3
          exact ⟨by rw [rd_tenth s hlt hl.out h1]; rfl, rfl⟩
        · have h0 : s[9].toNat = 0 := by assumption
          go_ret3
          exact ⟨by rw [rd_zero s 9 hlt hl.out h0 (by omega)]; rfl, rfl⟩
        · have h0 : ¬ s[9].toNat = 0 := by assumption
          have h1 : (s[9].toNat : Int) ≤ 1 := by assumption
          go_ret3
          refine ⟨?_, rfl⟩
          rw [rd_stop s 9 hlt hl.out (by omega) (fun _ => by omega) (.inr h0)]
          exact ret3 (or_step s.data.toList 9 _ (by rw [len_l]; exact hlt) (by rw [gd s 9 hlt]) (.inr ⟨rfl, by omega⟩)) rfl rfl
      · have h9' : ((k : Int) == 9) = false := by simp; omega
        go_wp2
        · have h1 : 128 ≤ (s[k].toNat : Int) := by assumption
          go_round
          case rel => exact ⟨k + 1, by omega, by omega, lead_more s k hlt (by omega) hl.out h1, by go_num, by rw [or_step s.data.toList k _ (by rw [len_l]; exact hlt) (by rw [gd s k hlt]) (.inl (by omega))]⟩
          case measure => simp [intOf]; omega
        · have h0 : s[k].toNat = 0 := by assumption
          have hp : 0 < k := by assumption
          go_ret3
          exact ⟨by rw [rd_zero s k hlt hl.out h0 hp]; rfl, rfl⟩
        · have h0 : s[k].toNat = 0 := by assumption
          have hp : ¬ 0 < k := by assumption
          go_ret3
          refine ⟨?_, rfl⟩
          rw [rd_stop s k hlt hl.out (by omega) (fun _ => by omega) (.inl (by omega))]
          exact ret3 (or_step s.data.toList k 0 (by rw [len_l]; exact hlt) (by rw [gd s k hlt]; exact h0.symm) (.inl (by omega))) (by simp) rfl
        · have h0 : ¬ s[k].toNat = 0 := by assumption
          have h1 : (s[k].toNat : Int) < 128 := by assumption
          go_ret3
          refine ⟨?_, rfl⟩
          rw [rd_stop s k hlt hl.out (by omega) (fun _ => by omega) (.inr h0)]
          exact ret3 (or_step s.data.toList k _ (by rw [len_l]; exact hlt) (by rw [gd s k hlt]) (.inl (by omega))) (by simp) rfl
    · go_wp2
      go_ret3
      exact ⟨by rw [rd_short s k hlt hl.out]; rfl, rfl⟩
set_option maxRecDepth 100000 in
theorem number_any (s : ByteArray) (w : World) (hs : s.size ≤ maxLen) :
    Calls Tryz.prog 79 #[.string s] w fun e w' => e = .returned (.tuple #[.int .i64 ((rdU s.data.toList).1 : Int), .int .i64 ((rdU s.data.toList).2.1 : Int), .int .i64 ((rdU s.data.toList).2.2 : Int)]) ∧ w = w' := by
  have c := whole_any s w hs
  rcases rdU_cases s.data.toList with ⟨h, h2⟩ | ⟨h, h2⟩ | ⟨x, n, h2, hx, h⟩ | ⟨x, n, h2, hx, h⟩
  all_goals
    rw [h2] at c
    rw [h]
    clear h h2
    go_enter Tryz.func79, Tryz.ntmps79
    go_wp2_with (go_at_call 111; refine c.mono ?_; rintro e w' ⟨rfl, rfl⟩)
    go_ret3
    exact ⟨rfl, rfl⟩
theorem ret1 {x x' : Int} {k : IntKind} (h : x = x') : Ending.returned (.int k x) = .returned (.int k x') := by rw [h]
end Go.Proofs.YtdfcbnejnnibpaaGreatDoor.Wr

namespace Go.Proofs.YtdfcbnejnnibpaaGreatDoor.Wr
open Go.RowKit Wm
set_option linter.unusedVariables false
theorem rdU_ok {l : List UInt8} {x n : Nat} (h : rdU l = (x, n, 0)) : n ≤ l.length ∧ vb x = l.take n ∧ 0 < n ∧ x ≤ 9223372036854775807 ∧ rd l = (x, n, 0) := by
  rcases rdU_cases l with ⟨h1, _⟩ | ⟨h1, _⟩ | ⟨_, _, _, _, h1⟩ | ⟨x', n', h2, hx, h1⟩
  · rw [h1] at h; simp at h
  · rw [h1] at h; simp at h
  · rw [h1] at h; simp at h
  · rw [h1] at h
    simp only [Prod.mk.injEq] at h
    obtain ⟨rfl, rfl, _⟩ := h
    have := rd_ok h2
    exact ⟨this.1, this.2.1, this.2.2.1, hx, h2⟩
theorem rdT_cases (s : ByteArray) : (∃ e, e ≠ 0 ∧ e ≤ 3 ∧ rdU s.data.toList = (0, 0, e) ∧ rdT s = (ByteArray.empty, 0, e)) ∨
    (∃ x n, rdU s.data.toList = (x, n, 0) ∧ n ≤ s.size ∧ s.size - n < x ∧ x ≤ 9223372036854775807 ∧ rdT s = (ByteArray.empty, 0, 2)) ∨
    ∃ x n, rdU s.data.toList = (x, n, 0) ∧ n ≤ s.size ∧ x ≤ s.size - n ∧ rdT s = (s.extract n (n + x), n + x, 0) := by
  unfold rdT
  rcases rdU_cases s.data.toList with ⟨h, _⟩ | ⟨h, _⟩ | ⟨_, _, _, _, h⟩ | ⟨x, n, _, _, h⟩
  · left; exact ⟨2, by omega, by omega, h, by rw [h]; rfl⟩
  · left; exact ⟨3, by omega, by omega, h, by rw [h]; rfl⟩
  · left; exact ⟨3, by omega, by omega, h, by rw [h]; rfl⟩
  · right
    have hk := rdU_ok h
    have hn := hk.1
    rw [len_l] at hn
    by_cases hx : x ≤ s.size - n
    · right
      exact ⟨x, n, h, hn, hx, by rw [h]; simp; omega⟩
    · left
      exact ⟨x, n, h, hn, by omega, hk.2.2.2.1, by rw [h]; simp; omega⟩
theorem ret3s {x x' : ByteArray} {y z y' z' : Int} (h : x = x') (h2 : y = y') (h3 : z = z') :
    Ending.returned (.tuple #[.string x, .int .i64 y, .int .i64 z]) = .returned (.tuple #[.string x', .int .i64 y', .int .i64 z']) := by rw [h, h2, h3]
def Rat (w : World) (b : Nat) (s : ByteArray) : Prop := w.cell? ⟨b, 0, none⟩ = some (.string s) ∧ w.frozen? ⟨b, 0, none⟩ = false
theorem grown_refl (w : World) (r : Option Nat) : w.grownBy w r := ⟨rfl, rfl, rfl, Nat.le_refl _, fun _ _ _ => rfl⟩
theorem grown_set (w : World) (b : Nat) (u : Value) : w.grownBy (w.setCell ⟨b, 0, none⟩ u) (some b) :=
  ⟨rfl, rfl, rfl, by simp [World.setCell], fun k _ hne => Below.heap_setCell w ⟨b, 0, none⟩ u k (fun e => hne (by rw [e]))⟩
theorem rat_set {w : World} {b : Nat} {s : ByteArray} (h : Rat w b s) (t : ByteArray) : Rat (w.setCell ⟨b, 0, none⟩ (.string t)) b t := by
  obtain ⟨h1, h2⟩ := h
  exact ⟨World.cell?_setCell_same _ _ _ h1, (World.frozen?_setCell _ _ _ _).trans h2⟩
theorem extract_le (s : ByteArray) (n : Nat) (h : n ≤ s.size) : (s.extract n s.size).size = s.size - n := by simp
set_option maxRecDepth 100000 in
theorem uint_any (b : Nat) (s : ByteArray) (w : World) (h : Rat w b s) (hs : s.size ≤ maxLen) :
    Calls Tryz.prog 51 #[.pointer (some ⟨b, 0, none⟩)] w fun e w' => e = .returned (.tuple #[.int .i64 ((rdU s.data.toList).1 : Int), .int .i64 ((rdU s.data.toList).2.2 : Int)]) ∧ Rat w' b (s.extract (rdU s.data.toList).2.1 s.size) ∧ w.grownBy w' (some b) := by
  have c := number_any s w hs
  have hall := rat_set h
  have hsame : Rat w b (s.extract 0 s.size) := by rw [extract_all]; exact h
  obtain ⟨h1, h2⟩ := h
  unfold maxLen at hs
  rcases rdU_cases s.data.toList with ⟨hr, _⟩ | ⟨hr, _⟩ | ⟨_, _, _, _, hr⟩ | ⟨x, n, _, _, hr⟩
  rotate_right
  · obtain ⟨hn, _, _, hx, _⟩ := rdU_ok hr
    rw [len_l] at hn
    rw [hr] at c ⊢
    have hn' : (n : Int) ≤ s.size := by omega
    clear hr
    go_enter Tryz.func51, Tryz.ntmps51
    go_wp2_with (go_at_call 79; refine c.mono ?_; rintro e w' ⟨rfl, rfl⟩)
    go_ret2
    exact ⟨rfl, hall _, grown_set _ _ _⟩
  all_goals
    rw [hr] at c ⊢
    clear hr
    go_enter Tryz.func51, Tryz.ntmps51
    go_wp2_with (go_at_call 79; refine c.mono ?_; rintro e w' ⟨rfl, rfl⟩)
    go_ret2
    exact ⟨rfl, hsame, grown_refl _ _⟩
theorem ret2s {x x' : ByteArray} {y y' : Int} (h : x = x') (h2 : y = y') : Ending.returned (.tuple #[.string x, .int .i64 y]) = .returned (.tuple #[.string x', .int .i64 y']) := by rw [h, h2]
theorem behind (s : ByteArray) (n x : Nat) (h : n ≤ s.size) (hx : x ≤ s.size - n) : (s.extract n s.size).extract x (s.size - n) = s.extract (n + x) s.size := by
  rw [ByteArray.extract_extract]
  congr 1
  omega
theorem front (s : ByteArray) (n x : Nat) (h : n ≤ s.size) (hx : x ≤ s.size - n) : (s.extract n s.size).extract 0 x = s.extract n (n + x) := by
  rw [ByteArray.extract_extract]
  congr 1
  omega
set_option maxRecDepth 100000 in
theorem text_any (b : Nat) (s : ByteArray) (w : World) (h : Rat w b s) (hs : s.size ≤ maxLen) :
    Calls Tryz.prog 57 #[.pointer (some ⟨b, 0, none⟩)] w fun e w' => e = .returned (.tuple #[.string (rdT s).1, .int .i64 ((rdT s).2.2 : Int)]) ∧ Rat w' b (s.extract (rdT s).2.1 s.size) ∧ w.grownBy w' (some b) := by
  have c := number_any s w hs
  have hall := rat_set h
  have hsame : Rat w b (s.extract 0 s.size) := by rw [extract_all]; exact h
  obtain ⟨h1, h2⟩ := h
  unfold maxLen at hs
  rcases rdT_cases s with ⟨e, h0, h4, h, h3⟩ | ⟨x, n, h, hn, hx, hxm, h3⟩ | ⟨x, n, h, hn, hx, h3⟩
  · rw [h] at c
    rw [h3]
    have hne : ((e : Int) == 0) = false := by simp; omega
    have hne' : (!((e : Int) == 0)) = true := by simp; omega
    clear h h3 h0
    go_enter Tryz.func57, Tryz.ntmps57
    go_wp2_with (go_at_call 79; refine c.mono ?_; rintro e w' ⟨rfl, rfl⟩)
    go_ret2
    exact ⟨rfl, hsame, grown_refl _ _⟩
  · rw [h] at c
    rw [h3]
    have hlt : (s.size : Int) - n < x := by omega
    have hn' : (n : Int) ≤ s.size := by omega
    clear h h3
    go_enter Tryz.func57, Tryz.ntmps57
    go_wp2_with (go_at_call 79; refine c.mono ?_; rintro e w' ⟨rfl, rfl⟩)
    go_ret2
    exact ⟨rfl, hsame, grown_refl _ _⟩
  · rw [h] at c
    rw [h3]
    have hlt : (x : Int) ≤ (s.size : Int) - n := by omega
    have hn' : (n : Int) ≤ s.size := by omega
    clear h h3
    go_enter Tryz.func57, Tryz.ntmps57
    go_wp2_with (go_at_call 79; refine c.mono ?_; rintro e w' ⟨rfl, rfl⟩)
    go_ret2
    exact ⟨ret2s (front s n x hn hx) rfl, by rw [behind s n x hn hx]; exact hall _, grown_set _ _ _⟩
set_option maxRecDepth 100000 in
theorem left_any (b : Nat) (s : ByteArray) (w : World) (h : Rat w b s) (hs : s.size ≤ maxLen) :
    Calls Tryz.prog 74 #[.pointer (some ⟨b, 0, none⟩)] w fun e w' => e = .returned (.int .i64 (s.size : Int)) ∧ w = w' := by
  obtain ⟨h1, h2⟩ := h
  unfold maxLen at hs
  go_enter Tryz.func74, Tryz.ntmps74
  go_wp2
  go_ret
  exact ⟨rfl, rfl⟩
def dn (n : Nat) : Int := if n = 0 then 0 else 5
set_option maxRecDepth 100000 in
theorem done_any (b : Nat) (s : ByteArray) (w : World) (h : Rat w b s) (hs : s.size ≤ maxLen) :
    Calls Tryz.prog 109 #[.pointer (some ⟨b, 0, none⟩)] w fun e w' => e = .returned (.int .i64 (dn s.size)) ∧ w = w' := by
  obtain ⟨h1, h2⟩ := h
  unfold maxLen at hs
  by_cases h : s.size = 0
  · have e : s.toList = [] := by
      rw [ByteArray.toList_eq]
      apply List.eq_nil_of_length_eq_zero
      rw [len_l]
      exact h
    have e2 : (!s.toList.isEmpty) = false := by simp [e]
    have hd : dn s.size = 0 := by rw [dn, if_pos h]
    rw [hd]
    clear hd h
    go_enter Tryz.func109, Tryz.ntmps109
    go_wp2
    go_ret
    exact ⟨rfl, rfl⟩
  · have hd : dn s.size = 5 := by rw [dn, if_neg h]
    rw [hd]
    have e2 : s.toList.isEmpty = false := by
      apply Bool.eq_false_iff.2
      intro hc
      apply h
      have := List.isEmpty_iff.1 hc
      have := congrArg List.length this
      rw [ByteArray.toList_eq, len_l] at this
      exact this
    clear hd h
    go_enter Tryz.func109, Tryz.ntmps109
    go_wp2
    go_ret
    exact ⟨rfl, rfl⟩
set_option maxRecDepth 100000 in
theorem new_any (s : ByteArray) (w : World) :
    Calls Tryz.prog 50 #[.string s] w fun e w' => e = .returned (.pointer (some ⟨w.heap.size, 0, none⟩)) ∧ w.alloc (.cells #[.string s] 127) = w' := by
  go_enter Tryz.func50, Tryz.ntmps50
  go_wp2
  go_ret
  exact ⟨rfl, rfl⟩
theorem rat_new (w : World) (s : ByteArray) : Rat (w.alloc (.cells #[.string s] 127)) w.heap.size s := by
  constructor
  · go_simp
  · go_simp
end Go.Proofs.YtdfcbnejnnibpaaGreatDoor.Wr

namespace Go.Proofs.YtdfcbnejnnibpaaGreatDoor.Wr
open Go.RowKit Wm
set_option linter.unusedVariables false
def bv (b : UInt8) : Value := .int .u8 (b.toNat : Int)
theorem info5 : (Tryz.prog.info? 5).map (fun i => (i.zero, i.size, i.bytes)) = some (some (.int .u8 0), 1, 1) := by kernel_rfl
theorem own_str {w : World} {base : Nat} {v : Value} {n : Nat} {l : List UInt8} (h : w.ownsRow base 5 1 v n (l.map bv)) (hl : l.length = n) (hn : 0 < n) :
    ∃ g cap, v = .slice (some ⟨g, 0, none⟩) n cap ∧ (convert 135 9 (.slice (some ⟨g, 0, none⟩) n cap)).run Tryz.prog w = .ok (.string ⟨l.toArray⟩) w := by
  rcases h.2 with ⟨_, h0⟩ | ⟨g, cap, cur, hv, _⟩
  · omega
  · refine ⟨g, cap, hv, ?_⟩
    subst hl
    refine run_convert_bytes_back w 135 9 5 ⟨g, 0, none⟩ cap l Tryz.underlying135 Tryz.underlying5 Tryz.underlying9 ?_
    intro j hj
    refine h.cells (g := g) (by rw [hv]; rfl) j _ ?_
    rw [List.getElem?_map, List.getElem?_eq_getElem hj]
    rfl
theorem below_step {w wr w1 : World} {e : TypeId} {size n : Nat} {v : Value} {xs : List Value} {o : Obj} (hb : Below w.heap.size w wr) (hown : wr.ownsRow w.heap.size e size v n xs) (hg : (wr.alloc o).grownBy w1 v.ownBlock) : Below w.heap.size w w1 :=
  (hb.alloc hb.size o).grown hg (by have := hb.size; simp; omega) (fun k hk => (hown.lt k hk).1)
theorem or128 (y : Nat) : Value.int .u8 (bits .or .u8 ((y : Int) % 256) 128) = bv (UInt8.ofNat (128 + y % 128)) := by
  have e : ((y : Int) % 256) = ((y % 256 : Nat) : Int) := by omega
  have h := u8_or_nat (y % 256) 128 (by omega) (by omega)
  have e1 : y % 256 = y % 128 + 128 * (y / 128 % 2) := by omega
  have e2 : y % 256 ||| 128 = 128 + y % 128 := by
    rw [e1]
    rcases Nat.mod_two_eq_zero_or_one (y / 128) with h0 | h0
    · rw [h0, Nat.mul_zero, Nat.add_zero, Nat.or_comm, nat_join 7 128 _ (by decide) (by omega)]
    · rw [h0, Nat.mul_one, Nat.add_comm, ← nat_join 7 128 (y % 128) (by decide) (by omega), Nat.or_comm, ← Nat.or_assoc, Nat.or_self]
  rw [e, show (128 : Int) = ((128 : Nat) : Int) from rfl, h, e2, bv]
  congr 1
  simp
  omega
theorem low_byte (y : Nat) (h : y < 128) : Value.int .u8 (y : Int) = bv (UInt8.ofNat y) := by
  rw [bv]
  congr 1
  simp
  omega
set_option maxRecDepth 100000 in
set_option maxHeartbeats 400000 in
theorem varint_any (X : Nat) (w : World) (hX : X < 18446744073709551616) :
    Calls Tryz.prog 80 #[.int .u64 (X : Int)] w fun e w' => e = .returned (.string (vs X)) ∧ Below w.heap.size w w' := by
  obtain ⟨i0, hi, hz0, hz1, hz2⟩ := info_parts info5
  have hlen := vb_len hX
  go_enter Tryz.func80, Tryz.ntmps80
  go_wp2
  go_loopw [0, 3] (fun x v wr => ∃ (pre : List UInt8) (y : Nat), x = .int .u64 y ∧ Hid (vb X = pre ++ vb y) ∧ y < 18446744073709551616 ∧ wr.ownsRow w.heap.size 5 1 v pre.length (pre.map bv) ∧ Below w.heap.size w wr) (fun x _ _ => (intOf x).toNat)
  case atStart => exact ⟨[], X, rfl, rfl, hX, World.ownsRow_nil _ _ _ _, Below.refl _ _⟩
  case round =>
    obtain ⟨pre, y, rfl, hv, hy, hown, hb⟩ := hrel
    have hpl : pre.length + 1 ≤ 10 := by
      have h1 := congrArg List.length hv.out
      have h2 := vb_pos y
      rw [List.length_append] at h1
      omega
    have hsz := hb.size
    by_cases hlt : y < 128
    · go_wp2_with (at_builtin; refine wpList_append_own _ rfl _ _ 135 rfl w.heap.size 5 i0 (.int .u8 0) 1 1 Tryz.underlying135 hi hz0 hz1 hz2 rfl (by decide) _ _ _ rfl (hown.alloc _) ⟨wr.heap.size, 0, none⟩ 1 1 [.int .u8 (y : Int)] rfl rfl ?c1 ?c2 ?c3 ?c4 ?c5 ?_)
      case c1 => exact cell_one_new _ _ _
      case c2 => intro u hu; simp at hu; subst hu; rfl
      case c3 => unfold maxLen; omega
      case c4 => omega
      case c5 => simp; omega
      intro v' w1 hown' hgrow _
      have hb' := below_step hb hown hgrow
      rw [low_byte y hlt, show [bv (UInt8.ofNat y)] = [UInt8.ofNat y].map bv from rfl, ← List.map_append] at hown'
      obtain ⟨g, cap, hv', hc⟩ := own_str hown' (by simp) (by omega)
      have hres : (⟨(pre ++ [UInt8.ofNat y]).toArray⟩ : ByteArray) = vs X := by rw [vs, hv.out, vb_lo hlt]
      rw [hres] at hc
      clear hown hown' hgrow hres hv hb
      rw [hv']
      clear hv'
      go_wp2
      go_ret
      exact ⟨rfl, hb'⟩
    · go_wp2_with (at_builtin; refine wpList_append_own _ rfl _ _ 135 rfl w.heap.size 5 i0 (.int .u8 0) 1 1 Tryz.underlying135 hi hz0 hz1 hz2 rfl (by decide) _ _ _ rfl (hown.alloc _) ⟨wr.heap.size, 0, none⟩ 1 1 [.int .u8 (bits .or .u8 ((y : Int) % 256) 128)] rfl rfl ?c1 ?c2 ?c3 ?c4 ?c5 ?_)
      case c1 => exact cell_one_new _ _ _
      case c2 => intro u hu; simp at hu; subst hu; rfl
      case c3 => unfold maxLen; omega
      case c4 => omega
      case c5 => simp; omega
      intro v' w1 hown' hgrow _
      have hb' := below_step hb hown hgrow
      rw [or128 y, show [bv (UInt8.ofNat (128 + y % 128))] = [UInt8.ofNat (128 + y % 128)].map bv from rfl, ← List.map_append] at hown'
      have hv2 : Hid (vb X = (pre ++ [UInt8.ofNat (128 + y % 128)]) ++ vb (y / 128)) := by
        show vb X = _
        rw [hv.out, vb_hi (by omega), List.append_assoc]; rfl
      clear hown hgrow hv hb
      go_wp2
      go_roundw
      case rel => exact ⟨_, y / 128, by go_num, hv2, by omega, by simpa using hown', hb'⟩
      case measure => simp [intOf]; omega
end Go.Proofs.YtdfcbnejnnibpaaGreatDoor.Wr

namespace Go.Proofs.YtdfcbnejnnibpaaGreatDoor.Wr
open Go.RowKit Wm
set_option linter.unusedVariables false
def b1 (b : UInt8) : ByteArray := ⟨#[b]⟩
theorem vs_le {x : Nat} (h : x < 18446744073709551616) : (vs x).size ≤ 10 := by rw [vs_size]; exact vb_len h
end Go.Proofs.YtdfcbnejnnibpaaGreatDoor.Wr

namespace Go.Proofs.YtdfcbnejnnibpaaGreatDoor.Wr
open Go.RowKit Wm
set_option linter.unusedVariables false
theorem below_at {w w1 w2 : World} {b : Nat} (h : Below w.heap.size w w1) (hg : w1.grownBy w2 (some b)) (hb : w.heap.size ≤ b) : Below w.heap.size w w2 :=
  h.grown hg h.size (fun k hk => by injection hk with hk; omega)
theorem below_call {w w1 w2 : World} (h : Below w.heap.size w w1) (h2 : Below w1.heap.size w1 w2) : Below w.heap.size w w2 := h.trans (h2.mono h.size)
def us (n : Int) : ByteArray := if n < 0 then ⟨#[]⟩ else vs n.toNat
def ue (n : Int) : Int := if n < 0 then 1 else 0
def ts (s : ByteArray) : ByteArray := vs s.size ++ s
set_option maxRecDepth 100000 in
theorem putUint_any (n : Int) (w : World) (h1 : -9223372036854775808 ≤ n) (h2 : n ≤ 9223372036854775807) :
    Calls Tryz.prog 53 #[.int .i64 n] w fun e w' => e = .returned (.tuple #[.string (us n), .int .i64 (ue n)]) ∧ Below w.heap.size w w' := by
  by_cases h : n < 0
  · rw [us, ue, if_pos h, if_pos h]
    go_enter Tryz.func53, Tryz.ntmps53
    go_wp2_with fail
    go_ret2
    exact ⟨rfl, Below.refl _ _⟩
  · have c := fun W => varint_any n.toNat W (by omega)
    rw [us, ue, if_neg h, if_neg h]
    have e : ((n.toNat : Nat) : Int) = n := by omega
    rw [e] at c
    clear e
    go_enter Tryz.func53, Tryz.ntmps53
    go_wp2_with (go_at_call 80; refine (c _).mono ?_; rintro e w1 ⟨rfl, hb⟩)
    go_ret2
    exact ⟨rfl, hb⟩
set_option maxRecDepth 100000 in
theorem putText_any (s : ByteArray) (w : World) (hs : s.size ≤ 9223372036854775797) :
    Calls Tryz.prog 55 #[.string s] w fun e w' => e = .returned (.string (ts s)) ∧ Below w.heap.size w w' := by
  have c := fun W => varint_any s.size W (by omega)
  have hv : (vs s.size).size ≤ 10 := vs_le (by omega)
  rw [ts]
  obtain ⟨V, hV⟩ : ∃ V, V = vs s.size := ⟨_, rfl⟩
  rw [← hV] at c hv ⊢
  clear hV
  have hsum : V.size + s.size ≤ 9223372036854775807 := by omega
  go_enter Tryz.func55, Tryz.ntmps55
  go_wp2_with (go_at_call 80; refine (c _).mono ?_; rintro e w1 ⟨rfl, hb⟩)
  go_ret
  exact ⟨rfl, hb⟩
end Go.Proofs.YtdfcbnejnnibpaaGreatDoor.Wr

namespace Go.Proofs.YtdfcbnejnnibpaaGreatDoor.Fm
open Wm Wr
set_option linter.unusedVariables false
def cstep (c b : Nat) : Nat := if c % 2 = b then c / 2 else (c / 2) ^^^ 3988292384
def cbits : Nat → Nat → Nat → Nat
  | 0, c, _ => c
  | k + 1, c, x => cbits k (cstep c (x % 2)) (x / 2)
def csum (c : Nat) (l : List UInt8) : Nat := l.foldl (fun c b => cbits 8 c b.toNat) c
def fsum (l : List UInt8) : Nat := 4294967295 - csum 4294967295 l
theorem xor_lt {a b : Nat} (ha : a < 4294967296) (hb : b < 4294967296) : a ^^^ b < 4294967296 := Nat.xor_lt_two_pow (n := 32) ha hb
theorem fsum_lt (l : List UInt8) : fsum l < 4294967296 := by unfold fsum; omega
theorem csum_snoc (c : Nat) (l : List UInt8) (b : UInt8) : csum c (l ++ [b]) = cbits 8 (csum c l) b.toNat := by simp [csum]
theorem csum_take (s : ByteArray) (i : Nat) (h : i < s.size) : csum 4294967295 (s.data.toList.take (i + 1)) = cbits 8 (csum 4294967295 (s.data.toList.take i)) s[i].toNat := by
  have h' : i < s.data.toList.length := by rw [len_l]; exact h
  rw [List.take_succ_eq_append_getElem h', csum_snoc]
  congr 2
theorem csum_all (s : ByteArray) : 4294967295 - csum 4294967295 (s.data.toList.take s.size) = fsum s.data.toList := by
  rw [← len_l, List.take_length]
  rfl
def le4 (c : Nat) : List UInt8 := [UInt8.ofNat (c % 256), UInt8.ofNat (c / 256 % 256), UInt8.ofNat (c / 256 / 256 % 256), UInt8.ofNat (c / 256 / 256 / 256 % 256)]
def sum4 (l : List UInt8) : ByteArray := ⟨(le4 (fsum l)).toArray⟩
def pk (s : ByteArray) : ByteArray := ts s ++ sum4 s.data.toList
theorem pk_list (s : ByteArray) : (pk s).data.toList = vb s.size ++ (s.data.toList ++ le4 (fsum s.data.toList)) := by
  rw [pk, ByteArray.data_append, Array.toList_append, ts, ByteArray.data_append, Array.toList_append, vs_list, List.append_assoc]
  rfl
theorem pk_size (s : ByteArray) : (pk s).size = (vb s.size).length + s.size + 4 := by
  rw [← len_l, pk_list, List.length_append, List.length_append, len_l]
  have : (le4 (fsum s.data.toList)).length = 4 := rfl
  omega
def fr (s : ByteArray) : ByteArray × Nat × Nat :=
  if (rdT s).2.2 ≠ 0 then (⟨#[]⟩, 0, (rdT s).2.2)
  else if s.size - (rdT s).2.1 < 4 then (⟨#[]⟩, 0, 2)
  else if s.extract 0 ((rdT s).2.1 + 4) ≠ pk (rdT s).1 then (⟨#[]⟩, 0, 6)
  else ((rdT s).1, (rdT s).2.1 + 4, 0)
theorem fr_le (s : ByteArray) : (fr s).2.1 ≤ s.size := by
  unfold fr
  split
  · exact Nat.zero_le _
  · split
    · exact Nat.zero_le _
    · split
      · exact Nat.zero_le _
      · rename_i h1 h2 h3
        show (rdT s).2.1 + 4 ≤ s.size
        omega
theorem fr_ok {s t : ByteArray} {n : Nat} (h : fr s = (t, n, 0)) : rdT s = (t, n - 4, 0) ∧ 4 < n ∧ n ≤ s.size ∧ s.extract 0 n = pk t := by
  have hle := fr_le s
  rw [h] at hle
  unfold fr at h
  rcases rdT_cases s with ⟨e, h0, _, _, h3⟩ | ⟨x, m, _, _, _, _, h3⟩ | ⟨x, m, hu, hn, hx, h3⟩
  · rw [h3, if_pos h0] at h
    simp only [Prod.mk.injEq] at h
    exact absurd h.2.2 h0
  · rw [h3, if_pos (by simp)] at h
    simp at h
  · have hm := (rdU_ok hu).2.2.1
    rw [h3, if_neg (fun h => h rfl)] at h
    simp only at h
    split at h
    · simp at h
    · split at h
      · simp at h
      · rename_i h5 h6
        simp only [Prod.mk.injEq] at h
        obtain ⟨rfl, rfl, _⟩ := h
        refine ⟨by rw [h3, Nat.add_sub_cancel], by omega, hle, ?_⟩
        exact Decidable.byContradiction h6
theorem trip {α β γ : Type} (p : α × β × γ) : ∃ a b c, p = (a, b, c) := ⟨p.1, p.2.1, p.2.2, rfl⟩
def scf (s : ByteArray) : Nat → Nat → List ByteArray × Nat × Nat
  | 0, a => ([], a, 0)
  | f + 1, a => if a < s.size then
      match fr (s.extract a s.size) with
      | (t, n, e) => if e = 0 then (t :: (scf s f (a + n)).1, (scf s f (a + n)).2.1, (scf s f (a + n)).2.2) else ([], a, e)
    else ([], a, 0)
theorem scf_end {s : ByteArray} (f : Nat) {a : Nat} (h : ¬ a < s.size) : scf s f a = ([], a, 0) := by
  cases f with
  | zero => rfl
  | succ f => rw [scf, if_neg h]
theorem scf_bad {s t : ByteArray} (f : Nat) {a n e : Nat} (h : a < s.size) (h2 : fr (s.extract a s.size) = (t, n, e)) (he : e ≠ 0) : scf s (f + 1) a = ([], a, e) := by
  rw [scf, if_pos h, h2]
  exact if_neg he
theorem scf_one {s t : ByteArray} (f : Nat) {a n : Nat} (h : a < s.size) (h2 : fr (s.extract a s.size) = (t, n, 0)) : scf s (f + 1) a = (t :: (scf s f (a + n)).1, (scf s f (a + n)).2.1, (scf s f (a + n)).2.2) := by
  rw [scf, if_pos h, h2]
  exact if_pos rfl
theorem scf_fuel (s : ByteArray) : ∀ (f g a : Nat), s.size - a < f → s.size - a < g → scf s f a = scf s g a
  | 0, _, _, h, _ => absurd h (by omega)
  | _ + 1, 0, _, _, h => absurd h (by omega)
  | f + 1, g + 1, a, hf, hg => by
    by_cases h : a < s.size
    · obtain ⟨t, n, e, h2⟩ := trip (fr (s.extract a s.size))
      by_cases he : e = 0
      · subst he
        have hn := (fr_ok h2).2.1
        rw [scf_one f h h2, scf_one g h h2, scf_fuel s f g (a + n) (by omega) (by omega)]
      · rw [scf_bad f h h2 he, scf_bad g h h2 he]
    · rw [scf_end _ h, scf_end _ h]
def sc (s : ByteArray) (a : Nat) : List ByteArray × Nat × Nat := scf s (s.size + 1) a
theorem sc_end {s : ByteArray} {a : Nat} (h : ¬ a < s.size) : sc s a = ([], a, 0) := scf_end _ h
theorem sc_bad {s t : ByteArray} {a n e : Nat} (h : a < s.size) (h2 : fr (s.extract a s.size) = (t, n, e)) (he : e ≠ 0) : sc s a = ([], a, e) := scf_bad _ h h2 he
theorem sc_one {s t : ByteArray} {a n : Nat} (h : a < s.size) (h2 : fr (s.extract a s.size) = (t, n, 0)) : sc s a = (t :: (sc s (a + n)).1, (sc s (a + n)).2.1, (sc s (a + n)).2.2) := by
  have hn := (fr_ok h2).2.1
  rw [sc, scf_one _ h h2, sc, scf_fuel s s.size (s.size + 1) (a + n) (by omega) (by omega)]
end Go.Proofs.YtdfcbnejnnibpaaGreatDoor.Fm

namespace Go.Proofs.YtdfcbnejnnibpaaGreatDoor.Fr
open Go.RowKit Wm Wr Fm
set_option linter.unusedVariables false
theorem cstep_eq {c b : Nat} (h : c % 2 = b) : cstep c b = c / 2 := by rw [cstep, if_pos h]
theorem cstep_other {c b : Nat} (h : c % 2 ≠ b) : cstep c b = (c / 2) ^^^ 3988292384 := by rw [cstep, if_neg h]
theorem xor32 (a : Nat) (h : a < 4294967296) : bits .xor .u32 (a : Int) 3988292384 = ((a ^^^ 3988292384 : Nat) : Int) := u32_xor_nat a 3988292384 h (by decide)
theorem mod_byte (D : Nat) : Value.int .u8 ((D : Int) % 256) = bv (UInt8.ofNat (D % 256)) := by
  rw [bv]
  congr 1
  simp
theorem fr_e (s : ByteArray) : (∃ e, e ≠ 0 ∧ e ≤ 3 ∧ (rdT s).2.2 = e ∧ fr s = (⟨#[]⟩, 0, e)) ∨
    (∃ t n, rdT s = (t, n, 0) ∧ n ≤ s.size ∧ t.size ≤ s.size ∧ s.size - n < 4 ∧ fr s = (⟨#[]⟩, 0, 2)) ∨
    (∃ t n, rdT s = (t, n, 0) ∧ n + 4 ≤ s.size ∧ t.size ≤ s.size ∧ s.extract 0 (n + 4) ≠ pk t ∧ fr s = (⟨#[]⟩, 0, 6)) ∨
    (∃ t n, rdT s = (t, n, 0) ∧ n + 4 ≤ s.size ∧ t.size ≤ s.size ∧ s.extract 0 (n + 4) = pk t ∧ fr s = (t, n + 4, 0)) := by
  have key : ∀ t n, rdT s = (t, n, 0) → n ≤ s.size → t.size ≤ s.size →
      (s.size - n < 4 ∧ fr s = (⟨#[]⟩, 0, 2)) ∨ (n + 4 ≤ s.size ∧ s.extract 0 (n + 4) ≠ pk t ∧ fr s = (⟨#[]⟩, 0, 6)) ∨ (n + 4 ≤ s.size ∧ s.extract 0 (n + 4) = pk t ∧ fr s = (t, n + 4, 0)) := by
    intro t n h hn ht
    unfold fr
    rw [h, if_neg (fun h => h rfl)]
    simp only
    by_cases h1 : s.size - n < 4
    · rw [if_pos h1]; exact .inl ⟨h1, rfl⟩
    · rw [if_neg h1]
      by_cases h2 : s.extract 0 (n + 4) = pk t
      · rw [if_neg (fun h => h h2)]; exact .inr (.inr ⟨by omega, h2, rfl⟩)
      · rw [if_pos h2]; exact .inr (.inl ⟨by omega, h2, rfl⟩)
  rcases rdT_cases s with ⟨e, h0, h1, _, h3⟩ | ⟨x, m, _, _, _, _, h3⟩ | ⟨x, m, hu, hn, hx, h3⟩
  · left
    exact ⟨e, h0, h1, by rw [h3], by unfold fr; rw [h3, if_pos h0]⟩
  · left
    exact ⟨2, by omega, by omega, by rw [h3], by unfold fr; rw [h3, if_pos (by simp)]⟩
  · right
    have hs : (s.extract m (m + x)).size ≤ s.size := by simp; omega
    rcases key _ _ h3 (by omega) hs with ⟨a, b⟩ | ⟨a, b, c⟩ | ⟨a, b, c⟩
    · exact .inl ⟨_, _, h3, by omega, hs, a, b⟩
    · exact .inr (.inl ⟨_, _, h3, a, hs, b, c⟩)
    · exact .inr (.inr ⟨_, _, h3, a, hs, b, c⟩)
theorem bytes_ne {a b : ByteArray} (h : a ≠ b) : (a.toList == b.toList) = false := by
  rw [ByteArray.toList_eq, ByteArray.toList_eq]
  apply Bool.eq_false_iff.2
  intro hc
  exact h (ByteArray.ext (Array.toList_inj.1 (eq_of_beq hc)))
end Go.Proofs.YtdfcbnejnnibpaaGreatDoor.Fr

namespace Go.Proofs.YtdfcbnejnnibpaaGreatDoor.Fr
open Go.RowKit Wm Wr Fm
set_option linter.unusedVariables false
def flip (c i : Nat) : Nat := c ^^^ 2 ^ i
def trn (s : ByteArray) (B : Nat) : ByteArray := s.extract 0 (B / 8) ++ b1 (UInt8.ofNat (flip (s.data.toList.getD (B / 8) 0).toNat (B % 8))) ++ s.extract (B / 8 + 1) s.size
def tn (s : ByteArray) (bit : Int) : ByteArray := if s.size = 0 then ⟨#[]⟩ else trn s (bit % (8 * s.size : Nat)).toNat
end Go.Proofs.YtdfcbnejnnibpaaGreatDoor.Fr

namespace Go.Proofs.YtdfcbnejnnibpaaGreatDoor.Dk
open Go.RowKit Tx Pm
set_option linter.unusedVariables false
def rotS (s : St) (p : ByteArray) (bit : Int) : Nat × St :=
  if there s p ≠ 0 then (there s p, s) else (0, putS s { old s.L p with data := Fr.tn (old s.L p).data bit, kept := Fr.tn (old s.L p).kept bit })
end Go.Proofs.YtdfcbnejnnibpaaGreatDoor.Dk

namespace Go.Proofs.YtdfcbnejnnibpaaGreatDoor.Dk
open Go.RowKit Tx Pm
set_option linter.unusedVariables false
def mixA (a n : Nat) : Nat := (a + n * 11400714819323198485) % 18446744073709551616
def mixB (x : Nat) : Nat := ((x ^^^ x / 1073741824) * 13787848793156543929) % 18446744073709551616
def mixC (x : Nat) : Nat := ((x ^^^ x / 134217728) * 10723151780598845931) % 18446744073709551616
def mix (a n : Nat) : Nat := mixC (mixB (mixA a n)) ^^^ mixC (mixB (mixA a n)) / 2147483648
end Go.Proofs.YtdfcbnejnnibpaaGreatDoor.Dk

namespace Go.Proofs.YtdfcbnejnnibpaaGreatDoor.Dk
open Go.RowKit Tx Pm
set_option linter.unusedVariables false
def newS : St := ⟨[], [], 0, 0, -1, false⟩
def lose (pick : Nat) (x : It) : It :=
  let k1 := if x.anew then (let k := pick % (x.data.size + 2); if k = 0 then x.kept else x.data.extract 0 (k - 1)) else (let k := pick % (x.data.size - x.kept.size + 1); x.data.extract 0 (x.kept.size + k))
  { x with data := k1, kept := k1, loose := false, anew := false }
def restartL (loss : Nat) : List It → Nat → Nat → List It × Nat
  | [], _, st => ([], st)
  | x :: l, n, st => if x.loose then (let r := restartL loss l (n + 1) (st + 1); ({ lose (mix loss (n + 1)) x with stamp := st + 1 } :: r.1, r.2)) else (let r := restartL loss l n st; (x :: r.1, r.2))
def u64 (i : Int) : Nat := (IntKind.u64.wrap i).toNat
def restartS (s : St) (loss : Int) : St := let r := restartL (u64 loss) s.L 0 s.stamps; { s with L := r.1, stamps := r.2, down := false, armed := -1 }
def Rises (l : List It) : Prop := l.Pairwise (fun x y => Op.bytesLess x.path.toList y.path.toList = true)
end Go.Proofs.YtdfcbnejnnibpaaGreatDoor.Dk

namespace Go.Proofs.YtdfcbnejnnibpaaGreatDoor.Dk
open Go.RowKit Tx Pm
set_option linter.unusedVariables false
theorem less_irrefl (l : List UInt8) : Op.bytesLess l l = false := by
  induction l with
  | nil => rfl
  | cons c r ih => simp [Op.bytesLess, ih]
structure Sound (s : St) : Prop where
  rises : Rises s.L
  kept : ∀ x ∈ s.L, x.anew = false → x.kept.size ≤ x.data.size
  size : ∀ x ∈ s.L, x.data.size ≤ 140737488355328 ∧ x.kept.size ≤ 140737488355328
  stamps : s.stamps + s.L.length ≤ 1000000000000
structure Through (s : St) (loss k n : Nat) (pre : List It) (st : Nat) : Prop where
  le : k ≤ s.L.length
  len : pre.length = k
  paths : pre.map (·.path) = (s.L.take k).map (·.path)
  rest : restartL loss s.L 0 s.stamps = (pre ++ (restartL loss (s.L.drop k) n st).1, (restartL loss (s.L.drop k) n st).2)
  num : n ≤ k
  stamp : st ≤ s.stamps + k
end Go.Proofs.YtdfcbnejnnibpaaGreatDoor.Dk

namespace Go.Proofs.YtdfcbnejnnibpaaGreatDoor.Od
set_option linter.unusedVariables false
theorem less_trans : ∀ (a b c : List UInt8), Op.bytesLess a b = true → Op.bytesLess b c = true → Op.bytesLess a c = true
  | [], [], _, h, _ => by rw [Op.bytesLess] at h; cases h
  | [], _ :: _, [], _, h => by rw [Op.bytesLess] at h; cases h
  | [], _ :: _, _ :: _, _, _ => by rw [Op.bytesLess]
  | _ :: _, [], _, h, _ => by rw [Op.bytesLess] at h; cases h
  | _ :: _, _ :: _, [], _, h => by rw [Op.bytesLess] at h; cases h
  | x :: a, y :: b, z :: c, h1, h2 => by
    have ih := less_trans a b c
    rw [Op.bytesLess] at h1 h2 ⊢
    simp only [Bool.or_eq_true, Bool.and_eq_true, decide_eq_true_eq, beq_iff_eq] at h1 h2 ⊢
    rcases h1 with h1 | ⟨rfl, h1⟩
    · rcases h2 with h2 | ⟨rfl, h2⟩
      · left
        rw [UInt8.lt_iff_toNat_lt] at h1 h2 ⊢
        omega
      · exact .inl h1
    · rcases h2 with h2 | ⟨rfl, h2⟩
      · exact .inl h2
      · exact .inr ⟨rfl, ih h1 h2⟩
theorem less_tri : ∀ (a b : List UInt8), Op.bytesLess a b = false → Op.bytesLess b a = false → a = b
  | [], [], _, _ => rfl
  | [], _ :: _, h, _ => by rw [Op.bytesLess] at h; cases h
  | _ :: _, [], _, h => by rw [Op.bytesLess] at h; cases h
  | x :: a, y :: b, h1, h2 => by
    have ih := less_tri a b
    rw [Op.bytesLess] at h1 h2
    simp only [Bool.or_eq_false_iff, Bool.and_eq_false_iff, decide_eq_false_iff_not, beq_eq_false_iff_ne] at h1 h2
    have e : x = y := by
      apply UInt8.toNat_inj.1
      have a1 := h1.1
      have a2 := h2.1
      rw [UInt8.lt_iff_toNat_lt] at a1 a2
      omega
    subst e
    rw [ih (h1.2.resolve_left (fun h => h rfl)) (h2.2.resolve_left (fun h => h rfl))]
theorem to_list {a b : ByteArray} : a.toList = b.toList ↔ a = b := by
  rw [ByteArray.toList_eq, ByteArray.toList_eq]
  exact ⟨fun h => ByteArray.ext (Array.toList_inj.1 h), fun h => by rw [h]⟩
end Go.Proofs.YtdfcbnejnnibpaaGreatDoor.Od

namespace Go.Proofs.YtdfcbnejnnibpaaGreatDoor.Dk
open Go.RowKit Tx Pm Od
set_option linter.unusedVariables false
theorem mem_ins {l : List It} {x y : It} (h : y ∈ ins l x) : y = x ∨ y ∈ l := by
  rw [ins, List.mem_append, List.mem_cons] at h
  rcases h with h | h | h
  · exact .inr ((List.takeWhile_prefix _).subset h)
  · exact .inl h
  · have hd := List.dropWhile_suffix (fun y => Op.bytesLess y.path.toList x.path.toList) (l := l)
    cases hdw : l.dropWhile (fun y => Op.bytesLess y.path.toList x.path.toList) with
    | nil => rw [hdw] at h; cases h
    | cons z r =>
      rw [hdw] at h hd
      simp only at h
      split at h
      · exact .inr (hd.subset (List.mem_cons_of_mem _ h))
      · exact .inr (hd.subset h)
theorem len_ins (l : List It) (x : It) : (ins l x).length ≤ l.length + 1 := by
  have h1 := List.takeWhile_append_dropWhile (p := fun y => Op.bytesLess y.path.toList x.path.toList) (l := l)
  have h2 := congrArg List.length h1
  rw [List.length_append] at h2
  rw [ins, List.length_append, List.length_cons]
  cases hdw : l.dropWhile (fun y => Op.bytesLess y.path.toList x.path.toList) with
  | nil => rw [hdw] at h2; simp at h2 ⊢; omega
  | cons z r =>
    rw [hdw] at h2
    simp only
    simp only [List.length_cons] at h2
    split
    · omega
    · simp; omega
theorem rises_ins {l : List It} {x : It} (h : Rises l) : Rises (ins l x) := by
  unfold Rises at *
  have h1 := List.takeWhile_append_dropWhile (p := fun y => Op.bytesLess y.path.toList x.path.toList) (l := l)
  have htw : ∀ y ∈ l.takeWhile (fun y => Op.bytesLess y.path.toList x.path.toList), Op.bytesLess y.path.toList x.path.toList = true := fun y hy => by
    have := List.all_takeWhile (p := fun y => Op.bytesLess y.path.toList x.path.toList) (l := l)
    exact List.all_eq_true.1 this y hy
  rw [← h1] at h
  obtain ⟨p1, p2, p3⟩ := List.pairwise_append.1 h
  rw [ins, List.pairwise_append]
  have hrest : ∀ z r, l.dropWhile (fun y => Op.bytesLess y.path.toList x.path.toList) = z :: r → (z.path = x.path → ∀ y ∈ r, Op.bytesLess x.path.toList y.path.toList = true) ∧ (z.path ≠ x.path → ∀ y ∈ z :: r, Op.bytesLess x.path.toList y.path.toList = true) := by
    intro z r hz
    rw [hz] at p2
    have hn : Op.bytesLess z.path.toList x.path.toList = false := by
      have h0 := List.head?_dropWhile_not (fun y => Op.bytesLess y.path.toList x.path.toList) l
      rw [hz] at h0
      simpa using h0
    refine ⟨fun he y hy => ?_, fun he y hy => ?_⟩
    · rw [← he]
      exact (List.pairwise_cons.1 p2).1 y hy
    · have hxz : Op.bytesLess x.path.toList z.path.toList = true := by
        cases hc : Op.bytesLess x.path.toList z.path.toList with
        | true => rfl
        | false => exact absurd (to_list.1 (less_tri _ _ hn hc)) he
      rcases List.mem_cons.1 hy with rfl | hy
      · exact hxz
      · exact less_trans _ _ _ hxz ((List.pairwise_cons.1 p2).1 y hy)
  cases hdw : l.dropWhile (fun y => Op.bytesLess y.path.toList x.path.toList) with
  | nil =>
    simp only
    refine ⟨p1, List.pairwise_singleton _ _, fun y hy z hz => ?_⟩
    obtain rfl : z = x := by simpa using hz
    exact htw y hy
  | cons z r =>
    have hr := hrest z r hdw
    rw [hdw] at p2 p3
    simp only
    split
    · rename_i he
      refine ⟨p1, List.pairwise_cons.2 ⟨hr.1 he, (List.pairwise_cons.1 p2).2⟩, fun y hy q hq => ?_⟩
      rcases List.mem_cons.1 hq with rfl | hq
      · exact htw y hy
      · exact p3 y hy q (List.mem_cons_of_mem _ hq)
    · rename_i he
      refine ⟨p1, List.pairwise_cons.2 ⟨hr.2 he, p2⟩, fun y hy q hq => ?_⟩
      rcases List.mem_cons.1 hq with rfl | hq
      · exact htw y hy
      · exact p3 y hy q hq
theorem rises_drop {l : List It} (p : ByteArray) (h : Rises l) : Rises (drop l p) := List.Pairwise.filter _ h
structure Inv (s : St) (i T : Nat) : Prop where
  rises : Rises s.L
  len : s.L.length ≤ i
  path : ∀ x ∈ s.L, x.path.size ≤ 1048576
  size : ∀ x ∈ s.L, x.data.size ≤ T ∧ x.kept.size ≤ T
  kept : ∀ x ∈ s.L, x.anew = false → x.kept.size ≤ x.data.size
  rooms : s.rooms.length ≤ i
  steps : s.steps ≤ i
  stamps : s.stamps ≤ T
  armed : -1 ≤ s.armed ∧ s.armed ≤ 9223372036854775807
theorem Inv.more {s : St} {i T : Nat} (h : Inv s i T) : Inv s (i + 1) (T + 1048576) where
  rises := h.rises
  len := by have := h.len; omega
  path := h.path
  size := fun x hx => by have := h.size x hx; omega
  kept := h.kept
  rooms := by have := h.rooms; omega
  steps := by have := h.steps; omega
  stamps := by have := h.stamps; omega
  armed := h.armed
theorem whole_le {l : List It} {B : Nat} (h : ∀ x ∈ l, x.data.size ≤ B) : whole l ≤ l.length * B := by
  induction l with
  | nil => simp [whole]
  | cons x l ih =>
    have h1 := h x (by simp)
    have h2 := ih (fun y hy => h y (by simp [hy]))
    unfold whole at *
    rw [List.map_cons, List.sum_cons, List.length_cons, Nat.succ_mul]
    omega
theorem Inv.ok {s : St} {i T : Nat} (h : Inv s i T) (hi : i ≤ 1000) (hT : T ≤ 1048576000) : Ok s := by
  have hl := h.len
  have hw := whole_le (B := T) (fun x hx => (h.size x hx).1)
  have hm : s.L.length * T ≤ 1048576000000 := Nat.le_trans (Nat.mul_le_mul (Nat.le_trans hl hi) hT) (by decide)
  refine ⟨⟨by omega, fun x hx => by have := h.path x hx; omega, by omega⟩, by have := h.rooms; omega, by have := h.steps; omega, by have := h.stamps; omega, by have := h.armed; omega⟩
theorem Inv.sound {s : St} {i T : Nat} (h : Inv s i T) (hi : i ≤ 1000) (hT : T ≤ 1048576000) : Sound s :=
  ⟨h.rises, h.kept, fun x hx => by have := h.size x hx; omega, by have := h.stamps; have := h.len; omega⟩
theorem find_mem {l : List It} {p : ByteArray} {x : It} (h : find l p = some x) : x ∈ l ∧ x.path = p := ⟨List.mem_of_find?_eq_some h, by have := List.find?_some h; exact of_decide_eq_true this⟩
theorem old_cases (l : List It) (p : ByteArray) : old l p = mk p ∨ (old l p ∈ l ∧ (old l p).path = p) := by
  unfold old
  cases h : find l p with
  | none => exact .inl rfl
  | some x => exact .inr (find_mem h)
theorem drop_in (l : List It) (p : ByteArray) : (∀ y ∈ drop l p, y ∈ l) ∧ (drop l p).length ≤ l.length := ⟨fun y hy => (List.mem_filter.1 hy).1, List.length_filter_le _ _⟩
end Go.Proofs.YtdfcbnejnnibpaaGreatDoor.Dk

namespace Go.Proofs.YtdfcbnejnnibpaaGreatDoor.Dk
open Go.RowKit Tx Pm
set_option linter.unusedVariables false
def Left (Obj : World → (Nat → Prop) → St → Prop) (w : World) (F : Nat → Prop) (s : St) (w' : World) : Prop := ∃ F', Obj w' F' s ∧ Chg F w w' ∧ ∀ g, F' g → F g ∨ w.heap.size ≤ g
structure Kind (Obj : World → (Nat → Prop) → St → Prop) : Prop where
  lt : ∀ {w F s}, Obj w F s → ∀ i, F i → i < w.heap.size
  kept : ∀ {w w1 F s}, Obj w F s → (∀ i, F i → w1.heap[i]? = w.heap[i]?) → Obj w1 F s
end Go.Proofs.YtdfcbnejnnibpaaGreatDoor.Dk



namespace Go.Proofs.YtdfcbnejnnibpaaGreatDoor.Dk
open Go.RowKit Tx Pm
set_option linter.unusedVariables false
structure Far (s : St) (i T : Nat) : Prop where
  inv : Inv s i T
  i : i ≤ 1000
  T : T ≤ 1048576000
def Does (O : World → (Nat → Prop) → St → Prop) (w : World) (F : Nat → Prop) (r : Nat × St) (e : Ending) (w' : World) : Prop := e = .returned (.int .i64 (r.1 : Nat)) ∧ Left O w F r.2 w'
structure Works (O : World → (Nat → Prop) → St → Prop) (v : Value) (f : Fin 9 → FuncId) : Prop where
  kind : Kind O
  mkdir : ∀ {w F s i T} (P : ByteArray), O w F s → Far s i T → P.size ≤ 1048576 → Calls Tryz.prog (f 0) #[v, .string P] w (Does O w F (mkdirS s P))
  write : ∀ {w F s i T} (P Q : ByteArray), O w F s → Far s i T → P.size ≤ 1048576 → Q.size ≤ 1048576 → Calls Tryz.prog (f 1) #[v, .string P, .string Q] w (Does O w F (writeS s P Q))
  append : ∀ {w F s i T} (P Q : ByteArray), O w F s → Far s i T → P.size ≤ 1048576 → Q.size ≤ 1048576 → Calls Tryz.prog (f 2) #[v, .string P, .string Q] w (Does O w F (appendS s P Q))
  sync : ∀ {w F s i T} (P : ByteArray), O w F s → Far s i T → P.size ≤ 1048576 → Calls Tryz.prog (f 3) #[v, .string P] w (Does O w F (syncS s P))
  rename : ∀ {w F s i T} (P Q : ByteArray), O w F s → Far s i T → P.size ≤ 1048576 → Q.size ≤ 1048576 → Calls Tryz.prog (f 4) #[v, .string P, .string Q] w (Does O w F (renameS s P Q))
  remove : ∀ {w F s i T} (P : ByteArray), O w F s → Far s i T → P.size ≤ 1048576 → Calls Tryz.prog (f 5) #[v, .string P] w (Does O w F (removeS s P))
  limit : ∀ {w F s i T} (P : ByteArray) (M : Int), O w F s → Far s i T → P.size ≤ 1048576 → -9223372036854775808 ≤ M ∧ M ≤ 9223372036854775807 → Calls Tryz.prog (f 6) #[v, .string P, .int .i64 M] w (Does O w F (limitS s P M))
  restart : ∀ {w F s i T} (M : Int), O w F s → Far s i T → -9223372036854775808 ≤ M ∧ M ≤ 9223372036854775807 → Calls Tryz.prog (f 7) #[v, .int .i64 M] w (Does O w F (0, restartS s M))
  rot : ∀ {w F s i T} (P : ByteArray) (M : Int), O w F s → Far s i T → P.size ≤ 1048576 → -9223372036854775808 ≤ M ∧ M ≤ 9223372036854775807 → Calls Tryz.prog (f 8) #[v, .string P, .int .i64 M] w (Does O w F (rotS s P M))
end Go.Proofs.YtdfcbnejnnibpaaGreatDoor.Dk

namespace Go.Proofs.YtdfcbnejnnibpaaGreatDoor.Dk
open Go.RowKit Tx Pm
set_option linter.unusedVariables false
end Go.Proofs.YtdfcbnejnnibpaaGreatDoor.Dk

namespace Go.Proofs.YtdfcbnejnnibpaaGreatDoor.Dk
open Go.RowKit Tx Pm
set_option linter.unusedVariables false
end Go.Proofs.YtdfcbnejnnibpaaGreatDoor.Dk

namespace Go.Proofs.YtdfcbnejnnibpaaGreatDoor.Dk
open Go.RowKit Tx Pm
set_option linter.unusedVariables false
theorem find_app (l r : List It) (p : ByteArray) : find (l ++ r) p = (find l p).or (find r p) := by
  unfold find
  rw [List.find?_append]
theorem find_one (x : It) (r : List It) {p : ByteArray} (h : x.path ≠ p) : find (x :: r) p = find r p := by
  unfold find
  rw [List.find?_cons_of_neg (by simpa using h)]
theorem find_ins (l : List It) {x : It} {p : ByteArray} (h : x.path ≠ p) : find (ins l x) p = find l p := by
  have e : l = l.takeWhile (fun y => Op.bytesLess y.path.toList x.path.toList) ++ l.dropWhile (fun y => Op.bytesLess y.path.toList x.path.toList) := (List.takeWhile_append_dropWhile).symm
  unfold ins
  generalize l.takeWhile (fun y => Op.bytesLess y.path.toList x.path.toList) = a at e ⊢
  generalize l.dropWhile (fun y => Op.bytesLess y.path.toList x.path.toList) = b at e ⊢
  rw [e, find_app, find_app, find_one _ _ h]
  cases b with
  | nil => rfl
  | cons y r =>
    simp only
    split
    · rename_i hy
      rw [find_one y r (by rw [hy]; exact h)]
    · rfl
theorem find_drop (l : List It) {q p : ByteArray} (h : q ≠ p) : find (drop l q) p = find l p := by
  unfold find drop
  rw [List.find?_filter]
  congr 1
  funext x
  by_cases hx : x.path = p
  · simp [hx, Ne.symm h]
  · simp [hx]
theorem old_path (l : List It) (p : ByteArray) : (old l p).path = p := by
  rcases old_cases l p with h | ⟨_, h⟩
  · rw [h]; rfl
  · exact h
end Go.Proofs.YtdfcbnejnnibpaaGreatDoor.Dk

namespace Go.Proofs.YtdfcbnejnnibpaaGreatDoor.Dk
open Go.RowKit Tx Pm
set_option linter.unusedVariables false
theorem find_ins_same (l : List It) {x : It} {p : ByteArray} (h : x.path = p) : find (ins l x) p = some x := by
  unfold ins
  rw [find_app]
  have h1 : find (l.takeWhile (fun y => Op.bytesLess y.path.toList x.path.toList)) p = none := by
    refine List.find?_eq_none.2 (fun y hy => ?_)
    have hl := List.all_eq_true.1 (List.all_takeWhile (p := fun y => Op.bytesLess y.path.toList x.path.toList) (l := l)) y hy
    intro he
    have he := of_decide_eq_true he
    rw [he, h, less_irrefl] at hl
    cases hl
  rw [h1, Option.none_or]
  unfold find
  rw [List.find?_cons_of_pos (by simpa using h)]
theorem find_drop_same (l : List It) (p : ByteArray) : find (drop l p) p = none := by
  unfold find drop
  refine List.find?_eq_none.2 (fun y hy => ?_)
  have := (List.mem_filter.1 hy).2
  simpa using this
theorem find_paths {l : List It} {x : It} (hr : Rises l) (hx : x ∈ l) : find l x.path = some x := by
  unfold find
  induction l with
  | nil => cases hx
  | cons y l ih =>
    obtain ⟨h1, h2⟩ := List.pairwise_cons.1 hr
    by_cases he : y.path = x.path
    · rw [List.find?_cons_of_pos (by simpa using he)]
      rcases List.mem_cons.1 hx with rfl | hx
      · rfl
      · have := h1 x hx
        rw [he, less_irrefl] at this
        cases this
    · rw [List.find?_cons_of_neg (by simpa using he)]
      rcases List.mem_cons.1 hx with rfl | hx
      · exact absurd rfl he
      · exact ih h2 hx
theorem drop_none {l : List It} {p : ByteArray} (h : find l p = none) : drop l p = l := by
  unfold find at h
  unfold drop
  refine List.filter_eq_self.2 (fun y hy => ?_)
  have := List.find?_eq_none.1 h y hy
  simpa using this
theorem len_drop {l : List It} (hr : Rises l) (p : ByteArray) : l.length ≤ (drop l p).length + (if (find l p).isSome then 1 else 0) := by
  induction l with
  | nil => exact Nat.zero_le _
  | cons y l ih =>
    obtain ⟨h1, h2⟩ := List.pairwise_cons.1 hr
    by_cases he : y.path = p
    · have hn : find l p = none := by
        refine List.find?_eq_none.2 (fun z hz hzp => ?_)
        have hzp := of_decide_eq_true hzp
        have := h1 z hz
        rw [he, hzp, less_irrefl] at this
        cases this
      have e1 : drop (y :: l) p = drop l p := by unfold drop; rw [List.filter_cons_of_neg (by simpa using he)]
      have e2 : find (y :: l) p = some y := by unfold find; rw [List.find?_cons_of_pos (by simpa using he)]
      rw [e1, e2, drop_none hn]
      exact Nat.le_refl _
    · have e1 : drop (y :: l) p = y :: drop l p := by unfold drop; rw [List.filter_cons_of_pos (by simpa using he)]
      have e2 : find (y :: l) p = find l p := by unfold find; rw [List.find?_cons_of_neg (by simpa using he)]
      rw [e1, e2]
      have := ih h2
      simp only [List.length_cons]
      omega
theorem len_ins_more {l : List It} (x : It) : l.length + (if (find l x.path).isSome then 0 else 1) ≤ (ins l x).length := by
  have e : l = l.takeWhile (fun y => Op.bytesLess y.path.toList x.path.toList) ++ l.dropWhile (fun y => Op.bytesLess y.path.toList x.path.toList) := (List.takeWhile_append_dropWhile).symm
  have hall := List.all_takeWhile (p := fun y => Op.bytesLess y.path.toList x.path.toList) (l := l)
  unfold ins
  generalize l.takeWhile (fun y => Op.bytesLess y.path.toList x.path.toList) = a at e hall ⊢
  generalize l.dropWhile (fun y => Op.bytesLess y.path.toList x.path.toList) = b at e ⊢
  subst e
  cases b with
  | nil =>
    simp only [List.append_nil, List.length_append, List.length_cons, List.length_nil]
    split <;> omega
  | cons y r =>
    by_cases he : y.path = x.path
    · have hs : (find (a ++ y :: r) x.path).isSome = true := List.find?_isSome.2 ⟨y, by simp, by simpa using he⟩
      rw [if_pos hs]
      simp only [he, if_true, List.length_append, List.length_cons]
      omega
    · simp only [he, if_false, List.length_append, List.length_cons]
      split <;> omega
def stOf (x : It) : Int := if x.loose then (if x.anew then 2 else 1) else 0
def kOf (x : It) : Int := if x.dir then 1 else 2
def mv (k : Int) (s t : ByteArray) (st n : Int) : Value := .agg #[.int .i64 k, .string s, .string t, .int .i64 st, .int .i64 n]
def iv3 (x : It) : Value := mv (kOf x) x.data x.kept (stOf x) (x.stamp : Nat)
def dv3 (k : Int) (s t : ByteArray) (st n : Int) : DataW Unit := .agg [.lit (.int .i64 k), .lit (.string s.data.toList), .lit (.string t.data.toList), .lit (.int .i64 st), .lit (.int .i64 n)]
def itD (x : It) : DataW Unit := dv3 (kOf x) x.data x.kept (stOf x) (x.stamp : Nat)
def itemR : Value → Option (DataW Unit × List MemPlace)
  | .agg ⟨[.int .i64 k, .string s, .string t, .int .i64 st, .int .i64 n]⟩ => some (dv3 k s t st n, [])
  | _ => none
theorem itemR_mv (k : Int) (s t : ByteArray) (st n : Int) : itemR (mv k s t st n) = some (dv3 k s t st n, []) := rfl
theorem itemR_inv {v : Value} {z : DataW Unit × List MemPlace} (h : itemR v = some z) : ∃ k s t st n, v = mv k s t st n ∧ z = (dv3 k s t st n, []) := by
  unfold itemR at h
  split at h
  · cases h
    exact ⟨_, _, _, _, _, rfl, rfl⟩
  · cases h
theorem dv3_inj {k k' : Int} {s s' t t' : ByteArray} {st st' n n' : Int} (h : dv3 k s t st n = dv3 k' s' t' st' n') : k = k' ∧ s = s' ∧ t = t' ∧ st = st' ∧ n = n' := by
  unfold dv3 at h
  simp only [DataW.agg.injEq, List.cons.injEq, DataW.lit.injEq, Lit.int.injEq, Lit.string.injEq, true_and, and_true] at h
  obtain ⟨h1, h2, h3, h4, h5⟩ := h
  exact ⟨h1, ByteArray.ext (Array.toList_inj.1 h2), ByteArray.ext (Array.toList_inj.1 h3), h4, h5⟩
def lookV (L : List It) (p : ByteArray) : Value := match find L p with
  | some x => iv3 x
  | none => mv 0 ⟨#[]⟩ ⟨#[]⟩ 0 0
def kL (p : ByteArray) : Lit := .string p.data.toList
theorem kL_inj {p q : ByteArray} (h : kL p = kL q) : p = q := by
  injection h with h
  exact ByteArray.ext (Array.toList_inj.1 h)
theorem kL_key (p : ByteArray) : WideAt.IsKeyLit (kL p) := trivial
theorem strK : Go.Maps.Keyed Tryz.prog 9 := Go.Maps.string_keyed Tryz.underlying9
theorem keyP {p : ByteArray} (hp : p.size ≤ maxLen) : keyOf Tryz.prog 9 (.string p) = some (kL p) := Go.WideMaps.keyOf_string_mk Tryz.underlying9 hp
theorem zeroI (w : World) : (zeroValue 87).run Tryz.prog w = .ok (mv 0 ⟨#[]⟩ ⟨#[]⟩ 0 0) w := by kernel_rfl
theorem zeroN (w : World) : (zeroValue 3).run Tryz.prog w = .ok (.int .i64 0) w := by kernel_rfl
def ReadsI (D : DataW Unit) (L : List It) : Prop := ∀ p z, D.atKey (kL p) z = match find L p with
  | some x => itD x
  | none => z
def Mp (w : World) (bi : Nat) (L : List It) : Prop := ∃ D : DataW Unit, w.ownsMap Tryz.prog 9 itemR bi L.length D ∧ ReadsI D L ∧ Go.Maps.size D ≤ L.length
theorem Mp.lt {w : World} {bi : Nat} {L : List It} (h : Mp w bi L) : bi < w.heap.size := by
  obtain ⟨D, h, _⟩ := h
  exact h.lt
theorem ownsMap_at {H : Type} {w w1 : World} {P : Program} {k : TypeId} {R : Value → Option (DataW H × List MemPlace)} {b n : Nat} {D : DataW H} (h : w.ownsMap P k R b n D) (he : w1.heap[b]? = w.heap[b]?) : w1.ownsMap P k R b n D := by
  obtain ⟨es, clock, hb, r⟩ := h
  exact ⟨es, clock, he.trans hb, r⟩
theorem Mp.kept {w w1 : World} {bi : Nat} {L : List It} (h : Mp w bi L) (he : w1.heap[bi]? = w.heap[bi]?) : Mp w1 bi L := by
  obtain ⟨D, h, r⟩ := h
  exact ⟨D, ownsMap_at h he, r⟩
theorem readsI_has {D : DataW Unit} {L : List It} (h : ReadsI D L) (p : ByteArray) : Go.Maps.has D (kL p) = (find L p).isSome := by
  cases hf : find L p with
  | none =>
    refine (Go.Maps.has_false_of_atKey fun z => ?_).trans rfl
    rw [h p z, hf]
  | some x =>
    refine (Go.Maps.has_true_of_atKey (y := itD x) fun z => ?_).trans rfl
    rw [h p z, hf]
theorem Mp.look {w : World} {bi : Nat} {L : List It} (h : Mp w bi L) {p : ByteArray} (hp : p.size ≤ maxLen) :
    (Instr.lookup 60 (.map (some bi)) (.string p) false).run Tryz.prog w = .ok (lookV L p) w := by
  obtain ⟨D, ho, hr, _⟩ := h
  obtain ⟨v, ps, hrun, hv⟩ := ho.lookup strK Tryz.underlying60 (zeroI w) (itemR_mv _ _ _ _ _) (keyP hp)
  rw [hrun]
  obtain ⟨k, s, t, st, n, rfl, hz⟩ := itemR_inv hv
  have hz := congrArg Prod.fst hz
  simp only [hr p] at hz
  unfold lookV
  cases hf : find L p with
  | none =>
    rw [hf] at hz
    obtain ⟨rfl, rfl, rfl, rfl, rfl⟩ := dv3_inj hz
    rfl
  | some x =>
    rw [hf] at hz
    obtain ⟨rfl, rfl, rfl, rfl, rfl⟩ := dv3_inj (k := kOf x) (s := x.data) (t := x.kept) (st := stOf x) (n := (x.stamp : Nat)) hz
    rfl
theorem turned_block {w w' : World} {b i : Nat} (h : w.mapTurned w' b) (hi : i ≠ b) : w'.heap[i]? = w.heap[i]? := by
  obtain ⟨es, clock, es', clock', hb, rfl⟩ := h
  exact Go.ChangeMaps.heap_setBlock_other hb _ hi
theorem turned_chg {w w' : World} {b : Nat} (h : w.mapTurned w' b) : Chg (· = b) w w' := by
  have hg := h.grown
  exact ⟨hg.os, hg.tape, hg.output, hg.size, fun i hi hn => turned_block h hn⟩
theorem own_len {w : World} {b n : Nat} {D : DataW Unit} {R : Value → Option (DataW Unit × List MemPlace)} (h : w.ownsMap Tryz.prog 9 R b n D) {m : Nat} (hm : Go.Maps.size D ≤ m) : w.ownsMap Tryz.prog 9 R b m D := by
  obtain ⟨es, clock, hb, F, hs, rfl⟩ := h
  refine ⟨es, clock, hb, F, ?_, rfl⟩
  simp only [Go.Maps.size, length_sorted, List.length_map, Array.length_toList] at hm
  exact hm
theorem Mp.store {w : World} {bi : Nat} {L : List It} (h : Mp w bi L) {x : It} (hp : x.path.size ≤ maxLen) (hn : L.length < maxLen) :
    ∃ w', (Instr.mapUpdate 60 (.map (some bi)) (.string x.path) (iv3 x)).run Tryz.prog w = .ok () w' ∧ Mp w' bi (ins L x) ∧ w.mapTurned w' bi := by
  obtain ⟨D, ho, hr, hs⟩ := h
  obtain ⟨w', hrun, ho', ht⟩ := ho.store strK Tryz.underlying60 hn (keyP hp) (itemR_mv (kOf x) x.data x.kept (stOf x) (x.stamp : Nat))
  have hsz : Go.Maps.size (D.put (kL x.path) (dv3 (kOf x) x.data x.kept (stOf x) (x.stamp : Nat))) ≤ (ins L x).length := by
    have h1 := Go.Maps.size_put (ho.tidy strK) (k := kL x.path) (dv3 (kOf x) x.data x.kept (stOf x) (x.stamp : Nat))
    rw [readsI_has hr] at h1
    have h2 := len_ins_more (l := L) x
    rw [h1]
    split at h2 <;> split <;> first | omega | simp_all
  refine ⟨w', hrun, ⟨_, own_len ho' hsz, fun p z => ?_, hsz⟩, ht⟩
  by_cases he : p = x.path
  · subst he
    rw [Go.Maps.atKey_put_same ho.isMap (kL_key _), find_ins_same L rfl]
    rfl
  · rw [Go.Maps.atKey_put_other (fun e => he (kL_inj e)), find_ins L (fun e => he e.symm)]
    exact hr p z
theorem Mp.del {w : World} {bi : Nat} {L : List It} (h : Mp w bi L) (hR : Rises L) {p : ByteArray} (hp : p.size ≤ maxLen) (ty : TypeId) :
    ∃ w', (Builtin.delete_ #[60, 9] ty #[.map (some bi), .string p]).run Tryz.prog w = .ok (.tuple #[]) w' ∧ Mp w' bi (drop L p) ∧ w.mapTurned w' bi := by
  obtain ⟨D, ho, hr, hs⟩ := h
  obtain ⟨w', hrun, ho', ht⟩ := ho.drop strK Tryz.underlying60 (keyP hp) ty
  have hsz : Go.Maps.size (D.del (kL p)) ≤ (drop L p).length := by
    have h1 := Go.Maps.size_del (ho.tidy strK) (k := kL p)
    rw [readsI_has hr] at h1
    have h2 := len_drop hR p
    omega
  refine ⟨w', hrun, ⟨_, own_len ho' hsz, fun q z => ?_, hsz⟩, ht⟩
  by_cases he : q = p
  · subst he
    rw [Go.Maps.atKey_del_same, find_drop_same]
  · rw [Go.Maps.atKey_del_other (fun e => he (kL_inj e)), find_drop L (fun e => he e.symm)]
    exact hr q z
theorem mp_made (w : World) : Mp (w.alloc (.map #[] 0)) w.heap.size [] := ⟨_, World.ownsMap_made w _ _ _, fun p z => rfl, Nat.le_refl _⟩
def roomOf (R : List Rm) (v : ByteArray) : Option Rm := R.find? (fun r => decide (r.vol = v))
def ReadsR (D : DataW Unit) (R : List Rm) : Prop := ∀ v z, D.atKey (kL v) z = match roomOf R v with
  | some r => .lit (.int .i64 r.n)
  | none => z
def Lm (w : World) (bl : Nat) (R : List Rm) : Prop := ∃ D : DataW Unit, w.ownsMap Tryz.prog 9 (plainElem Tryz.prog 3) bl R.length D ∧ ReadsR D R ∧ Go.Maps.size D ≤ R.length
theorem Lm.lt {w : World} {bl : Nat} {R : List Rm} (h : Lm w bl R) : bl < w.heap.size := by
  obtain ⟨D, h, _⟩ := h
  exact h.lt
theorem Lm.kept {w w1 : World} {bl : Nat} {R : List Rm} (h : Lm w bl R) (he : w1.heap[bl]? = w.heap[bl]?) : Lm w1 bl R := by
  obtain ⟨D, h, r⟩ := h
  exact ⟨D, ownsMap_at h he, r⟩
theorem readsR_has {D : DataW Unit} {R : List Rm} (h : ReadsR D R) (v : ByteArray) : Go.Maps.has D (kL v) = (roomOf R v).isSome := by
  cases hf : roomOf R v with
  | none =>
    refine (Go.Maps.has_false_of_atKey fun z => ?_).trans rfl
    rw [h v z, hf]
  | some x =>
    refine (Go.Maps.has_true_of_atKey (y := .lit (.int .i64 x.n)) fun z => ?_).trans rfl
    rw [h v z, hf]
def limV (R : List Rm) (v : ByteArray) : Value := match roomOf R v with
  | some r => .tuple #[.int .i64 r.n, .bool true]
  | none => .tuple #[.int .i64 0, .bool false]
theorem Lm.look {w : World} {bl : Nat} {R : List Rm} (h : Lm w bl R) {v : ByteArray} (hp : v.size ≤ maxLen) :
    (Instr.lookup 61 (.map (some bl)) (.string v) true).run Tryz.prog w = .ok (limV R v) w := by
  obtain ⟨D, ho, hr, _⟩ := h
  obtain ⟨u, ps, hrun, hv⟩ := ho.look_ok strK Tryz.underlying61 (zeroN w) (plainElem_int Tryz.underlying3 (by decide)) (keyP hp)
  rw [hrun, readsR_has hr]
  obtain ⟨c, rfl, hc, hwc⟩ := plainElem_int_inv Tryz.underlying3 hv
  have hc := congrArg Prod.fst hc
  simp only [hr v] at hc
  unfold limV
  cases hf : roomOf R v with
  | none =>
    rw [hf] at hc
    cases hc
    rfl
  | some x =>
    rw [hf] at hc
    cases hc
    rfl
theorem roomOf_set_same : ∀ (R : List Rm) (v : ByteArray) (n : Int), roomOf (setRm R v n) v = some ⟨v, n⟩
  | [], v, n => by unfold setRm roomOf; rw [List.find?_cons_of_pos (by simp)]
  | r :: R, v, n => by
    unfold setRm
    split
    · rename_i h
      unfold roomOf
      rw [List.find?_cons_of_pos (by simp)]
    · rename_i h
      unfold roomOf
      rw [List.find?_cons_of_neg (by simpa using h)]
      exact roomOf_set_same R v n
theorem roomOf_set_other {v u : ByteArray} (hne : u ≠ v) : ∀ (R : List Rm) (n : Int), roomOf (setRm R v n) u = roomOf R u
  | [], n => by unfold setRm roomOf; rw [List.find?_cons_of_neg (by simpa using fun e => hne e.symm)]
  | r :: R, n => by
    unfold setRm
    split
    · rename_i h
      unfold roomOf
      rw [List.find?_cons_of_neg (by simpa using fun e => hne e.symm), List.find?_cons_of_neg (by simpa [h] using fun e => hne e.symm)]
    · rename_i h
      by_cases hu : r.vol = u
      · unfold roomOf
        rw [List.find?_cons_of_pos (by simpa using hu), List.find?_cons_of_pos (by simpa using hu)]
      · unfold roomOf
        rw [List.find?_cons_of_neg (by simpa using hu), List.find?_cons_of_neg (by simpa using hu)]
        exact roomOf_set_other hne R n
theorem len_set (v : ByteArray) (n : Int) : ∀ (R : List Rm), R.length + (if (roomOf R v).isSome then 0 else 1) ≤ (setRm R v n).length
  | [] => by unfold setRm; simp [roomOf]
  | r :: R => by
    by_cases h : r.vol = v
    · have e1 : (roomOf (r :: R) v).isSome = true := by unfold roomOf; rw [List.find?_cons_of_pos (by simpa using h)]; rfl
      have e2 : setRm (r :: R) v n = ⟨v, n⟩ :: R := by unfold setRm; rw [if_pos h]
      rw [e1, e2]
      exact Nat.le_refl _
    · have e : roomOf (r :: R) v = roomOf R v := by unfold roomOf; rw [List.find?_cons_of_neg (by simpa using h)]
      have e2 : setRm (r :: R) v n = r :: setRm R v n := by rw [setRm, if_neg h]
      have := len_set v n R
      rw [e, e2]
      simp only [List.length_cons]
      omega
theorem Lm.store {w : World} {bl : Nat} {R : List Rm} (h : Lm w bl R) {v : ByteArray} (hp : v.size ≤ maxLen) (hn : R.length < maxLen) {n : Int} (hw : (Lit.int .i64 n).wf = true) :
    ∃ w', (Instr.mapUpdate 61 (.map (some bl)) (.string v) (.int .i64 n)).run Tryz.prog w = .ok () w' ∧ Lm w' bl (setRm R v n) ∧ w.mapTurned w' bl := by
  obtain ⟨D, ho, hr, hs⟩ := h
  obtain ⟨w', hrun, ho', ht⟩ := ho.store strK Tryz.underlying61 hn (keyP hp) (plainElem_int Tryz.underlying3 hw)
  have hsz : Go.Maps.size (D.put (kL v) (.lit (.int .i64 n))) ≤ (setRm R v n).length := by
    have h1 := Go.Maps.size_put (ho.tidy strK) (k := kL v) (.lit (.int .i64 n))
    rw [readsR_has hr] at h1
    have h2 := len_set v n R
    rw [h1]
    split at h2 <;> split <;> first | omega | simp_all
  refine ⟨w', hrun, ⟨_, own_len ho' hsz, fun p z => ?_, hsz⟩, ht⟩
  by_cases he : p = v
  · subst he
    rw [Go.Maps.atKey_put_same ho.isMap (kL_key _), roomOf_set_same]
  · rw [Go.Maps.atKey_put_other (fun e => he (kL_inj e)), roomOf_set_other he]
    exact hr p z
theorem lm_made (w : World) : Lm (w.alloc (.map #[] 0)) w.heap.size [] := ⟨_, World.ownsMap_made w _ _ _, fun p z => rfl, Nat.le_refl _⟩
end Go.Proofs.YtdfcbnejnnibpaaGreatDoor.Dk

namespace Go.Proofs.YtdfcbnejnnibpaaGreatDoor.Dk
open Go.RowKit Tx Pm
set_option linter.unusedVariables false
def Ft (b bi bl : Nat) (i : Nat) : Prop := i = b ∨ i = bi ∨ i = bl
structure Ia (b bi bl : Nat) (l : Int) (w : World) (s : St) : Prop where
  blk : w.heap[b]? = some (.cells #[.map (some bi), .map (some bl), .int .i64 l, .int .i64 s.steps, .int .i64 s.stamps, .bool s.down] 63 (0, 0))
  items : Mp w bi s.L
  limits : Lm w bl s.rooms
  ne : bi ≠ bl
  left : s.down = true ∨ l = s.armed
  low : -1 ≤ l ∧ l ≤ 9223372036854775807
theorem Ia.lt {b bi bl : Nat} {l : Int} {w : World} {s : St} (h : Ia b bi bl l w s) : ∀ i, Ft b bi bl i → i < w.heap.size := by
  rintro i (rfl | rfl | rfl)
  · exact (Array.getElem?_eq_some_iff.1 h.blk).1
  · exact h.items.lt
  · exact h.limits.lt
theorem map_block {H : Type} {w : World} {P : Program} {k : TypeId} {R : Value → Option (DataW H × List MemPlace)} {b n : Nat} {D : DataW H} (h : w.ownsMap P k R b n D) {cs : Array Value} {T : TypeId} {fz : Nat × Nat} : w.heap[b]? ≠ some (.cells cs T fz) := by
  obtain ⟨es, clock, hb, _⟩ := h
  rw [hb]
  intro e
  cases e
theorem Ia.nb {b bi bl : Nat} {l : Int} {w : World} {s : St} (h : Ia b bi bl l w s) : b ≠ bi ∧ b ≠ bl := by
  obtain ⟨D, hD, _⟩ := h.items
  obtain ⟨E, hE, _⟩ := h.limits
  exact ⟨fun e => map_block hD (e ▸ h.blk), fun e => map_block hE (e ▸ h.blk)⟩
theorem Ia.kept {b bi bl : Nat} {l : Int} {w w1 : World} {s : St} (h : Ia b bi bl l w s) (hk : ∀ i, Ft b bi bl i → w1.heap[i]? = w.heap[i]?) : Ia b bi bl l w1 s :=
  ⟨(hk b (.inl rfl)).trans h.blk, h.items.kept (hk bi (.inr (.inl rfl))), h.limits.kept (hk bl (.inr (.inr rfl))), h.ne, h.left, h.low⟩
theorem Ia.below {b bi bl : Nat} {l : Int} {w w1 : World} {s : St} (h : Ia b bi bl l w s) (hb : Below w.heap.size w w1) : Ia b bi bl l w1 s := h.kept (fun i hi => hb.block i (h.lt i hi))
theorem Ia.chg {b bi bl : Nat} {l : Int} {w w1 : World} {s : St} {F : Nat → Prop} (h : Ia b bi bl l w s) (hc : Chg F w w1) (hd : ∀ i, Ft b bi bl i → ¬ F i) : Ia b bi bl l w1 s := h.kept (fun i hi => hc.block i (h.lt i hi) (hd i hi))
theorem Ia.cell {b bi bl : Nat} {l : Int} {w : World} {s : St} (h : Ia b bi bl l w s) : w.cell? ⟨b, 0, none⟩ = some (.map (some bi)) ∧ w.cell? ⟨b, 1, none⟩ = some (.map (some bl)) ∧ w.cell? ⟨b, 2, none⟩ = some (.int .i64 l) ∧
    w.cell? ⟨b, 3, none⟩ = some (.int .i64 s.steps) ∧ w.cell? ⟨b, 4, none⟩ = some (.int .i64 s.stamps) ∧ w.cell? ⟨b, 5, none⟩ = some (.bool s.down) := by
  have hb := h.blk
  refine ⟨?_, ?_, ?_, ?_, ?_, ?_⟩ <;> · unfold World.cell?; rw [hb]; rfl
theorem Ia.warm {b bi bl : Nat} {l : Int} {w : World} {s : St} (h : Ia b bi bl l w s) (k : Nat) : w.frozen? ⟨b, k, none⟩ = false := by
  unfold World.frozen?
  rw [h.blk]
  simp
theorem Ia.poke {b bi bl : Nat} {l l1 : Int} {w w1 : World} {s s1 : St} (h : Ia b bi bl l w s) (hc : Chg (· = b) w w1)
    (hb : w1.heap[b]? = some (.cells #[.map (some bi), .map (some bl), .int .i64 l1, .int .i64 s1.steps, .int .i64 s1.stamps, .bool s1.down] 63 (0, 0)))
    (hL : s1.L = s.L) (hR : s1.rooms = s.rooms) (hl : s1.down = true ∨ l1 = s1.armed) (hlo : -1 ≤ l1 ∧ l1 ≤ 9223372036854775807) : Ia b bi bl l1 w1 s1 := by
  obtain ⟨n1, n2⟩ := h.nb
  exact ⟨hb, by rw [hL]; exact h.items.kept (hc.block bi h.items.lt (fun e => n1 e.symm)), by rw [hR]; exact h.limits.kept (hc.block bl h.limits.lt (fun e => n2 e.symm)), h.ne, hl, hlo⟩
theorem Ia.turned {b bi bl : Nat} {l : Int} {w w1 : World} {s : St} {L : List It} (h : Ia b bi bl l w s) (hm : Mp w1 bi L) (ht : w.mapTurned w1 bi) : Ia b bi bl l w1 { s with L := L } := by
  obtain ⟨n1, n2⟩ := h.nb
  exact ⟨(turned_block ht n1).trans h.blk, hm, h.limits.kept (turned_block ht (fun e => h.ne e.symm)), h.ne, h.left, h.low⟩
def Ip (b bi bl : Nat) (w : World) (s : St) (w' : World) : Prop := ∃ l, Ia b bi bl l w' s ∧ Chg (Ft b bi bl) w w'
theorem ft_b {b bi bl : Nat} : ∀ i, i = b → Ft b bi bl i := fun i hi => .inl hi
theorem ft_i {b bi bl : Nat} : ∀ i, i = bi → Ft b bi bl i := fun i hi => .inr (.inl hi)
theorem Ip.of {b bi bl : Nat} {l : Int} {w w1 : World} {s : St} (h : Ia b bi bl l w1 s) (hb : Below w.heap.size w w1) : Ip b bi bl w s w1 := ⟨l, h, Chg.of_below hb⟩
theorem Ip.after {b bi bl : Nat} {w w1 w2 : World} {s : St} (hb : Below w.heap.size w w1) (h : Ip b bi bl w1 s w2) : Ip b bi bl w s w2 := by
  obtain ⟨l, h1, h2⟩ := h
  exact ⟨l, h1, (Chg.of_below hb).then h2⟩
theorem kindK (L : List It) (p : ByteArray) {x : It} (h : find L p = some x) : kOf x = (kind L p : Nat) := by
  unfold kind kOf
  rw [h]
  unfold kindOf
  simp only
  split <;> rfl
theorem lookV_is (L : List It) (p : ByteArray) : lookV L p = .agg #[.int .i64 (kind L p : Nat), .string (old L p).data, .string (old L p).kept, .int .i64 (stOf (old L p)), .int .i64 (old L p).stamp] := by
  unfold lookV
  cases h : find L p with
  | none =>
    have h1 : kind L p = 0 := by unfold kind; rw [h]; rfl
    have h2 : old L p = mk p := by unfold old; rw [h]; rfl
    rw [h1, h2]
    rfl
  | some x =>
    have h2 : old L p = x := by unfold old; rw [h]; rfl
    rw [h2, ← kindK L p h]
    rfl
theorem Ia.look {b bi bl : Nat} {l : Int} {w : World} {s : St} (h : Ia b bi bl l w s) {p : ByteArray} (hp : p.size ≤ maxLen) : (Instr.lookup 60 (.map (some bi)) (.string p) false).run Tryz.prog w =
    .ok (.agg #[.int .i64 (kind s.L p : Nat), .string (old s.L p).data, .string (old s.L p).kept, .int .i64 (stOf (old s.L p)), .int .i64 (old s.L p).stamp]) w := by
  rw [← lookV_is]
  exact h.items.look hp
theorem maxLen_of {n : Nat} (h : n ≤ 8000000000000) : n ≤ maxLen := by unfold maxLen; omega
structure Good (s : St) : Prop where
  rises : Rises s.L
  dirs : ∀ x ∈ s.L, x.dir = true → x.data = ⟨#[]⟩ ∧ x.kept = ⟨#[]⟩ ∧ x.loose = false ∧ x.anew = false ∧ x.stamp = 0
  calm : ∀ x ∈ s.L, x.loose = false → x.anew = false
  vols : s.rooms.Pairwise (fun r r' => r.vol ≠ r'.vol)
theorem good_new : Good newS := ⟨List.Pairwise.nil, (fun x hx => by cases hx), (fun x hx => by cases hx), List.Pairwise.nil⟩
theorem good_of {s s' : St} (h : Good s) (hL : s'.L = s.L) (hR : s'.rooms = s.rooms) : Good s' := ⟨by rw [hL]; exact h.rises, by rw [hL]; exact h.dirs, by rw [hL]; exact h.calm, by rw [hR]; exact h.vols⟩
theorem good_done {s : St} (h : Good s) : Good (done s).2 := good_of h (done_L s) (done_rooms s)
theorem good_ins {s s' : St} {l : List It} {x : It} (h : Good s) (hl : Rises l ∧ ∀ y ∈ l, y ∈ s.L) (hL : s'.L = ins l x) (hd : x.dir = true → x.data = ⟨#[]⟩ ∧ x.kept = ⟨#[]⟩ ∧ x.loose = false ∧ x.anew = false ∧ x.stamp = 0)
    (hc : x.loose = false → x.anew = false) (hR : s'.rooms = s.rooms) : Good s' := by
  have hm : ∀ y ∈ s'.L, y = x ∨ y ∈ s.L := fun y hy => by
    rw [hL] at hy
    exact (mem_ins hy).imp id (fun hh => hl.2 y hh)
  refine ⟨by rw [hL]; exact rises_ins hl.1, fun y hy => ?_, fun y hy => ?_, by rw [hR]; exact h.vols⟩
  · rcases hm y hy with rfl | hy
    · exact hd
    · exact h.dirs y hy
  · rcases hm y hy with rfl | hy
    · exact hc
    · exact h.calm y hy
theorem old_file {s : St} {p : ByteArray} (h : there s p = 0) : (old s.L p).dir = false ∧ (old s.L p) ∈ s.L ∧ (old s.L p).path = p := by
  obtain ⟨k, x, _, hk, hf, _, hp, hd⟩ := there_file h
  have e : old s.L p = x := by rw [old, hf]; rfl
  rw [e]
  exact ⟨hd, List.mem_of_getElem? hk, hp⟩
theorem old_dir {l : List It} {p : ByteArray} (h : kind l p ≠ 1) : (old l p).dir = false := by
  unfold kind at h
  unfold old
  cases hf : find l p with
  | none => rfl
  | some x =>
    rw [hf] at h
    unfold kindOf at h
    cases hd : x.dir with
    | false => exact hd
    | true => simp [hd] at h
theorem good_mkdir {s : St} {p : ByteArray} (h : Good s) : Good (mkdirS s p).2 := by
  unfold mkdirS
  repeat' split
  all_goals first
    | exact h
    | exact good_done h
    | exact good_ins (good_done h) ⟨(good_done h).rises, fun _ hy => hy⟩ rfl (fun _ => ⟨rfl, rfl, rfl, rfl, rfl⟩) (fun _ => rfl) rfl
theorem good_put {s : St} {l : List It} {x : It} (h : Good s) (hl : Rises l ∧ ∀ y ∈ l, y ∈ s.L) (hd : x.dir = false) (hc : x.loose = false → x.anew = false) : Good (putS { s with L := l } x) :=
  good_ins h hl (x := stamped { s with L := l } x) rfl (fun e => by have e : x.dir = true := e; rw [hd] at e; cases e) hc rfl
theorem good_write {s : St} {p d : ByteArray} (h : Good s) : Good (writeS s p d).2 := by
  unfold writeS
  split
  · exact h
  split
  · exact h
  split
  · exact h
  split
  · exact h
  split
  · exact good_done h
  · rename_i h3 _ _
    exact good_put (l := (done s).2.L) (good_done h) ⟨(good_done h).rises, fun _ hy => hy⟩ (old_dir h3) (fun e => by cases e)
theorem calm_old {s : St} (h : Good s) (p : ByteArray) : (old s.L p).loose = false → (old s.L p).anew = false := by
  rcases old_cases s.L p with e | ⟨hm, _⟩
  · rw [e]; exact fun _ => rfl
  · exact h.calm _ hm
theorem there_dir {s : St} {p : ByteArray} (h : ¬ there s p ≠ 0) : (old s.L p).dir = false := (old_file (by omega)).1
theorem good_sync {s : St} {p : ByteArray} (h : Good s) : Good (syncS s p).2 := by
  unfold syncS
  split
  · exact h
  split
  · exact good_done h
  · rename_i h1 _
    exact good_ins (good_done h) ⟨(good_done h).rises, fun _ hy => hy⟩ rfl (fun e => by have := there_dir h1; rw [show (old s.L p).dir = true from e] at this; cases this) (fun _ => rfl) rfl
theorem good_rename {s : St} {f t : ByteArray} (h : Good s) : Good (renameS s f t).2 := by
  unfold renameS
  split
  · exact h
  split
  · exact h
  split
  · exact h
  split
  · exact h
  split
  · exact h
  split
  · exact good_done h
  · rename_i h4 _ _
    have h1 : kind s.L f ≠ 1 := fun e => h4 (.inl e)
    obtain ⟨d1, _⟩ := drop_in (done s).2.L f
    exact good_put (l := drop (done s).2.L f) (good_done h) ⟨rises_drop f (good_done h).rises, d1⟩ (old_dir h1) (calm_old h f)
def ImpAt (b : Nat) (w : World) (F : Nat → Prop) (s : St) : Prop := ∃ bi bl l, Ia b bi bl l w s ∧ Good s ∧ ∀ i, F i ↔ Ft b bi bl i
theorem imp_kind (b : Nat) : Kind (ImpAt b) where
  lt := fun ⟨bi, bl, l, h, _, hF⟩ i hi => h.lt i ((hF i).1 hi)
  kept := fun ⟨bi, bl, l, h, hg, hF⟩ hk => ⟨bi, bl, l, h.kept (fun i hi => hk i ((hF i).2 hi)), hg, hF⟩
theorem Ip.left {b bi bl : Nat} {w w' : World} {F : Nat → Prop} {s : St} (h : Ip b bi bl w s w') (hg : Good s) (hF : ∀ i, F i ↔ Ft b bi bl i) : Left (ImpAt b) w F s w' := by
  obtain ⟨l, h1, h2⟩ := h
  exact ⟨F, ⟨bi, bl, l, h1, hg, hF⟩, h2.mono (fun i hi => (hF i).2 hi), fun g hg => .inl hg⟩
end Go.Proofs.YtdfcbnejnnibpaaGreatDoor.Dk

namespace Go.Proofs.YtdfcbnejnnibpaaGreatDoor.Pl
open Go.RowKit Pm Tx
set_option linter.unusedVariables false
def st : ByteArray := ⟨#[47]⟩
set_option maxRecDepth 100000 in
set_option maxHeartbeats 1000000 in
theorem lastByte_any (s : ByteArray) (w : World) (hs : s.size ≤ 562949953421312) :
    Calls Tryz.prog 193 #[.string s, .int .u8 47] w fun e w' => e = .returned (.int .i64 ((lastN s.data.toList : Nat) - 1)) ∧ w = w' := by
  go_enter Tryz.func193, Tryz.ntmps193
  go_wp2
  go_loop [5] (fun vi => ∃ k : Nat, k ≤ s.size ∧ vi = .int .i64 ((k : Int) - 1) ∧ Hid (lastN s.data.toList = lastN (s.data.toList.take k))) (fun vi => ((intOf vi) + 1).toNat)
  case atStart => exact ⟨s.size, Nat.le_refl _, by first | rfl | go_num | (congr 1; omega), by rw [Pr.take_all]; rfl⟩
  case round =>
    obtain ⟨k, hk, rfl, hh⟩ := hrel
    rcases Nat.eq_zero_or_pos k with rfl | hpos
    · have h0 := Lib.hid hh.out
      clear hh
      go_wp2
      go_ret
      rw [h0.out]
      exact ⟨rfl, rfl⟩
    · obtain ⟨j, rfl⟩ : ∃ j, k = j + 1 := ⟨k - 1, by omega⟩
      have hlt : j < s.size := by omega
      have hn := lastN_snoc (s.data.toList.take j) s[j]
      rw [← Pr.take_at s j hlt, List.length_take, len_l, Nat.min_eq_left (by omega), ← hh.out] at hn
      have ej : ((j + 1 : Nat) : Int) - 1 = (j : Int) := by omega
      rw [ej]
      by_cases hc : s[j].toNat = 47
      · rw [if_pos (UInt8.toNat_inj.1 hc)] at hn
        have HN := Lib.hid hn
        have e : ((s[j].toNat : Int) == 47) = true := by simp [hc]
        clear hn hc hh
        go_wp2
        go_ret
        rw [HN.out]
        exact ⟨by rw [ej]; rfl, rfl⟩
      · rw [if_neg (fun e => hc (by rw [e]; rfl))] at hn
        have HN := Lib.hid hn
        have e : ((s[j].toNat : Int) == 47) = false := beq_eq_false_iff_ne.2 (by omega)
        clear hn hc hh
        go_wp2
        go_round
        case rel => exact ⟨j, by omega, rfl, HN.out⟩
        case measure => simp [intOf]
set_option maxRecDepth 100000 in
set_option maxHeartbeats 1000000 in
theorem last_any (s : ByteArray) (w : World) (hs : s.size ≤ 562949953421312) :
    Calls Tryz.prog 178 #[.string s, .string ⟨#[47]⟩] w fun e w' => e = .returned (.int .i64 ((lastN s.data.toList : Nat) - 1)) ∧ w = w' := by
  go_enter Tryz.func178, Tryz.ntmps178
  go_wp2_with (go_at_call 193; refine (lastByte_any _ _ hs).mono ?_; rintro e w' ⟨rfl, rfl⟩)
  go_ret
  exact ⟨rfl, rfl⟩
set_option maxRecDepth 100000 in
set_option maxHeartbeats 1000000 in
theorem count_any (s : ByteArray) (w : World) :
    Calls Tryz.prog 146 #[.string s, .string ⟨#[47]⟩] w fun e w' => e = .returned (.int .i64 (s.data.toList.count 47 : Nat)) ∧ w = w' := by
  go_enter Tryz.func146, Tryz.ntmps146
  go_wp2
  rw [run_callFunc_extern Tryz.func176 (by kernel_rfl) (by kernel_rfl) (by kernel_rfl) (e := Extern.BytealgCount.count) (by kernel_rfl), Lib.run_countString]
  simp only [Result.andThen]
  rw [Oper.upon_value]
  go_wp2
  go_ret
  exact ⟨rfl, rfl⟩
set_option maxRecDepth 100000 in
set_option maxHeartbeats 1000000 in
theorem indexByte_any (s : ByteArray) (w : World) :
    Calls Tryz.prog 198 #[.string s, .int .u8 47] w fun e w' => e = .returned (.int .i64 (Lib.indexByte s.data.toList 47)) ∧ w = w' := by
  go_enter Tryz.func198, Tryz.ntmps198
  go_wp2
  rw [run_callFunc_extern Tryz.func203 (by kernel_rfl) (by kernel_rfl) (by kernel_rfl) (e := Extern.BytealgIndexByte.indexByte) (by kernel_rfl), Lib.run_indexByteString]
  simp only [Result.andThen]
  rw [Oper.upon_value]
  go_wp2
  go_ret
  exact ⟨rfl, rfl⟩
set_option maxRecDepth 100000 in
set_option maxHeartbeats 1000000 in
theorem index_any (s : ByteArray) (w : World) :
    Calls Tryz.prog 192 #[.string s, .string ⟨#[47]⟩] w fun e w' => e = .returned (.int .i64 (Lib.indexByte s.data.toList 47)) ∧ w = w' := by
  go_enter Tryz.func192, Tryz.ntmps192
  go_wp2_with (go_at_call 198; refine (indexByte_any _ _).mono ?_; rintro e w' ⟨rfl, rfl⟩)
  · have h : ([47] == s.toList) = true := by assumption
    go_ret
    refine ⟨?_, rfl⟩
    have e : s.data.toList = [47] := by rw [← Lib.toList_data]; exact (beq_iff_eq.1 h).symm
    rw [e]
    simp [Lib.indexByte]
  · go_ret
    exact ⟨rfl, rfl⟩
def hasSt (l : List UInt8) : Bool := l.contains 47
def cutA : List UInt8 → List UInt8
  | [] => []
  | c :: r => if c = 47 then [] else c :: cutA r
def cutB : List UInt8 → List UInt8
  | [] => []
  | c :: r => if c = 47 then r else cutB r
theorem cut_in (l : List UInt8) (i : Nat) (h : Lib.indexByte l 47 = i) : i < l.length ∧ cutA l = l.take i ∧ cutB l = l.drop (i + 1) ∧ 47 ∈ l := by
  induction l generalizing i with
  | nil => simp [Lib.indexByte] at h
  | cons c r ih =>
    rw [Lib.indexByte] at h
    by_cases hc : c = 47
    · rw [if_pos (by simp [hc])] at h
      obtain rfl : i = 0 := by omega
      simp [cutA, cutB, hc]
    · rw [if_neg (by simpa using hc)] at h
      have hge := Lib.indexByte_ge r 47
      by_cases hn : Lib.indexByte r 47 = -1
      · rw [if_pos (by simp [hn])] at h
        omega
      · rw [if_neg (by simp [hn])] at h
        obtain ⟨j, rfl⟩ : ∃ j, i = j + 1 := ⟨i - 1, by omega⟩
        obtain ⟨h1, h2, h3, h4⟩ := ih j (by push_cast at h; omega)
        simp [cutA, cutB, hc, h2, h3, h4]
        omega
theorem cut_out (l : List UInt8) (h : Lib.indexByte l 47 = -1) : cutA l = l ∧ cutB l = [] ∧ 47 ∉ l := by
  induction l with
  | nil => simp [cutA, cutB]
  | cons c r ih =>
    rw [Lib.indexByte] at h
    by_cases hc : c = 47
    · rw [if_pos (by simp [hc])] at h
      omega
    · rw [if_neg (by simpa using hc)] at h
      have hge := Lib.indexByte_ge r 47
      by_cases hn : Lib.indexByte r 47 = -1
      · obtain ⟨h1, h2, h3⟩ := ih hn
        simp [cutA, cutB, hc, h1, h2, h3, Ne.symm hc]
      · rw [if_neg (by simp [hn])] at h
        omega
set_option maxRecDepth 100000 in
set_option maxHeartbeats 1000000 in
theorem cutLite_any (s : ByteArray) (w : World) (hs : s.size ≤ 562949953421312) :
    Calls Tryz.prog 173 #[.string s, .string ⟨#[47]⟩] w fun e w' => e = .returned (.tuple #[.string (tb (cutA s.data.toList)), .string (tb (cutB s.data.toList)), .bool (hasSt s.data.toList)]) ∧ ∃ n, w' = w.drewN n := by
  have hge := Lib.indexByte_ge s.data.toList 47
  by_cases hm : Lib.indexByte s.data.toList 47 = -1
  · obtain ⟨e1, e2, e3⟩ := cut_out _ hm
    have e4 : hasSt s.data.toList = false := by simpa [hasSt] using e3
    rw [e1, e2, e4, tb_of]
    clear e1 e2 e3 e4
    go_enter Tryz.func173, Tryz.ntmps173
    go_wp2_with (go_at_call 192; refine (index_any _ _).mono ?_; rintro e w' ⟨rfl, rfl⟩; rw [hm])
    go_ret3
    exact ⟨rfl, 0, rfl⟩
  · obtain ⟨i, hi⟩ : ∃ i : Nat, Lib.indexByte s.data.toList 47 = i := ⟨(Lib.indexByte s.data.toList 47).toNat, by omega⟩
    obtain ⟨hlt, e1, e2, e3⟩ := cut_in _ i hi
    rw [len_l] at hlt
    have e4 : hasSt s.data.toList = true := by simpa [hasSt] using e3
    have x1 : tb (cutA s.data.toList) = s.extract 0 i := by
      apply ByteArray.ext
      apply Array.toList_inj.1
      rw [ByteArray.data_extract, Array.toList_extract, List.extract_eq_take_drop, e1]
      simp [tb]
    have x2 : tb (cutB s.data.toList) = s.extract (i + 1) s.size := by
      apply ByteArray.ext
      apply Array.toList_inj.1
      rw [ByteArray.data_extract, Array.toList_extract, List.extract_eq_take_drop, e2]
      rw [List.take_of_length_le (by rw [List.length_drop, len_l]; omega)]
      rfl
    rw [x1, x2, e4]
    have c1 : (0 : Int) ≤ ↑i := by omega
    have c2 : (↑i : Int) ≤ ↑s.size := by omega
    have c3 : (0 : Int) ≤ ↑i + 1 := by omega
    have c4 : (↑i + 1 : Int) ≤ ↑s.size := by omega
    clear e1 e2 e3 e4 x1 x2 hge hm
    go_enter Tryz.func173, Tryz.ntmps173
    go_wp2_with (go_at_call 192; refine (index_any _ _).mono ?_; rintro e w' ⟨rfl, rfl⟩; rw [hi])
    go_region
    go_wp2
    go_ret3
    exact ⟨rfl, 1, rfl⟩
set_option maxRecDepth 100000 in
set_option maxHeartbeats 1000000 in
theorem cut_any (s : ByteArray) (w : World) (hs : s.size ≤ 562949953421312) :
    Calls Tryz.prog 144 #[.string s, .string ⟨#[47]⟩] w fun e w' => e = .returned (.tuple #[.string (tb (cutA s.data.toList)), .string (tb (cutB s.data.toList)), .bool (hasSt s.data.toList)]) ∧ ∃ n, w' = w.drewN n := by
  go_enter Tryz.func144, Tryz.ntmps144
  go_wp2_with (go_at_call 173; refine (cutLite_any _ _ hs).mono ?_; rintro e w' ⟨rfl, n, rfl⟩)
  go_ret3
  exact ⟨rfl, n, rfl⟩
set_option maxRecDepth 100000 in
set_option maxHeartbeats 1000000 in
theorem hasPrefixLite_any (s p : ByteArray) (w : World) (hs : s.size ≤ 562949953421312) (hp : p.size ≤ 562949953421312) :
    Calls Tryz.prog 118 #[.string s, .string p] w fun e w' => e = .returned (.bool (Lib.hasPrefix s.data.toList p.data.toList)) ∧ w = w' := by
  rw [← Lib.hasPrefix_raw]
  go_enter Tryz.func118, Tryz.ntmps118
  go_wp2
  · rename_i h
    go_ret
    refine ⟨?_, rfl⟩
    simp [h]
  · rename_i h
    go_ret
    refine ⟨?_, rfl⟩
    simp [h]
set_option maxRecDepth 100000 in
set_option maxHeartbeats 1000000 in
theorem hasPrefix_any (s p : ByteArray) (w : World) (hs : s.size ≤ 562949953421312) (hp : p.size ≤ 562949953421312) :
    Calls Tryz.prog 88 #[.string s, .string p] w fun e w' => e = .returned (.bool (Lib.hasPrefix s.data.toList p.data.toList)) ∧ w = w' := by
  go_enter Tryz.func88, Tryz.ntmps88
  go_wp2_with (go_at_call 118; refine (hasPrefixLite_any _ _ _ hs hp).mono ?_; rintro e w' ⟨rfl, rfl⟩)
  go_ret
  exact ⟨rfl, rfl⟩
end Go.Proofs.YtdfcbnejnnibpaaGreatDoor.Pl

namespace Go.Proofs.YtdfcbnejnnibpaaGreatDoor.Pr
open Go.RowKit Pm Tx Pl
set_option linter.unusedVariables false
theorem count_spl (l : List UInt8) : l.count 47 + 1 = (spl l).length := by
  induction l with
  | nil => rfl
  | cons c r ih =>
    rw [spl]
    by_cases hc : c = 47
    · rw [if_pos hc, List.length_cons, ← ih, hc, List.count_cons_self]
    · rw [if_neg hc, List.count_cons_of_ne hc]
      cases hs : spl r with
      | nil => exact absurd hs (spl_ne r)
      | cons x xs => rw [ih, hs]; rfl
theorem spl_cut (l : List UInt8) : spl l = cutA l :: (if hasSt l then spl (cutB l) else []) := by
  induction l with
  | nil => rfl
  | cons c r ih =>
    rw [spl]
    by_cases hc : c = 47
    · simp [hc, cutA, cutB, hasSt]
    · have e : hasSt (c :: r) = hasSt r := by simp [hasSt, Ne.symm hc]
      rw [if_neg hc, ih, cutA, if_neg hc, cutB, if_neg hc, e]
theorem cutB_le (l : List UInt8) : (cutB l).length ≤ l.length := by
  induction l with
  | nil => exact Nat.le_refl _
  | cons c r ih =>
    rw [cutB]
    split
    · simp
    · simp; omega
theorem cutB_lt (l : List UInt8) (h : hasSt l = true) : (cutB l).length < l.length := by
  induction l with
  | nil => simp [hasSt] at h
  | cons c r ih =>
    rw [cutB]
    by_cases hc : c = 47
    · rw [if_pos hc]; simp
    · rw [if_neg hc]
      have := ih (by simpa [hasSt, Ne.symm hc] using h)
      simp; omega
theorem cutA_le (l : List UInt8) : (cutA l).length ≤ l.length := by
  induction l with
  | nil => exact Nat.le_refl _
  | cons c r ih =>
    rw [cutA]
    split
    · simp
    · simp; omega
def okR (c : Nat) : Bool := (97 ≤ c && c ≤ 122) || (48 ≤ c && c ≤ 57) || c == 95
set_option maxRecDepth 100000 in
set_option maxHeartbeats 1000000 in
theorem inName_any (X : Nat) (w : World) (hX : X ≤ 2147483647) :
    Calls Tryz.prog 174 #[.int .i32 X] w fun e w' => e = .returned (.bool (okR X)) ∧ w = w' := by
  rcases show (X < 48) ∨ (57 < X ∧ X < 95) ∨ X = 96 ∨ 122 < X ∨ (48 ≤ X ∧ X ≤ 57) ∨ X = 95 ∨ (97 ≤ X ∧ X ≤ 122) by omega with h | h | h | h | h | h | h
  · have hb : okR X = false := by simp [okR]; omega
    have e : ((X : Int) == 95) = false := beq_eq_false_iff_ne.2 (by omega)
    rw [hb]
    go_enter Tryz.func174, Tryz.ntmps174
    go_wp2
    go_ret
    exact ⟨rfl, rfl⟩
  · have hb : okR X = false := by simp [okR]; omega
    have e : ((X : Int) == 95) = false := beq_eq_false_iff_ne.2 (by omega)
    have d57 : decide ((X : Int) ≤ 57) = false := decide_eq_false (by omega)
    rw [hb]
    go_enter Tryz.func174, Tryz.ntmps174
    go_wp2
    go_ret
    exact ⟨rfl, rfl⟩
  · have hb : okR X = false := by simp [okR]; omega
    have e : ((X : Int) == 95) = false := beq_eq_false_iff_ne.2 (by omega)
    have d57 : decide ((X : Int) ≤ 57) = false := decide_eq_false (by omega)
    rw [hb]
    go_enter Tryz.func174, Tryz.ntmps174
    go_wp2
    go_ret
    exact ⟨rfl, rfl⟩
  · have hb : okR X = false := by simp [okR]; omega
    have e : ((X : Int) == 95) = false := beq_eq_false_iff_ne.2 (by omega)
    have d57 : decide ((X : Int) ≤ 57) = false := decide_eq_false (by omega)
    have d122 : decide ((X : Int) ≤ 122) = false := decide_eq_false (by omega)
    rw [hb]
    go_enter Tryz.func174, Tryz.ntmps174
    go_wp2
    go_ret
    exact ⟨rfl, rfl⟩
  · have hb : okR X = true := by simp [okR]; omega
    have e : ((X : Int) == 95) = false := beq_eq_false_iff_ne.2 (by omega)
    rw [hb]
    go_enter Tryz.func174, Tryz.ntmps174
    go_wp2
    go_ret
    exact ⟨rfl, rfl⟩
  · have hb : okR X = true := by simp [okR]; omega
    have e : ((X : Int) == 95) = true := by simp [h]
    rw [hb]
    go_enter Tryz.func174, Tryz.ntmps174
    go_wp2
    go_ret
    exact ⟨rfl, rfl⟩
  · have hb : okR X = true := by simp [okR]; omega
    have e : ((X : Int) == 95) = false := beq_eq_false_iff_ne.2 (by omega)
    rw [hb]
    go_enter Tryz.func174, Tryz.ntmps174
    go_wp2
    go_ret
    exact ⟨rfl, rfl⟩
theorem below_iter (w : World) (s : ByteArray) (pos : Nat) : Below w.heap.size w (w.iter s pos) := by
  have := (Below.refl w.heap.size w).alloc (Nat.le_refl _) (.stringIter s pos)
  exact this
set_option maxRecDepth 100000 in
set_option maxHeartbeats 1000000 in
theorem pName_any (s : ByteArray) (w : World) (hs : s.size ≤ 562949953421312) :
    Calls Tryz.prog 145 #[.string s] w fun e w' => e = .returned (.bool (isName s.data.toList)) ∧ Below w.heap.size w w' := by
  by_cases h0 : s = ⟨#[]⟩
  · have hn : isName s.data.toList = false := by rw [list_nil h0]; rfl
    have e1 := is_empty h0
    rw [hn]
    clear hn h0
    go_enter Tryz.func145, Tryz.ntmps145
    go_wp2
    go_ret
    exact ⟨rfl, Below.refl _ _⟩
  have hpos : 1 ≤ s.size := by
    rcases Nat.eq_zero_or_pos s.size with h | h
    · exact absurd (size_zero.1 h) h0
    · exact h
  have e1 := not_empty h0
  clear h0
  by_cases h12 : s.size ≤ 12
  · go_enter Tryz.func145, Tryz.ntmps145
    go_wp2
    go_loopw [] (fun wr => ∃ k : Nat, k ≤ s.size ∧ wr = w.iter s k ∧ Hid ((s.data.toList.take k).all okC = true)) (fun wr => s.size - wr.iterPos w.heap.size)
    case atStart => exact ⟨0, Nat.zero_le _, rfl, rfl⟩
    case round =>
      obtain ⟨k, hk, rfl, hall⟩ := hrel
      by_cases hlt : k < s.size
      · have hnx : ∀ ty, (Instr.next (.pointer (some ⟨w.heap.size, 0, none⟩)) true ty).run Tryz.prog (w.iter s k) = _ := fun ty => run_next_any w s k ty hlt
        have hd1 := decode_le s k
        by_cases ha : s[k].toNat < 128
        · rw [decode_ascii s k hlt ha] at hnx
          have hgood := fun h => Lib.hid (all_at s k hlt hall.out h)
          have hbad := fun h => Lib.hid (all_not s k hlt h)
          obtain ⟨X, hXe⟩ : ∃ X, X = s[k].toNat := ⟨_, rfl⟩
          have hok : okC s[k] = okR X := by rw [hXe]; rfl
          rw [hok] at hgood hbad
          rw [← hXe] at hnx ha
          clear hok hXe hall hd1
          cases hx : okR X with
          | true =>
            have hb := hgood hx
            clear hgood hbad
            go_wp2_with (go_at_call 174; refine (inName_any X _ (by omega)).mono ?_; rintro e w' ⟨rfl, rfl⟩; rw [hx])
            go_roundw
            case rel => exact ⟨k + 1, by omega, rfl, hb.out⟩
            case measure => simp; omega
          | false =>
            have hb := hbad hx
            clear hgood hbad
            go_wp2_with (go_at_call 174; refine (inName_any X _ (by omega)).mono ?_; rintro e w' ⟨rfl, rfl⟩; rw [hx])
            go_ret
            exact ⟨by rw [hb.out]; rfl, below_iter _ _ _⟩
        · have hdh := (decode_high s k hlt (by omega)).1
          have hb := Lib.hid (all_not s k hlt (by simp [okC]; omega))
          obtain ⟨X, hXe⟩ : ∃ X, X = (Utf8.decode s k).1 := ⟨_, rfl⟩
          rw [← hXe] at hnx hdh hd1
          have hx : okR X = false := by simp [okR]; omega
          clear hXe hall
          go_wp2_with (go_at_call 174; refine (inName_any X _ (by omega)).mono ?_; rintro e w' ⟨rfl, rfl⟩; rw [hx])
          go_ret
          exact ⟨by rw [hb.out]; rfl, below_iter _ _ _⟩
      · have hnx : ∀ ty, (Instr.next (.pointer (some ⟨w.heap.size, 0, none⟩)) true ty).run Tryz.prog (w.iter s k) = _ := fun ty => run_next_end w s k ty hlt
        obtain rfl : k = s.size := by omega
        have hn : isName s.data.toList = true := by
          have h := hall.out
          rw [take_all] at h
          rw [isName, h, len_l]
          simp [hpos, h12]
        have HN := Lib.hid hn
        clear hn hall
        go_wp2
        go_ret
        exact ⟨by rw [HN.out]; rfl, below_iter _ _ _⟩
  · have hn : isName s.data.toList = false := by
      rw [isName, len_l]
      simp [h12]
    rw [hn]
    go_enter Tryz.func145, Tryz.ntmps145
    go_wp2
    go_ret
    exact ⟨rfl, Below.refl _ _⟩
set_option maxRecDepth 100000 in
set_option maxHeartbeats 1000000 in
theorem lastStroke_any (s : ByteArray) (w : World) (hs : s.size ≤ 562949953421312) :
    Calls Tryz.prog 147 #[.string s] w fun e w' => e = .returned (.int .i64 ((lastN s.data.toList : Nat) - 1)) ∧ w = w' := by
  go_enter Tryz.func147, Tryz.ntmps147
  go_wp2_with (go_at_call 178; refine (last_any _ _ hs).mono ?_; rintro e w' ⟨rfl, rfl⟩)
  go_ret
  exact ⟨rfl, rfl⟩
set_option maxRecDepth 100000 in
set_option maxHeartbeats 1000000 in
theorem pParent_any (s : ByteArray) (w : World) (hs : s.size ≤ 562949953421312) :
    Calls Tryz.prog 106 #[.string s] w fun e w' => e = .returned (.string (tb (par s.data.toList))) ∧ Below w.heap.size w w' := by
  have cl := fun W => lastStroke_any s W hs
  have hL := lastN_le s.data.toList
  rw [len_l] at hL
  rw [← par_ext]
  obtain ⟨L, hLe⟩ : ∃ L, L = lastN s.data.toList := ⟨_, rfl⟩
  rw [← hLe] at cl hL ⊢
  clear hLe
  by_cases h0 : L = 0
  · subst h0
    go_enter Tryz.func106, Tryz.ntmps106
    go_wp2_with (go_at_call 147; refine (cl _).mono ?_; rintro e w1 ⟨rfl, rfl⟩)
    go_ret
    exact ⟨by first | (simp; done) | (simp; exact Or.inl (by decide)), Below.refl _ _⟩
  · obtain ⟨K, rfl⟩ : ∃ K, L = K + 1 := ⟨L - 1, by omega⟩
    have e1 : ((K + 1 : Nat) : Int) - 1 = K := by omega
    rw [e1] at cl
    rw [Nat.add_sub_cancel]
    clear h0
    go_enter Tryz.func106, Tryz.ntmps106
    go_wp2_with (go_at_call 147; refine (cl _).mono ?_; rintro e w1 ⟨rfl, rfl⟩)
    go_ret
    exact ⟨rfl, Below.refl _ _⟩
set_option maxRecDepth 100000 in
set_option maxHeartbeats 1000000 in
theorem pJoin_any (a b : ByteArray) (w : World) (hs : a.size + b.size ≤ 562949953421312) :
    Calls Tryz.prog 22 #[.string a, .string b] w fun e w' => e = .returned (.string (tb (joi a.data.toList b.data.toList))) ∧ Below w.heap.size w w' := by
  by_cases h1 : a = ⟨#[]⟩
  · have e1 := is_empty h1
    have HR : tb (joi a.data.toList b.data.toList) = b := by
      rw [joi, if_neg (fun h => h.1 (list_nil h1)), list_nil h1]
      exact tb_of b
    rw [HR]
    clear HR h1
    go_enter Tryz.func22, Tryz.ntmps22
    go_wp2
    go_ret
    exact ⟨rfl, Below.refl _ _⟩
  · by_cases h2 : b = ⟨#[]⟩
    · have e1 := not_empty h1
      have e2 := is_empty h2
      have HR : tb (joi a.data.toList b.data.toList) = a := by
        rw [joi, if_neg (fun h => h.2 (list_nil h2)), list_nil h2, List.append_nil]
        exact tb_of a
      rw [HR]
      clear HR h1 h2
      go_enter Tryz.func22, Tryz.ntmps22
      go_wp2
      go_ret
      exact ⟨rfl, Below.refl _ _⟩
    · have e1 := not_empty h1
      have e2 := not_empty h2
      have HR : tb (joi a.data.toList b.data.toList) = a ++ ⟨#[47]⟩ ++ b := by
        rw [joi, if_pos ⟨list_ne h1, list_ne h2⟩]
        apply ByteArray.ext
        apply Array.toList_inj.1
        simp [tb]
      rw [HR]
      clear HR h1 h2
      go_enter Tryz.func22, Tryz.ntmps22
      go_wp2
      go_ret
      exact ⟨rfl, Below.refl _ _⟩
set_option maxRecDepth 100000 in
set_option maxHeartbeats 1000000 in
theorem pDeep_any (p : ByteArray) (w : World) (hs : p.size ≤ 562949953421312) :
    Calls Tryz.prog 105 #[.string p] w fun e w' => e = .returned (.int .i64 (dep p.data.toList : Nat)) ∧ Below w.heap.size w w' := by
  by_cases h1 : p = ⟨#[]⟩
  · have e1 := is_empty h1
    have e2 : dep p.data.toList = 0 := by rw [dep, if_pos (list_nil h1)]
    rw [e2]
    clear h1 e2
    go_enter Tryz.func105, Tryz.ntmps105
    go_wp2
    go_ret
    exact ⟨rfl, Below.refl _ _⟩
  · have e1 := not_empty h1
    have e2 : dep p.data.toList = p.data.toList.count 47 + 1 := by rw [dep, if_neg (list_ne h1), count_spl]
    rw [e2]
    have cs := fun W => count_any p W
    have hc : p.data.toList.count 47 ≤ p.size := by rw [← len_l]; exact List.count_le_length
    obtain ⟨C, hC⟩ : ∃ C, C = p.data.toList.count 47 := ⟨_, rfl⟩
    rw [← hC] at cs hc ⊢
    clear h1 e2 hC
    go_enter Tryz.func105, Tryz.ntmps105
    go_wp2_with (go_at_call 146; refine (cs _).mono ?_; rintro e w1 ⟨rfl, rfl⟩)
    go_ret
    exact ⟨by first | rfl | go_num, Below.refl _ _⟩
theorem names_cut (l : List UInt8) : (spl l).all isName = (isName (cutA l) && (if hasSt l then (spl (cutB l)).all isName else true)) := by
  rw [spl_cut, List.all_cons]
  cases hasSt l <;> rfl
def strLen : Value → Nat
  | .string s => s.size
  | _ => 0
set_option maxRecDepth 100000 in
set_option maxHeartbeats 1000000 in
theorem pCheck_any (p : ByteArray) (d : Int) (w : World) (hs : p.size ≤ 562949953421312) (h1 : -9223372036854775808 ≤ d) (h2 : d ≤ 9223372036854775807) :
    Calls Tryz.prog 104 #[.string p, .int .i64 d] w fun e w' => e = .returned (.int .i64 (chk p.data.toList d : Nat)) ∧ Below w.heap.size w w' := by
  have cd := fun W => pDeep_any p W hs
  by_cases hd : (dep p.data.toList : Int) > d
  · have hr : chk p.data.toList d = 10 := by
      rw [chk, isPath, if_neg]
      intro h
      rw [Bool.and_eq_true] at h
      have := of_decide_eq_true h.1
      rw [dep] at hd
      split at hd
      · rename_i h0
        rw [h0] at h
        have := h.2
        revert this
        decide
      · omega
    rw [hr]
    have hdl : dep p.data.toList ≤ p.size + 1 := by
      have := spl_len p.data.toList
      rw [len_l] at this
      rw [dep]
      split <;> omega
    obtain ⟨D, hD⟩ : ∃ D, D = dep p.data.toList := ⟨_, rfl⟩
    rw [← hD] at cd hd hdl
    clear hr hD
    go_enter Tryz.func104, Tryz.ntmps104
    go_wp2_with (go_at_call 105; refine (cd _).mono ?_; rintro e w1 ⟨rfl, hb1⟩)
    go_ret
    exact ⟨rfl, hb1⟩
  · have hr : chk p.data.toList d = if (spl p.data.toList).all isName then 0 else 10 := by
      rw [chk, isPath]
      rw [dep] at hd
      split at hd
      · rename_i h0
        rw [h0]
        have e : (spl []).all isName = false := by decide
        rw [e, Bool.and_false]
      · rw [decide_eq_true (by omega), Bool.true_and]
    have HR := Lib.hid hr
    have hdl : dep p.data.toList ≤ p.size + 1 := by
      have := spl_len p.data.toList
      rw [len_l] at this
      rw [dep]
      split <;> omega
    obtain ⟨D, hD⟩ : ∃ D, D = dep p.data.toList := ⟨_, rfl⟩
    rw [← hD] at cd hd hdl
    clear hr hD
    go_enter Tryz.func104, Tryz.ntmps104
    go_wp2_with (go_at_call 105; refine (cd _).mono ?_; rintro e w1 ⟨rfl, hb1⟩)
    go_loopw [0, 5, 6, 7] (fun q a b m wr => ∃ l : List UInt8, q = .string (tb l) ∧ l.length ≤ p.size ∧ Hid ((spl p.data.toList).all isName = (spl l).all isName) ∧ Below w.heap.size w wr) (fun q _ _ _ _ => strLen q)
    case atStart => exact ⟨p.data.toList, by rw [tb_of], by rw [len_l]; exact Nat.le_refl _, rfl, hb1⟩
    case round =>
      obtain ⟨l, rfl, hl, hinv, hb⟩ := hrel
      have cc := fun W => cut_any (tb l) W (by rw [tb_size]; omega)
      have hA := cutA_le l
      have hB := cutB_le l
      have hB2 := cutB_lt l
      have cn := fun W => pName_any (tb (cutA l)) W (by rw [tb_size]; omega)
      rw [tb_list] at cc cn
      have hcut := names_cut l
      cases hn : isName (cutA l) with
      | false =>
        have hno : (spl p.data.toList).all isName = false := by rw [hinv.out, hcut, hn]; rfl
        have hr := Lib.hid (show chk p.data.toList d = 10 by rw [HR.out, hno]; rfl)
        rw [hn] at cn
        clear hinv HR hcut hno hn hB2
        go_wp2_with (first | (go_at_call 144; refine (cc _).mono ?_; rintro e w1 ⟨rfl, n1, rfl⟩) | (go_at_call 145; refine (cn _).mono ?_; rintro e w2 ⟨rfl, hb2⟩))
        go_ret
        exact ⟨by rw [hr.out]; rfl, below_call (below_drewN hb n1) hb2⟩
      | true =>
        rw [hn] at cn
        cases hst : hasSt l with
        | false =>
          have hyes : (spl p.data.toList).all isName = true := by rw [hinv.out, hcut, hn, hst]; rfl
          have hr := Lib.hid (show chk p.data.toList d = 0 by rw [HR.out, hyes]; rfl)
          rw [hst] at cc
          clear hinv HR hcut hyes hn hB2 hst
          go_wp2_with (first | (go_at_call 144; refine (cc _).mono ?_; rintro e w1 ⟨rfl, n1, rfl⟩) | (go_at_call 145; refine (cn _).mono ?_; rintro e w2 ⟨rfl, hb2⟩))
          go_ret
          exact ⟨by rw [hr.out]; rfl, below_call (below_drewN hb n1) hb2⟩
        | true =>
          have hnext : Hid ((spl p.data.toList).all isName = (spl (cutB l)).all isName) := Lib.hid (by rw [hinv.out, hcut, hn, hst]; rfl)
          have hlt := hB2 hst
          rw [hst] at cc
          clear hinv HR hcut hn hB2 hst
          go_wp2_with (first | (go_at_call 144; refine (cc _).mono ?_; rintro e w1 ⟨rfl, n1, rfl⟩) | (go_at_call 145; refine (cn _).mono ?_; rintro e w2 ⟨rfl, hb2⟩))
          go_roundw
          case rel => exact ⟨cutB l, rfl, by omega, hnext, below_call (below_drewN hb n1) hb2⟩
          case measure => simp [strLen, tb_size]; omega
end Go.Proofs.YtdfcbnejnnibpaaGreatDoor.Pr

namespace Go.Proofs.YtdfcbnejnnibpaaGreatDoor.Dk
open Go.RowKit Tx Pm Pl Pr
set_option linter.unusedVariables false
theorem vol_cut (p : ByteArray) : vol p = tb (cutA p.data.toList) := by
  unfold vol
  rw [spl_cut]
  rfl
theorem below_drewN (w : World) (n : Nat) : Below w.heap.size w (w.drewN n) := by
  induction n with
  | zero => exact Below.refl _ _
  | succ n ih => exact ih.drew
set_option maxRecDepth 100000 in
theorem iVol_any (p : ByteArray) (w : World) (hp : p.size ≤ 8000000000000) :
    Calls Tryz.prog 138 #[.string p] w fun e w' => e = .returned (.string (vol p)) ∧ ∃ n, w' = w.drewN n := by
  have c1 := fun W => cut_any p W (by omega)
  rw [vol_cut]
  go_enter Tryz.func138, Tryz.ntmps138
  go_wp2_with (go_at_call 144; refine (c1 _).mono ?_; rintro e w' ⟨rfl, n, rfl⟩)
  go_ret
  exact ⟨rfl, _, rfl⟩
def mbf (L : List It) (p : ByteArray) : Nat := if kind L p = 0 then 11 else if kind L p = 1 then 12 else 0
theorem fld0 (k : Int) (s t : ByteArray) (st n : Int) (w : World) : (Instr.field 87 (.agg #[.int .i64 k, .string s, .string t, .int .i64 st, .int .i64 n]) 0).run Tryz.prog w = .ok (.int .i64 k) w := by kernel_rfl
theorem fld1 (k : Int) (s t : ByteArray) (st n : Int) (w : World) : (Instr.field 87 (.agg #[.int .i64 k, .string s, .string t, .int .i64 st, .int .i64 n]) 1).run Tryz.prog w = .ok (.string s) w := by kernel_rfl
theorem fld2 (k : Int) (s t : ByteArray) (st n : Int) (w : World) : (Instr.field 87 (.agg #[.int .i64 k, .string s, .string t, .int .i64 st, .int .i64 n]) 2).run Tryz.prog w = .ok (.string t) w := by kernel_rfl
set_option maxRecDepth 100000 in
theorem iMbf_any (b bi bl : Nat) (l : Int) (s : St) (p : ByteArray) (w : World) (h : Ia b bi bl l w s) (hp : p.size ≤ 8000000000000) :
    Calls Tryz.prog 73 #[.pointer (some ⟨b, 0, none⟩), .string p] w fun e w' => e = .returned (.int .i64 (mbf s.L p : Nat)) ∧ w = w' := by
  have hl := h.look (maxLen_of hp)
  obtain ⟨c0, c1, c2, c3, c4, c5⟩ := h.cell
  have f0 := fld0
  unfold mbf
  generalize kind s.L p = K at hl ⊢
  clear h c1 c2 c3 c4 c5
  by_cases h0 : K = 0
  · subst h0
    rw [if_pos rfl]
    go_enter Tryz.func73, Tryz.ntmps73
    go_wp2
    go_ret
    exact ⟨rfl, rfl⟩
  · rw [if_neg h0]
    by_cases h1 : K = 1
    · subst h1
      rw [if_pos rfl]
      go_enter Tryz.func73, Tryz.ntmps73
      go_wp2
      go_ret
      exact ⟨rfl, rfl⟩
    · rw [if_neg h1]
      have e0 : ((K : Int) == 0) = false := beq_eq_false_iff_ne.2 (by omega)
      have e1 : ((K : Int) == 1) = false := beq_eq_false_iff_ne.2 (by omega)
      clear h0 h1
      go_enter Tryz.func73, Tryz.ntmps73
      go_wp2
      go_ret
      exact ⟨rfl, rfl⟩
set_option maxRecDepth 100000 in
theorem iKind_any (b bi bl : Nat) (l : Int) (s : St) (p : ByteArray) (w : World) (h : Ia b bi bl l w s) (hp : p.size ≤ 8000000000000) :
    Calls Tryz.prog 20 #[.pointer (some ⟨b, 0, none⟩), .string p] w fun e w' => e = .returned (.int .i64 (kind s.L p : Nat)) ∧ w = w' := by
  have hl := h.look (maxLen_of hp)
  obtain ⟨c0, c1, c2, c3, c4, c5⟩ := h.cell
  have f0 := fld0
  generalize kind s.L p = K at hl ⊢
  clear h c1 c2 c3 c4 c5
  go_enter Tryz.func20, Tryz.ntmps20
  go_wp2
  go_ret
  exact ⟨rfl, rfl⟩
theorem tb_nil {l : List UInt8} (h : l = []) : tb l = ⟨#[]⟩ := by rw [h]; rfl
theorem tb_ne {l : List UInt8} (h : l ≠ []) : tb l ≠ ⟨#[]⟩ := fun e => h (by
  have := congrArg (fun x : ByteArray => x.data.toList) e
  simpa [tb] using this)
theorem par_len (l : List UInt8) : (tb (par l)).size ≤ l.length := by
  unfold par
  simp [tb, ByteArray.size]
  exact Nat.min_le_right _ _
set_option maxRecDepth 100000 in
theorem iHome_any (b bi bl : Nat) (l : Int) (s : St) (p : ByteArray) (w : World) (h : Ia b bi bl l w s) (hp : p.size ≤ 8000000000000) :
    Calls Tryz.prog 72 #[.pointer (some ⟨b, 0, none⟩), .string p] w fun e w' => e = .returned (.bool (home s.L p)) ∧ Below w.heap.size w w' := by
  have cp := pParent_any p w (by omega)
  have hq := par_len p.data.toList
  rw [len_l] at hq
  have hl := fun W (hW : Below w.heap.size w W) => (h.below hW).look (p := tb (par p.data.toList)) (maxLen_of (by omega))
  have hc := fun W (hW : Below w.heap.size w W) => (h.below hW).cell.1
  have f0 := fld0
  unfold home
  by_cases h0 : par p.data.toList = []
  · have e0 : (tb (par p.data.toList)).toList.isEmpty = true := is_empty (tb_nil h0)
    rw [tb_nil h0] at cp
    have e1 : (decide (par p.data.toList = []) || decide (kind s.L (tb (par p.data.toList)) = 1)) = true := by simp [h0]
    rw [e1]
    clear hl hc h e0 e1 h0 hq
    go_enter Tryz.func72, Tryz.ntmps72
    go_wp2_with (go_at_call 106; refine cp.mono ?_; rintro e w1 ⟨rfl, hb⟩)
    go_ret
    exact ⟨rfl, hb⟩
  · have e0 : (tb (par p.data.toList)).toList.isEmpty = false := not_empty (tb_ne h0)
    have e1 : (decide (par p.data.toList = []) || decide (kind s.L (tb (par p.data.toList)) = 1)) = decide (kind s.L (tb (par p.data.toList)) = 1) := by simp [h0]
    rw [e1]
    clear e1 h0 hq h
    generalize tb (par p.data.toList) = q at hl hc cp e0 ⊢
    generalize kind s.L q = K at hl ⊢
    have HL := Lib.hid hl
    have HC := Lib.hid hc
    clear hl hc
    by_cases h1 : K = 1
    · subst h1
      go_enter Tryz.func72, Tryz.ntmps72
      go_wp2_with (go_at_call 106; refine cp.mono ?_; rintro e w1 ⟨rfl, hb⟩; have c0 := HC.out _ hb; have l0 := HL.out _ hb)
      go_ret
      exact ⟨rfl, hb⟩
    · have e2 : ((K : Int) == 1) = false := beq_eq_false_iff_ne.2 (by omega)
      have e3 : decide (K = 1) = false := decide_eq_false h1
      rw [e3]
      clear h1 e3
      go_enter Tryz.func72, Tryz.ntmps72
      go_wp2_with (go_at_call 106; refine cp.mono ?_; rintro e w1 ⟨rfl, hb⟩; have c0 := HC.out _ hb; have l0 := HL.out _ hb)
      go_ret
      exact ⟨rfl, hb⟩
end Go.Proofs.YtdfcbnejnnibpaaGreatDoor.Dk

namespace Go.Proofs.YtdfcbnejnnibpaaGreatDoor.Dk
open Go.RowKit Tx Pm
set_option linter.unusedVariables false
def came (L : List It) (left : Lit → Bool) : List It := L.filter (fun y => !left (kL y.path))
def less (left : Lit → Bool) (p : ByteArray) : Lit → Bool := fun z => left z && !z.sameKey (kL p)
theorem less_same (left : Lit → Bool) (p : ByteArray) : less left p (kL p) = false := by
  unfold less
  rw [WideAt.sameKey_self (kL_key p)]
  simp
theorem less_other (left : Lit → Bool) {p q : ByteArray} (h : q ≠ p) : less left p (kL q) = left (kL q) := by
  unfold less
  rw [Go.Maps.sameKey_ne (fun e => h (kL_inj e))]
  simp
theorem came_step {left : Lit → Bool} {x : It} (hl : left (kL x.path) = true) : ∀ {L : List It}, Rises L → x ∈ L → (came L (less left x.path)).Perm (x :: came L left)
  | [], _, hx => by cases hx
  | y :: L, hr, hx => by
    obtain ⟨h1, h2⟩ := List.pairwise_cons.1 hr
    by_cases he : y.path = x.path
    · have hyx : x = y := by
        rcases List.mem_cons.1 hx with h | h
        · exact h
        · have := h1 x h
          rw [he, less_irrefl] at this
          cases this
      subst hyx
      have e1 : came L (less left x.path) = came L left := by
        unfold came
        refine List.filter_congr (fun z hz => ?_)
        rw [less_other left (fun e => by have := h1 z hz; rw [e, less_irrefl] at this; cases this)]
      have e2 : came (x :: L) (less left x.path) = x :: came L (less left x.path) := by
        unfold came
        rw [List.filter_cons_of_pos (by rw [less_same]; rfl)]
      have e3 : came (x :: L) left = came L left := by
        unfold came
        rw [List.filter_cons_of_neg (by rw [hl]; simp)]
      rw [e2, e3, e1]
    · have hxL : x ∈ L := by
        rcases List.mem_cons.1 hx with h | h
        · exact absurd (by rw [h]) he
        · exact h
      have ih := came_step hl h2 hxL
      cases hy : left (kL y.path) with
      | true =>
        have e2 : came (y :: L) (less left x.path) = came L (less left x.path) := by
          unfold came
          rw [List.filter_cons_of_neg (by rw [less_other left he, hy]; simp)]
        have e3 : came (y :: L) left = came L left := by
          unfold came
          rw [List.filter_cons_of_neg (by rw [hy]; simp)]
        rw [e2, e3]
        exact ih
      | false =>
        have e2 : came (y :: L) (less left x.path) = y :: came L (less left x.path) := by
          unfold came
          rw [List.filter_cons_of_pos (by rw [less_other left he, hy]; rfl)]
        have e3 : came (y :: L) left = y :: came L left := by
          unfold came
          rw [List.filter_cons_of_pos (by rw [hy]; rfl)]
        rw [e2, e3]
        exact (ih.cons y).trans (List.Perm.swap x y _)
theorem came_start {D : DataW Unit} {L : List It} (h : ReadsI D L) : came L (Go.Maps.has D) = [] := by
  unfold came
  refine List.filter_eq_nil_iff.2 (fun y hy => ?_)
  rw [readsI_has h]
  have : (find L y.path).isSome = true := List.find?_isSome.2 ⟨y, hy, by simp⟩
  rw [this]
  simp
theorem came_end {left : Lit → Bool} (L : List It) (h : ∀ z, left z = false) : came L left = L := by
  unfold came
  exact List.filter_eq_self.2 (fun y hy => by rw [h]; rfl)
theorem came_sub (L : List It) (left : Lit → Bool) : (came L left).Sublist L := List.filter_sublist
theorem key_is {v : ByteArray} {kl : Lit} (h : keyOf Tryz.prog 9 (.string v) = some kl) : kl = kL v ∧ v.size ≤ maxLen := by
  obtain ⟨s, h1, h2, h3⟩ := Go.WideMaps.string_of_keyOf Tryz.underlying9 h
  cases h1
  exact ⟨h2, h3⟩
theorem key_string {key : Value} {kl : Lit} (h : keyOf Tryz.prog 9 key = some kl) : ∃ x : ByteArray, key = .string x := by
  obtain ⟨s, h1, _⟩ := Go.WideMaps.string_of_keyOf Tryz.underlying9 h
  exact ⟨s, h1⟩
theorem next_items (w : World) {ops : Array Oper} {rest : List Oper} {o : Oper} {a : Act} {Q : Exit → Act → World → Prop} (hg : o.guard = none) (it : Operand) (hop : o.op = Op.next it false) (b r n : Nat) (D : DataW Unit) (left : Lit → Bool) (cnt : Nat) (L : List It)
    (hit : a.eval it = .pointer (some ⟨r, 0, none⟩)) (h : w.ranges Tryz.prog 9 itemR b r n D left cnt) (hD : ReadsI D L)
    (hDone : (∀ z, left z = false) → wpList Tryz.prog ops Q rest (a.put o.dst (.tuple #[.bool false])) w)
    (hMore : ∀ (x : It) (w' : World) (cnt' : Nat), x ∈ L → left (kL x.path) = true → w'.ranges Tryz.prog 9 itemR b r n D (less left x.path) cnt' → cnt' < cnt → w.grownBy w' (some r) → w'.heap.size = w.heap.size →
      (Instr.entry (.pointer (some ⟨r, 0, none⟩))).run Tryz.prog w' = .ok (.tuple #[.string x.path, .agg #[.int .i64 (kOf x), .string x.data, .string x.kept, .int .i64 (stOf x), .int .i64 x.stamp]]) w' →
      wpList Tryz.prog ops Q rest (a.put o.dst (.tuple #[.bool true, .string x.path, .agg #[.int .i64 (kOf x), .string x.data, .string x.kept, .int .i64 (stOf x), .int .i64 x.stamp]])) w') :
    wpList Tryz.prog ops Q (o :: rest) a w := by
  refine wpList_next_ranges w hg it hop 9 strK itemR (Value.string) (fun c : Int × ByteArray × ByteArray × Int × Int => mv c.1 c.2.1 c.2.2.1 c.2.2.2.1 c.2.2.2.2)
    (fun key kl hk => key_string hk) (fun v y hv => by obtain ⟨k, s, t, st, m, rfl, _⟩ := itemR_inv hv; exact ⟨(k, s, t, st, m), rfl⟩)
    b r n D left cnt hit h (fun _ hl => hDone hl) (fun p c kl y w' cnt' hkey hlk hv hat hrg hlt hgr hsz hen => ?_)
  obtain ⟨k, s, t, st, m⟩ := c
  obtain ⟨rfl, hps⟩ := key_is hkey
  have hv : itemR (mv k s t st m) = some y := hv
  rw [itemR_mv] at hv
  injection hv with hv
  subst hv
  have hat : ∀ zd, D.atKey (kL p) zd = dv3 k s t st m := hat
  cases hf : find L p with
  | none =>
    have h1 := hat .nil
    rw [hD p, hf] at h1
    cases h1
  | some x =>
    have h1 := hat .nil
    rw [hD p, hf] at h1
    obtain ⟨rfl, rfl, rfl, rfl, rfl⟩ := dv3_inj h1
    obtain ⟨hm, rfl⟩ := find_mem hf
    exact hMore x w' cnt' hm hlk hrg hlt hgr hsz hen
theorem range_items (w : World) {ops : Array Oper} {rest : List Oper} {o : Oper} {a : Act} {Q : Exit → Act → World → Prop} (hg : o.guard = none) (m : Operand) (hop : o.op = Op.range 60 m) (b : Nat) (L : List It)
    (hm : a.eval m = .map (some b)) (h : Mp w b L)
    (hK : ∀ (D : DataW Unit) (w' : World), ReadsI D L → w'.ranges Tryz.prog 9 itemR b w.heap.size L.length D (Go.Maps.has D) (Go.Maps.size D) → w.grownBy w' none → w'.heap.size = w.heap.size + 1 → wpList Tryz.prog ops Q rest (a.put o.dst (.pointer (some ⟨w.heap.size, 0, none⟩))) w') :
    wpList Tryz.prog ops Q (o :: rest) a w := by
  obtain ⟨D, ho, hr, _⟩ := h
  exact wpList_range_own w hg m _ hop 9 87 strK Tryz.underlying60 itemR b L.length D hm ho (fun w' h1 h2 h3 => hK D w' hr h1 h2 h3)
theorem below_grown {W w w' : World} {B r : Nat} (h : Below B W w) (hg : w.grownBy w' (some r)) (hB : B ≤ w.heap.size) (hr : B ≤ r) : Below B W w' := h.grown hg hB (fun j hj => by cases hj; exact hr)
end Go.Proofs.YtdfcbnejnnibpaaGreatDoor.Dk

namespace Go.Proofs.YtdfcbnejnnibpaaGreatDoor.Fr
open Go.RowKit Wm Wr Fm
set_option linter.unusedVariables false
theorem info9 : (Tryz.prog.info? 9).map (fun i => (i.zero, i.size, i.bytes)) = some (some (.string ⟨#[]⟩), 1, 16) := by kernel_rfl
def sv (s : ByteArray) : Value := .string s
theorem sv_one (l : List ByteArray) : ∀ u ∈ l.map sv, u.oneCell' = true := by
  intro u hu
  obtain ⟨s, _, rfl⟩ := List.mem_map.1 hu
  rfl
def Texts (w : World) (B : Nat) (v : Value) (l : List ByteArray) : Prop := w.ownsRow B 9 1 v l.length (l.map sv)
theorem Texts.below {w w1 : World} {B : Nat} {v : Value} {l : List ByteArray} (h : Texts w B v l) (hb : Below w.heap.size w w1) : Texts w1 B v l := by
  refine ⟨h.1, ?_⟩
  rcases h.2 with h0 | ⟨g', cap', cur, hv, hg, hh, r⟩
  · exact .inl h0
  · exact .inr ⟨g', cap', cur, hv, hg, (hb.block g' (Array.getElem?_eq_some_iff.1 hh).1).trans hh, r⟩
def ScanTo (s : ByteArray) (w : World) (e : Ending) (w' : World) : Prop := ∃ v, e = .returned (.tuple #[v, .int .i64 ((sc s 0).2.1 : Int), .int .i64 ((sc s 0).2.2 : Int)]) ∧ Texts w' w.heap.size v (sc s 0).1 ∧ Below w.heap.size w w'
def Far (s : ByteArray) (pre : List ByteArray) (a : Nat) : Prop := sc s 0 = (pre ++ (sc s a).1, (sc s a).2.1, (sc s a).2.2) ∧ a ≤ s.size ∧ pre.length ≤ a
theorem far_start (s : ByteArray) : Far s [] 0 := ⟨rfl, Nat.zero_le _, Nat.le_refl _⟩
theorem far_step {s t : ByteArray} {pre : List ByteArray} {a n : Nat} (h : Far s pre a) (ha : a < s.size) (h2 : fr (s.extract a s.size) = (t, n, 0)) : Far s (pre ++ [t]) (a + n) := by
  obtain ⟨h1, h3, h4⟩ := h
  have hk := fr_ok h2
  have hs : (s.extract a s.size).size = s.size - a := by simp
  refine ⟨?_, by omega, by rw [List.length_append]; show _ + 1 ≤ _; omega⟩
  rw [h1, sc_one ha h2]
  simp
theorem far_bad {s t : ByteArray} {pre : List ByteArray} {a n e : Nat} (h : Far s pre a) (ha : a < s.size) (h2 : fr (s.extract a s.size) = (t, n, e)) (he : e ≠ 0) : sc s 0 = (pre, a, e) := by
  rw [h.1, sc_bad ha h2 he, List.append_nil]
theorem far_end {s : ByteArray} {pre : List ByteArray} {a : Nat} (h : Far s pre a) (ha : ¬ a < s.size) : sc s 0 = (pre, a, 0) := by
  rw [h.1, sc_end ha, List.append_nil]
end Go.Proofs.YtdfcbnejnnibpaaGreatDoor.Fr

namespace Go.Proofs.YtdfcbnejnnibpaaGreatDoor.Fr
open Go.RowKit Wm Wr Fm
set_option linter.unusedVariables false
def Strs (w : World) (a : Option Addr) (n : Nat) (l : List ByteArray) : Prop := l.length = n ∧ (n = 0 ∨ ∃ b off, a = some ⟨b, off, none⟩ ∧ b < w.heap.size ∧ ∀ k x, l[k]? = some x → w.cell? ⟨b, off + k, none⟩ = some (.string x))
theorem Strs.below {w w1 : World} {a : Option Addr} {n : Nat} {l : List ByteArray} (h : Strs w a n l) (hb : Below w.heap.size w w1) : Strs w1 a n l := by
  refine ⟨h.1, ?_⟩
  rcases h.2 with h0 | ⟨b, off, ha, hlt, hc⟩
  · exact .inl h0
  · exact .inr ⟨b, off, ha, Nat.lt_of_lt_of_le hlt hb.size, fun k x hx => (hb.cell (p := ⟨b, off + k, none⟩) hlt).trans (hc k x hx)⟩
theorem Strs.take {w : World} {a : Option Addr} {n m : Nat} {l : List ByteArray} (h : Strs w a n l) (hm : m ≤ n) : Strs w a m (l.take m) := by
  refine ⟨by rw [List.length_take, h.1]; omega, ?_⟩
  rcases h.2 with h0 | ⟨b, off, ha, hlt, hc⟩
  · exact .inl (by omega)
  · refine .inr ⟨b, off, ha, hlt, fun k x hx => hc k x ?_⟩
    rw [List.getElem?_take] at hx
    split at hx
    · exact hx
    · cases hx
theorem Texts.form {w : World} {B : Nat} {v : Value} {l : List ByteArray} (h : Texts w B v l) : ∃ a c, v = .slice a l.length c ∧ Strs w a l.length l ∧ l.length ≤ c ∧ c ≤ maxLen := by
  have hh := h
  rcases h.2 with ⟨rfl, h0⟩ | ⟨g, cap, cur, rfl, hg, hh2, hn, hc, _⟩
  · exact ⟨none, 0, by rw [h0], ⟨rfl, .inl h0⟩, by omega, Nat.zero_le _⟩
  · refine ⟨some ⟨g, 0, none⟩, cap, rfl, ⟨rfl, .inr ⟨g, 0, rfl, (Array.getElem?_eq_some_iff.1 hh2).1, fun k x hx => ?_⟩⟩, hn, hc⟩
    have := hh.cells (g := g) rfl k (sv x) (by rw [List.getElem?_map, hx]; rfl)
    rw [← WideShapes.add_plain]
    exact this
end Go.Proofs.YtdfcbnejnnibpaaGreatDoor.Fr

namespace Go.Proofs.YtdfcbnejnnibpaaGreatDoor.Fr
open Go.RowKit Wm Wr Fm
set_option linter.unusedVariables false
theorem cstep_both (D Y : Nat) : cstep (D ^^^ Y) 0 = cstep D (Y % 2) ^^^ (Y / 2) := by
  have h1 : (D ^^^ Y) / 2 = D / 2 ^^^ Y / 2 := Nat.xor_div_two
  have h2 : (D ^^^ Y) % 2 = (D + Y) % 2 := by
    have h := @Nat.xor_mod_two_eq_one D Y
    omega
  unfold cstep
  rw [h1, h2]
  by_cases h : D % 2 = Y % 2
  · rw [if_pos h, if_pos (by omega)]
  · rw [if_neg h, if_neg (by omega), Nat.xor_assoc, Nat.xor_comm (Y / 2), ← Nat.xor_assoc]
theorem cbits_both : ∀ (k c x : Nat), cbits k (c ^^^ x) 0 = cbits k c x ^^^ (x / 2 ^ k)
  | 0, c, x => by simp [cbits]
  | k + 1, c, x => by
    rw [cbits, cbits]
    show cbits k (cstep (c ^^^ x) 0) 0 = _
    rw [cstep_both, cbits_both k (cstep c (x % 2)) (x / 2), Nat.div_div_eq_div_mul, Nat.pow_succ, Nat.mul_comm 2]
theorem cbits_byte (c x : Nat) (h : x < 256) : cbits 8 (c ^^^ x) 0 = cbits 8 c x := by
  rw [cbits_both, Nat.div_eq_of_lt (by omega), Nat.xor_zero]
theorem cbits_snoc0 : ∀ (k c : Nat), cbits (k + 1) c 0 = cstep (cbits k c 0) 0
  | 0, c => by simp [cbits]
  | k + 1, c => by
    rw [cbits, Nat.zero_div, cbits_snoc0 k, cbits, Nat.zero_div]
theorem and32 (x : Nat) (h : x < 4294967296) : bits .and .u32 (x : Int) 1 = ((x % 2 : Nat) : Int) := by
  have := u32_and_nat x 1 h (by omega)
  rw [nat_mask1] at this
  exact this
theorem not32 (y : Nat) (h : y < 4294967296) : bits .xor .u32 IntKind.u32.max (y : Int) = ((4294967295 - y : Nat) : Int) := by
  have e : BitVec.ofInt 32 IntKind.u32.max = BitVec.allOnes 32 := by decide
  have h2 : (BitVec.allOnes 32 ^^^ BitVec.ofInt 32 (y : Int)).toNat = 4294967295 - y := by
    rw [BitVec.allOnes_xor, BitVec.toNat_not, ofInt_u32 y h]
  rw [← e] at h2
  show IntKind.u32.wrap ((BitVec.ofInt 32 IntKind.u32.max ^^^ BitVec.ofInt 32 (y : Int)).toNat : Int) = _
  rw [h2, IntKind.wrap_u32']
  omega
set_option maxRecDepth 100000 in
set_option maxHeartbeats 1000000 in
theorem fSum_same (s : ByteArray) (w : World) (hs : s.size ≤ maxLen) :
    Calls Tryz.prog 107 #[.string s] w fun e w' => e = .returned (.int .u32 (fsum s.data.toList : Nat)) ∧ w = w' := by
  unfold maxLen at hs
  go_enter Tryz.func107, Tryz.ntmps107
  go_wp2
  go_loop [3, 8] (fun c i => ∃ (k C : Nat), k ≤ s.size ∧ i = .int .i64 k ∧ Hid (C = csum 4294967295 (s.data.toList.take k)) ∧ C < 4294967296 ∧ c = .int .u32 (C : Nat)) (fun _ i => s.size - (intOf i).toNat)
  case atStart => exact ⟨0, 4294967295, Nat.zero_le _, rfl, rfl, by decide, rfl⟩
  case round =>
    obtain ⟨k, C, hk, rfl, hC, hlt, rfl⟩ := hrel
    by_cases hks : k < s.size
    · have hb := s[k].toNat_lt
      have hnext := csum_take s k hks
      rw [← hC.out] at hnext
      have hxor := u32_xor_nat C s[k].toNat hlt (by omega)
      have hl := xor_lt (a := C) (b := s[k].toNat) hlt (by omega)
      go_wp2
      obtain ⟨X, hX⟩ : ∃ X, X = s[k].toNat := ⟨_, rfl⟩
      rw [← hX] at hb hnext hl hxor ⊢
      rw [← cbits_byte C X hb] at hnext
      obtain ⟨Z, hZ⟩ : ∃ Z, Z = C ^^^ X := ⟨_, rfl⟩
      rw [← hZ] at hnext hl ⊢
      have HN := Lib.hid hnext
      clear hX hnext hC hZ hxor
      go_loop [3, 5, 17] (fun c g i => ∃ (j D : Nat), j ≤ 8 ∧ i = .int .i64 j ∧ Hid (D = cbits j Z 0) ∧ D < 4294967296 ∧ c = .int .u32 (D : Nat)) (fun _ _ i => 8 - (intOf i).toNat)
      case atStart => exact ⟨0, Z, by omega, rfl, rfl, hl, rfl⟩
      case round =>
        obtain ⟨j, D, hj, rfl, hD, hDl, rfl⟩ := hrel
        by_cases hj8 : j < 8
        · have hnD : cbits (j + 1) Z 0 = cstep D 0 := by rw [cbits_snoc0, ← hD.out]
          have HD := Lib.hid hnD
          have ha := and32 D hDl
          clear hnD hD
          rcases Nat.mod_two_eq_zero_or_one D with hd | hd
          · have HE := Lib.hid (cstep_eq (c := D) (b := 0) hd)
            rw [hd] at ha
            clear hd
            go_wp2
            go_round
            case rel => exact ⟨j + 1, D / 2, by omega, by go_num, by show _ = _; rw [HD.out, HE.out], by omega, by go_num⟩
            case measure => simp [intOf]; omega
          · have HE := Lib.hid (cstep_other (c := D) (b := 0) (by omega))
            have hxor := xor32 (D / 2) (by omega)
            rw [show ((D / 2 : Nat) : Int) = (D : Int) / 2 by omega] at hxor
            have hl2 := xor_lt (a := D / 2) (b := 3988292384) (by omega) (by decide)
            rw [hd] at ha
            clear hd
            go_wp2
            go_round
            case rel => exact ⟨j + 1, _, by omega, by go_num, by show _ = _; rw [HD.out, HE.out], hl2, rfl⟩
            case measure => simp [intOf]; omega
        · obtain rfl : j = 8 := by omega
          go_wp2
          go_round
          case rel => exact ⟨k + 1, D, by omega, by go_num, by show D = _; rw [HN.out, hD.out], hDl, rfl⟩
          case measure => simp [intOf]; omega
    · obtain rfl : k = s.size := by omega
      have hall := csum_all s
      rw [← hC.out] at hall
      have hn := not32 C hlt
      go_wp2
      go_ret
      refine ⟨?_, rfl⟩
      rw [← hall]
      exact ret1 (by omega)
end Go.Proofs.YtdfcbnejnnibpaaGreatDoor.Fr

namespace Go.Proofs
open Go.Shelf
def Tryz.lays156_ren : Go.Shelf.Ren := ⟨fun | 156 => 81 | 165 => 112 | 166 => 113 | 169 => 114 | 240 => 148 | 241 => 149 | 276 => 179 | 277 => 180 | n => n, fun | 31 => 45 | 9 => 9 | 3 => 3 | 4 => 4 | 0 => 0 | 20 => 20 | 72 => 165 | 76 => 110 | 70 => 163 | 37 => 135 | 75 => 109 | 127 => 194 | 164 => 217 | 5 => 5 | 80 => 167 | n => n, fun | n => n⟩
theorem Tryz.lays156 : Go.Proofs.Lays.n156 Tryz.prog Tryz.lays156_ren := {
  mixed := by kernel_rfl
  f156 := Tryz.func81.trans (congrArg some (by kernel_rfl))
  f165 := Tryz.func112.trans (congrArg some (by kernel_rfl))
  f166 := Tryz.func113.trans (congrArg some (by kernel_rfl))
  f169 := Tryz.func114.trans (congrArg some (by kernel_rfl))
  f240 := Tryz.func148.trans (congrArg some (by kernel_rfl))
  f241 := Tryz.func149.trans (congrArg some (by kernel_rfl))
  f276 := Tryz.func179.trans (congrArg some (by kernel_rfl))
  f277 := Tryz.func180.trans (congrArg some (by kernel_rfl))
  t0 := Tryz.underlying0
  a0 := Tryz.isAgg0
  z0 := Tryz.sizeOf0
  v0 := Tryz.zeroValue0
  t3 := Tryz.underlying3
  a3 := Tryz.isAgg3
  z3 := Tryz.sizeOf3
  v3 := Tryz.zeroValue3
  t4 := Tryz.underlying4
  a4 := Tryz.isAgg4
  z4 := Tryz.sizeOf4
  v4 := Tryz.zeroValue4
  t9 := Tryz.underlying9
  a9 := Tryz.isAgg9
  z9 := Tryz.sizeOf9
  v9 := Tryz.zeroValue9
  t20 := Tryz.underlying20
  a20 := Tryz.isAgg20
  z20 := Tryz.sizeOf20
  v20 := Tryz.zeroValue20
  t31 := Tryz.underlying45
  a31 := Tryz.isAgg45
  z31 := Tryz.sizeOf45
  v31 := Tryz.zeroValue45
  t37 := Tryz.underlying135
  a37 := Tryz.isAgg135
  z37 := Tryz.sizeOf135
  v37 := Tryz.zeroValue135
  t70 := Tryz.underlying163
  a70 := Tryz.isAgg163
  z70 := Tryz.sizeOf163
  v70 := Tryz.zeroValue163
  t72 := Tryz.underlying165
  a72 := Tryz.isAgg165
  z72 := Tryz.sizeOf165
  v72 := Tryz.zeroValue165
  t75 := Tryz.underlying109
  a75 := Tryz.isAgg109
  z75 := Tryz.sizeOf109
  v75 := Tryz.zeroValue109
  t76 := Tryz.underlying110
  a76 := Tryz.isAgg110
  z76 := Tryz.sizeOf110
  v76 := Tryz.zeroValue110
  t127 := Tryz.underlying194
  a127 := Tryz.isAgg194
  z127 := Tryz.sizeOf194
  v127 := Tryz.zeroValue194
  t164 := Tryz.underlying217
  a164 := Tryz.isAgg217
  z164 := Tryz.sizeOf217
  v164 := Tryz.zeroValue217 }
theorem Tryz.Builder_Extra_156 : Builder.Extra Tryz.prog Tryz.lays156_ren := {
  sizeBuilder := by kernel_rfl
  liesBuilder := by kernel_rfl
  t5 := Tryz.underlying5
  a5 := Tryz.isAgg5
  z5 := Tryz.sizeOf5
  v5 := Tryz.zeroValue5
  infoByte := by kernel_rfl
  cellsByte := by kernel_rfl
  sizeByte := by kernel_rfl
  neB5 := by decide }
end Go.Proofs

namespace Go.Proofs.YtdfcbnejnnibpaaGreatDoor.Wr
open Go.RowKit Wm
set_option linter.unusedVariables false
def cat (l : List ByteArray) : ByteArray := ⟨(l.map (·.data.toList)).flatten.toArray⟩
theorem cat_size (l : List ByteArray) : (cat l).size = (l.map (·.size)).sum := by
  induction l with
  | nil => rfl
  | cons x l ih =>
    have h : (cat (x :: l)).size = x.size + (cat l).size := by
      simp only [cat, ByteArray.size, List.map_cons, List.flatten_cons, List.size_toArray, List.length_append, Array.length_toList]
    rw [h, ih]; simp
theorem join_empty (l : List (List UInt8)) : Lib.join l (ByteArray.mk #[]).data.toList = l.flatten := by
  cases l with
  | nil => rfl
  | cons x l =>
    rw [Lib.join_cons, Lib.joinTail]
    simp
theorem join_any (bk o c : Nat) (xs : List ByteArray) (w : World)
    (hcells : ∀ (j : Nat) x, xs[j]? = some x → w.cell? ⟨bk, o + j, none⟩ = some (.string x))
    (hbk : bk < w.heap.size) (hN : xs.length ≤ 140737488355328) (hcap : xs.length ≤ c) (hlen : (cat xs).size ≤ 140737488355328) :
    Calls Tryz.prog 54 #[.slice (some ⟨bk, o, none⟩) xs.length c] w fun e w' => e = .returned (.string (cat xs)) ∧ Below w.heap.size w w' := by
  have e : (cat xs) = ⟨(Lib.join (xs.map (·.data.toList)) (ByteArray.mk #[]).data.toList).toArray⟩ := by
    rw [cat, join_empty]
  have hl : (Lib.join (xs.map (·.data.toList)) (ByteArray.mk #[]).data.toList).length ≤ 140737488355328 := by
    rw [join_empty]
    simpa [cat, ByteArray.size] using hlen
  have c1 := fun W (h : ∀ (j : Nat) x, xs[j]? = some x → W.cell? ⟨bk, o + j, none⟩ = some (.string x)) (h2 : bk < W.heap.size) => Any.strings_Join Tryz.lays156 Tryz.Builder_Extra_156 bk o c xs ⟨#[]⟩ W h h2 hN hcap hl
  rw [← e] at c1
  have HC := Lib.hid hcells
  have HB := Lib.hid hbk
  clear hcells e hl hlen hbk
  go_enter Tryz.func54, Tryz.ntmps54
  go_wp2_with (go_at_call 81; refine (c1 _ HC.out HB.out).mono ?_; rintro e w1 ⟨rfl, hb⟩)
  go_ret
  exact ⟨rfl, hb⟩
end Go.Proofs.YtdfcbnejnnibpaaGreatDoor.Wr

namespace Go.Proofs.YtdfcbnejnnibpaaGreatDoor.Fr
open Go.RowKit Wm Wr Fm
set_option linter.unusedVariables false
def lay4 (F j : Nat) : Array Value := (((le4 F).take j).map bv ++ List.replicate (4 - j) (Value.int .u8 0)).toArray
theorem lay4_at (F j : Nat) (h : j < 4) : (lay4 F j)[j]? = some (.int .u8 0) := by
  match j, h with
  | 0, _ => rfl
  | 1, _ => rfl
  | 2, _ => rfl
  | 3, _ => rfl
theorem lay4_set (F j : Nat) (h : j < 4) : (lay4 F j).setIfInBounds j (bv (UInt8.ofNat (F / 256 ^ j % 256))) = lay4 F (j + 1) := by
  have e2 : F / 256 ^ 2 = F / 256 / 256 := by rw [Nat.div_div_eq_div_mul]
  have e3 : F / 256 ^ 3 = F / 256 / 256 / 256 := by rw [Nat.div_div_eq_div_mul, Nat.div_div_eq_div_mul]
  match j, h with
  | 0, _ => simp [lay4, le4]
  | 1, _ => simp [lay4, le4]
  | 2, _ => simp [lay4, le4, e2]
  | 3, _ => simp [lay4, le4, e3]
theorem lay4_full (F : Nat) : lay4 F 4 = ((le4 F).map bv).toArray := rfl
theorem lay4_conv (w : World) (F : Nat) : (convert 135 9 (.slice (some ⟨w.heap.size, 0, none⟩) 4 4)).run Tryz.prog (w.alloc (.cells (lay4 F 4) 155)) = .ok (.string ⟨(le4 F).toArray⟩) (w.alloc (.cells (lay4 F 4) 155)) :=
  run_convert_bytes_back _ 135 9 5 ⟨w.heap.size, 0, none⟩ 4 (le4 F) Tryz.underlying135 Tryz.underlying5 Tryz.underlying9 (fun j hj => by
    have hj : j < 4 := hj
    obtain rfl | rfl | rfl | rfl : j = 0 ∨ j = 1 ∨ j = 2 ∨ j = 3 := by omega
    all_goals
      rw [lay4_full]
      go_simp
      rfl)
theorem put_byte {w : World} {F j : Nat} {x : Int} (h : j < 4) (hx : x = ((F / 256 ^ j % 256 : Nat) : Int)) : w.alloc (.cells ((lay4 F j).setIfInBounds j (.int .u8 x)) 155) = w.alloc (.cells (lay4 F (j + 1)) 155) := by
  rw [← lay4_set F j h, ← mod_byte, hx]
  rfl
set_option maxRecDepth 100000 in
set_option maxHeartbeats 1000000 in
theorem sumOf_any (s : ByteArray) (w : World) (hs : s.size ≤ maxLen) :
    Calls Tryz.prog 75 #[.string s] w fun e w' => e = .returned (.string (sum4 s.data.toList)) ∧ Below w.heap.size w w' := by
  have cs := fun W => fSum_same s W hs
  have hFl := fsum_lt s.data.toList
  have hres : Hid ((⟨(le4 (fsum s.data.toList)).toArray⟩ : ByteArray) = sum4 s.data.toList) := rfl
  obtain ⟨F, hF⟩ : ∃ F, F = fsum s.data.toList := ⟨_, rfl⟩
  rw [← hF] at cs hFl hres
  clear hF
  have hcv := lay4_conv w F
  go_enter Tryz.func75, Tryz.ntmps75
  go_wp2_with (go_at_call 107; refine (cs _).mono ?_; rintro e w1 ⟨rfl, rfl⟩)
  go_loopw [5, 8] (fun g i wr => ∃ j : Nat, j ≤ 4 ∧ i = .int .i64 j ∧ wr = w.alloc (.cells (lay4 F j) 155)) (fun _ i _ => 4 - (intOf i).toNat)
  case atStart => exact ⟨0, by omega, rfl, rfl⟩
  case round =>
    obtain ⟨j, hj, rfl, rfl⟩ := hrel
    clear cs
    by_cases hlt : j < 4
    · have hat := lay4_at F j hlt
      obtain rfl | rfl | rfl | rfl : j = 0 ∨ j = 1 ∨ j = 2 ∨ j = 3 := by omega
      all_goals
        go_wp2
        go_roundw
        case measure => simp [intOf]
      · exact ⟨1, by omega, by go_num, put_byte (by omega) (by omega)⟩
      · exact ⟨2, by omega, by go_num, put_byte (by omega) (by omega)⟩
      · exact ⟨3, by omega, by go_num, put_byte (by omega) (by omega)⟩
      · exact ⟨4, by omega, by go_num, put_byte (by omega) (by omega)⟩
    · obtain rfl : j = 4 := by omega
      go_wp2
      go_ret
      exact ⟨by rw [← hres.out]; rfl, (Below.refl _ _).alloc (Nat.le_refl _) _⟩
end Go.Proofs.YtdfcbnejnnibpaaGreatDoor.Fr

namespace Go.Proofs.YtdfcbnejnnibpaaGreatDoor.Fr
open Go.RowKit Wm Wr Fm
set_option linter.unusedVariables false
def frAt (s : ByteArray) (a : Int) : ByteArray × Int × Nat :=
  if a < 0 ∨ (s.size : Int) < a then (⟨#[]⟩, 0, 1)
  else if (fr (s.extract a.toNat s.size)).2.2 ≠ 0 then (⟨#[]⟩, 0, (fr (s.extract a.toNat s.size)).2.2)
  else ((fr (s.extract a.toNat s.size)).1, a + (fr (s.extract a.toNat s.size)).2.1, 0)
theorem frAt_out {s : ByteArray} {a : Int} (h : a < 0 ∨ (s.size : Int) < a) : frAt s a = (⟨#[]⟩, 0, 1) := by rw [frAt, if_pos h]
theorem frAt_bad {s : ByteArray} {a : Nat} {t : ByteArray} {n e : Nat} (h : a ≤ s.size) (h2 : fr (s.extract a s.size) = (t, n, e)) (he : e ≠ 0) : frAt s a = (⟨#[]⟩, 0, e) := by
  rw [frAt, if_neg (by omega), Int.toNat_natCast, h2, if_pos he]
theorem frAt_ok {s : ByteArray} {a : Nat} {t : ByteArray} {n : Nat} (h : a ≤ s.size) (h2 : fr (s.extract a s.size) = (t, n, 0)) : frAt s a = (t, (a : Int) + n, 0) := by
  rw [frAt, if_neg (by omega), Int.toNat_natCast, h2, if_neg (fun h => h rfl)]
theorem ts_front {X t : ByteArray} {n : Nat} (h : rdT X = (t, n, 0)) : X.extract 0 n = ts t := by
  rcases rdT_cases X with ⟨e, h0, h1, _, h3⟩ | ⟨x, m, _, _, _, _, h3⟩ | ⟨x, m, hu, hn, hx, h3⟩
  · rw [h3] at h
    simp only [Prod.mk.injEq] at h
    exact absurd h.2.2 h0
  · rw [h3] at h
    simp at h
  · rw [h3] at h
    simp only [Prod.mk.injEq] at h
    obtain ⟨rfl, rfl, _⟩ := h
    have hk := rdU_ok hu
    have e1 : (X.extract m (m + x)).size = x := by simp; omega
    have e2 : vs x = X.extract 0 m := by
      apply ByteArray.ext
      rw [vs, hk.2.1, ByteArray.data_extract]
      apply Array.toList_inj.1
      simp
    rw [ts, e1, e2]
    apply ByteArray.ext
    rw [ByteArray.data_append, ByteArray.data_extract, ByteArray.data_extract, ByteArray.data_extract, Array.extract_append_extract]
    congr 1 <;> omega
theorem pk_iff {X t : ByteArray} {n : Nat} (h : rdT X = (t, n, 0)) : X.extract 0 (n + 4) = pk t ↔ X.extract n (n + 4) = sum4 t.data.toList := by
  have e : X.extract 0 (n + 4) = ts t ++ X.extract n (n + 4) := by
    rw [← ts_front h]
    apply ByteArray.ext
    rw [ByteArray.data_append, ByteArray.data_extract, ByteArray.data_extract, ByteArray.data_extract, Array.extract_append_extract]
    congr 1 <;> omega
  rw [e, pk]
  constructor
  · intro h2
    have h3 := congrArg (fun x : ByteArray => x.data.toList) h2
    simp only [ByteArray.data_append, Array.toList_append] at h3
    exact ByteArray.ext (Array.toList_inj.1 (List.append_cancel_left h3))
  · intro h2
    rw [h2]
theorem within (s : ByteArray) (k n : Nat) (h : k + n + 4 ≤ s.size) : (s.extract k s.size).extract n (n + 4) = s.extract (k + n) (k + n + 4) := by
  rw [ByteArray.extract_extract]
  congr 1
  omega
theorem ret3s {v v' : ByteArray} {x y x' y' : Int} (h : v = v') (h1 : x = x') (h2 : y = y') : Ending.returned (.tuple #[.string v, .int .i64 x, .int .i64 y]) = .returned (.tuple #[.string v', .int .i64 x', .int .i64 y']) := by rw [h, h1, h2]
set_option maxRecDepth 100000 in
set_option maxHeartbeats 1000000 in
theorem fRead_any (s : ByteArray) (a : Int) (w : World) (hs : s.size ≤ 281474976710656) (h1 : -9223372036854775808 ≤ a) (h2 : a ≤ 9223372036854775807) :
    Calls Tryz.prog 46 #[.string s, .int .i64 a] w fun e w' => e = .returned (.tuple #[.string (frAt s a).1, .int .i64 (frAt s a).2.1, .int .i64 ((frAt s a).2.2 : Int)]) ∧ Below w.heap.size w w' := by
  by_cases hout : a < 0 ∨ (s.size : Int) < a
  · rw [frAt_out hout]
    by_cases h0 : a < 0
    · clear hout
      go_enter Tryz.func46, Tryz.ntmps46
      go_wp2_with fail
      go_ret3
      exact ⟨rfl, Below.refl _ _⟩
    · have h3 : (s.size : Int) < a := by omega
      clear hout
      go_enter Tryz.func46, Tryz.ntmps46
      go_wp2_with fail
      go_ret3
      exact ⟨rfl, Below.refl _ _⟩
  · obtain ⟨k, rfl⟩ : ∃ k : Nat, a = (k : Int) := ⟨a.toNat, by omega⟩
    have hk : k ≤ s.size := by omega
    have hk' : (k : Int) ≤ s.size := by omega
    have hXs : (s.extract k s.size).size = s.size - k := by simp
    have cn := fun W => new_any (s.extract k s.size) W
    have ct := fun W (h : Rat W w.heap.size (s.extract k s.size)) => text_any w.heap.size (s.extract k s.size) W h (by unfold maxLen; omega)
    have hR0 := rat_new w (s.extract k s.size)
    clear hout
    rcases fr_e (s.extract k s.size) with ⟨e, h0, h1, h2, h3⟩ | ⟨t, n, h, hn, ht, hlt, h3⟩ | ⟨t, n, h, hn, ht, hne, h3⟩ | ⟨t, n, h, hn, ht, heq, h3⟩
    · obtain ⟨t, n, e', h⟩ := trip (rdT (s.extract k s.size))
      rw [h] at ct h2
      have h2' : e' = e := h2
      subst h2'
      rw [frAt_bad hk h3 h0]
      have hne : ((e' : Int) == 0) = false := by simp; omega
      have hne' : (!((e' : Int) == 0)) = true := by simp; omega
      clear h h3 h2 h0
      go_enter Tryz.func46, Tryz.ntmps46
      go_wp2_with (go_at_call 50; refine (cn _).mono ?_; rintro e w1 ⟨rfl, rfl⟩)
      go_at_call 57
      refine (ct _ hR0).mono ?_
      rintro e w2 ⟨rfl, hR, hg⟩
      have hb := below_at ((Below.refl w.heap.size w).alloc (Nat.le_refl _) _) hg (Nat.le_refl _)
      go_wp2_with fail
      go_ret3
      exact ⟨rfl, hb⟩
    · rw [frAt_bad hk h3 (by omega)]
      rw [h] at ct
      have hL : ((s.extract k s.size).extract n (s.extract k s.size).size).size = (s.extract k s.size).size - n := by simp
      have cl := fun W b h => left_any b ((s.extract k s.size).extract n (s.extract k s.size).size) W h (by unfold maxLen; omega)
      rw [hL] at cl
      have hlt' : (((s.extract k s.size).size - n : Nat) : Int) < 4 := by omega
      obtain ⟨L, hL2⟩ : ∃ L, L = (s.extract k s.size).size - n := ⟨_, rfl⟩
      rw [← hL2] at cl hlt'
      clear h h3 hL hL2
      go_enter Tryz.func46, Tryz.ntmps46
      go_wp2_with (go_at_call 50; refine (cn _).mono ?_; rintro e w1 ⟨rfl, rfl⟩)
      go_at_call 57
      refine (ct _ hR0).mono ?_
      rintro e w2 ⟨rfl, hR, hg⟩
      have hb := below_at ((Below.refl w.heap.size w).alloc (Nat.le_refl _) _) hg (Nat.le_refl _)
      go_wp2_with (go_at_call 74; refine (cl _ _ hR).mono ?_; rintro e w3 ⟨rfl, rfl⟩)
      go_ret3
      exact ⟨rfl, hb⟩
    · rw [frAt_bad hk h3 (by omega)]
      have hne2 : (s.extract k s.size).extract n (n + 4) ≠ sum4 t.data.toList := fun h4 => hne ((pk_iff h).2 h4)
      rw [within s k n (by omega)] at hne2
      rw [h] at ct
      have hL : ((s.extract k s.size).extract n (s.extract k s.size).size).size = (s.extract k s.size).size - n := by simp
      have cl := fun W b h => left_any b ((s.extract k s.size).extract n (s.extract k s.size).size) W h (by unfold maxLen; omega)
      rw [hL] at cl
      obtain ⟨L, hL2⟩ : ∃ L, L = (s.extract k s.size).size - n := ⟨_, rfl⟩
      rw [← hL2] at cl
      have hL3 : 4 ≤ (L : Int) := by omega
      have hL4 : (s.size : Int) - (L : Int) = ((k + n : Nat) : Int) := by omega
      have hw : IntKind.i64.wrap (((k + n : Nat) : Int)) = ((k + n : Nat) : Int) := IntWalk.i64_in _ (by omega)
      have hw2 : IntKind.i64.wrap (((k + n : Nat) : Int) + 4) = ((k + n : Nat) : Int) + 4 := IntWalk.i64_in _ (by omega)
      have hx := bytes_ne hne2
      have csu := fun W => sumOf_any t W (by unfold maxLen; omega)
      obtain ⟨Q, hQ⟩ : ∃ Q, Q = sum4 t.data.toList := ⟨_, rfl⟩
      rw [← hQ] at hx csu
      have hle : ((k + n : Nat) : Int) + 4 ≤ s.size := by omega
      clear h h3 hL hL2 hne hne2 hQ
      go_enter Tryz.func46, Tryz.ntmps46
      go_wp2_with (go_at_call 50; refine (cn _).mono ?_; rintro e w1 ⟨rfl, rfl⟩)
      go_at_call 57
      refine (ct _ hR0).mono ?_
      rintro e w2 ⟨rfl, hR, hg⟩
      have hb := below_at ((Below.refl w.heap.size w).alloc (Nat.le_refl _) _) hg (Nat.le_refl _)
      go_wp2_with (go_at_call 74; refine (cl _ _ hR).mono ?_; rintro e w3 ⟨rfl, rfl⟩)
      go_region_with ((go_at_call 75; refine (csu _).mono ?_; rintro e w1 ⟨rfl, hb1⟩))
      all_goals
        go_wp2_with fail
        go_ret3
        exact ⟨rfl, below_call hb.drew hb1⟩
    · rw [frAt_ok hk h3]
      have hne2 : (s.extract k s.size).extract n (n + 4) = sum4 t.data.toList := (pk_iff h).1 heq
      rw [within s k n (by omega)] at hne2
      rw [h] at ct
      have hL : ((s.extract k s.size).extract n (s.extract k s.size).size).size = (s.extract k s.size).size - n := by simp
      have cl := fun W b h => left_any b ((s.extract k s.size).extract n (s.extract k s.size).size) W h (by unfold maxLen; omega)
      rw [hL] at cl
      obtain ⟨L, hL2⟩ : ∃ L, L = (s.extract k s.size).size - n := ⟨_, rfl⟩
      rw [← hL2] at cl
      have hL3 : 4 ≤ (L : Int) := by omega
      have hL4 : (s.size : Int) - (L : Int) = ((k + n : Nat) : Int) := by omega
      have hw : IntKind.i64.wrap (((k + n : Nat) : Int)) = ((k + n : Nat) : Int) := IntWalk.i64_in _ (by omega)
      have hw2 : IntKind.i64.wrap (((k + n : Nat) : Int) + 4) = ((k + n : Nat) : Int) + 4 := IntWalk.i64_in _ (by omega)
      have hx : ((s.extract (k + n) (k + n + 4)).toList == (sum4 t.data.toList).toList) = true := by rw [hne2]; exact beq_self_eq_true _
      have csu := fun W => sumOf_any t W (by unfold maxLen; omega)
      obtain ⟨Q, hQ⟩ : ∃ Q, Q = sum4 t.data.toList := ⟨_, rfl⟩
      rw [← hQ] at hx csu
      have hle : ((k + n : Nat) : Int) + 4 ≤ s.size := by omega
      clear h h3 hL hL2 heq hne2 hQ
      go_enter Tryz.func46, Tryz.ntmps46
      go_wp2_with (go_at_call 50; refine (cn _).mono ?_; rintro e w1 ⟨rfl, rfl⟩)
      go_at_call 57
      refine (ct _ hR0).mono ?_
      rintro e w2 ⟨rfl, hR, hg⟩
      have hb := below_at ((Below.refl w.heap.size w).alloc (Nat.le_refl _) _) hg (Nat.le_refl _)
      go_wp2_with (go_at_call 74; refine (cl _ _ hR).mono ?_; rintro e w3 ⟨rfl, rfl⟩)
      go_region_with ((go_at_call 75; refine (csu _).mono ?_; rintro e w1 ⟨rfl, hb1⟩))
      all_goals
        go_wp2_with fail
        go_ret3
        exact ⟨ret3s rfl (by omega) rfl, below_call hb.drew hb1⟩
end Go.Proofs.YtdfcbnejnnibpaaGreatDoor.Fr

namespace Go.Proofs.YtdfcbnejnnibpaaGreatDoor.Fr
open Go.RowKit Wm Wr Fm
set_option linter.unusedVariables false
end Go.Proofs.YtdfcbnejnnibpaaGreatDoor.Fr

namespace Go.Proofs.YtdfcbnejnnibpaaGreatDoor.Fr
open Go.RowKit Wm Wr Fm
set_option linter.unusedVariables false
def made (w : World) (s : ByteArray) (c : Nat) : World := w.drew.alloc (.cells (bytesRow s c) 5 ((bytesRow s c).size, (bytesRow s c).size + 1))
end Go.Proofs.YtdfcbnejnnibpaaGreatDoor.Fr

namespace Go.Proofs.YtdfcbnejnnibpaaGreatDoor.Fr
open Go.RowKit Wm Wr Fm
end Go.Proofs.YtdfcbnejnnibpaaGreatDoor.Fr

namespace Go.Proofs.YtdfcbnejnnibpaaGreatDoor.Fr
open Go.RowKit Wm Wr Fm
set_option linter.unusedVariables false
theorem rdT_front (t : ByteArray) (m : List UInt8) (h : t.size ≤ 9223372036854775807) : rdT ⟨(vb t.size ++ (t.data.toList ++ m)).toArray⟩ = (t, (vb t.size).length + t.size, 0) := by
  have e : rdU (⟨(vb t.size ++ (t.data.toList ++ m)).toArray⟩ : ByteArray).data.toList = (t.size, (vb t.size).length, 0) := by
    show rdU (vb t.size ++ (t.data.toList ++ m)) = _
    rw [rdU, rd_vb t.size _ (by omega), if_neg]
    rintro ⟨_, h2⟩
    simp only at h2
    omega
  have hlen : (⟨(vb t.size ++ (t.data.toList ++ m)).toArray⟩ : ByteArray).size = (vb t.size).length + (t.size + m.length) := by
    rw [ByteArray.size, List.size_toArray, List.length_append, List.length_append, len_l]
  rw [rdT, e, if_neg (fun h => h rfl), if_neg (by rw [hlen]; show ¬ _ < (vb t.size).length + t.size; omega)]
  congr 1
  apply ByteArray.ext
  rw [ByteArray.data_extract]
  apply Array.toList_inj.1
  rw [← len_l t]
  simp
theorem fr_front (t : ByteArray) (m r : List UInt8) (h : t.size ≤ 9223372036854775807) (hm : m.length = 4) :
    fr ⟨(vb t.size ++ (t.data.toList ++ (m ++ r))).toArray⟩ = if m = le4 (fsum t.data.toList) then (t, (vb t.size).length + t.size + 4, 0) else (⟨#[]⟩, 0, 6) := by
  have e := rdT_front t (m ++ r) h
  have hlen : (⟨(vb t.size ++ (t.data.toList ++ (m ++ r))).toArray⟩ : ByteArray).size = (vb t.size).length + (t.size + (4 + r.length)) := by
    rw [ByteArray.size, List.size_toArray, List.length_append, List.length_append, List.length_append, len_l, hm]
  have hx : (⟨(vb t.size ++ (t.data.toList ++ (m ++ r))).toArray⟩ : ByteArray).extract 0 ((vb t.size).length + t.size + 4) = ⟨(vb t.size ++ (t.data.toList ++ m)).toArray⟩ := by
    apply ByteArray.ext
    rw [ByteArray.data_extract]
    apply Array.toList_inj.1
    rw [Array.toList_extract]
    simp only [List.extract_eq_take_drop, List.drop_zero, Nat.sub_zero]
    rw [show vb t.size ++ (t.data.toList ++ (m ++ r)) = (vb t.size ++ (t.data.toList ++ m)) ++ r by simp]
    exact List.take_left' (by rw [List.length_append, List.length_append, len_l, hm]; omega)
  rw [fr, e, if_neg (fun h => h rfl), if_neg (by rw [hlen]; show ¬ _ - ((vb t.size).length + t.size) < 4; omega)]
  simp only
  rw [hx]
  have hpk : (⟨(vb t.size ++ (t.data.toList ++ m)).toArray⟩ : ByteArray) = pk t ↔ m = le4 (fsum t.data.toList) := by
    constructor
    · intro hh
      have := congrArg (fun b : ByteArray => b.data.toList) hh
      simp only [pk_list] at this
      exact List.append_cancel_left (List.append_cancel_left this)
    · intro hh
      apply ByteArray.ext
      apply Array.toList_inj.1
      rw [pk_list, hh]
  by_cases hh : m = le4 (fsum t.data.toList)
  · rw [if_pos hh, if_neg (fun h => h (hpk.2 hh))]
  · rw [if_neg hh, if_pos (fun h => hh (hpk.1 h))]
end Go.Proofs.YtdfcbnejnnibpaaGreatDoor.Fr

namespace Go.Proofs.YtdfcbnejnnibpaaGreatDoor.Tb
open Go.RowKit Tx Pm Dk Wm Wr
set_option linter.unusedVariables false
set_option linter.unusedSimpArgs false
set_option linter.unnecessarySimpa false
structure Ch where
  key : ByteArray
  val : ByteArray
  gone : Bool
def ch0 : Ch := ⟨⟨#[]⟩, ⟨#[]⟩, false⟩
def norm (c : Ch) : Ch := if c.gone then ⟨c.key, ⟨#[]⟩, true⟩ else c
def parts (c : Ch) : List ByteArray := if c.gone then [vs 0, ts c.key] else [vs 1, ts c.key, ts c.val]
def recP (l : List Ch) : List ByteArray := vs l.length :: l.flatMap parts
def rec7 (l : List Ch) : ByteArray := cat (recP l)
def tl (t : ByteArray) : List UInt8 := vb t.size ++ t.data.toList
def pl (c : Ch) : List UInt8 := if c.gone then vb 0 ++ tl c.key else vb 1 ++ (tl c.key ++ tl c.val)
def recl (l : List Ch) : List UInt8 := vb l.length ++ l.flatMap pl
theorem ts_tl (t : ByteArray) : (ts t).data.toList = tl t := by rw [ts, ByteArray.data_append, Array.toList_append, vs_list]; rfl
theorem parts_pl (c : Ch) : ((parts c).map (·.data.toList)).flatten = pl c := by
  unfold parts pl
  split
  · simp only [List.map_cons, List.map_nil, List.flatten_cons, List.flatten_nil, List.append_nil, ts_tl, vs_list]
  · simp only [List.map_cons, List.map_nil, List.flatten_cons, List.flatten_nil, List.append_nil, ts_tl, vs_list]
theorem all_pl : ∀ l : List Ch, ((l.flatMap parts).map (·.data.toList)).flatten = l.flatMap pl
  | [] => rfl
  | c :: l => by rw [List.flatMap_cons, List.flatMap_cons, List.map_append, List.flatten_append, parts_pl, all_pl l]
theorem rec7_is (l : List Ch) : rec7 l = ⟨(recl l).toArray⟩ := by
  unfold rec7 cat recP recl
  rw [List.map_cons, List.flatten_cons, all_pl, vs_list]
theorem rec7_list (l : List Ch) : (rec7 l).data.toList = recl l := by rw [rec7_is]
theorem rec7_size (l : List Ch) : (rec7 l).size = (recl l).length := by rw [← Wm.len_l, rec7_list]
theorem tl_len {t : ByteArray} (h : t.size ≤ 9223372036854775807) : (tl t).length ≤ t.size + 10 := by
  have := vb_len (x := t.size) (by omega)
  rw [tl, List.length_append, Wm.len_l]
  omega
def wt (l : List Ch) : Nat := (l.map fun c => c.key.size + c.val.size + 40).sum
theorem wt_cons (c : Ch) (l : List Ch) : wt (c :: l) = c.key.size + c.val.size + 40 + wt l := by unfold wt; rw [List.map_cons, List.sum_cons]
theorem wt_append (a b : List Ch) : wt (a ++ b) = wt a + wt b := by unfold wt; rw [List.map_append, List.sum_append]
theorem wt_mem {l : List Ch} {c : Ch} (h : c ∈ l) : c.key.size + c.val.size + 40 ≤ wt l := by
  induction l with
  | nil => cases h
  | cons x l ih =>
    rw [wt_cons]
    rcases List.mem_cons.1 h with rfl | h
    · omega
    · have := ih h; omega
theorem wt_len (l : List Ch) : l.length * 40 ≤ wt l := by
  induction l with
  | nil => exact Nat.zero_le _
  | cons x l ih => rw [wt_cons, List.length_cons]; omega
def rdOp (s : ByteArray) : Ch × Nat × Nat :=
  if (rdU s.data.toList).2.2 ≠ 0 then (ch0, 0, (rdU s.data.toList).2.2) else
  if 1 < (rdU s.data.toList).1 then (ch0, 0, 3) else
  if (rdT (s.extract (rdU s.data.toList).2.1 s.size)).2.2 ≠ 0 then (ch0, 0, (rdT (s.extract (rdU s.data.toList).2.1 s.size)).2.2) else
  if (rdU s.data.toList).1 = 0 then (⟨(rdT (s.extract (rdU s.data.toList).2.1 s.size)).1, ⟨#[]⟩, true⟩, (rdU s.data.toList).2.1 + (rdT (s.extract (rdU s.data.toList).2.1 s.size)).2.1, 0) else
  if (rdT (s.extract ((rdU s.data.toList).2.1 + (rdT (s.extract (rdU s.data.toList).2.1 s.size)).2.1) s.size)).2.2 ≠ 0 then (ch0, 0, (rdT (s.extract ((rdU s.data.toList).2.1 + (rdT (s.extract (rdU s.data.toList).2.1 s.size)).2.1) s.size)).2.2) else
  (⟨(rdT (s.extract (rdU s.data.toList).2.1 s.size)).1, (rdT (s.extract ((rdU s.data.toList).2.1 + (rdT (s.extract (rdU s.data.toList).2.1 s.size)).2.1) s.size)).1, false⟩,
    (rdU s.data.toList).2.1 + (rdT (s.extract (rdU s.data.toList).2.1 s.size)).2.1 + (rdT (s.extract ((rdU s.data.toList).2.1 + (rdT (s.extract (rdU s.data.toList).2.1 s.size)).2.1) s.size)).2.1, 0)
section
variable {s : ByteArray} {k m n n2 e : Nat} {t t2 : ByteArray}
theorem rdOp_1 (h : rdU s.data.toList = (k, m, e)) (he : e ≠ 0) : rdOp s = (ch0, 0, e) := by unfold rdOp; rw [h]; exact if_pos he
theorem rdOp_2 (h : rdU s.data.toList = (k, m, 0)) (hk : 1 < k) : rdOp s = (ch0, 0, 3) := by
  unfold rdOp; rw [h, if_neg (fun hh => hh rfl)]; exact if_pos hk
theorem rdOp_3 (h : rdU s.data.toList = (k, m, 0)) (hk : k ≤ 1) (h1 : rdT (s.extract m s.size) = (t, n, e)) (he : e ≠ 0) : rdOp s = (ch0, 0, e) := by
  unfold rdOp; rw [h, if_neg (fun hh => hh rfl), if_neg (by show ¬ 1 < k; omega)]
  simp only [h1]
  exact if_pos he
theorem rdOp_4 (h : rdU s.data.toList = (0, m, 0)) (h1 : rdT (s.extract m s.size) = (t, n, 0)) : rdOp s = (⟨t, ⟨#[]⟩, true⟩, m + n, 0) := by
  unfold rdOp; rw [h, if_neg (fun hh => hh rfl), if_neg (by show ¬ 1 < 0; omega)]
  simp only [h1]
  rfl
theorem rdOp_5 (h : rdU s.data.toList = (1, m, 0)) (h1 : rdT (s.extract m s.size) = (t, n, 0)) (h2 : rdT (s.extract (m + n) s.size) = (t2, n2, e)) (he : e ≠ 0) : rdOp s = (ch0, 0, e) := by
  unfold rdOp; rw [h, if_neg (fun hh => hh rfl), if_neg (by show ¬ 1 < 1; omega)]
  simp only [h1, h2]
  rw [if_neg (fun hh => hh rfl), if_neg (by decide)]
  exact if_pos he
theorem rdOp_6 (h : rdU s.data.toList = (1, m, 0)) (h1 : rdT (s.extract m s.size) = (t, n, 0)) (h2 : rdT (s.extract (m + n) s.size) = (t2, n2, 0)) : rdOp s = (⟨t, t2, false⟩, m + n + n2, 0) := by
  unfold rdOp; rw [h, if_neg (fun hh => hh rfl), if_neg (by show ¬ 1 < 1; omega)]
  simp only [h1, h2]
  rfl
end
theorem rdOp_cases (s : ByteArray) :
    (∃ k m e, rdU s.data.toList = (k, m, e) ∧ e ≠ 0 ∧ rdOp s = (ch0, 0, e)) ∨
    (∃ k m, rdU s.data.toList = (k, m, 0) ∧ 1 < k ∧ rdOp s = (ch0, 0, 3)) ∨
    (∃ k m t n e, rdU s.data.toList = (k, m, 0) ∧ k ≤ 1 ∧ rdT (s.extract m s.size) = (t, n, e) ∧ e ≠ 0 ∧ rdOp s = (ch0, 0, e)) ∨
    (∃ m t n, rdU s.data.toList = (0, m, 0) ∧ rdT (s.extract m s.size) = (t, n, 0) ∧ rdOp s = (⟨t, ⟨#[]⟩, true⟩, m + n, 0)) ∨
    (∃ m t n t2 n2 e, rdU s.data.toList = (1, m, 0) ∧ rdT (s.extract m s.size) = (t, n, 0) ∧ rdT (s.extract (m + n) s.size) = (t2, n2, e) ∧ e ≠ 0 ∧ rdOp s = (ch0, 0, e)) ∨
    (∃ m t n t2 n2, rdU s.data.toList = (1, m, 0) ∧ rdT (s.extract m s.size) = (t, n, 0) ∧ rdT (s.extract (m + n) s.size) = (t2, n2, 0) ∧ rdOp s = (⟨t, t2, false⟩, m + n + n2, 0)) := by
  obtain ⟨k, m, e, h⟩ := Fm.trip (rdU s.data.toList)
  by_cases he : e = 0
  · subst he
    by_cases hk : 1 < k
    · exact .inr (.inl ⟨k, m, h, hk, rdOp_2 h hk⟩)
    · obtain ⟨t, n, e, h1⟩ := Fm.trip (rdT (s.extract m s.size))
      by_cases he : e = 0
      · subst he
        rcases (show k = 0 ∨ k = 1 by omega) with rfl | rfl
        · exact .inr (.inr (.inr (.inl ⟨m, t, n, h, h1, rdOp_4 h h1⟩)))
        · obtain ⟨t2, n2, e, h2⟩ := Fm.trip (rdT (s.extract (m + n) s.size))
          by_cases he : e = 0
          · subst he
            exact .inr (.inr (.inr (.inr (.inr ⟨m, t, n, t2, n2, h, h1, h2, rdOp_6 h h1 h2⟩))))
          · exact .inr (.inr (.inr (.inr (.inl ⟨m, t, n, t2, n2, e, h, h1, h2, he, rdOp_5 h h1 h2 he⟩))))
      · exact .inr (.inr (.inl ⟨k, m, t, n, e, h, by omega, h1, he, rdOp_3 h (by omega) h1 he⟩))
  · exact .inl ⟨k, m, e, h, he, rdOp_1 h he⟩
def rdN (s : ByteArray) : Nat → Nat → List Ch × Nat × Nat
  | 0, a => ([], a, 0)
  | n + 1, a => if (rdOp (s.extract a s.size)).2.2 ≠ 0 then ([], a, (rdOp (s.extract a s.size)).2.2) else
    ((rdOp (s.extract a s.size)).1 :: (rdN s n (a + (rdOp (s.extract a s.size)).2.1)).1, (rdN s n (a + (rdOp (s.extract a s.size)).2.1)).2.1, (rdN s n (a + (rdOp (s.extract a s.size)).2.1)).2.2)
theorem rdN_bad {s : ByteArray} {n a m e : Nat} {c : Ch} (h : rdOp (s.extract a s.size) = (c, m, e)) (he : e ≠ 0) : rdN s (n + 1) a = ([], a, e) := by rw [rdN, h]; exact if_pos he
theorem rdN_one {s : ByteArray} {n a m : Nat} {c : Ch} (h : rdOp (s.extract a s.size) = (c, m, 0)) : rdN s (n + 1) a = (c :: (rdN s n (a + m)).1, (rdN s n (a + m)).2.1, (rdN s n (a + m)).2.2) := by rw [rdN, h]; exact if_neg (fun hh => hh rfl)
def opsS (s : ByteArray) : List Ch × Nat :=
  if (rdU s.data.toList).2.2 ≠ 0 then ([], (rdU s.data.toList).2.2) else
  if (rdN s (rdU s.data.toList).1 (rdU s.data.toList).2.1).2.2 ≠ 0 then ([], (rdN s (rdU s.data.toList).1 (rdU s.data.toList).2.1).2.2) else
  if (rdN s (rdU s.data.toList).1 (rdU s.data.toList).2.1).2.1 < s.size then ([], 5) else ((rdN s (rdU s.data.toList).1 (rdU s.data.toList).2.1).1, 0)
section
variable {s : ByteArray} {k m a e : Nat} {l : List Ch}
theorem opsS_1 (h : rdU s.data.toList = (k, m, e)) (he : e ≠ 0) : opsS s = ([], e) := by unfold opsS; rw [h]; exact if_pos he
theorem opsS_2 (h : rdU s.data.toList = (k, m, 0)) (h1 : rdN s k m = (l, a, e)) (he : e ≠ 0) : opsS s = ([], e) := by
  unfold opsS; rw [h, if_neg (fun hh => hh rfl)]; simp only [h1]; exact if_pos he
theorem opsS_3 (h : rdU s.data.toList = (k, m, 0)) (h1 : rdN s k m = (l, a, 0)) (ha : a < s.size) : opsS s = ([], 5) := by
  unfold opsS; rw [h, if_neg (fun hh => hh rfl)]; simp only [h1]; rw [if_neg (fun hh => hh rfl)]; exact if_pos ha
theorem opsS_4 (h : rdU s.data.toList = (k, m, 0)) (h1 : rdN s k m = (l, a, 0)) (ha : ¬ a < s.size) : opsS s = (l, 0) := by
  unfold opsS; rw [h, if_neg (fun hh => hh rfl)]; simp only [h1]; rw [if_neg (fun hh => hh rfl)]; exact if_neg ha
end
theorem rdT_back (t : ByteArray) (m : List UInt8) (h : t.size ≤ 9223372036854775807) : rdT ⟨(tl t ++ m).toArray⟩ = (t, (tl t).length, 0) := by
  have := Fr.rdT_front t m h
  rw [tl, List.append_assoc, this, List.length_append, Wm.len_l]
theorem rdU_back (x : Nat) (r : List UInt8) (h : x ≤ 9223372036854775807) : rdU (vb x ++ r) = (x, (vb x).length, 0) := by
  unfold rdU
  rw [rd_vb x r (by omega), if_neg (by show ¬ (0 = 0 ∧ 9223372036854775807 < x); omega)]
theorem ext_at (p r : List UInt8) : (⟨(p ++ r).toArray⟩ : ByteArray).extract p.length (⟨(p ++ r).toArray⟩ : ByteArray).size = ⟨r.toArray⟩ := by
  apply ByteArray.ext
  rw [ByteArray.data_extract]
  apply Array.toList_inj.1
  simp [ByteArray.size]
theorem ext_list (s : ByteArray) (a : Nat) : (s.extract a s.size).data.toList = s.data.toList.drop a := by
  rw [ByteArray.data_extract, Array.toList_extract, List.extract_eq_take_drop, List.take_of_length_le]
  rw [List.length_drop, Wm.len_l]
  omega
theorem pl_gone (k v : ByteArray) : pl ⟨k, v, true⟩ = vb 0 ++ tl k := by unfold pl; exact if_pos rfl
theorem pl_give (k v : ByteArray) : pl ⟨k, v, false⟩ = vb 1 ++ (tl k ++ tl v) := by unfold pl; exact if_neg (fun h => by cases h)
theorem rdT_ok {s t : ByteArray} {n : Nat} (h : rdT s = (t, n, 0)) : n ≤ s.size ∧ s.data.toList.take n = tl t ∧ 0 < n := by
  have hle : n ≤ s.size ∧ 0 < n := by
    rcases rdT_cases s with ⟨e, he, _, _, h3⟩ | ⟨x, m, _, _, _, _, h3⟩ | ⟨x, m, hu, hn, hx, h3⟩
    · rw [h3] at h
      simp only [Prod.mk.injEq] at h
      exact absurd h.2.2 he
    · rw [h3] at h
      simp at h
    · rw [h3] at h
      simp only [Prod.mk.injEq] at h
      have := (rdU_ok hu).2.2.1
      omega
  refine ⟨hle.1, ?_, hle.2⟩
  have h1 := congrArg (fun x : ByteArray => x.data.toList) (Fr.ts_front h)
  simp only [ts_tl] at h1
  rw [← h1, ByteArray.data_extract, Array.toList_extract]
  simp [List.extract_eq_take_drop]
theorem rdOp_ok {s : ByteArray} {c : Ch} {n : Nat} (h : rdOp s = (c, n, 0)) : n ≤ s.size ∧ s.data.toList.take n = pl c ∧ 1 < n ∧ norm c = c := by
  rcases rdOp_cases s with ⟨k, m, e, _, he, h2⟩ | ⟨k, m, _, _, h2⟩ | ⟨k, m, t, n1, e, _, _, _, he, h2⟩ | ⟨m, t, n1, h0, h1, h2⟩ | ⟨m, t, n1, t2, n2, e, _, _, _, he, h2⟩ | ⟨m, t, n1, t2, n2, h0, h1, h3, h2⟩
  · rw [h2] at h; simp only [Prod.mk.injEq] at h; exact absurd h.2.2 he
  · rw [h2] at h; simp at h
  · rw [h2] at h; simp only [Prod.mk.injEq] at h; exact absurd h.2.2 he
  · rw [h2] at h
    simp only [Prod.mk.injEq] at h
    obtain ⟨rfl, rfl, _⟩ := h
    obtain ⟨a1, a2, a3, _⟩ := rdU_ok h0
    obtain ⟨b1, b2, b3⟩ := rdT_ok h1
    rw [Wm.len_l] at a1
    have hs : (s.extract m s.size).size = s.size - m := by simp
    rw [hs] at b1
    rw [ext_list] at b2
    refine ⟨by omega, ?_, by omega, rfl⟩
    rw [List.take_add, b2, ← a2, pl_gone]
  · rw [h2] at h; simp only [Prod.mk.injEq] at h; exact absurd h.2.2 he
  · rw [h2] at h
    simp only [Prod.mk.injEq] at h
    obtain ⟨rfl, rfl, _⟩ := h
    obtain ⟨a1, a2, a3, _⟩ := rdU_ok h0
    obtain ⟨b1, b2, b3⟩ := rdT_ok h1
    obtain ⟨c1, c2, c3⟩ := rdT_ok h3
    rw [Wm.len_l] at a1
    have hs : (s.extract m s.size).size = s.size - m := by simp
    have hs2 : (s.extract (m + n1) s.size).size = s.size - (m + n1) := by simp
    rw [hs] at b1
    rw [hs2] at c1
    rw [ext_list] at b2 c2
    refine ⟨by omega, ?_, by omega, rfl⟩
    rw [List.take_add, c2, List.take_add, b2, ← a2, List.append_assoc, pl_give]
theorem rdN_ok (s : ByteArray) (n : Nat) : ∀ (a : Nat) (l : List Ch) (b : Nat), rdN s n a = (l, b, 0) → a ≤ s.size → a ≤ b ∧ b ≤ s.size ∧ s.data.toList.take b = s.data.toList.take a ++ l.flatMap pl ∧ l.length = n ∧ l.map norm = l ∧ 2 * n ≤ b - a := by
  induction n with
  | zero =>
    intro a l b h ha
    rw [rdN] at h
    simp only [Prod.mk.injEq] at h
    obtain ⟨rfl, rfl, _⟩ := h
    exact ⟨Nat.le_refl _, ha, by simp, rfl, rfl, by omega⟩
  | succ n ih =>
    intro a l b h ha
    obtain ⟨c, m, e, h1⟩ := Fm.trip (rdOp (s.extract a s.size))
    by_cases he : e = 0
    · subst he
      obtain ⟨l2, b2, e2, h2⟩ := Fm.trip (rdN s n (a + m))
      rw [rdN_one h1, h2] at h
      simp only [Prod.mk.injEq] at h
      obtain ⟨rfl, rfl, rfl⟩ := h
      obtain ⟨c1, c2, c3, c4⟩ := rdOp_ok h1
      have hs : (s.extract a s.size).size = s.size - a := by simp
      rw [hs] at c1
      rw [ext_list] at c2
      obtain ⟨d1, d2, d3, d4, d5, d6⟩ := ih (a + m) l2 b2 h2 (by omega)
      refine ⟨by omega, d2, ?_, by rw [List.length_cons, d4], by rw [List.map_cons, c4, d5], by omega⟩
      rw [d3, List.take_add, c2, List.flatMap_cons, List.append_assoc]
    · rw [rdN_bad h1 he] at h
      simp only [Prod.mk.injEq] at h
      exact absurd h.2.2 he
theorem opsS_ok {s : ByteArray} {l : List Ch} (h : opsS s = (l, 0)) : rec7 l = s ∧ l.map norm = l ∧ 2 * l.length ≤ s.size := by
  obtain ⟨k, m, e, h0⟩ := Fm.trip (rdU s.data.toList)
  by_cases he : e = 0
  · subst he
    obtain ⟨l2, b, e, h1⟩ := Fm.trip (rdN s k m)
    by_cases he : e = 0
    · subst he
      by_cases hb : b < s.size
      · rw [opsS_3 h0 h1 hb] at h
        simp at h
      · rw [opsS_4 h0 h1 hb] at h
        simp only [Prod.mk.injEq] at h
        obtain ⟨rfl, _⟩ := h
        obtain ⟨a1, a2, a3, _⟩ := rdU_ok h0
        rw [Wm.len_l] at a1
        obtain ⟨d1, d2, d3, d4, d5, d6⟩ := rdN_ok s k m l2 b h1 a1
        refine ⟨?_, d5, by omega⟩
        have hbs : b = s.size := by omega
        apply ByteArray.ext
        apply Array.toList_inj.1
        rw [rec7_list, recl, d4, a2, ← d3, hbs, ← Wm.len_l, List.take_length]
    · rw [opsS_2 h0 h1 he] at h
      simp only [Prod.mk.injEq] at h
      exact absurd h.2 he
  · rw [opsS_1 h0 he] at h
    simp only [Prod.mk.injEq] at h
    exact absurd h.2 he
end Go.Proofs.YtdfcbnejnnibpaaGreatDoor.Tb

namespace Go.Proofs.YtdfcbnejnnibpaaGreatDoor.Wl
open Go.RowKit Tx Pm Dk Fr
set_option linter.unusedVariables false
def tT : ByteArray := ⟨#[95, 116]⟩
structure Jst where
  s : St
  R : List ByteArray
  dm : Bool
def fillS (s : St) (p d : ByteArray) : Nat × St :=
  if (writeS s (p ++ tT) d).1 ≠ 0 then writeS s (p ++ tT) d else
  if (syncS (writeS s (p ++ tT) d).2 (p ++ tT)).1 ≠ 0 then syncS (writeS s (p ++ tT) d).2 (p ++ tT) else
  renameS (syncS (writeS s (p ++ tT) d).2 (p ++ tT)).2 (p ++ tT) p
def bad (e : Nat) : Bool := decide (e = 6) || decide (e = 3)
def openS (s : St) (p : ByteArray) : Nat × Jst :=
  if kind s.L p = 0 then ((fillS s p ⟨#[]⟩).1, ⟨(fillS s p ⟨#[]⟩).2, [], false⟩) else
  if (readS s p).2 ≠ 0 then ((readS s p).2, ⟨s, [], false⟩) else
  if (Fm.sc (readS s p).1 0).2.2 = 0 then (0, ⟨s, (Fm.sc (readS s p).1 0).1, bad (Fm.sc (readS s p).1 0).2.2⟩) else
  ((fillS s p ((readS s p).1.extract 0 (Fm.sc (readS s p).1 0).2.1)).1, ⟨(fillS s p ((readS s p).1.extract 0 (Fm.sc (readS s p).1 0).2.1)).2, (Fm.sc (readS s p).1 0).1, bad (Fm.sc (readS s p).1 0).2.2⟩)
def LeftA {α : Type} (Obj : World → (Nat → Prop) → α → Prop) (w : World) (F : Nat → Prop) (x : α) (w' : World) : Prop := ∃ F', Obj w' F' x ∧ Chg F w w' ∧ ∀ g, F' g → F g ∨ w.heap.size ≤ g
structure JAt (O : World → (Nat → Prop) → St → Prop) (T : TypeId) (b j : Nat) (p : ByteArray) (v : Value) (Fd : Nat → Prop) (w : World) (F : Nat → Prop) (x : Jst) : Prop where
  dsk : O w Fd x.s
  blk : w.heap[j]? = some (.cells #[.pointer (some ⟨b, 0, none⟩), .string p, v, .bool x.dm] T (0, 0))
  row : Fr.Texts w 0 v x.R
  ne : v.ownBlock ≠ some j
  off : ∀ i, Fd i → i ≠ j ∧ v.ownBlock ≠ some i
  foot : ∀ i, F i ↔ Fd i ∨ i = j ∨ v.ownBlock = some i
def Jn (O : World → (Nat → Prop) → St → Prop) (T : TypeId) (b j : Nat) (p : ByteArray) (w : World) (F : Nat → Prop) (x : Jst) : Prop := ∃ v Fd, JAt O T b j p v Fd w F x
theorem JAt.lt {O : World → (Nat → Prop) → St → Prop} (k : Dk.Kind O) {T : TypeId} {b j : Nat} {p : ByteArray} {v : Value} {Fd : Nat → Prop} {w : World} {F : Nat → Prop} {x : Jst} (h : JAt O T b j p v Fd w F x) : ∀ i, F i → i < w.heap.size := fun i hi => by
  rcases (h.foot i).1 hi with h1 | rfl | h1
  · exact k.lt h.dsk i h1
  · exact (Array.getElem?_eq_some_iff.1 h.blk).1
  · exact (h.row.lt i h1).2
theorem JAt.kept {O : World → (Nat → Prop) → St → Prop} (k : Dk.Kind O) {T : TypeId} {b j : Nat} {p : ByteArray} {v : Value} {Fd : Nat → Prop} {w w1 : World} {F : Nat → Prop} {x : Jst} (h : JAt O T b j p v Fd w F x) (hk : ∀ i, F i → w1.heap[i]? = w.heap[i]?) : JAt O T b j p v Fd w1 F x :=
  ⟨k.kept h.dsk (fun i hi => hk i ((h.foot i).2 (.inl hi))), (hk j ((h.foot j).2 (.inr (.inl rfl)))).trans h.blk, own_kept h.row (fun g hg => hk g ((h.foot g).2 (.inr (.inr hg)))), h.ne, h.off, h.foot⟩
theorem JAt.below {O : World → (Nat → Prop) → St → Prop} (k : Dk.Kind O) {T : TypeId} {b j : Nat} {p : ByteArray} {v : Value} {Fd : Nat → Prop} {w w1 : World} {F : Nat → Prop} {x : Jst} (h : JAt O T b j p v Fd w F x) (hb : Below w.heap.size w w1) : JAt O T b j p v Fd w1 F x := h.kept k (fun i hi => hb.block i (h.lt k i hi))
theorem JAt.cell {O : World → (Nat → Prop) → St → Prop} {T : TypeId} {b j : Nat} {p : ByteArray} {v : Value} {Fd : Nat → Prop} {w : World} {F : Nat → Prop} {x : Jst} (h : JAt O T b j p v Fd w F x) :
    w.cell? ⟨j, 0, none⟩ = some (.pointer (some ⟨b, 0, none⟩)) ∧ w.cell? ⟨j, 1, none⟩ = some (.string p) ∧ w.cell? ⟨j, 2, none⟩ = some v ∧ w.cell? ⟨j, 3, none⟩ = some (.bool x.dm) := by
  have hb := h.blk
  refine ⟨?_, ?_, ?_, ?_⟩ <;> · unfold World.cell?; rw [hb]; rfl
theorem JAt.warm {O : World → (Nat → Prop) → St → Prop} {T : TypeId} {b j : Nat} {p : ByteArray} {v : Value} {Fd : Nat → Prop} {w : World} {F : Nat → Prop} {x : Jst} (h : JAt O T b j p v Fd w F x) (q : Nat) : w.frozen? ⟨j, q, none⟩ = false := by
  unfold World.frozen?
  rw [h.blk]
  simp
theorem JAt.disk_left {O : World → (Nat → Prop) → St → Prop} (k : Dk.Kind O) {T : TypeId} {b j : Nat} {p : ByteArray} {v : Value} {Fd : Nat → Prop} {w w1 : World} {F : Nat → Prop} {x : Jst} {s' : St} (h : JAt O T b j p v Fd w F x) (hl : Dk.Left O w Fd s' w1) :
    ∃ Fd' F', JAt O T b j p v Fd' w1 F' ⟨s', x.R, x.dm⟩ ∧ Chg F w w1 ∧ ∀ g, F' g → F g ∨ w.heap.size ≤ g := by
  obtain ⟨Fd', h1, h2, h3⟩ := hl
  have hj : j < w.heap.size := (Array.getElem?_eq_some_iff.1 h.blk).1
  have hvl := h.row.lt
  refine ⟨Fd', fun i => Fd' i ∨ i = j ∨ v.ownBlock = some i, ⟨h1, (h2.block j hj (fun hh => (h.off j hh).1 rfl)).trans h.blk, own_kept h.row (fun g hg => h2.block g (hvl g hg).2 (fun hh => (h.off g hh).2 hg)), h.ne, fun i hi => ?_, fun i => Iff.rfl⟩, h2.mono (fun i hi => (h.foot i).2 (.inl hi)), fun g hg => ?_⟩
  · rcases h3 i hi with hh | hh
    · exact h.off i hh
    · exact ⟨by omega, fun e => by have := (hvl i e).2; omega⟩
  · rcases hg with hg | hg
    · exact (h3 g hg).imp (fun hh => (h.foot g).2 (.inl hh)) id
    · exact .inl ((h.foot g).2 (.inr hg))
theorem jn_kind {O : World → (Nat → Prop) → St → Prop} (k : Dk.Kind O) (T : TypeId) (b j : Nat) (p : ByteArray) : (∀ {w F x}, Jn O T b j p w F x → ∀ i, F i → i < w.heap.size) ∧ (∀ {w w1 F x}, Jn O T b j p w F x → (∀ i, F i → w1.heap[i]? = w.heap[i]?) → Jn O T b j p w1 F x) :=
  ⟨fun ⟨v, Fd, h⟩ => h.lt k, fun ⟨v, Fd, h⟩ hk => ⟨v, Fd, h.kept k hk⟩⟩
theorem LeftA.trans {α : Type} {Obj : World → (Nat → Prop) → α → Prop} {w w1 w2 : World} {F F1 : Nat → Prop} {y : α} (hc : Chg F w w1) (hn : ∀ g, F1 g → F g ∨ w.heap.size ≤ g) (h : LeftA Obj w1 F1 y w2) : LeftA Obj w F y w2 := by
  obtain ⟨F2, h1, h2, h3⟩ := h
  have hs := hc.size
  exact ⟨F2, h1, hc.trans h2 hn, fun g hg => (h3 g hg).elim (fun hh => hn g hh) (fun hh => .inr (by omega))⟩
theorem left_trans {O : World → (Nat → Prop) → St → Prop} {w w1 w2 : World} {F F1 : Nat → Prop} {s : St} (hc : Chg F w w1) (hn : ∀ g, F1 g → F g ∨ w.heap.size ≤ g) (h : Dk.Left O w1 F1 s w2) : Dk.Left O w F s w2 := by
  obtain ⟨F2, h1, h2, h3⟩ := h
  have hs := hc.size
  exact ⟨F2, h1, hc.trans h2 hn, fun g hg => (h3 g hg).elim (fun hh => hn g hh) (fun hh => .inr (by omega))⟩
def Mid (O : World → (Nat → Prop) → St → Prop) (T : TypeId) (b j : Nat) (p : ByteArray) (v : Value) (w : World) (F : Nat → Prop) (x : Jst) (W : World) : Prop := ∃ Fd' F', JAt O T b j p v Fd' W F' x ∧ Chg F w W ∧ ∀ g, F' g → F g ∨ w.heap.size ≤ g
theorem Mid.left {O : World → (Nat → Prop) → St → Prop} {T : TypeId} {b j : Nat} {p : ByteArray} {v : Value} {w W : World} {F : Nat → Prop} {x : Jst} (h : Mid O T b j p v w F x W) : LeftA (Jn O T b j p) w F x W := by
  obtain ⟨Fd, F', q, h1, h2⟩ := h
  exact ⟨F', ⟨v, Fd, q⟩, h1, h2⟩
theorem Mid.of {O : World → (Nat → Prop) → St → Prop} (k : Dk.Kind O) {T : TypeId} {b j : Nat} {p : ByteArray} {v : Value} {w W : World} {F Fd : Nat → Prop} {x : Jst} (h : JAt O T b j p v Fd w F x) (hb : Below w.heap.size w W) : Mid O T b j p v w F x W := ⟨Fd, F, h.below k hb, Chg.of_below hb, fun g hg => .inl hg⟩
theorem Mid.trans {O : World → (Nat → Prop) → St → Prop} {T : TypeId} {b j : Nat} {p : ByteArray} {v : Value} {w W W2 : World} {F F1 : Nat → Prop} {x : Jst} (hc : Chg F w W) (hn : ∀ g, F1 g → F g ∨ w.heap.size ≤ g) (h : Mid O T b j p v W F1 x W2) : Mid O T b j p v w F x W2 := by
  obtain ⟨Fd, F2, q, h1, h2⟩ := h
  have hs := hc.size
  exact ⟨Fd, F2, q, hc.trans h1 hn, fun g hg => (h2 g hg).elim (fun hh => hn g hh) (fun hh => .inr (by omega))⟩
theorem Mid.below {O : World → (Nat → Prop) → St → Prop} (k : Dk.Kind O) {T : TypeId} {b j : Nat} {p : ByteArray} {v : Value} {w W W2 : World} {F : Nat → Prop} {x : Jst} (h : Mid O T b j p v w F x W) (hb : Below W.heap.size W W2) : Mid O T b j p v w F x W2 := by
  obtain ⟨Fd, F', q, h1, h2⟩ := h
  exact Mid.trans h1 h2 (Mid.of k q hb)
theorem JAt.poke {O : World → (Nat → Prop) → St → Prop} (k : Dk.Kind O) {T : TypeId} {b j : Nat} {p : ByteArray} {v v' : Value} {Fd : Nat → Prop} {w w1 : World} {F : Nat → Prop} {x : Jst} {R : List ByteArray} {dm : Bool} (h : JAt O T b j p v Fd w F x) (hc : Chg (fun i => i = j ∨ v.ownBlock = some i) w w1)
    (hb : w1.heap[j]? = some (.cells #[.pointer (some ⟨b, 0, none⟩), .string p, v', .bool dm] T (0, 0))) (hr : Fr.Texts w1 0 v' R) (hv : ∀ i, v'.ownBlock = some i → v.ownBlock = some i ∨ w.heap.size ≤ i) :
    Mid O T b j p v' w F ⟨x.s, R, dm⟩ w1 := by
  have hvl := h.row.lt
  refine ⟨Fd, fun i => Fd i ∨ i = j ∨ v'.ownBlock = some i, ⟨k.kept h.dsk (fun i hi => hc.block i (k.lt h.dsk i hi) (fun hh => by rcases hh with hh | hh; exact (h.off i hi).1 hh; exact (h.off i hi).2 hh)), hb, hr, fun e => by rcases hv j e with hh | hh; exact h.ne hh; have := (Array.getElem?_eq_some_iff.1 h.blk).1; omega, fun i hi => ⟨(h.off i hi).1, fun e => ?_⟩, fun i => Iff.rfl⟩, hc.mono (fun i hi => (h.foot i).2 (.inr hi)), fun g hg => ?_⟩
  · rcases hv i e with hh | hh
    · exact (h.off i hi).2 hh
    · have := k.lt h.dsk i hi; omega
  · rcases hg with hg | hg | hg
    · exact .inl ((h.foot g).2 (.inl hg))
    · exact .inl ((h.foot g).2 (.inr (.inl hg)))
    · exact (hv g hg).imp (fun hh => (h.foot g).2 (.inr (.inr hh))) id
end Go.Proofs.YtdfcbnejnnibpaaGreatDoor.Wl

namespace Go.Proofs.YtdfcbnejnnibpaaGreatDoor.Dk
open Go.RowKit Tx Pm
set_option linter.unusedVariables false
structure Reads (O : World → (Nat → Prop) → St → Prop) (v : Value) (f : Fin 5 → FuncId) : Prop where
  read : ∀ {w F s i T} (P : ByteArray), O w F s → Far s i T → P.size ≤ 1048576 → Calls Tryz.prog (f 0) #[v, .string P] w fun e w' => e = .returned (.tuple #[.string (readS s P).1, .int .i64 ((readS s P).2 : Nat)]) ∧ Below w.heap.size w w'
  kind : ∀ {w F s i T} (P : ByteArray), O w F s → Far s i T → P.size ≤ 1048576 → Calls Tryz.prog (f 1) #[v, .string P] w fun e w' => e = .returned (.int .i64 (kind s.L P : Nat)) ∧ Below w.heap.size w w'
  stamp : ∀ {w F s i T} (P : ByteArray), O w F s → Far s i T → P.size ≤ 1048576 → Calls Tryz.prog (f 2) #[v, .string P] w fun e w' => e = .returned (.int .i64 (stampS s P : Nat)) ∧ Below w.heap.size w w'
  used : ∀ {w F s i T} (P : ByteArray), O w F s → Far s i T → P.size ≤ 1048576 → Calls Tryz.prog (f 3) #[v, .string P] w fun e w' => e = .returned (.int .i64 (used s.L P : Nat)) ∧ Below w.heap.size w w'
  list : ∀ {w F s i T} (P : ByteArray), O w F s → Far s i T → P.size ≤ 1048576 → Calls Tryz.prog (f 4) #[v, .string P] w (ListTo (list s.L P) w)
end Go.Proofs.YtdfcbnejnnibpaaGreatDoor.Dk



namespace Go.Proofs.YtdfcbnejnnibpaaGreatDoor.Tx
open Go.RowKit
set_option linter.unusedVariables false
theorem below_drewN {B : Nat} {a w : World} (h : Below B a w) (n : Nat) : Below B a (w.drewN n) := ⟨h.os, h.tape, h.output, h.size, h.block⟩
end Go.Proofs.YtdfcbnejnnibpaaGreatDoor.Tx
