/- Texts of this seat, one behind the other. -/
import Derived.WalkKit
import Derived.Test.YtbghokdlnnaeeaaRows
import Derived.WalkLawsBesides
import Derived.WalkSpells
import Derived.LoopTactic
import Derived.Lib.Hide
import Derived.Deep.AppendLies
import Derived.Deep.QuietTactic
import Derived.BigQuiet
import Derived.Laws.Rows
import Derived.Laws.NewBlocks
import Derived.Test.YtbghokdlnnaeeaaProg
import Derived.Deep.RegionHeld3
import Derived.Deep.CutBlock
import Derived.Deep.CutRange
import Derived.Deep.RegionWith
import Derived.Maps.AppendAt
import Derived.Laws.BytesArg
import Derived.Laws.IdiomStrings
import Derived.RegionTactic
import Derived.ChangeAlike
import Derived.Maps.RangeWalk
/- Plain mathematics of paths (no Go text). -/
namespace Go.Proofs.Ytbghokdlnnaeeaa.Pm
set_option linter.unusedVariables false

/-- The texts between strokes. -/
def spl : List UInt8 → List (List UInt8)
  | [] => [[]]
  | c :: r => if c = 47 then [] :: spl r else
    match spl r with
    | [] => [[c]]
    | x :: xs => (c :: x) :: xs
theorem spl_ne (l : List UInt8) : spl l ≠ [] := by
  cases l with
  | nil => simp [spl]
  | cons c r =>
    rw [spl]
    split
    · simp
    · split <;> simp
/-- A text that has begun is laid ahead of the first one. -/
def glue (one : List UInt8) : List (List UInt8) → List (List UInt8)
  | [] => [one]
  | x :: xs => (one ++ x) :: xs
theorem glue_nil {l : List (List UInt8)} (h : l ≠ []) : glue [] l = l := by
  cases l with
  | nil => exact absurd rfl h
  | cons x xs => rfl
theorem glue_step (one : List UInt8) (c : UInt8) (r : List UInt8) (h : c ≠ 47) : glue one (spl (c :: r)) = glue (one ++ [c]) (spl r) := by
  rw [spl, if_neg h]
  cases hs : spl r with
  | nil => exact absurd hs (spl_ne r)
  | cons x xs => simp [glue]
theorem glue_cut (one : List UInt8) (r : List UInt8) : glue one (spl (47 :: r)) = one :: spl r := by
  rw [spl, if_pos rfl]
  simp [glue]
theorem spl_len (l : List UInt8) : (spl l).length ≤ l.length + 1 := by
  induction l with
  | nil => simp [spl]
  | cons c r ih =>
    rw [spl]
    split
    · simp; omega
    · split
      · simp
      · rename_i x xs h
        rw [h] at ih
        simp at ih ⊢
        omega

/-- A name's letters. -/
def okC (c : UInt8) : Bool := (97 ≤ c.toNat && c.toNat ≤ 122) || (48 ≤ c.toNat && c.toNat ≤ 57) || c.toNat == 95
def isName (l : List UInt8) : Bool := decide (1 ≤ l.length) && decide (l.length ≤ 12) && l.all okC
def isPath (l : List UInt8) (deep : Int) : Bool := decide (((spl l).length : Int) ≤ deep) && (spl l).all isName
/-- What Check answers. -/
def chk (l : List UInt8) (deep : Int) : Nat := if isPath l deep then 0 else 10

/-- The place behind the last stroke; 0 if there is none. -/
def lastN : List UInt8 → Nat
  | [] => 0
  | c :: r => if lastN r = 0 then (if c = 47 then 1 else 0) else lastN r + 1
theorem lastN_le (l : List UInt8) : lastN l ≤ l.length := by
  induction l with
  | nil => exact Nat.le_refl _
  | cons c r ih =>
    rw [lastN]
    split
    · split <;> simp
    · simp; omega
theorem lastN_snoc (l : List UInt8) (c : UInt8) : lastN (l ++ [c]) = if c = 47 then l.length + 1 else lastN l := by
  induction l with
  | nil => simp [lastN]
  | cons d r ih =>
    rw [List.cons_append, lastN, ih, lastN]
    by_cases h : c = 47
    · simp [h]
    · simp [h]
def par (l : List UInt8) : List UInt8 := l.take (lastN l - 1)
def bas (l : List UInt8) : List UInt8 := l.drop (lastN l)
def joi (a b : List UInt8) : List UInt8 := if a ≠ [] ∧ b ≠ [] then a ++ 47 :: b else a ++ b
def und (p top : List UInt8) : Bool := decide (top = []) || decide (p = top) || (top ++ [47]).isPrefixOf p
def dep (p : List UInt8) : Nat := if p = [] then 0 else (spl p).length

end Go.Proofs.Ytbghokdlnnaeeaa.Pm

/- Lists of texts: a list of one's own, a slice that reads as a list. -/
namespace Go.Proofs.Ytbghokdlnnaeeaa.Tx
open Go.RowKit
set_option linter.unusedVariables false

theorem info9 : (Try.prog.info? 9).map (fun i => (i.zero, i.size, i.bytes)) = some (some (.string ⟨#[]⟩), 1, 16) := by kernel_rfl
theorem below_new {w w1 : World} {o : Obj} (h : Below w.heap.size w w1) : Below w.heap.size w (w1.alloc o) := h.alloc h.size o
theorem below_at {w w1 w2 : World} {b : Nat} (h : Below w.heap.size w w1) (hg : w1.grownBy w2 (some b)) (hb : w.heap.size ≤ b) : Below w.heap.size w w2 :=
  h.grown hg h.size (fun k hk => by injection hk with hk; omega)
theorem below_call {w w1 w2 : World} (h : Below w.heap.size w w1) (h2 : Below w1.heap.size w1 w2) : Below w.heap.size w w2 := h.trans (h2.mono h.size)
theorem below_step {w wr w1 : World} {e : TypeId} {size n : Nat} {v : Value} {xs : List Value} {o : Obj} (hb : Below w.heap.size w wr) (hown : wr.ownsRow w.heap.size e size v n xs) (hg : (wr.alloc o).grownBy w1 v.ownBlock) : Below w.heap.size w w1 :=
  (hb.alloc hb.size o).grown hg (by have := hb.size; simp; omega) (fun k hk => (hown.lt k hk).1)
theorem len_l (s : ByteArray) : s.data.toList.length = s.size := by rw [Array.length_toList]; rfl
theorem gd (s : ByteArray) (k : Nat) (h : k < s.size) : s.data.toList.getD k 0 = s[k] := by
  have h' : k < s.data.size := h
  rw [List.getD_eq_getElem?_getD, Array.getElem?_toList, Array.getElem?_eq_getElem h']
  rfl
theorem mk_len (l : List UInt8) : (⟨l.toArray⟩ : ByteArray).size = l.length := by rw [ByteArray.size, List.size_toArray]
/-- Bytes as a text. -/
def tb (l : List UInt8) : ByteArray := ⟨l.toArray⟩
theorem tb_list (l : List UInt8) : (tb l).data.toList = l := rfl
theorem tb_of (s : ByteArray) : tb s.data.toList = s := by
  apply ByteArray.ext
  rfl
theorem tb_size (l : List UInt8) : (tb l).size = l.length := mk_len l
theorem bytes_ne {a b : ByteArray} (h : a ≠ b) : (a.toList == b.toList) = false := by
  rw [ByteArray.toList_eq, ByteArray.toList_eq]
  apply Bool.eq_false_iff.2
  intro hc
  exact h (ByteArray.ext (Array.toList_inj.1 (eq_of_beq hc)))

/-- A string as a value. -/
def sv (s : ByteArray) : Value := .string s
theorem sv_one (l : List ByteArray) : ∀ u ∈ l.map sv, u.oneCell' = true := by
  intro u hu
  obtain ⟨s, _, rfl⟩ := List.mem_map.1 hu
  rfl
/-- v is a list of texts of one's own, from block B on. -/
def Texts (w : World) (B : Nat) (v : Value) (l : List ByteArray) : Prop := w.ownsRow B 9 1 v l.length (l.map sv)
theorem Texts.below {w w1 : World} {B : Nat} {v : Value} {l : List ByteArray} (h : Texts w B v l) (hb : Below w.heap.size w w1) : Texts w1 B v l := by
  refine ⟨h.1, ?_⟩
  rcases h.2 with h0 | ⟨g', cap', cur, hv, hg, hh, r⟩
  · exact .inl h0
  · exact .inr ⟨g', cap', cur, hv, hg, (hb.block g' (Array.getElem?_eq_some_iff.1 hh).1).trans hh, r⟩
/-- The slice at a, of n elements, reads as the texts l. -/
def Strs (w : World) (a : Option Addr) (n : Nat) (l : List ByteArray) : Prop := l.length = n ∧ (n = 0 ∨ ∃ b off, a = some ⟨b, off, none⟩ ∧ b < w.heap.size ∧ ∀ k x, l[k]? = some x → w.cell? ⟨b, off + k, none⟩ = some (.string x))
theorem Strs.below {w w1 : World} {a : Option Addr} {n : Nat} {l : List ByteArray} (h : Strs w a n l) (hb : Below w.heap.size w w1) : Strs w1 a n l := by
  refine ⟨h.1, ?_⟩
  rcases h.2 with h0 | ⟨b, off, ha, hlt, hc⟩
  · exact .inl h0
  · exact .inr ⟨b, off, ha, Nat.lt_of_lt_of_le hlt hb.size, fun k x hx => (hb.cell (p := ⟨b, off + k, none⟩) hlt).trans (hc k x hx)⟩
theorem Texts.form {w : World} {B : Nat} {v : Value} {l : List ByteArray} (h : Texts w B v l) : ∃ a c, v = .slice a l.length c ∧ Strs w a l.length l ∧ l.length ≤ c ∧ c ≤ maxLen := by
  have hh := h
  rcases h.2 with ⟨rfl, h0⟩ | ⟨g, cap, cur, rfl, hg, hh2, hn, hc, _⟩
  · exact ⟨none, 0, by rw [h0], ⟨rfl, .inl h0⟩, by omega, Nat.zero_le _⟩
  · refine ⟨some ⟨g, 0, none⟩, cap, rfl, ⟨rfl, .inr ⟨g, 0, rfl, (Array.getElem?_eq_some_iff.1 hh2).1, fun k x hx => ?_⟩⟩, hn, hc⟩
    have := hh.cells (g := g) rfl k (sv x) (by rw [List.getElem?_map, hx]; rfl)
    rw [← WideShapes.add_plain]
    exact this

end Go.Proofs.Ytbghokdlnnaeeaa.Tx

/- What the document's own functions of paths answer: contracts. -/
namespace Go.Proofs.Ytbghokdlnnaeeaa.Pr
open Go.RowKit Pm Tx
set_option linter.unusedVariables false

/-- What Split answers. -/
def SplitTo (p : ByteArray) (w : World) (e : Ending) (w' : World) : Prop := ∃ v, e = .returned v ∧ Texts w' w.heap.size v ((spl p.data.toList).map tb) ∧ Below w.heap.size w w'
/-- Of k bytes the texts out are whole, and one has begun. -/
def At (p : ByteArray) (k : Nat) (out : List ByteArray) (one : ByteArray) : Prop := (spl p.data.toList).map tb = out ++ (glue one.data.toList (spl (p.data.toList.drop k))).map tb ∧ out.length + one.size ≤ k
theorem at_start (p : ByteArray) : At p 0 [] ⟨#[]⟩ := by
  refine ⟨?_, Nat.le_refl _⟩
  rw [List.drop_zero, List.nil_append]
  congr 1
  exact (glue_nil (spl_ne _)).symm
theorem drop_at (p : ByteArray) (k : Nat) (h : k < p.size) : p.data.toList.drop k = p[k] :: p.data.toList.drop (k + 1) := by
  have h' : k < p.data.toList.length := by rw [len_l]; exact h
  rw [List.drop_eq_getElem_cons h']
  rfl
theorem at_cut {p one : ByteArray} {k : Nat} {out : List ByteArray} (h : At p k out one) (hk : k < p.size) (hc : p[k].toNat = 47) : At p (k + 1) (out ++ [one]) ⟨#[]⟩ := by
  have e : p[k] = 47 := UInt8.toNat_inj.1 hc
  obtain ⟨h1, h2⟩ := h
  refine ⟨?_, by rw [List.length_append]; show _ + 1 + 0 ≤ _; omega⟩
  rw [h1, drop_at p k hk, e, glue_cut]
  have e2 : (glue (ByteArray.mk #[]).data.toList (spl (p.data.toList.drop (k + 1)))) = spl (p.data.toList.drop (k + 1)) := glue_nil (spl_ne _)
  rw [e2, List.map_cons, tb_of, List.append_assoc]
  rfl
theorem at_more {p one : ByteArray} {k : Nat} {out : List ByteArray} (h : At p k out one) (hk : k < p.size) (hc : p[k].toNat ≠ 47) : At p (k + 1) out (one ++ p.extract k (k + 1)) := by
  have e : p[k] ≠ 47 := fun e => hc (by rw [e]; rfl)
  obtain ⟨h1, h2⟩ := h
  have e2 : (p.extract k (k + 1)).data.toList = [p[k]] := by
    rw [ByteArray.data_extract, Array.toList_extract, List.extract_eq_take_drop, drop_at p k hk]
    simp
  refine ⟨?_, ?_⟩
  · rw [h1, drop_at p k hk, glue_step _ _ _ e, ByteArray.data_append, Array.toList_append, e2]
  · rw [ByteArray.size_append, ← len_l (p.extract k (k + 1)), e2]
    show _ + (_ + 1) ≤ _
    omega
theorem at_end {p one : ByteArray} {k : Nat} {out : List ByteArray} (h : At p k out one) (hk : ¬ k < p.size) : (spl p.data.toList).map tb = out ++ [one] := by
  rw [h.1, List.drop_of_length_le (by rw [len_l]; omega)]
  simp [spl, glue, tb_of]

end Go.Proofs.Ytbghokdlnnaeeaa.Pr

/- What the document's own functions of paths answer, but for Split: contracts. -/
namespace Go.Proofs.Ytbghokdlnnaeeaa.Pr
open Go.RowKit Pm Tx
set_option linter.unusedVariables false

theorem take_at (p : ByteArray) (k : Nat) (h : k < p.size) : p.data.toList.take (k + 1) = p.data.toList.take k ++ [p[k]] := by
  have h' : k < p.data.toList.length := by rw [len_l]; exact h
  rw [List.take_succ_eq_append_getElem h']
  rfl
theorem take_all (p : ByteArray) : p.data.toList.take p.size = p.data.toList := List.take_of_length_le (by rw [len_l]; omega)
theorem all_at (p : ByteArray) (k : Nat) (h : k < p.size) (ha : (p.data.toList.take k).all okC = true) (hb : okC p[k] = true) : (p.data.toList.take (k + 1)).all okC = true := by
  rw [take_at p k h, List.all_append, ha]
  simp [hb]
theorem all_not (p : ByteArray) (k : Nat) (h : k < p.size) (hb : okC p[k] = false) : isName p.data.toList = false := by
  have h' : k < p.data.toList.length := by rw [len_l]; exact h
  have : p.data.toList.all okC = false := by
    rw [← Bool.not_eq_true, List.all_eq_true]
    intro hall
    have := hall _ (List.getElem_mem h')
    have e : p.data.toList[k] = p[k] := rfl
    rw [e, hb] at this
    cases this
  rw [isName, this, Bool.and_false]

end Go.Proofs.Ytbghokdlnnaeeaa.Pr

/- What the document's own Parent, Base, Join, Under, Deep, Check answer: contracts. -/
namespace Go.Proofs.Ytbghokdlnnaeeaa.Pr
open Go.RowKit Pm Tx
set_option linter.unusedVariables false

theorem par_ext (s : ByteArray) : s.extract 0 (lastN s.data.toList - 1) = tb (par s.data.toList) := by
  apply ByteArray.ext
  apply Array.toList_inj.1
  rw [ByteArray.data_extract, Array.toList_extract, List.extract_eq_take_drop]
  simp [tb, par]
theorem bas_ext (s : ByteArray) : s.extract (lastN s.data.toList) s.size = tb (bas s.data.toList) := by
  apply ByteArray.ext
  apply Array.toList_inj.1
  rw [ByteArray.data_extract, Array.toList_extract, List.extract_eq_take_drop]
  simp [tb, bas]
  rw [List.take_of_length_le (by rw [List.length_drop, len_l]; omega)]

theorem size_zero {s : ByteArray} : s.size = 0 ↔ s = ⟨#[]⟩ := by
  refine ⟨fun h => ?_, fun h => by rw [h]; rfl⟩
  apply ByteArray.ext
  exact Array.eq_empty_of_size_eq_zero h
theorem list_nil {s : ByteArray} (h : s = ⟨#[]⟩) : s.data.toList = [] := by rw [h]
theorem list_ne {s : ByteArray} (h : s ≠ ⟨#[]⟩) : s.data.toList ≠ [] := fun e => h (ByteArray.ext (Array.toList_inj.1 e))
theorem is_empty {s : ByteArray} (h : s = ⟨#[]⟩) : s.toList.isEmpty = true := by rw [h, ByteArray.toList_eq]; rfl
theorem not_empty {s : ByteArray} (h : s ≠ ⟨#[]⟩) : s.toList.isEmpty = false := by
  rw [ByteArray.toList_eq]
  cases e : s.data.toList with
  | nil => exact absurd e (list_ne h)
  | cons c r => rfl

theorem extract_eq {p t : ByteArray} : p.extract 0 t.size = t ↔ t.data.toList <+: p.data.toList := by
  have e : (p.extract 0 t.size).data.toList = p.data.toList.take t.data.toList.length := by
    rw [ByteArray.data_extract, Array.toList_extract, List.extract_eq_take_drop, len_l]
    simp
  rw [List.prefix_iff_eq_take, ← e]
  exact ⟨fun h => by rw [h], fun h => ByteArray.ext (Array.toList_inj.1 h.symm)⟩
theorem und_top {p top : ByteArray} (h : top = ⟨#[]⟩) : und p.data.toList top.data.toList = true := by
  rw [und, list_nil h]; simp
theorem und_same {p top : ByteArray} (h : p = top) : und p.data.toList top.data.toList = true := by
  rw [und, h]; simp
theorem und_eq {p top : ByteArray} (h1 : top ≠ ⟨#[]⟩) (h2 : p ≠ top) : und p.data.toList top.data.toList = (top.data.toList ++ [47]).isPrefixOf p.data.toList := by
  have e1 := list_ne h1
  have e2 : p.data.toList ≠ top.data.toList := fun e => h2 (ByteArray.ext (Array.toList_inj.1 e))
  rw [und, decide_eq_false e1, decide_eq_false e2, Bool.false_or, Bool.false_or]
theorem pre_cons {p t : ByteArray} (h : t.size < p.size) : t.data.toList ++ [47] <+: p.data.toList ↔ (t.data.toList <+: p.data.toList ∧ p[t.size] = 47) := by
  have h' : t.data.toList.length < p.data.toList.length := by rw [len_l, len_l]; exact h
  have e : p.data.toList[t.data.toList.length] = p[t.size] := by
    have e3 : ∀ (k : Nat) (hk : k < p.data.toList.length) (hk2 : k < p.size), p.data.toList[k] = p[k] := fun _ _ _ => rfl
    have e4 : ∀ (k n : Nat) (hk : k < p.size) (hn : n < p.size), k = n → p[k] = p[n] := by
      intro k n hk hn hh
      subst hh
      rfl
    rw [e3 _ h' (by rw [len_l]; exact h)]
    exact e4 _ _ _ _ (len_l t)
  rw [List.prefix_iff_eq_take, List.prefix_iff_eq_take, List.length_append, List.length_singleton, List.take_succ_eq_append_getElem h', e]
  constructor
  · intro hh
    have := List.append_inj hh (by rw [List.length_take]; omega)
    refine ⟨this.1, ?_⟩
    have h3 := this.2
    injection h3 with h3 _
    exact h3.symm
  · rintro ⟨h1, h2⟩
    rw [← h1, h2]
theorem pre_short {p t : ByteArray} (h : p.size ≤ t.size) : (t.data.toList ++ [47]).isPrefixOf p.data.toList = false := by
  apply Bool.eq_false_iff.2
  intro hh
  have := (List.isPrefixOf_iff_prefix.1 hh).length_le
  rw [List.length_append, len_l, len_l] at this
  simp at this
  omega

theorem all_step (l : List (List UInt8)) (k : Nat) (x : List UInt8) (h : l[k]? = some x) (ha : (l.take k).all isName = true) (hb : isName x = true) : (l.take (k + 1)).all isName = true := by
  obtain ⟨hk, he⟩ := List.getElem?_eq_some_iff.1 h
  rw [List.take_succ_eq_append_getElem hk, List.all_append, ha, he]
  simp [hb]
theorem all_fail (l : List (List UInt8)) (k : Nat) (x : List UInt8) (h : l[k]? = some x) (hb : isName x = false) : l.all isName = false := by
  obtain ⟨hk, he⟩ := List.getElem?_eq_some_iff.1 h
  rw [← Bool.not_eq_true, List.all_eq_true]
  intro hall
  have := hall _ (List.getElem_mem hk)
  rw [he, hb] at this
  cases this
theorem chk_far {l : List UInt8} {d : Int} (h : d < (spl l).length) : chk l d = 10 := by
  rw [chk, isPath, decide_eq_false (by omega), Bool.false_and, if_neg (by simp)]
theorem chk_bad {l : List UInt8} {d : Int} (h : (spl l).all isName = false) : chk l d = 10 := by
  rw [chk, isPath, h, Bool.and_false, if_neg (by simp)]
theorem chk_good {l : List UInt8} {d : Int} (hd : ((spl l).length : Int) ≤ d) (h : (spl l).all isName = true) : chk l d = 0 := by
  rw [chk, isPath, h, decide_eq_true hd, Bool.and_true, if_pos rfl]
theorem spl_sizes (l : List UInt8) : ∀ x ∈ spl l, x.length ≤ l.length := by
  induction l with
  | nil => simp [spl]
  | cons c r ih =>
    rw [spl]
    split
    · intro x hx
      rcases List.mem_cons.1 hx with rfl | hx
      · simp
      · have := ih x hx; simp; omega
    · cases hs : spl r with
      | nil => exact absurd hs (spl_ne r)
      | cons y ys =>
        rw [hs] at ih
        intro x hx
        rcases List.mem_cons.1 hx with rfl | hx
        · have := ih y (List.mem_cons_self ..); simp; omega
        · have := ih x (List.mem_cons_of_mem _ hx); simp; omega

end Go.Proofs.Ytbghokdlnnaeeaa.Pr

/- The document's own disk: its items as mathematics, and how it lies in memory. -/
namespace Go.Proofs.Ytbghokdlnnaeeaa.Dk
open Go.RowKit Tx Pm
set_option linter.unusedVariables false

/-! Mathematics -/
/-- A folder or a file. -/
structure It where
  path : ByteArray
  dir : Bool
  data : ByteArray
  kept : ByteArray
  loose : Bool
  anew : Bool
  stamp : Nat
/-- A volume's limit. -/
structure Rm where
  vol : ByteArray
  n : Int
/-- A disk. -/
structure St where
  L : List It
  rooms : List Rm
  steps : Nat
  stamps : Nat
  armed : Int
  down : Bool
def find (l : List It) (p : ByteArray) : Option It := l.find? (fun x => decide (x.path = p))
/-- Where a path stands; the length, if nowhere. -/
def place (l : List It) (p : ByteArray) : Nat := l.findIdx (fun x => decide (x.path = p))
def kindOf : Option It → Nat
  | none => 0
  | some x => if x.dir then 1 else 2
def kind (l : List It) (p : ByteArray) : Nat := kindOf (find l p)
/-- The first name. -/
def vol (p : ByteArray) : ByteArray := tb ((spl p.data.toList).headD [])
def used (l : List It) (v : ByteArray) : Nat := (l.map fun x => if vol x.path = v then x.data.size else 0).sum
/-- All bytes. -/
def whole (l : List It) : Nat := (l.map fun x => x.data.size).sum
theorem used_le (l : List It) (v : ByteArray) : used l v ≤ whole l := by
  unfold used whole
  induction l with
  | nil => exact Nat.le_refl _
  | cons x l ih =>
    simp only [List.map_cons, List.sum_cons]
    split <;> omega
def fits (s : St) (p : ByteArray) (more : Int) : Bool := decide (more ≤ 0) || s.rooms.all (fun r => !(decide (r.vol = vol p) && decide ((used s.L (vol p) : Int) + more > r.n)))
def first (s : St) (p : ByteArray) (names : Nat) : Nat := if s.down then 14 else if chk p.data.toList 6 ≠ 0 ∨ (spl p.data.toList).length ≤ names then 10 else 0
/-- Whether a path has a folder. -/
def home (l : List It) (p : ByteArray) : Bool := decide (par p.data.toList = []) || decide (kind l (tb (par p.data.toList)) = 1)
def there (s : St) (p : ByteArray) : Nat := if first s p 1 ≠ 0 then first s p 1 else if kind s.L p = 0 then 11 else if kind s.L p = 1 then 12 else 0
def done (s : St) : Nat × St := if s.armed = 0 then (14, { s with down := true, armed := -1 }) else (0, { s with armed := if s.armed > 0 then s.armed - 1 else s.armed, steps := s.steps + 1 })
/-- An item in its place. -/
def ins (l : List It) (x : It) : List It := l.takeWhile (fun y => Op.bytesLess y.path.toList x.path.toList) ++ x :: (match l.dropWhile (fun y => Op.bytesLess y.path.toList x.path.toList) with | [] => [] | y :: r => if y.path = x.path then r else y :: r)
def drop (l : List It) (p : ByteArray) : List It := l.filter (fun x => !decide (x.path = p))
def stamped (s : St) (x : It) : It := { x with stamp := s.stamps + 1 }
/-- The item at a path, with the next stamp. -/
def putS (s : St) (x : It) : St := { s with L := ins s.L (stamped s x), stamps := s.stamps + 1 }
def list (l : List It) (p : ByteArray) : List ByteArray := (l.filter fun x => decide (tb (par x.path.data.toList) = p)).map (·.path)

/-! Memory -/
def cells (x : It) : List Value := [.string x.path, .bool x.dir, .string x.data, .string x.kept, .bool x.loose, .bool x.anew, .int .i64 x.stamp]
def cellsR (x : Rm) : List Value := [.string x.vol, .int .i64 x.n]
/-- The cells of a row, one by one. -/
theorem flat_at {α : Type} (f : α → List Value) (m : Nat) (hf : ∀ x, (f x).length = m) : ∀ (l : List α) (k : Nat) (x : α) (j : Nat), l[k]? = some x → j < m → (l.flatMap f)[k * m + j]? = (f x)[j]?
  | [], k, x, j, h, _ => by cases h
  | y :: l, 0, x, j, h, hj => by
    injection h with h
    subst h
    rw [List.flatMap_cons, List.getElem?_append_left (by rw [Nat.zero_mul, Nat.zero_add, hf]; exact hj), Nat.zero_mul, Nat.zero_add]
  | y :: l, k + 1, x, j, h, hj => by
    have e : (k + 1) * m + j = (f y).length + (k * m + j) := by rw [hf, Nat.succ_mul]; omega
    rw [List.flatMap_cons, e, List.getElem?_append_right (by omega), Nat.add_sub_cancel_left]
    exact flat_at f m hf l k x j h hj
theorem own_kept {w w1 : World} {B size n : Nat} {e : TypeId} {v : Value} {xs : List Value} (h : w.ownsRow B e size v n xs) (hk : ∀ g, v.ownBlock = some g → w1.heap[g]? = w.heap[g]?) : w1.ownsRow B e size v n xs := by
  refine ⟨h.1, ?_⟩
  rcases h.2 with h0 | ⟨g, cap, cur, hv, hg, hh, r⟩
  · exact .inl h0
  · exact .inr ⟨g, cap, cur, hv, hg, (hk g (by rw [hv]; rfl)).trans hh, r⟩
/-- The slice at a, of n elements, reads as the items l. -/
def Items (w : World) (a : Option Addr) (n : Nat) (l : List It) : Prop := l.length = n ∧ (n = 0 ∨ ∃ g, a = some ⟨g, 0, none⟩ ∧ g < w.heap.size ∧ ∀ k x, l[k]? = some x →
  w.cell? ⟨g, k * 7, none⟩ = some (.string x.path) ∧ w.cell? ⟨g, k * 7 + 1, none⟩ = some (.bool x.dir) ∧ w.cell? ⟨g, k * 7 + 2, none⟩ = some (.string x.data) ∧ w.cell? ⟨g, k * 7 + 3, none⟩ = some (.string x.kept) ∧
  w.cell? ⟨g, k * 7 + 4, none⟩ = some (.bool x.loose) ∧ w.cell? ⟨g, k * 7 + 5, none⟩ = some (.bool x.anew) ∧ w.cell? ⟨g, k * 7 + 6, none⟩ = some (.int .i64 x.stamp))
/-- The slice at a, of n elements, reads as the limits l. -/
def Rms (w : World) (a : Option Addr) (n : Nat) (l : List Rm) : Prop := l.length = n ∧ (n = 0 ∨ ∃ g, a = some ⟨g, 0, none⟩ ∧ g < w.heap.size ∧ ∀ k x, l[k]? = some x →
  w.cell? ⟨g, k * 2, none⟩ = some (.string x.vol) ∧ w.cell? ⟨g, k * 2 + 1, none⟩ = some (.int .i64 x.n))
/-- The world w1 is w but for the blocks of F and what is new. -/
structure Chg (F : Nat → Prop) (w w1 : World) : Prop where
  os : w1.os = w.os
  tape : w1.tape = w.tape
  output : w1.output = w.output
  size : w.heap.size ≤ w1.heap.size
  block : ∀ i, i < w.heap.size → ¬ F i → w1.heap[i]? = w.heap[i]?
theorem Chg.of_below {F : Nat → Prop} {w w1 : World} (h : Below w.heap.size w w1) : Chg F w w1 := ⟨h.os, h.tape, h.output, h.size, fun i hi _ => h.block i hi⟩
theorem Chg.trans {F G : Nat → Prop} {w w1 w2 : World} (h : Chg F w w1) (h2 : Chg G w1 w2) (hG : ∀ i, G i → F i ∨ w.heap.size ≤ i) : Chg F w w2 :=
  ⟨h2.os.trans h.os, h2.tape.trans h.tape, h2.output.trans h.output, Nat.le_trans h.size h2.size, fun i hi hn => (h2.block i (Nat.lt_of_lt_of_le hi h.size) (fun hg => by rcases hG i hg with h | h <;> first | exact hn h | omega)).trans (h.block i hi hn)⟩
theorem Chg.mono {F G : Nat → Prop} {w w1 : World} (h : Chg F w w1) (hG : ∀ i, F i → G i) : Chg G w w1 := ⟨h.os, h.tape, h.output, h.size, fun i hi hn => h.block i hi (fun hf => hn (hG i hf))⟩
theorem Chg.below {F : Nat → Prop} {w w1 : World} {B : Nat} (h : Chg F w w1) (hB : B ≤ w.heap.size) (hF : ∀ i, F i → B ≤ i) : Below B w w1 :=
  ⟨h.os, h.tape, h.output, h.size, fun i hi => h.block i (Nat.lt_of_lt_of_le hi hB) (fun hf => by have := hF i hf; omega)⟩

/-- The blocks of a disk. -/
def Foot (b : Nat) (vL vR : Value) (i : Nat) : Prop := i = b ∨ vL.ownBlock = some i ∨ vR.ownBlock = some i
end Go.Proofs.Ytbghokdlnnaeeaa.Dk

/- What the document's own disk answers where it only looks: Place, Kind, Volume, Used, home: contracts. -/
namespace Go.Proofs.Ytbghokdlnnaeeaa.Dk
open Go.RowKit Tx Pm
set_option linter.unusedVariables false

/-- Where a path stands, as Place says it. -/
def placeI (l : List It) (p : ByteArray) : Int := if place l p < l.length then (place l p : Int) else -1
theorem place_hit {l : List It} {p : ByteArray} {k : Nat} {x : It} (hx : l[k]? = some x) (he : x.path = p) (hb : ∀ j y, j < k → l[j]? = some y → y.path ≠ p) : place l p = k := by
  obtain ⟨hk, hx'⟩ := List.getElem?_eq_some_iff.1 hx
  unfold place
  rw [List.findIdx_eq hk]
  refine ⟨by rw [hx']; exact decide_eq_true he, fun j hj => ?_⟩
  exact decide_eq_false (hb j _ hj (List.getElem?_eq_getElem (by omega)))
theorem place_miss {l : List It} {p : ByteArray} (hb : ∀ j y, j < l.length → l[j]? = some y → y.path ≠ p) : place l p = l.length := by
  unfold place
  rw [List.findIdx_eq_length]
  intro x hx
  obtain ⟨j, hj, he⟩ := List.getElem_of_mem hx
  exact decide_eq_false (hb j x hj (by rw [List.getElem?_eq_getElem hj, he]))
theorem find_place {l : List It} {p : ByteArray} : find l p = l[place l p]? := List.find?_eq_getElem?_findIdx
theorem place_le (l : List It) (p : ByteArray) : place l p ≤ l.length := List.findIdx_le_length

theorem find_hit {l : List It} {p : ByteArray} (h : place l p < l.length) : find l p = some (l[place l p]) := by rw [find_place, List.getElem?_eq_getElem h]
theorem find_none {l : List It} {p : ByteArray} (h : ¬ place l p < l.length) : find l p = none := by rw [find_place]; exact List.getElem?_eq_none (by omega)
/-- Either a path stands somewhere, or not. -/
theorem find_cases (l : List It) (p : ByteArray) : (find l p = none ∧ placeI l p = -1) ∨ ∃ (k : Nat) (x : It), k < l.length ∧ l[k]? = some x ∧ find l p = some x ∧ placeI l p = k ∧ x.path = p := by
  by_cases h : place l p < l.length
  · refine .inr ⟨place l p, l[place l p], h, List.getElem?_eq_getElem h, find_hit h, by rw [placeI, if_pos h], ?_⟩
    have := List.findIdx_getElem (w := h)
    exact of_decide_eq_true this
  · exact .inl ⟨find_none h, by rw [placeI, if_neg h]⟩

end Go.Proofs.Ytbghokdlnnaeeaa.Dk

/- What the document's own disk answers where it only looks: Used, home, fits, first, there, Read, Stamp, List: contracts. -/
namespace Go.Proofs.Ytbghokdlnnaeeaa.Dk
open Go.RowKit Tx Pm
set_option linter.unusedVariables false

/-- The paths that a disk may have, and what all bytes come to. -/
def Fit (s : St) : Prop := s.L.length ≤ 1000000000 ∧ (∀ x ∈ s.L, x.path.size ≤ 8000000000000) ∧ whole s.L ≤ 4000000000000000000
theorem used_take (l : List It) (v : ByteArray) (k : Nat) (x : It) (h : l[k]? = some x) : used (l.take (k + 1)) v = used (l.take k) v + (if vol x.path = v then x.data.size else 0) := by
  obtain ⟨hk, he⟩ := List.getElem?_eq_some_iff.1 h
  rw [List.take_succ_eq_append_getElem hk, he, used, List.map_append, List.sum_append]
  simp [used]
theorem used_take_le (l : List It) (v : ByteArray) (k : Nat) : used (l.take k) v ≤ used l v := by
  unfold used
  conv => rhs; rw [← List.take_append_drop k l]
  rw [List.map_append, List.sum_append]
  omega

end Go.Proofs.Ytbghokdlnnaeeaa.Dk

/- A region that draws its order and holds calls, taken step by step: the frame stays a chain of 'put's, each fact on it is asked of the kernel. -/
namespace Go.Proofs.Ytbghokdlnnaeeaa.Rg
open Go.RowKit
set_option linter.unusedVariables false

/-- A post that speaks of the normal end alone. -/
def Only (R : Act → World → Prop) : Exit → Act → World → Prop
  | .normal, a, w => R a w
  | _, _, _ => False
theorem wp_only {P : Program} {c : Code} {Q : Exit → Act → World → Prop} {R : Act → World → Prop} {a : Act} {w : World} (hR : ∀ a w, R a w → Q .normal a w) (h : c.wp P (Only R) a w) : c.wp P Q a w :=
  Code.wp_mono (fun e a w h => by cases e <;> first | exact hR _ _ h | exact (h : False).elim) h

/-- The operations of a code's region. -/
def regOps (n : Nat) : Code → Option (Array Oper)
  | .region id ops _ => if id = n then some ops else none
  | .seq a b => (match regOps n a with | some x => some x | none => regOps n b)
  | .cond _ a b => (match regOps n a with | some x => some x | none => regOps n b)
  | .block _ a => regOps n a
  | .loop a => regOps n a
  | .scope a => regOps n a
  | .rangeFunc _ _ a b => (match regOps n a with | some x => some x | none => regOps n b)
  | _ => none
def opsOf (f : Func) (n : Nat) : Array Oper := match f.body with | some c => (regOps n c).getD #[] | none => #[]
def opOf (ops : Array Oper) (i : Nat) : Oper := (ops[i]?).getD default

section
variable {P : Program} {ops : Array Oper} {R : Act → World → Prop} {S : World → Prop}

theorem opOf_some {i : Nat} (h : decide (i < ops.size) = true) : ops[i]? = some (opOf ops i) := by
  have h := of_decide_eq_true h
  rw [opOf, Array.getElem?_eq_getElem h]
  rfl

/-- One operation that only looks is taken. -/
theorem take (i : Nat) (d : Option Tmp) (v : Value) {fuel : Nat} {listed : Array Bool} {a : Act} {w : World} (hs : Region.noSelect ops = true)
    (hi : decide (i < ops.size) = true) (hd : (opOf ops i).dst = d) (hf : Region.free .any ops listed i = true) (hr : (Region.ready .any ops listed).contains i = true)
    (hw : Region.wanted (opOf ops i) (yielded ops a.tmps) = true) (hS : S w)
    (hy : ∀ w, S w → (execOp a.eval (opOf ops i)).run P w = .ok (.value v) w)
    (h : wpAnyH P .any ops (Only R) S fuel (listed.setIfInBounds i true) (a.put d v) w) : wpAnyH P .any ops (Only R) S (fuel + 1) listed a w := by
  subst hd
  exact wpAnyH_take (opOf_some hi) hs hf hr (fun _ _ _ h => h) (Or.inl ⟨hw, hy⟩) hS h
/-- One that its guard leaves out. -/
theorem skip (i : Nat) (d : Option Tmp) {fuel : Nat} {listed : Array Bool} {a : Act} {w : World} (hs : Region.noSelect ops = true)
    (hi : decide (i < ops.size) = true) (hd : (opOf ops i).dst = d) (hf : Region.free .any ops listed i = true) (hr : (Region.ready .any ops listed).contains i = true)
    (hw : Region.wanted (opOf ops i) (yielded ops a.tmps) = false) (hS : S w)
    (h : wpAnyH P .any ops (Only R) S fuel (listed.setIfInBounds i true) (a.put d undef) w) : wpAnyH P .any ops (Only R) S (fuel + 1) listed a w := by
  subst hd
  exact wpAnyH_take (opOf_some hi) hs hf hr (fun _ _ _ h => h) (Or.inr ⟨hw, rfl⟩) hS h
theorem enters {f : FuncId} {fn : Func} (hf : P.funcs[f]? = some fn) (hn : (fn.name == "runtime.NumGoroutine") = false) (hb : fn.body.isNone = false) (args : Array Value) (w : World) : (callFunc f args).run P w = .ok (.enter f args) w := by
  have h1 : fn.name ≠ "runtime.NumGoroutine" := by simpa using hn
  have h2 : fn.body ≠ none := fun h => by rw [h] at hb; cases hb
  simp [callFunc, hf, h1, h2]
/-- A call, alone ready. -/
theorem call (i : Nat) (d : Option Tmp) (f : FuncId) (args : Array Value) {fn : Func} {xs : Array Operand} {ats : Array TypeId} {fuel : Nat} {listed : Array Bool} {a : Act} {w : World}
    (hi : decide (i < ops.size) = true) (hd : (opOf ops i).dst = d) (hr : Region.ready .any ops listed = [i])
    (hw : Region.wanted (opOf ops i) (yielded ops a.tmps) = true) (ho : (opOf ops i).op = .call { callee := .value (.func f), args := xs, argTypes := ats })
    (hf : P.funcs[f]? = some fn) (hn : (fn.name == "runtime.NumGoroutine") = false) (hb : fn.body.isNone = false) (hx : xs.map a.eval = args)
    (h : Calls P f args w fun e w' => ∃ v, e = .returned v ∧ S w' ∧ (S w' → wpAnyH P .any ops (Only R) S fuel (listed.setIfInBounds i true) (a.put d v) w')) :
    wpAnyH P .any ops (Only R) S (fuel + 1) listed a w := by
  subst hd
  refine wpAnyH_all hr (by simp) fun j hj => ?_
  obtain rfl : j = i := by simpa using hj
  unfold wpOp
  rw [opOf_some hi]
  simp only [hw, if_true]
  refine .inl ?_
  have he : execOp a.eval (opOf ops j) = callFunc f args := by
    rw [← hx]
    generalize opOf ops j = o at ho
    obtain ⟨dst, op, ty, pos, after, guard⟩ := o
    subst ho
    have := execOp_call_go a dst f xs ats ty pos after guard
    simpa using this
  unfold Oper.wp
  rw [he, enters hf hn hb]
  refine Calls.mono h fun e w' hh => ?_
  obtain ⟨v, rfl, hS, hh⟩ := hh
  exact ⟨hS, hh hS⟩
theorem done {fuel : Nat} {listed : Array Bool} {a : Act} {w : World} (hr : Region.ready .any ops listed = []) (h : R a w) : wpAnyH P .any ops (Only R) S fuel listed a w :=
  wpAnyH_done hr h fuel

/-! What the operations that only look yield. -/
theorem y_move {o : Oper} {a : Act} {x : Operand} {v : Value} (ho : o.op = .move x ∨ o.op = .assign x) (hv : a.eval x = v) : ∀ w, S w → (execOp a.eval o).run P w = .ok (.value v) w := by
  intro w _
  obtain ⟨dst, op, ty, pos, after, guard⟩ := o
  rcases ho with ho | ho <;> (simp only at ho; subst ho; rw [← hv]; rfl)
theorem y_bin {o : Oper} {a : Act} {b : BinOp} {T R' : TypeId} {x y : Operand} {vx vy v : Value} (ho : o.op = .binOp b T x y R') (hx : a.eval x = vx) (hy : a.eval y = vy)
    (hv : ∀ w, S w → (do eqGuard b T x y vx vy; binOp b T vx vy : Sem Value).run P w = .ok v w) : ∀ w, S w → (execOp a.eval o).run P w = .ok (.value v) w := by
  intro w hw
  obtain ⟨dst, op, ty, pos, after, guard⟩ := o
  simp only at ho
  subst ho
  have := hv w hw
  simp only [execOp, hx, hy]
  simp only [Sem.run_bind] at this ⊢
  rw [this]
  rfl
theorem y_un {o : Oper} {a : Act} {b : UnOp} {T : TypeId} {x : Operand} {vx v : Value} (ho : o.op = .unOp b T x) (hx : a.eval x = vx)
    (hv : ∀ w, S w → (Op.unary b vx).run P w = .ok v w) : ∀ w, S w → (execOp a.eval o).run P w = .ok (.value v) w := by
  intro w hw
  obtain ⟨dst, op, ty, pos, after, guard⟩ := o
  simp only at ho
  subst ho
  have := hv w hw
  simp only [execOp, hx, Sem.run_bind]
  rw [this]
  rfl
theorem y_at {o : Oper} {a : Act} {T : TypeId} {x y : Operand} {vx vy v : Value} (ho : o.op = .indexAddr T x y) (hx : a.eval x = vx) (hy : a.eval y = vy)
    (hv : ∀ w, S w → (Instr.indexAt T vx vy).run P w = .ok v w) : ∀ w, S w → (execOp a.eval o).run P w = .ok (.value v) w := by
  intro w hw
  obtain ⟨dst, op, ty, pos, after, guard⟩ := o
  simp only at ho
  subst ho
  have := hv w hw
  simp only [execOp, hx, hy, Sem.run_bind]
  rw [this]
  rfl
theorem y_load {o : Oper} {a : Act} {T : TypeId} {x : Operand} {vx v : Value} (ho : o.op = .load T x) (hx : a.eval x = vx)
    (hv : ∀ w, S w → (Instr.loadAt T vx).run P w = .ok v w) : ∀ w, S w → (execOp a.eval o).run P w = .ok (.value v) w := by
  intro w hw
  obtain ⟨dst, op, ty, pos, after, guard⟩ := o
  simp only at ho
  subst ho
  have := hv w hw
  simp only [execOp, hx, Sem.run_bind]
  rw [this]
  rfl
theorem y_pick {o : Oper} {a : Act} {c x y : Operand} {b : Bool} {v : Value} (ho : o.op = .pick c x y) (hc : a.eval c = .bool b) (hv : (if b then a.eval x else a.eval y) = v) :
    ∀ w, S w → (execOp a.eval o).run P w = .ok (.value v) w := by
  intro w hw
  obtain ⟨dst, op, ty, pos, after, guard⟩ := o
  simp only at ho
  subst ho
  rw [← hv]
  simp only [execOp, hc]
  rfl
theorem y_nil {o : Oper} {a : Act} {x : Operand} {p : Addr} (ho : o.op = .nilCheck x) (hx : a.eval x = .pointer (some p)) : ∀ w, S w → (execOp a.eval o).run P w = .ok (.value (.pointer (some p))) w := by
  intro w hw
  obtain ⟨dst, op, ty, pos, after, guard⟩ := o
  simp only at ho
  subst ho
  simp only [execOp, hx]
  rfl
theorem y_field {o : Oper} {a : Act} {T k : Nat} {x : Operand} {vx v : Value} (ho : o.op = .fieldAddr T x k) (hx : a.eval x = vx)
    (hv : ∀ w, S w → (Instr.fieldAt T vx k).run P w = .ok v w) : ∀ w, S w → (execOp a.eval o).run P w = .ok (.value v) w := by
  intro w hw
  obtain ⟨dst, op, ty, pos, after, guard⟩ := o
  simp only at ho
  subst ho
  have := hv w hw
  simp only [execOp, hx, Sem.run_bind]
  rw [this]
  rfl
theorem y_len {o : Oper} {a : Act} {x : Operand} {ats : Array TypeId} {vx : Value} {n : Nat} (ho : o.op = .call { callee := .builtin .len, args := #[x], argTypes := ats }) (hx : a.eval x = vx)
    (hv : ∀ ty w, S w → (Builtin.len_ ats ty #[vx]).run P w = .ok (.int .i64 n) w) : ∀ w, S w → (execOp a.eval o).run P w = .ok (.value (.int .i64 n)) w := by
  intro w hw
  obtain ⟨dst, op, ty, pos, after, guard⟩ := o
  simp only at ho
  subst ho
  have h2 := hv ty w hw
  rw [← hx] at h2
  generalize a.eval = ρ at h2 ⊢
  simp [go_sem, h2]
/-- A store, alone ready. -/
theorem store (i : Nat) {T : TypeId} {x y : Operand} {vx vy : Value} {w1 : World} {fuel : Nat} {listed : Array Bool} {a : Act} {w : World}
    (hi : decide (i < ops.size) = true) (hd : (opOf ops i).dst = none) (hr : Region.ready .any ops listed = [i])
    (hw : Region.wanted (opOf ops i) (yielded ops a.tmps) = true) (ho : (opOf ops i).op = .store T x y) (hx : a.eval x = vx) (hy : a.eval y = vy)
    (hv : (Instr.storeAt T vx vy).run P w = .ok () w1) (hS : S w1)
    (h : S w1 → wpAnyH P .any ops (Only R) S fuel (listed.setIfInBounds i true) a w1) :
    wpAnyH P .any ops (Only R) S (fuel + 1) listed a w := by
  refine wpAnyH_all hr (by simp) fun j hj => ?_
  obtain rfl : j = i := by simpa using hj
  unfold wpOp
  rw [opOf_some hi]
  simp only [hw, if_true]
  refine .inl ?_
  have he : (execOp a.eval (opOf ops j)).run P w = .ok .skip w1 := by
    generalize opOf ops j = o at ho
    obtain ⟨dst, op, ty, pos, after, guard⟩ := o
    simp only at ho
    subst ho
    simp only [execOp, hx, hy, Sem.run_bind]
    rw [hv]
    rfl
  unfold Oper.wp
  rw [he, Oper.upon_skip, hd]
  exact ⟨hS, h hS⟩
/-- A call, one of those that are ready. -/
theorem op_call (i : Nat) (d : Option Tmp) (f : FuncId) (args : Array Value) {fn : Func} {xs : Array Operand} {ats : Array TypeId} {fuel : Nat} {listed : Array Bool} {a : Act} {w : World}
    (hi : decide (i < ops.size) = true) (hd : (opOf ops i).dst = d)
    (hw : Region.wanted (opOf ops i) (yielded ops a.tmps) = true) (ho : (opOf ops i).op = .call { callee := .value (.func f), args := xs, argTypes := ats })
    (hf : P.funcs[f]? = some fn) (hn : (fn.name == "runtime.NumGoroutine") = false) (hb : fn.body.isNone = false) (hx : xs.map a.eval = args)
    (h : Calls P f args w fun e w' => ∃ v, e = .returned v ∧ S w' ∧ (S w' → wpAnyH P .any ops (Only R) S fuel (listed.setIfInBounds i true) (a.put d v) w')) :
    wpOp P ops (Only R) i (fun a' w' => S w' ∧ wpAnyH P .any ops (Only R) S fuel (listed.setIfInBounds i true) a' w') a w := by
  subst hd
  unfold wpOp
  rw [opOf_some hi]
  simp only [hw, if_true]
  refine .inl ?_
  have he : execOp a.eval (opOf ops i) = callFunc f args := by
    rw [← hx]
    generalize opOf ops i = o at ho
    obtain ⟨dst, op, ty, pos, after, guard⟩ := o
    subst ho
    have := execOp_call_go a dst f xs ats ty pos after guard
    simpa using this
  unfold Oper.wp
  rw [he, enters hf hn hb]
  refine Calls.mono h fun e w' hh => ?_
  obtain ⟨v, rfl, hS, hh⟩ := hh
  exact ⟨hS, hh hS⟩
/-- A new variable, one of those that are ready. -/
theorem op_alloc (i : Nat) (d : Option Tmp) {T : TypeId} {v : Value} {w1 : World} {fuel : Nat} {listed : Array Bool} {a : Act} {w : World}
    (hi : decide (i < ops.size) = true) (hd : (opOf ops i).dst = d)
    (hw : Region.wanted (opOf ops i) (yielded ops a.tmps) = true) (ho : (opOf ops i).op = .alloc T)
    (hv : (Instr.alloc T true (.tuple #[])).run P w = .ok v w1) (hS : S w1)
    (h : S w1 → wpAnyH P .any ops (Only R) S fuel (listed.setIfInBounds i true) (a.put d v) w1) :
    wpOp P ops (Only R) i (fun a' w' => S w' ∧ wpAnyH P .any ops (Only R) S fuel (listed.setIfInBounds i true) a' w') a w := by
  subst hd
  unfold wpOp
  rw [opOf_some hi]
  simp only [hw, if_true]
  refine .inl ?_
  have he : (execOp a.eval (opOf ops i)).run P w = .ok (.value v) w1 := by
    generalize opOf ops i = o at ho
    obtain ⟨dst, op, ty, pos, after, guard⟩ := o
    simp only at ho
    subst ho
    simp only [execOp, Sem.run_bind]
    rw [hv]
    rfl
  unfold Oper.wp
  rw [he, Oper.upon_value]
  exact ⟨hS, h hS⟩
/-- A load, one of those that are ready, in the world at hand. -/
theorem op_load (i : Nat) (d : Option Tmp) {T : TypeId} {x : Operand} {vx v : Value} {fuel : Nat} {listed : Array Bool} {a : Act} {w : World}
    (hi : decide (i < ops.size) = true) (hd : (opOf ops i).dst = d)
    (hw : Region.wanted (opOf ops i) (yielded ops a.tmps) = true) (ho : (opOf ops i).op = .load T x) (hx : a.eval x = vx)
    (hv : (Instr.loadAt T vx).run P w = .ok v w) (hS : S w)
    (h : wpAnyH P .any ops (Only R) S fuel (listed.setIfInBounds i true) (a.put d v) w) :
    wpOp P ops (Only R) i (fun a' w' => S w' ∧ wpAnyH P .any ops (Only R) S fuel (listed.setIfInBounds i true) a' w') a w := by
  subst hd
  unfold wpOp
  rw [opOf_some hi]
  simp only [hw, if_true]
  refine .inl ?_
  have he : (execOp a.eval (opOf ops i)).run P w = .ok (.value v) w := y_load (S := fun W => W = w) ho hx (fun W hW => by rw [hW]; exact hv) w rfl
  unfold Oper.wp
  rw [he, Oper.upon_value]
  exact ⟨hS, h⟩
theorem one {i : Nat} {fuel : Nat} {listed : Array Bool} {a : Act} {w : World} (hr : Region.ready .any ops listed = [i])
    (h : wpOp P ops (Only R) i (fun a' w' => S w' ∧ wpAnyH P .any ops (Only R) S fuel (listed.setIfInBounds i true) a' w') a w) : wpAnyH P .any ops (Only R) S (fuel + 1) listed a w :=
  wpAnyH_all hr (by simp) fun j hj => by obtain rfl : j = i := by simpa using hj
                                         exact h
theorem two {i j : Nat} {fuel : Nat} {listed : Array Bool} {a : Act} {w : World} (hr : Region.ready .any ops listed = [i, j])
    (h1 : wpOp P ops (Only R) i (fun a' w' => S w' ∧ wpAnyH P .any ops (Only R) S fuel (listed.setIfInBounds i true) a' w') a w)
    (h2 : wpOp P ops (Only R) j (fun a' w' => S w' ∧ wpAnyH P .any ops (Only R) S fuel (listed.setIfInBounds j true) a' w') a w) : wpAnyH P .any ops (Only R) S (fuel + 1) listed a w :=
  wpAnyH_all hr (by simp) fun k hk => by
    rcases (by simpa using hk : k = i ∨ k = j) with rfl | rfl
    · exact h1
    · exact h2
end
end Go.Proofs.Ytbghokdlnnaeeaa.Rg

/- Nothing: this program lacks the document's own disk. -/


/- What the document's own disk answers where it only looks: fits, first, there: contracts. -/
namespace Go.Proofs.Ytbghokdlnnaeeaa.Dk
open Go.RowKit Tx Pm
set_option linter.unusedVariables false

theorem all_take {α : Type} (f : α → Bool) (l : List α) (k : Nat) (x : α) (h : l[k]? = some x) : (l.take (k + 1)).all f = ((l.take k).all f && f x) := by
  obtain ⟨hk, he⟩ := List.getElem?_eq_some_iff.1 h
  rw [List.take_succ_eq_append_getElem hk, he, List.all_append]
  simp
theorem all_not {α : Type} (f : α → Bool) (l : List α) (k : Nat) (x : α) (h : l[k]? = some x) (hf : f x = false) : l.all f = false := by
  rw [← Bool.not_eq_true, List.all_eq_true]
  intro hall
  have := hall x (List.mem_of_getElem? h)
  rw [hf] at this
  cases this

/-- Whether a volume's limit lets so many more bytes in. -/
def lets (s : St) (p : ByteArray) (more : Int) (r : Rm) : Bool := !(decide (r.vol = vol p) && decide ((used s.L (vol p) : Int) + more > r.n))

end Go.Proofs.Ytbghokdlnnaeeaa.Dk

/- What the document's own disk does to its own fields: done, stamped: contracts. -/
namespace Go.Proofs.Ytbghokdlnnaeeaa.Dk
open Go.RowKit Tx Pm
set_option linter.unusedVariables false

theorem set_block {w : World} {b k : Nat} {cs : Array Value} {T : TypeId} {fz : Nat × Nat} (h : w.heap[b]? = some (.cells cs T fz)) (u : Value) : (w.setCell ⟨b, k, none⟩ u).heap[b]? = some (.cells (cs.setIfInBounds k u) T fz) := by
  simp [World.setCell, Array.getElem?_modify, h]
theorem set_other {w : World} {b k i : Nat} (u : Value) (h : i ≠ b) : (w.setCell ⟨b, k, none⟩ u).heap[i]? = w.heap[i]? := Below.heap_setCell w ⟨b, k, none⟩ u i h
theorem chg_set {w : World} {b k : Nat} (u : Value) : Chg (· = b) w (w.setCell ⟨b, k, none⟩ u) := ⟨rfl, rfl, rfl, by simp [World.setCell], fun i _ hi => set_other u hi⟩
theorem Chg.refl (F : Nat → Prop) (w : World) : Chg F w w := ⟨rfl, rfl, rfl, Nat.le_refl _, fun _ _ _ => rfl⟩
theorem Chg.then {F : Nat → Prop} {w w1 w2 : World} (h : Chg F w w1) (h2 : Chg F w1 w2) : Chg F w w2 := h.trans h2 (fun i hi => .inl hi)

theorem new_at (w : World) (o : Obj) {g : Nat} (h : g = w.heap.size) : (w.alloc o).heap[g]? = some o := by
  subst h
  exact heap_alloc_new _ _
def iv (x : It) : Value := .agg #[.string x.path, .bool x.dir, .string x.data, .string x.kept, .bool x.loose, .bool x.anew, .int .i64 x.stamp]
end Go.Proofs.Ytbghokdlnnaeeaa.Dk

/- Nothing: this program lacks the document's own disk. -/


/- The document's own put, drop: contracts. -/
namespace Go.Proofs.Ytbghokdlnnaeeaa.Dk
open Go.RowKit Tx Pm
set_option linter.unusedVariables false

theorem tw_at {α : Type} (f : α → Bool) : ∀ (l : List α) (k : Nat), k ≤ l.length → (∀ y ∈ l.take k, f y = true) → (∀ y, l[k]? = some y → f y = false) → l.takeWhile f = l.take k ∧ l.dropWhile f = l.drop k
  | [], k, hk, _, _ => by simp
  | y :: l, 0, _, _, h => by
    have := h y rfl
    simp [List.takeWhile, List.dropWhile, this]
  | y :: l, k + 1, hk, h1, h2 => by
    have hy := h1 y (by simp)
    obtain ⟨e1, e2⟩ := tw_at f l k (by simpa using hk) (fun z hz => h1 z (by simp [hz])) (fun z hz => h2 z (by simpa using hz))
    simp [List.takeWhile, List.dropWhile, hy, e1, e2]
theorem ins_at {l : List It} {x : It} {k : Nat} (hk : k ≤ l.length) (h1 : ∀ y ∈ l.take k, Op.bytesLess y.path.toList x.path.toList = true) (h2 : ∀ y, l[k]? = some y → Op.bytesLess y.path.toList x.path.toList = false) :
    ins l x = l.take k ++ x :: (match l[k]? with | some y => if y.path = x.path then l.drop (k + 1) else l.drop k | none => []) := by
  obtain ⟨e1, e2⟩ := tw_at (fun y => Op.bytesLess y.path.toList x.path.toList) l k hk h1 h2
  rw [ins, e1, e2]
  cases hx : l[k]? with
  | none =>
    have : l.length ≤ k := by simpa using hx
    rw [List.drop_of_length_le this]
  | some y =>
    obtain ⟨hlt, he⟩ := List.getElem?_eq_some_iff.1 hx
    rw [List.drop_eq_getElem_cons hlt, he]
theorem take_more {α : Type} {l : List α} {k : Nat} {x : α} (h : l[k]? = some x) : l.take (k + 1) = l.take k ++ [x] := by
  obtain ⟨hk, he⟩ := List.getElem?_eq_some_iff.1 h
  rw [List.take_succ_eq_append_getElem hk, he]
theorem cell_seven_new (w : World) (a b c d e f g : Value) (t : TypeId) : ∀ j u, [a, b, c, d, e, f, g][j]? = some u → (w.alloc (.cells #[a, b, c, d, e, f, g] t)).cell? ((⟨w.heap.size, 0, none⟩ : Addr).add j) = some u := by
  intro j u hj
  match j, hj with
  | 0, hj => simp at hj; subst hj; simp [Addr.add]
  | 1, hj => simp at hj; subst hj; simp [Addr.add]
  | 2, hj => simp at hj; subst hj; simp [Addr.add]
  | 3, hj => simp at hj; subst hj; simp [Addr.add]
  | 4, hj => simp at hj; subst hj; simp [Addr.add]
  | 5, hj => simp at hj; subst hj; simp [Addr.add]
  | 6, hj => simp at hj; subst hj; simp [Addr.add]
  | j + 7, hj => simp at hj
theorem cells_one (x : It) : ∀ u ∈ cells x, u.oneCell' = true := by
  intro u hu
  simp [cells] at hu
  rcases hu with rfl | rfl | rfl | rfl | rfl | rfl | rfl <;> rfl
/-- What the loops of put and drop know of the disk, and of the item that is put. -/
structure Seen (w0 : World) (b : Nat) (s : St) (A : Option Addr) (n c : Nat) (W : World) : Prop where
  c0 : W.cell? ⟨b, 0, none⟩ = some (.slice A n c)
  it : ∀ k y, s.L[k]? = some y → ∃ g, A = some ⟨g, 0, none⟩ ∧
    W.cell? ⟨g, k * 7, none⟩ = some (.string y.path) ∧ W.cell? ⟨g, k * 7 + 1, none⟩ = some (.bool y.dir) ∧ W.cell? ⟨g, k * 7 + 2, none⟩ = some (.string y.data) ∧ W.cell? ⟨g, k * 7 + 3, none⟩ = some (.string y.kept) ∧
    W.cell? ⟨g, k * 7 + 4, none⟩ = some (.bool y.loose) ∧ W.cell? ⟨g, k * 7 + 5, none⟩ = some (.bool y.anew) ∧ W.cell? ⟨g, k * 7 + 6, none⟩ = some (.int .i64 y.stamp)
end Go.Proofs.Ytbghokdlnnaeeaa.Dk

/- The document's own drop; List: contracts. -/
namespace Go.Proofs.Ytbghokdlnnaeeaa.Dk
open Go.RowKit Tx Pm
set_option linter.unusedVariables false

theorem own_toT {w : World} {B T : Nat} {v : Value} {l : List ByteArray} (h : w.ownsRow B 9 1 v T (l.map sv)) (hl : l.length = T) : Texts w B v l := by
  subst hl
  exact h
theorem flat_single (x : It) : [x].flatMap cells = cells x := List.append_nil _
theorem drop_take (l : List It) (p : ByteArray) (k : Nat) (y : It) (h : l[k]? = some y) : drop (l.take (k + 1)) p = drop (l.take k) p ++ (if y.path = p then [] else [y]) := by
  rw [take_more h, drop, List.filter_append]
  congr 1
  by_cases hp : y.path = p <;> simp [hp]
theorem drop_len (l : List It) (p : ByteArray) (k : Nat) : (drop (l.take k) p).length ≤ k := by
  refine Nat.le_trans (List.length_filter_le _ _) ?_
  rw [List.length_take]
  exact Nat.min_le_left _ _

theorem list_take (l : List It) (p : ByteArray) (k : Nat) (y : It) (h : l[k]? = some y) : list (l.take (k + 1)) p = list (l.take k) p ++ (if tb (par y.path.data.toList) = p then [y.path] else []) := by
  rw [take_more h, list, List.filter_append, List.map_append]
  congr 1
  by_cases hp : tb (par y.path.data.toList) = p <;> simp [hp]
/-- What List answers. -/
def ListTo (l : List ByteArray) (w : World) (e : Ending) (w' : World) : Prop := ∃ v, e = .returned v ∧ Texts w' w.heap.size v l ∧ Below w.heap.size w w'

end Go.Proofs.Ytbghokdlnnaeeaa.Dk

/- The document's own Read, Stamp, Mkdir, Remove: contracts. -/
namespace Go.Proofs.Ytbghokdlnnaeeaa.Dk
open Go.RowKit Tx Pm
set_option linter.unusedVariables false

theorem foot_b {b : Nat} {vL vR : Value} : ∀ i, i = b → Foot b vL vR i := fun i hi => .inl hi

def readS (s : St) (p : ByteArray) : ByteArray × Nat := if s.down then (⟨#[]⟩, 14) else match find s.L p with
  | none => (⟨#[]⟩, 11)
  | some x => if x.dir then (⟨#[]⟩, 12) else (x.data, 0)
def stampS (s : St) (p : ByteArray) : Nat := match find s.L p with
  | none => 0
  | some x => x.stamp

/-- What a disk may be. -/
structure Ok (s : St) : Prop where
  fit : Fit s
  rooms : s.rooms.length ≤ 1000000000
  steps : s.steps ≤ 1000000000000
  stamps : s.stamps ≤ 1000000000000
  armed : -1000000000000000000 ≤ s.armed ∧ s.armed ≤ 9223372036854775807
theorem done_L (s : St) : (done s).2.L = s.L := by unfold done; split <;> rfl
theorem done_rooms (s : St) : (done s).2.rooms = s.rooms := by unfold done; split <;> rfl
theorem done_code (s : St) : (done s).1 = 0 ∨ (done s).1 = 14 := by unfold done; split <;> simp
theorem done_stamps (s : St) : (done s).2.stamps = s.stamps := by unfold done; split <;> rfl

def mkdirS (s : St) (p : ByteArray) : Nat × St :=
  if first s p 0 ≠ 0 then (first s p 0, s) else if home s.L p = false then (11, s) else if kind s.L p = 2 then (12, s) else
  if (done s).1 ≠ 0 then done s else (0, { (done s).2 with L := ins (done s).2.L ⟨p, true, ⟨#[]⟩, ⟨#[]⟩, false, false, 0⟩ })

end Go.Proofs.Ytbghokdlnnaeeaa.Dk

/- Nothing: this program lacks the document's own disk. -/


/- The document's own Sync, Append, Remove: contracts. -/
namespace Go.Proofs.Ytbghokdlnnaeeaa.Dk
open Go.RowKit Tx Pm
set_option linter.unusedVariables false

def mk (p : ByteArray) : It := ⟨p, false, ⟨#[]⟩, ⟨#[]⟩, false, false, 0⟩
def old (l : List It) (p : ByteArray) : It := (find l p).getD (mk p)
def syncS (s : St) (p : ByteArray) : Nat × St :=
  if there s p ≠ 0 then (there s p, s) else if (done s).1 ≠ 0 then done s else
  (0, { (done s).2 with L := ins (done s).2.L { old s.L p with kept := (old s.L p).data, loose := false, anew := false } })
def appendS (s : St) (p d : ByteArray) : Nat × St :=
  if there s p ≠ 0 then (there s p, s) else if fits s p d.size = false then (13, s) else if (done s).1 ≠ 0 then done s else
  (0, putS (done s).2 { old s.L p with data := (old s.L p).data ++ d, loose := true })
def removeS (s : St) (p : ByteArray) : Nat × St :=
  if first s p 0 ≠ 0 then (first s p 0, s) else if kind s.L p = 0 then (11, s) else if list s.L p ≠ [] then (12, s) else if (done s).1 ≠ 0 then done s else
  (0, { (done s).2 with L := drop (done s).2.L p })

theorem there_file {s : St} {p : ByteArray} (h : there s p = 0) : ∃ (k : Nat) (x : It), k < s.L.length ∧ s.L[k]? = some x ∧ find s.L p = some x ∧ placeI s.L p = k ∧ x.path = p ∧ x.dir = false := by
  unfold there at h
  split at h
  · omega
  · split at h
    · omega
    · split at h
      · omega
      · rename_i h1 h2 h3
        rcases find_cases s.L p with ⟨hf, _⟩ | ⟨k, x, a, b, c, d, e⟩
        · rw [kind, hf] at h2
          exact absurd rfl h2
        · refine ⟨k, x, a, b, c, d, e, ?_⟩
          rw [kind, c, kindOf] at h3
          cases hd : x.dir with
          | false => rfl
          | true => rw [hd] at h3; exact absurd rfl h3
end Go.Proofs.Ytbghokdlnnaeeaa.Dk

/- The document's own Remove, Rot, Write: contracts. -/
namespace Go.Proofs.Ytbghokdlnnaeeaa.Dk
open Go.RowKit Tx Pm
set_option linter.unusedVariables false

end Go.Proofs.Ytbghokdlnnaeeaa.Dk

/- The document's own Write: contract. -/
namespace Go.Proofs.Ytbghokdlnnaeeaa.Dk
open Go.RowKit Tx Pm
set_option linter.unusedVariables false

def writeS (s : St) (p d : ByteArray) : Nat × St :=
  if first s p 1 ≠ 0 then (first s p 1, s) else if home s.L p = false then (11, s) else if kind s.L p = 1 then (12, s) else
  if fits s p ((d.size : Int) - ((old s.L p).data.size : Int)) = false then (13, s) else if (done s).1 ≠ 0 then done s else
  (0, putS (done s).2 { old s.L p with data := d, loose := true, anew := true })

theorem le_whole {l : List It} {x : It} (h : x ∈ l) : x.data.size ≤ whole l := by
  induction l with
  | nil => cases h
  | cons y l ih =>
    unfold whole at ih ⊢
    rw [List.map_cons, List.sum_cons]
    rcases List.mem_cons.1 h with rfl | h
    · omega
    · have := ih h
      omega
theorem write_chg {w w5 w6 : World} {b bx : Nat} {u1 u2 u3 : Value} (hb : Below w.heap.size w w5) (hc : Chg (· = b) w5 w6) (hge : w.heap.size ≤ bx) :
    Chg (fun i => i = b ∨ w.heap.size ≤ i) w (((w6.setCell ⟨bx, 2, none⟩ u1).setCell ⟨bx, 4, none⟩ u2).setCell ⟨bx, 5, none⟩ u3) := by
  have h1 := (Chg.of_below (F := fun i => i = b ∨ w.heap.size ≤ i) hb).trans (G := (· = b)) hc (fun i hi => .inl (.inl hi))
  have hs : ∀ (W : World) (k : Nat) (u : Value), Chg (fun i => i = b ∨ w.heap.size ≤ i) W (W.setCell ⟨bx, k, none⟩ u) := fun W k u => (chg_set u).mono (fun i hi => .inr (by rw [hi]; exact hge))
  exact ((h1.then (hs _ _ _)).then (hs _ _ _)).then (hs _ _ _)

end Go.Proofs.Ytbghokdlnnaeeaa.Dk

/- An append that tells where it lies and what it leaves (of no program). -/
namespace Go.Proofs.Ytbghokdlnnaeeaa.Ap
open Go.RowKit Tx
set_option linter.unusedVariables false

section
variable {P : Program}
/-- Behind an append of one element to one's own row: it lies where it lay, and no other block has turned; or it lies in a new block, and no old block has turned. -/
theorem append_two (w : World) (base : Nat) (t ty e : TypeId) (i : TypeInfo) (z : Value) (size bytes : Nat) (ht : P.underlying t = some (.slice e)) (hi : P.info? e = some i) (hz : i.zero = some z)
    (hsize : i.size = size) (hby : i.bytes = bytes) (hzs : z.cells.size = size) (hsp : 0 < size) (hs16 : size ≤ 16)
    (v : Value) (n : Nat) (xs : List Value) (hown : w.ownsRow base e size v n xs)
    (a : Addr) (c : Nat) (us : List Value) (hul : us.length = size) (hnews : ∀ j x, us[j]? = some x → w.cell? (a.add j) = some x) (hone : ∀ x ∈ us, x.oneCell' = true)
    (hn : n + 1 ≤ 57646075230342348) (hbytes : (n + 1) * bytes ≤ 140737488355328) (hbase : base ≤ w.heap.size) :
    ∃ v' w', (Builtin.append_ #[t, t] ty #[v, .slice (some a) 1 c]).run P w = .ok v' w' ∧ w'.ownsRow base e size v' (n + 1) (xs ++ us) ∧
      ((v'.ownBlock = v.ownBlock ∧ w.grownBy w' v.ownBlock) ∨ (v'.ownBlock = some w.heap.size ∧ w.grownBy w' none)) := by
  have hlen : (xs ++ us).length = (n + 1) * size := by rw [List.length_append, hown.1, hul, Nat.add_mul, Nat.one_mul]
  have made : ∀ old, old < n + 1 → (w.drew.alloc (.cells (xs.toArray ++ us.toArray ++ Builtin.zeroCells z.cells (grownCap w (n + 1) old e - (n + 1))) e)).ownsRow base e size (.slice (some ⟨w.heap.size, 0, none⟩) (n + 1) (grownCap w (n + 1) old e)) (n + 1) (xs ++ us) ∧
      w.grownBy (w.drew.alloc (.cells (xs.toArray ++ us.toArray ++ Builtin.zeroCells z.cells (grownCap w (n + 1) old e - (n + 1))) e)) none := by
    intro old _
    have hge := grownCap_ge w (n + 1) old e
    have hcm := grownCap_le_maxLen w (n + 1) old e (by unfold maxLen; omega)
    refine ⟨⟨hlen, .inr ⟨w.heap.size, _, _, rfl, hbase, heap_alloc_new w.drew _, hge, hcm, ?_, ?_⟩⟩, ⟨rfl, rfl, rfl, by simp, fun k hk _ => Below.heap_alloc w.drew _ k hk⟩⟩
    · have h0 := hown.1
      simp only [Array.size_append, List.size_toArray, size_zeroCells, hzs, hul]
      obtain ⟨d, hd⟩ : ∃ d, grownCap w (n + 1) old e = n + 1 + d := ⟨grownCap w (n + 1) old e - (n + 1), by omega⟩
      rw [hd, h0, show n + 1 + d - (n + 1) = d by omega, Nat.add_mul, Nat.add_mul, Nat.one_mul]
    · simp only [Array.toList_append, List.append_assoc]
      rw [← List.append_assoc]
      exact List.take_left' hlen
  rcases hown.2 with ⟨rfl, rfl⟩ | ⟨g, cap, cur, rfl, hbg, hg, hnc, hcm, hcs, htake⟩
  · have hx : xs = [] := List.eq_nil_of_length_eq_zero (by simpa using hown.1)
    subst hx
    have hr := run_append_nil (P := P) w t ty e i z ht hi hz a 1 c us (by rw [hsize, hul, Nat.one_mul]) hnews (by omega) (by omega) (by rw [hby]; have h2 := hbytes; simp only [Nat.zero_add] at h2; omega)
    have hm := made 0 (by omega)
    simp only [Nat.zero_add, List.nil_append, Array.empty_append] at hm ⊢
    exact ⟨_, _, hr, hm.1, .inr ⟨rfl, hm.2⟩⟩
  · by_cases hroom : n + 1 ≤ cap
    · have hle : (n + 1) * size ≤ cap * size := Nat.mul_le_mul_right _ hroom
      have hfit : n * i.size + us.length ≤ cur.size := by rw [hsize, hcs, hul]; rw [Nat.add_mul, Nat.one_mul] at hle; exact hle
      have hr := run_append_room (P := P) w t ty e i ht hi g n cap cur hg a 1 c us (by rw [hsize, hul, Nat.one_mul]) hnews hone hroom hfit
      refine ⟨_, _, hr, ⟨hlen, .inr ⟨g, cap, _, rfl, hbg, setRow_heap w g cur _ e _ hg, hroom, hcm, ?_, ?_⟩⟩, .inl ⟨rfl, ⟨rfl, rfl, rfl, by simp, fun k _ hk => setRow_other w g k _ (fun e => hk (by simp [Value.ownBlock, e]))⟩⟩⟩
      · simp only [List.size_toArray, List.length_append, List.length_take, List.length_drop, Array.length_toList]
        omega
      · rw [hsize, htake]
        exact List.take_left' hlen
    · have hr := run_append_grow (P := P) w t ty e i z ht hi hz ⟨g, 0, none⟩ n cap xs (by rw [hsize]; exact hown.1) (hown.cells (g := g) rfl) a 1 c us (by rw [hsize, hul, Nat.one_mul]) hnews (by omega) (by omega) (growslice_fits (by omega) (by rw [hby]; exact hbytes))
      have hm := made cap (by omega)
      exact ⟨_, _, hr, hm.1, .inr ⟨rfl, hm.2⟩⟩
end

/-- At the operation, for the walk. -/
theorem wpList_append_two {P : Program} (w : World) {ops : Array Oper} {rest : List Oper} {o : Oper} {a : Act} {Q : Exit → Act → World → Prop} (hgd : o.guard = none) (s x : Operand) (t : TypeId)
    (ho : o.op = .call { callee := .builtin .append, args := #[s, x], argTypes := #[t, t] })
    (base : Nat) (e : TypeId) (i : TypeInfo) (z : Value) (size bytes : Nat) (ht : P.underlying t = some (.slice e)) (hi : P.info? e = some i) (hz : i.zero = some z)
    (hsize : i.size = size) (hby : i.bytes = bytes) (hzs : z.cells.size = size) (hsp : 0 < size) (hs16 : size ≤ 16)
    (v : Value) (n : Nat) (xs : List Value) (hs : a.eval s = v) (hown : w.ownsRow base e size v n xs)
    (ad : Addr) (c : Nat) (us : List Value) (hx : a.eval x = .slice (some ad) 1 c) (hul : us.length = size) (hnews : ∀ j x, us[j]? = some x → w.cell? (ad.add j) = some x) (hone : ∀ x ∈ us, x.oneCell' = true)
    (hn : n + 1 ≤ 57646075230342348) (hbytes : (n + 1) * bytes ≤ 140737488355328) (hbase : base ≤ w.heap.size)
    (h : ∀ v' w', w'.ownsRow base e size v' (n + 1) (xs ++ us) → ((v'.ownBlock = v.ownBlock ∧ w.grownBy w' v.ownBlock) ∨ (v'.ownBlock = some w.heap.size ∧ w.grownBy w' none)) → wpList P ops Q rest (a.put o.dst v') w') :
    wpList P ops Q (o :: rest) a w := by
  refine wpList_plain hgd fun K hK => ?_
  obtain ⟨v', w', hr, h2, h3⟩ := append_two (P := P) w base t o.type e i z size bytes ht hi hz hsize hby hzs hsp hs16 v n xs hown ad c us hul hnews hone hn hbytes hbase
  unfold Oper.wp execOp
  simp only [ho, resolve, invoke, builtin, Sem.run_bind, Sem.run_pure, Result.andThen_ok, List.map_toArray, List.map_cons, List.map_nil, hs, hx, hr]
  exact hK _ _ (h v' w' h2 h3)
end Go.Proofs.Ytbghokdlnnaeeaa.Ap

/- The document's own Limit, New: contracts. -/
namespace Go.Proofs.Ytbghokdlnnaeeaa.Dk
open Go.RowKit Tx Pm Ap
set_option linter.unusedVariables false

def setRm : List Rm → ByteArray → Int → List Rm
  | [], v, n => [⟨v, n⟩]
  | r :: l, v, n => if r.vol = v then ⟨v, n⟩ :: l else r :: setRm l v n
theorem setRm_hit (v : ByteArray) (n : Int) : ∀ (l : List Rm) (k : Nat) (r : Rm), l[k]? = some r → r.vol = v → (∀ j y, j < k → l[j]? = some y → y.vol ≠ v) → setRm l v n = l.set k ⟨v, n⟩
  | [], k, r, h, _, _ => by cases h
  | x :: l, 0, r, h, hv, _ => by
    injection h with h
    subst h
    rw [setRm, if_pos hv]
    rfl
  | x :: l, k + 1, r, h, hv, hb => by
    rw [setRm, if_neg (hb 0 x (by omega) rfl), setRm_hit v n l k r h hv (fun j y hj hy => hb (j + 1) y (by omega) hy)]
    rfl
theorem setRm_miss (v : ByteArray) (n : Int) : ∀ (l : List Rm), (∀ j y, j < l.length → l[j]? = some y → y.vol ≠ v) → setRm l v n = l ++ [⟨v, n⟩]
  | [], _ => rfl
  | x :: l, hb => by
    rw [setRm, if_neg (hb 0 x (by simp) rfl), setRm_miss v n l (fun j y hj hy => hb (j + 1) y (by simpa using hj) hy)]
    rfl
def limitS (s : St) (v : ByteArray) (n : Int) : Nat × St :=
  if n < 0 then (1, s) else if chk v.data.toList 1 ≠ 0 then (10, s) else (0, { s with rooms := setRm s.rooms v n })
theorem flat_set : ∀ (l : List Rm) (k : Nat) (r : Rm) (n : Int), l[k]? = some r → (l.flatMap cellsR).set (k * 2 + 1) (.int .i64 n) = (l.set k ⟨r.vol, n⟩).flatMap cellsR
  | [], k, r, n, h => by cases h
  | x :: l, 0, r, n, h => by
    injection h with h
    subst h
    simp [cellsR]
  | x :: l, k + 1, r, n, h => by
    have e : (k + 1) * 2 + 1 = (k * 2 + 1) + 1 + 1 := by omega
    have := flat_set l k r n h
    rw [e, List.set_cons_succ, List.flatMap_cons, List.flatMap_cons, ← this]
    rfl
theorem put_own {w : World} {base g n cap size : Nat} {e : TypeId} {xs : List Value} (h : w.ownsRow base e size (.slice (some ⟨g, 0, none⟩) n cap) n xs) (k : Nat) (u : Value) :
    (w.setCell ⟨g, k, none⟩ u).ownsRow base e size (.slice (some ⟨g, 0, none⟩) n cap) n (xs.set k u) := by
  refine ⟨by rw [List.length_set]; exact h.1, ?_⟩
  rcases h.2 with ⟨h0, _⟩ | ⟨g', cap', cur, hv, hb, hh, hn, hc, hs, ht⟩
  · cases h0
  · injection hv with hg _ hcap
    injection hg with hg
    injection hg with hg
    subst hg
    subst hcap
    refine .inr ⟨g, cap, cur.setIfInBounds k u, rfl, hb, ?_, hn, hc, by simpa using hs, ?_⟩
    · simp [World.setCell, Array.getElem?_modify, hh]
    · rw [Array.toList_setIfInBounds, List.take_set, ht]
theorem row_warm {w : World} {base g n cap size : Nat} {e : TypeId} {xs : List Value} (h : w.ownsRow base e size (.slice (some ⟨g, 0, none⟩) n cap) n xs) (k : Nat) : w.frozen? ⟨g, k, none⟩ = false := by
  rcases h.2 with ⟨h0, _⟩ | ⟨g', cap', cur, hv, hb, hh, hn, hc, hs, ht⟩
  · cases h0
  · injection hv with hg _ hcap
    injection hg with hg
    injection hg with hg
    subst hg
    unfold World.frozen?
    rw [hh]
    simp
theorem cellsR_one (x : Rm) : ∀ u ∈ cellsR x, u.oneCell' = true := by
  intro u hu
  simp [cellsR] at hu
  rcases hu with rfl | rfl <;> rfl
theorem cell_two_new (w : World) (a b : Value) (t : TypeId) : ∀ j u, [a, b][j]? = some u → (w.alloc (.cells #[a, b] t)).cell? ((⟨w.heap.size, 0, none⟩ : Addr).add j) = some u := by
  intro j u hj
  match j, hj with
  | 0, hj => simp at hj; subst hj; simp [Addr.add]
  | 1, hj => simp at hj; subst hj; simp [Addr.add]
  | j + 2, hj => simp at hj

end Go.Proofs.Ytbghokdlnnaeeaa.Dk

/- The document's own Rename: contract. -/
namespace Go.Proofs.Ytbghokdlnnaeeaa.Dk
open Go.RowKit Tx Pm
set_option linter.unusedVariables false

/-- By how much the volume of 'to' grows. -/
def moreS (l : List It) (f t : ByteArray) : Int := (if vol f = vol t then (0 : Int) else ((old l f).data.size : Int)) - (if kind l t = 2 then ((old l t).data.size : Int) else 0)
def renameS (s : St) (f t : ByteArray) : Nat × St :=
  if first s f 1 ≠ 0 then (first s f 1, s) else if first s t 1 ≠ 0 then (first s t 1, s) else if kind s.L f = 0 ∨ home s.L t = false then (11, s) else
  if kind s.L f = 1 ∨ kind s.L t = 1 then (12, s) else if f ≠ t ∧ fits s t (moreS s.L f t) = false then (13, s) else if (done s).1 ≠ 0 then done s else
  (0, putS { (done s).2 with L := drop (done s).2.L f } { old s.L f with path := t })
theorem kind_file {l : List It} {p : ByteArray} (h0 : kind l p ≠ 0) (h1 : kind l p ≠ 1) : ∃ (k : Nat) (x : It), k < l.length ∧ l[k]? = some x ∧ find l p = some x ∧ placeI l p = k ∧ x.path = p ∧ x.dir = false := by
  rcases find_cases l p with ⟨hf, _⟩ | ⟨k, x, a, b, c, d, e⟩
  · rw [kind, hf] at h0
    exact absurd rfl h0
  · refine ⟨k, x, a, b, c, d, e, ?_⟩
    rw [kind, c, kindOf] at h1
    cases hd : x.dir with
    | false => rfl
    | true => rw [hd] at h1; exact absurd rfl h1
theorem kind_of_file {l : List It} {p : ByteArray} {x : It} (hf : find l p = some x) (hd : x.dir = false) : kind l p = 2 := by rw [kind, hf, kindOf, hd]; rfl
theorem kind_le (l : List It) (p : ByteArray) : kind l p = 0 ∨ kind l p = 1 ∨ kind l p = 2 := by
  unfold kind kindOf
  split
  · exact .inl rfl
  · split
    · exact .inr (.inl rfl)
    · exact .inr (.inr rfl)

theorem rename_chg {w w6 w7 w8 w9 : World} {b bx : Nat} {u : Value} (hb : Below w.heap.size w w6) (h7 : Chg (· = b) w6 w7) (h8 : Chg (· = b) w7 w8) (hge : w.heap.size ≤ bx) (h9 : Chg (· = b) (w8.setCell ⟨bx, 0, none⟩ u) w9) :
    Chg (fun i => i = b ∨ w.heap.size ≤ i) w w9 := by
  have hm : ∀ {W W' : World}, Chg (· = b) W W' → Chg (fun i => i = b ∨ w.heap.size ≤ i) W W' := fun hh => hh.mono (fun i hi => .inl hi)
  have hs : Chg (fun i => i = b ∨ w.heap.size ≤ i) w8 (w8.setCell ⟨bx, 0, none⟩ u) := (chg_set u).mono (fun i hi => .inr (by rw [hi]; exact hge))
  exact ((((Chg.of_below hb).then (hm h7)).then (hm h8)).then hs).then (hm h9)

end Go.Proofs.Ytbghokdlnnaeeaa.Dk

/- Plain mathematics of varints (no Go text): the bytes of a number, and reading them back. -/
namespace Go.Proofs.Ytbghokdlnnaeeaa.Wm

/-- The bytes of a number, the lowest seven bits first. -/
def vb (x : Nat) : List UInt8 := if x < 128 then [UInt8.ofNat x] else UInt8.ofNat (128 + x % 128) :: vb (x / 128)
termination_by x
decreasing_by omega

theorem vb_lo {x : Nat} (h : x < 128) : vb x = [UInt8.ofNat x] := by rw [vb, if_pos h]
theorem vb_hi {x : Nat} (h : 128 ≤ x) : vb x = UInt8.ofNat (128 + x % 128) :: vb (x / 128) := by rw [vb, if_neg (by omega)]

theorem vb_len_le : ∀ (k x : Nat), x < 128 ^ (k + 1) → (vb x).length ≤ k + 1
  | 0, x, h => by rw [vb_lo (by omega)]; simp
  | k + 1, x, h => by
    by_cases hx : x < 128
    · rw [vb_lo hx]; simp
    · rw [vb_hi (by omega), List.length_cons]
      have : x / 128 < 128 ^ (k + 1) := by
        rw [Nat.div_lt_iff_lt_mul (by omega)]
        rw [Nat.pow_succ] at h
        exact h
      have := vb_len_le k (x / 128) this
      omega
theorem vb_len {x : Nat} (h : x < 18446744073709551616) : (vb x).length ≤ 10 := vb_len_le 9 x (by omega)
theorem vb_pos (x : Nat) : 0 < (vb x).length := by
  by_cases h : x < 128
  · rw [vb_lo h]; simp
  · rw [vb_hi (by omega)]; simp

/-- The text of a number. -/
def vs (x : Nat) : ByteArray := ⟨(vb x).toArray⟩
theorem vs_list (x : Nat) : (vs x).data.toList = vb x := by simp [vs]
theorem vs_size (x : Nat) : (vs x).size = (vb x).length := by simp [vs, ByteArray.size]

/-! ### reading -/

/-- How many bytes at the front have their highest bit, k at the most. -/
def lead : List UInt8 → Nat → Nat
  | b :: r, k + 1 => if 128 ≤ b.toNat then lead r k + 1 else 0
  | _, _ => 0

/-- The number of the first n bytes. -/
def pv : List UInt8 → Nat → Nat
  | b :: r, n + 1 => b.toNat % 128 + 128 * pv r n
  | _, _ => 0

/-- (the number, how many bytes it has, the error). -/
def rd (l : List UInt8) : Nat × Nat × Nat :=
  let n := lead l 9
  if n = l.length then (0, 0, 2)
  else if n = 9 ∧ 1 < (l.getD 9 0).toNat ∨ 0 < n ∧ (l.getD n 0).toNat = 0 then (0, 0, 3)
  else (pv l (n + 1), n + 1, 0)

theorem pv_zero (l : List UInt8) : pv l 0 = 0 := by cases l <;> rfl
theorem lead_le_fuel : ∀ (l : List UInt8) (k : Nat), lead l k ≤ k
  | [], k => by cases k <;> simp [lead]
  | b :: r, 0 => by simp [lead]
  | b :: r, k + 1 => by
    rw [lead]
    split
    · have := lead_le_fuel r k; omega
    · omega
theorem lead_le_len : ∀ (l : List UInt8) (k : Nat), lead l k ≤ l.length
  | [], k => by cases k <;> simp [lead]
  | b :: r, 0 => by simp [lead]
  | b :: r, k + 1 => by
    rw [lead]
    split
    · have := lead_le_len r k; simp; omega
    · omega

/-- pv, one byte more. -/
theorem pv_succ : ∀ (l : List UInt8) (n : Nat), n < l.length → pv l (n + 1) = pv l n + (l.getD n 0).toNat % 128 * 128 ^ n
  | [], n, h => by simp at h
  | b :: r, 0, _ => by simp [pv]
  | b :: r, n + 1, h => by
    have := pv_succ r n (by simpa using h)
    rw [pv, this, pv]
    simp only [List.getD_cons_succ]
    rw [Nat.mul_add, Nat.pow_succ, ← Nat.add_assoc]
    congr 1
    rw [← Nat.mul_assoc, Nat.mul_comm 128, Nat.mul_assoc, Nat.mul_comm 128]
theorem pv_lt : ∀ (l : List UInt8) (n : Nat), pv l n < 128 ^ n
  | [], n => by
    have := Nat.pow_pos (n := n) (show 0 < 128 by omega)
    cases n <;> simp [pv] <;> omega
  | b :: r, 0 => by simp [pv]
  | b :: r, n + 1 => by
    have := pv_lt r n
    rw [pv, Nat.pow_succ]
    omega

/-- A lead, told byte by byte. -/
theorem lead_step : ∀ (l : List UInt8) (f k : Nat), k ≤ lead l f → k < f → k < l.length → 128 ≤ (l.getD k 0).toNat → k + 1 ≤ lead l f
  | [], _, _, _, _, h, _ => by simp at h
  | _ :: _, 0, k, _, h, _, _ => by omega
  | b :: r, f + 1, 0, _, _, _, hb => by
    rw [lead, if_pos (by simpa using hb)]; omega
  | b :: r, f + 1, k + 1, h, hf, hl, hb => by
    rw [lead] at h ⊢
    split at h
    · have := lead_step r f k (by omega) (by omega) (by simpa using hl) (by simpa using hb)
      rw [if_pos (by assumption)]; omega
    · omega
theorem lead_stop : ∀ (l : List UInt8) (f k : Nat), k ≤ lead l f → k < l.length → (l.getD k 0).toNat < 128 → lead l f = k
  | [], _, _, _, h, _ => by simp at h
  | _ :: _, 0, k, h, _, _ => by simp [lead] at h ⊢; omega
  | b :: r, f + 1, 0, _, _, hb => by
    rw [lead, if_neg (by simp at hb; omega)]
  | b :: r, f + 1, k + 1, h, hl, hb => by
    rw [lead] at h ⊢
    split at h
    · have := lead_stop r f k (by omega) (by simpa using hl) (by simpa using hb)
      rw [if_pos (by assumption)]; omega
    · omega
theorem lead_lt : ∀ (l : List UInt8) (f k : Nat), k < lead l f → 128 ≤ (l.getD k 0).toNat
  | [], f, k, h => by cases f <;> simp [lead] at h
  | _ :: _, 0, k, h => by simp [lead] at h
  | b :: r, f + 1, k, h => by
    rw [lead] at h
    split at h
    · cases k with
      | zero => simpa
      | succ k => simpa using lead_lt r f k (by omega)
    · omega

/-- What a number's text reads as, whatever stands behind it. -/
theorem lead_vb : ∀ (f x : Nat) (r : List UInt8), x < 128 ^ (f + 1) → lead (vb x ++ r) f = (vb x).length - 1
  | 0, x, r, h => by rw [vb_lo (by omega)]; simp [lead]
  | f + 1, x, r, h => by
    by_cases hx : x < 128
    · rw [vb_lo hx]
      have : (UInt8.ofNat x).toNat = x := by simp; omega
      simp [lead, this]; omega
    · rw [vb_hi (by omega)]
      have e : (UInt8.ofNat (128 + x % 128)).toNat = 128 + x % 128 := by simp; omega
      have h2 : x / 128 < 128 ^ (f + 1) := by
        rw [Nat.div_lt_iff_lt_mul (by omega)]
        rw [Nat.pow_succ] at h
        exact h
      have := lead_vb f (x / 128) r h2
      have hp := vb_pos (x / 128)
      rw [List.cons_append, lead, if_pos (by omega), this]
      simp; omega
theorem pv_vb : ∀ (f x : Nat) (r : List UInt8), x < 128 ^ (f + 1) → pv (vb x ++ r) (vb x).length = x
  | 0, x, r, h => by
    rw [vb_lo (by omega)]
    have : (UInt8.ofNat x).toNat = x := by simp; omega
    simp only [List.cons_append, List.nil_append, List.length_singleton, pv, this]; omega
  | f + 1, x, r, h => by
    by_cases hx : x < 128
    · rw [vb_lo hx]
      have : (UInt8.ofNat x).toNat = x := by simp; omega
      simp only [List.cons_append, List.nil_append, List.length_singleton, pv, this]; omega
    · rw [vb_hi (by omega)]
      have e : (UInt8.ofNat (128 + x % 128)).toNat = 128 + x % 128 := by simp; omega
      have h2 : x / 128 < 128 ^ (f + 1) := by
        rw [Nat.div_lt_iff_lt_mul (by omega)]
        rw [Nat.pow_succ] at h
        exact h
      have := pv_vb f (x / 128) r h2
      rw [List.cons_append, List.length_cons, pv, this, e]
      omega
theorem vb_last : ∀ (f x : Nat) (r : List UInt8), x < 128 ^ (f + 1) → 128 ≤ x → ((vb x ++ r).getD ((vb x).length - 1) 0).toNat ≠ 0
  | 0, x, r, h, h2 => by omega
  | f + 1, x, r, h, h2 => by
    rw [vb_hi (by omega)]
    have hp := vb_pos (x / 128)
    rw [List.cons_append, List.length_cons, Nat.add_sub_cancel]
    obtain ⟨n, hn⟩ : ∃ n, (vb (x / 128)).length = n + 1 := ⟨(vb (x / 128)).length - 1, by omega⟩
    rw [hn, List.getD_cons_succ]
    have h3 : x / 128 < 128 ^ (f + 1) := by
      rw [Nat.div_lt_iff_lt_mul (by omega)]
      rw [Nat.pow_succ] at h
      exact h
    by_cases hx : x / 128 < 128
    · rw [vb_lo hx] at hn ⊢
      simp at hn
      subst hn
      have : (UInt8.ofNat (x / 128)).toNat = x / 128 := by simp; omega
      simp [this]; omega
    · have := vb_last f (x / 128) r h3 (by omega)
      rw [hn, Nat.add_sub_cancel] at this
      exact this
theorem vb_tenth : ∀ (f x : Nat) (r : List UInt8), x < 2 * 128 ^ (f + 1) → (vb x).length = f + 2 → ((vb x ++ r).getD (f + 1) 0).toNat ≤ 1
  | 0, x, r, h, h2 => by
    by_cases hx : x < 128
    · rw [vb_lo hx] at h2; simp at h2
    · rw [vb_hi (by omega)]
      rw [List.cons_append, List.getD_cons_succ, vb_lo (by omega)]
      have : (UInt8.ofNat (x / 128)).toNat = x / 128 := by simp; omega
      simp [this]; omega
  | f + 1, x, r, h, h2 => by
    by_cases hx : x < 128
    · rw [vb_lo hx] at h2; simp at h2
    · rw [vb_hi (by omega)] at h2 ⊢
      rw [List.cons_append, List.getD_cons_succ]
      refine vb_tenth f (x / 128) r ?_ (by simpa using h2)
      rw [Nat.div_lt_iff_lt_mul (by omega)]
      rw [Nat.pow_succ] at h
      omega

/-- 1.7: what was written is read back. -/
theorem rd_vb (x : Nat) (r : List UInt8) (h : x < 18446744073709551616) : rd (vb x ++ r) = (x, (vb x).length, 0) := by
  have h10 : x < 128 ^ (9 + 1) := by omega
  have hl := lead_vb 9 x r h10
  have hp := vb_pos x
  have hlen := vb_len h
  have e1 : (vb x).length - 1 + 1 = (vb x).length := by omega
  unfold rd
  simp only [hl]
  rw [if_neg (by simp; omega), if_neg, e1, pv_vb 9 x r h10]
  rintro (⟨h9, h1⟩ | ⟨h0, h1⟩)
  · have : ((vb x ++ r).getD 9 0).toNat ≤ 1 := vb_tenth 8 x r (by omega) (by omega)
    omega
  · refine vb_last 9 x r h10 ?_ h1
    apply Decidable.byContradiction
    intro hx
    rw [vb_lo (by omega)] at h0
    simp at h0

/-- 1.7: what is read has been written so: one form for each number. -/
theorem vb_rd : ∀ (n : Nat) (l : List UInt8) (f : Nat), lead l f = n → n < l.length → (l.getD n 0).toNat < 128 → (0 < n → (l.getD n 0).toNat ≠ 0) → vb (pv l (n + 1)) = l.take (n + 1)
  | _, [], _, _, h, _, _ => by simp at h
  | 0, b :: r, f, _, _, hb, _ => by
    have hb' : b.toNat < 128 := by simpa using hb
    rw [vb_lo (by simp [pv]; omega)]
    simp only [pv, List.take_succ_cons, List.take_zero, Nat.mul_zero, Nat.add_zero]
    rw [Nat.mod_eq_of_lt hb']
    simp
  | n + 1, b :: r, 0, h, _, _, _ => by simp [lead] at h
  | n + 1, b :: r, f + 1, h, hl, hb, h0 => by
    rw [lead] at h
    split at h
    · have hb128 : 128 ≤ b.toNat := by assumption
      have hbl := b.toNat_lt
      have ih := vb_rd n r f (by omega) (by simpa using hl) (by simpa using hb) (fun hn => by simpa using h0 (by omega))
      have hne : pv r (n + 1) ≠ 0 := by
        by_cases hn : n = 0
        · subst hn
          cases r with
          | nil => simp at hl
          | cons c r =>
            have hc : c.toNat < 128 := by simpa using hb
            have := h0 (by omega)
            simp [pv] at this ⊢
            omega
        · intro hz
          rw [hz, vb_lo (by omega)] at ih
          have := congrArg List.length ih
          simp at this
          have hl' : n < r.length := by simpa using hl
          omega
      have e : pv (b :: r) (n + 1 + 1) = b.toNat % 128 + 128 * pv r (n + 1) := by rw [pv]
      rw [e, vb_hi (by omega)]
      have e1 : (b.toNat % 128 + 128 * pv r (n + 1)) / 128 = pv r (n + 1) := by omega
      have e2 : 128 + (b.toNat % 128 + 128 * pv r (n + 1)) % 128 = b.toNat := by omega
      rw [e1, e2, ih]
      simp
    · omega

theorem getD_lt (l : List UInt8) (n : Nat) : (l.getD n 0).toNat < 256 := (l.getD n 0).toNat_lt

/-- A number that is read has these bytes. -/
theorem rd_ok {l : List UInt8} {x n : Nat} (h : rd l = (x, n, 0)) : n ≤ l.length ∧ vb x = l.take n ∧ 0 < n ∧ x < 18446744073709551616 := by
  unfold rd at h
  simp only at h
  split at h
  · simp at h
  · rename_i h1
    split at h
    · simp at h
    · rename_i h2
      simp only [Prod.mk.injEq] at h
      obtain ⟨rfl, rfl, _⟩ := h
      have hf := lead_le_fuel l 9
      have hl := lead_le_len l 9
      have hlt : (l.getD (lead l 9) 0).toNat < 128 := by
        apply Decidable.byContradiction
        intro hc
        by_cases h9 : lead l 9 = 9
        · refine h2 (.inl ⟨h9, ?_⟩)
          rw [h9] at hc
          omega
        · have := lead_step l 9 (lead l 9) (Nat.le_refl _) (by omega) (by omega) (by omega)
          omega
      refine ⟨by omega, vb_rd _ l 9 rfl (by omega) hlt (fun h0 hz => h2 (.inr ⟨h0, hz⟩)), by omega, ?_⟩
      have hp := pv_succ l (lead l 9) (by omega)
      have hq := pv_lt l (lead l 9)
      rw [hp]
      by_cases h9 : lead l 9 = 9
      · have : ¬ 1 < (l.getD 9 0).toNat := fun hc => h2 (.inl ⟨h9, hc⟩)
        rw [h9] at hq ⊢
        have : (l.getD 9 0).toNat % 128 ≤ 1 := by omega
        have := Nat.mul_le_mul_right (128 ^ 9) this
        omega
      · have h8 : lead l 9 ≤ 8 := by omega
        have e1 := Nat.pow_le_pow_right (show 0 < 128 by omega) h8
        have : (l.getD (lead l 9) 0).toNat % 128 ≤ 127 := by omega
        have := Nat.mul_le_mul_right (128 ^ lead l 9) this
        have e8 : 128 ^ 8 = 72057594037927936 := by decide
        omega
theorem rd_cases (l : List UInt8) : (rd l = (0, 0, 2)) ∨ (rd l = (0, 0, 3)) ∨ ∃ x n, rd l = (x, n, 0) := by
  unfold rd
  simp only
  split
  · exact .inl rfl
  · split
    · exact .inr (.inl rfl)
    · exact .inr (.inr ⟨_, _, rfl⟩)

/-! ### the same over a text -/
theorem len_l (s : ByteArray) : s.data.toList.length = s.size := by rw [Array.length_toList]; rfl
theorem gd (s : ByteArray) (k : Nat) (h : k < s.size) : s.data.toList.getD k 0 = s[k] := by
  have h' : k < s.data.size := h
  rw [List.getD_eq_getElem?_getD, Array.getElem?_toList, Array.getElem?_eq_getElem h']
  rfl

theorem or_step (l : List UInt8) (k c : Nat) (hl : k < l.length) (hc : c = (l.getD k 0).toNat) (h : k < 9 ∨ k = 9 ∧ c ≤ 1) :
    bits .or .u64 (pv l k : Nat) (IntKind.u64.wrap (IntKind.u64.wrap (bits .andNot .u8 (c : Int) 128) * 2 ^ (7 * k))) = ((pv l (k + 1) : Nat) : Int) := by
  have hcl : c < 256 := by rw [hc]; exact getD_lt l k
  have e1 : bits .andNot .u8 (c : Int) 128 = ((c % 128 : Nat) : Int) := by
    have := u8_andNot_nat c 128 hcl (by omega)
    rw [show 255 - 128 = 127 from rfl, nat_mask7] at this
    exact this
  have hp := pv_lt l k
  have hs := pv_succ l k hl
  rw [← hc] at hs
  have e128 : (128 : Nat) ^ k = 2 ^ (7 * k) := by rw [Nat.pow_mul]
  have hb : pv l (k + 1) < 18446744073709551616 := by
    have h1 := pv_lt l (k + 1)
    rcases h with h | ⟨rfl, h⟩
    · have := Nat.pow_le_pow_right (show 0 < 128 by omega) (show k + 1 ≤ 9 by omega)
      omega
    · have : c % 128 ≤ 1 := by omega
      have := Nat.mul_le_mul_right (128 ^ 9) this
      omega
  have e2 : IntKind.u64.wrap ((c % 128 : Nat) : Int) = ((c % 128 : Nat) : Int) := by rw [IntKind.wrap_u64]; omega
  have e3 : ((c % 128 : Nat) : Int) * 2 ^ (7 * k) = ((c % 128 * 128 ^ k : Nat) : Int) := by rw [e128]; simp
  have e4 : IntKind.u64.wrap ((c % 128 * 128 ^ k : Nat) : Int) = ((c % 128 * 128 ^ k : Nat) : Int) := by rw [IntKind.wrap_u64]; omega
  rw [e1, e2, e3, e4, u64_or_nat _ _ (by omega) (by omega), Nat.or_comm, nat_join (7 * k) _ _ ?_ ?_, hs, Nat.add_comm]
  · rw [← e128]; exact Nat.mul_mod_left _ _
  · rw [← e128]; exact hp

theorem rd_tenth (s : ByteArray) (h : 9 < s.size) (hl : 9 ≤ lead s.data.toList 9) (h1 : 1 < (s[9].toNat : Int)) : rd s.data.toList = (0, 0, 3) := by
  have hf := lead_le_fuel s.data.toList 9
  have e : lead s.data.toList 9 = 9 := by omega
  unfold rd
  simp only [e]
  rw [len_l, if_neg (by omega), if_pos]
  left
  rw [gd s 9 h]
  exact ⟨trivial, by omega⟩
theorem rd_zero (s : ByteArray) (k : Nat) (h : k < s.size) (hl : k ≤ lead s.data.toList 9) (h1 : s[k].toNat = 0) (h0 : 0 < k) : rd s.data.toList = (0, 0, 3) := by
  have e := lead_stop s.data.toList 9 k hl (by rw [len_l]; exact h) (by rw [gd s k h]; omega)
  unfold rd
  simp only [e]
  rw [len_l, if_neg (by omega), if_pos]
  right
  rw [gd s k h]
  exact ⟨h0, h1⟩
theorem rd_stop (s : ByteArray) (k : Nat) (h : k < s.size) (hl : k ≤ lead s.data.toList 9) (h1 : s[k].toNat < 128) (h9 : k = 9 → s[k].toNat ≤ 1) (h0 : k = 0 ∨ s[k].toNat ≠ 0) : rd s.data.toList = (pv s.data.toList (k + 1), k + 1, 0) := by
  have e := lead_stop s.data.toList 9 k hl (by rw [len_l]; exact h) (by rw [gd s k h]; omega)
  unfold rd
  simp only [e]
  rw [len_l, if_neg (by omega), if_neg]
  rintro (⟨h2, h3⟩ | ⟨h2, h3⟩)
  · subst h2
    rw [gd s 9 h] at h3
    have := h9 rfl
    omega
  · rw [gd s k h] at h3
    omega
theorem rd_short (s : ByteArray) (k : Nat) (h : ¬ k < s.size) (hl : k ≤ lead s.data.toList 9) : rd s.data.toList = (0, 0, 2) := by
  have := lead_le_len s.data.toList 9
  rw [len_l] at this
  unfold rd
  simp only
  rw [len_l, if_pos (by omega)]
theorem lead_more (s : ByteArray) (k : Nat) (h : k < s.size) (h9 : k < 9) (hl : k ≤ lead s.data.toList 9) (hb : 128 ≤ (s[k].toNat : Int)) : k + 1 ≤ lead s.data.toList 9 :=
  lead_step s.data.toList 9 k hl h9 (by rw [len_l]; exact h) (by rw [gd s k h]; omega)
theorem lead_end (s : ByteArray) (k : Nat) (h : k < s.size) (hl : k ≤ lead s.data.toList 9) (hb : (s[k].toNat : Int) < 128) : lead s.data.toList 9 = k :=
  lead_stop s.data.toList 9 k hl (by rw [len_l]; exact h) (by rw [gd s k h]; omega)

/-! ### numbers from 0 on, any numbers, texts -/
def rdU (l : List UInt8) : Nat × Nat × Nat := if (rd l).2.2 = 0 ∧ 9223372036854775807 < (rd l).1 then (0, 0, 3) else rd l
theorem rdU_cases (l : List UInt8) : (rdU l = (0, 0, 2) ∧ rd l = (0, 0, 2)) ∨ (rdU l = (0, 0, 3) ∧ rd l = (0, 0, 3)) ∨ (∃ x n, rd l = (x, n, 0) ∧ 9223372036854775807 < x ∧ rdU l = (0, 0, 3)) ∨ ∃ x n, rd l = (x, n, 0) ∧ x ≤ 9223372036854775807 ∧ rdU l = (x, n, 0) := by
  unfold rdU
  rcases rd_cases l with h | h | ⟨x, n, h⟩
  · rw [h]; simp
  · rw [h]; simp
  · by_cases hx : 9223372036854775807 < x
    · right; right; left
      exact ⟨x, n, h, hx, by rw [h]; simp [hx]⟩
    · right; right; right
      exact ⟨x, n, h, by omega, by rw [h]; simp; omega⟩
/-- The number that was folded into x. -/
def uz (x : Nat) : Int := if x % 2 = 1 then -((x / 2 : Nat) : Int) - 1 else ((x / 2 : Nat) : Int)
theorem uz_odd {x : Nat} (h : x % 2 = 1) : uz x = -((x / 2 : Nat) : Int) - 1 := by rw [uz, if_pos h]
theorem uz_even {x : Nat} (h : x % 2 = 0) : uz x = ((x / 2 : Nat) : Int) := by rw [uz, if_neg (by omega)]
theorem uz_zero : uz 0 = 0 := by rfl
/-- A number, folded. -/
def zz (n : Int) : Nat := if n < 0 then (-2 * n - 1).toNat else (2 * n).toNat
theorem uz_zz (n : Int) : uz (zz n) = n := by
  unfold zz
  split
  · rw [uz_odd (by omega)]; omega
  · rw [uz_even (by omega)]; omega
theorem zz_uz (x : Nat) : zz (uz x) = x := by
  by_cases h : x % 2 = 1
  · rw [uz_odd h, zz, if_pos (by omega)]; omega
  · rw [uz_even (by omega), zz, if_neg (by omega)]; omega
theorem zz_lt {n : Int} (h : -9223372036854775808 ≤ n) (h2 : n ≤ 9223372036854775807) : zz n < 18446744073709551616 := by
  unfold zz
  split <;> omega
theorem uz_in {x : Nat} (h : x < 18446744073709551616) : -9223372036854775808 ≤ uz x ∧ uz x ≤ 9223372036854775807 := by
  unfold uz
  split <;> omega

/-- (where the text ends, the error). -/
def rdT (s : ByteArray) : ByteArray × Nat × Nat :=
  if (rdU s.data.toList).2.2 ≠ 0 then (ByteArray.empty, 0, (rdU s.data.toList).2.2)
  else if s.size < (rdU s.data.toList).2.1 + (rdU s.data.toList).1 then (ByteArray.empty, 0, 2)
  else (s.extract (rdU s.data.toList).2.1 ((rdU s.data.toList).2.1 + (rdU s.data.toList).1), (rdU s.data.toList).2.1 + (rdU s.data.toList).1, 0)

theorem extract_all (s : ByteArray) : s.extract 0 s.size = s := by
  apply ByteArray.ext
  rw [ByteArray.data_extract]
  exact Array.extract_size

/-! ### from the top down -/
theorem pv_drop : ∀ (l : List UInt8) (k n : Nat), k < l.length → pv (l.drop k) (n + 1) = (l.getD k 0).toNat % 128 + 128 * pv (l.drop (k + 1)) n
  | [], k, n, h => by simp at h
  | b :: r, 0, n, _ => by simp [pv]
  | b :: r, k + 1, n, h => by
    have := pv_drop r k n (by simpa using h)
    simpa using this
theorem pv_drop_le : ∀ (l : List UInt8) (k n : Nat), k + n ≤ l.length → pv (l.drop k) n ≤ pv l (k + n)
  | l, 0, n, _ => by simp
  | [], k + 1, n, h => by
    have : n = 0 := by simp at h
    subst this
    simp [pv_zero]
  | b :: r, k + 1, n, h => by
    have := pv_drop_le r k n (by simp at h; omega)
    rw [List.drop_succ_cons, show k + 1 + n = (k + n) + 1 by omega, pv]
    omega
theorem horner (s : ByteArray) (k n : Nat) (h : k ≤ n) (hn : n < s.size) :
    128 * pv (s.data.toList.drop (k + 1)) (n - k) + s[k].toNat % 128 = pv (s.data.toList.drop k) (n + 1 - k) ∧ pv (s.data.toList.drop k) (n + 1 - k) ≤ pv s.data.toList (n + 1) := by
  have hk : k < s.data.toList.length := by rw [len_l]; omega
  have := pv_drop s.data.toList k (n - k) hk
  rw [gd s k (by omega), show n - k + 1 = n + 1 - k by omega] at this
  have h2 := pv_drop_le s.data.toList k (n + 1 - k) (by rw [len_l]; omega)
  rw [show k + (n + 1 - k) = n + 1 by omega] at h2
  exact ⟨by omega, h2⟩

end Go.Proofs.Ytbghokdlnnaeeaa.Wm

/- What the readers of numbers do: wire.whole, wire.number, wire.fold, wire.unfold, and the document's own Read, ReadUint, ReadInt, ReadText: contracts. -/
namespace Go.Proofs.Ytbghokdlnnaeeaa.Wr
open Go.RowKit Wm
set_option linter.unusedVariables false

theorem ret3 {x y z x' y' z' : Int} {k : IntKind} (h : x = x') (h2 : y = y') (h3 : z = z') :
    Ending.returned (.tuple #[.int k x, .int .i64 y, .int .i64 z]) = .returned (.tuple #[.int k x', .int .i64 y', .int .i64 z']) := by rw [h, h2, h3]

set_option maxRecDepth 100000 in
set_option maxHeartbeats 400000 in
theorem whole_any (s : ByteArray) (w : World) (hs : s.size ≤ maxLen) :
    Calls Try.prog 77 #[.string s] w fun e w' => e = .returned (.tuple #[.int .u64 ((rd s.data.toList).1 : Int), .int .i64 ((rd s.data.toList).2.1 : Int), .int .i64 ((rd s.data.toList).2.2 : Int)]) ∧ w = w' := by
  unfold maxLen at hs
  go_enter Try.func77, Try.ntmps77
  go_wp2
  go_loop [2, 5] (fun x i => ∃ k : Nat, k ≤ s.size ∧ k ≤ 9 ∧ Hid (k ≤ lead s.data.toList 9) ∧ i = .int .i64 k ∧ x = .int .u64 (pv s.data.toList k : Nat)) (fun _ i => s.size - (intOf i).toNat)
  case atStart => exact ⟨0, Nat.zero_le _, by omega, Nat.zero_le _, rfl, by rw [pv_zero]; rfl⟩
  case round =>
    obtain ⟨k, hk, hk9, hl, rfl, rfl⟩ := hrel
    by_cases hlt : k < s.size
    · by_cases h9 : k = 9
      · subst h9
        go_wp2
        · have h1 : 1 < (s[9].toNat : Int) := by assumption
          go_ret3
          exact ⟨by rw [rd_tenth s hlt hl.out h1]; rfl, rfl⟩
        · have h0 : s[9].toNat = 0 := by assumption
          go_ret3
          exact ⟨by rw [rd_zero s 9 hlt hl.out h0 (by omega)]; rfl, rfl⟩
        · have h0 : ¬ s[9].toNat = 0 := by assumption
          have h1 : (s[9].toNat : Int) ≤ 1 := by assumption
          go_ret3
          refine ⟨?_, rfl⟩
          rw [rd_stop s 9 hlt hl.out (by omega) (fun _ => by omega) (.inr h0)]
          exact ret3 (or_step s.data.toList 9 _ (by rw [len_l]; exact hlt) (by rw [gd s 9 hlt]) (.inr ⟨rfl, by omega⟩)) rfl rfl
      · have h9' : ((k : Int) == 9) = false := by simp; omega
        go_wp2
        · have h1 : 128 ≤ (s[k].toNat : Int) := by assumption
          go_round
          case rel => exact ⟨k + 1, by omega, by omega, lead_more s k hlt (by omega) hl.out h1, by go_num, by rw [or_step s.data.toList k _ (by rw [len_l]; exact hlt) (by rw [gd s k hlt]) (.inl (by omega))]⟩
          case measure => simp [intOf]; omega
        · have h0 : s[k].toNat = 0 := by assumption
          have hp : 0 < k := by assumption
          go_ret3
          exact ⟨by rw [rd_zero s k hlt hl.out h0 hp]; rfl, rfl⟩
        · have h0 : s[k].toNat = 0 := by assumption
          have hp : ¬ 0 < k := by assumption
          go_ret3
          refine ⟨?_, rfl⟩
          rw [rd_stop s k hlt hl.out (by omega) (fun _ => by omega) (.inl (by omega))]
          exact ret3 (or_step s.data.toList k 0 (by rw [len_l]; exact hlt) (by rw [gd s k hlt]; exact h0.symm) (.inl (by omega))) (by simp) rfl
        · have h0 : ¬ s[k].toNat = 0 := by assumption
          have h1 : (s[k].toNat : Int) < 128 := by assumption
          go_ret3
          refine ⟨?_, rfl⟩
          rw [rd_stop s k hlt hl.out (by omega) (fun _ => by omega) (.inr h0)]
          exact ret3 (or_step s.data.toList k _ (by rw [len_l]; exact hlt) (by rw [gd s k hlt]) (.inl (by omega))) (by simp) rfl
    · go_wp2
      go_ret3
      exact ⟨by rw [rd_short s k hlt hl.out]; rfl, rfl⟩


set_option maxRecDepth 100000 in
theorem number_any (s : ByteArray) (w : World) (hs : s.size ≤ maxLen) :
    Calls Try.prog 68 #[.string s] w fun e w' => e = .returned (.tuple #[.int .i64 ((rdU s.data.toList).1 : Int), .int .i64 ((rdU s.data.toList).2.1 : Int), .int .i64 ((rdU s.data.toList).2.2 : Int)]) ∧ w = w' := by
  have c := whole_any s w hs
  rcases rdU_cases s.data.toList with ⟨h, h2⟩ | ⟨h, h2⟩ | ⟨x, n, h2, hx, h⟩ | ⟨x, n, h2, hx, h⟩
  all_goals
    rw [h2] at c
    rw [h]
    clear h h2
    go_enter Try.func68, Try.ntmps68
    go_wp2_with (go_at_call 77; refine c.mono ?_; rintro e w' ⟨rfl, rfl⟩)
    go_ret3
    exact ⟨rfl, rfl⟩

theorem shr1 (x : Nat) : ((x / 2 : Nat) : Int) = (x : Int) / 2 := by simp
theorem and1 (x : Nat) (h : x < 18446744073709551616) : bits .and .u64 (x : Int) 1 = ((x % 2 : Nat) : Int) := by
  have := u64_and_nat x 1 h (by omega)
  rw [nat_mask1] at this
  exact this

theorem not_bits (y : Nat) (h : y < 18446744073709551616) : (BitVec.allOnes 64 ^^^ BitVec.ofInt 64 (y : Int)).toNat = 18446744073709551615 - y := by
  rw [BitVec.allOnes_xor, BitVec.toNat_not, ofInt_u64 y h]
theorem not_i64 (y : Nat) (h : y < 9223372036854775808) : bits .xor .i64 (-1) (y : Int) = -(y : Int) - 1 := by
  have e : BitVec.ofInt 64 (-1) = BitVec.allOnes 64 := by decide
  have := not_bits y (by omega)
  rw [← e] at this
  show IntKind.i64.wrap ((BitVec.ofInt 64 (-1) ^^^ BitVec.ofInt 64 (y : Int)).toNat : Int) = _
  rw [this, IntKind.wrap_i64]
  omega
theorem not_u64 (y : Nat) (h : y < 18446744073709551616) : bits .xor .u64 IntKind.u64.max (y : Int) = ((18446744073709551615 - y : Nat) : Int) := by
  have e : BitVec.ofInt 64 IntKind.u64.max = BitVec.allOnes 64 := by decide
  have := not_bits y (by omega)
  rw [← e] at this
  show IntKind.u64.wrap ((BitVec.ofInt 64 IntKind.u64.max ^^^ BitVec.ofInt 64 (y : Int)).toNat : Int) = _
  rw [this, IntKind.wrap_u64]
  omega
theorem fold_neg {n : Int} (h1 : -9223372036854775808 ≤ n) (h : n < 0) : bits .xor .u64 IntKind.u64.max (IntKind.u64.wrap (IntKind.u64.wrap n * 2)) = ((zz n : Nat) : Int) := by
  have e : IntKind.u64.wrap (IntKind.u64.wrap n * 2) = ((2 * n + 18446744073709551616).toNat : Int) := by
    rw [IntKind.wrap_u64, IntKind.wrap_u64]
    omega
  rw [e, not_u64 _ (by omega), zz, if_pos h]
  omega
theorem fold_pos {n : Int} (h : 0 ≤ n) : n * 2 = ((zz n : Nat) : Int) := by
  rw [zz, if_neg (by omega)]
  omega

theorem ret1 {x x' : Int} {k : IntKind} (h : x = x') : Ending.returned (.int k x) = .returned (.int k x') := by rw [h]

theorem horner_rel (s : ByteArray) (j n : Nat) (hj : j ≤ n) (hns : n < s.size) (X : Nat) (hX : X = pv (s.data.toList.drop (j + 1)) (n - j)) :
    (∃ k : Nat, k ≤ n ∧ Value.int .i64 ((j : Int) - 1) = .int .i64 k ∧ Value.int .u64 (128 * (X : Int) + (s[j].toNat : Int) % 128) = .int .u64 (pv (s.data.toList.drop (k + 1)) (n - k) : Nat)) ∨
      (Value.int .i64 ((j : Int) - 1) = .int .i64 (-1) ∧ Value.int .u64 (128 * (X : Int) + (s[j].toNat : Int) % 128) = .int .u64 (pv s.data.toList (n + 1) : Nat)) := by
  have hh := (horner s j n hj hns).1
  rw [← hX] at hh
  have e : 128 * (X : Int) + (s[j].toNat : Int) % 128 = ((pv (s.data.toList.drop j) (n + 1 - j) : Nat) : Int) := by omega
  rw [e]
  cases j with
  | zero => right; exact ⟨rfl, by simp⟩
  | succ j =>
    left
    exact ⟨j, by omega, by rw [show ((j + 1 : Nat) : Int) - 1 = (j : Int) by omega], by rw [show n + 1 - (j + 1) = n - j by omega]⟩

theorem rd_lt (l : List UInt8) : (rd l).1 < 18446744073709551616 := by
  rcases rd_cases l with h | h | ⟨x, n, h⟩
  · rw [h]; decide
  · rw [h]; decide
  · rw [h]; exact (rd_ok h).2.2.2

end Go.Proofs.Ytbghokdlnnaeeaa.Wr

/- The document's ReadText, and the methods of wire.Reader: contracts. -/
namespace Go.Proofs.Ytbghokdlnnaeeaa.Wr
open Go.RowKit Wm
set_option linter.unusedVariables false

theorem rdU_ok {l : List UInt8} {x n : Nat} (h : rdU l = (x, n, 0)) : n ≤ l.length ∧ vb x = l.take n ∧ 0 < n ∧ x ≤ 9223372036854775807 ∧ rd l = (x, n, 0) := by
  rcases rdU_cases l with ⟨h1, _⟩ | ⟨h1, _⟩ | ⟨_, _, _, _, h1⟩ | ⟨x', n', h2, hx, h1⟩
  · rw [h1] at h; simp at h
  · rw [h1] at h; simp at h
  · rw [h1] at h; simp at h
  · rw [h1] at h
    simp only [Prod.mk.injEq] at h
    obtain ⟨rfl, rfl, _⟩ := h
    have := rd_ok h2
    exact ⟨this.1, this.2.1, this.2.2.1, hx, h2⟩

/-- What reading a text comes to. -/
theorem rdT_cases (s : ByteArray) : (∃ e, e ≠ 0 ∧ e ≤ 3 ∧ rdU s.data.toList = (0, 0, e) ∧ rdT s = (ByteArray.empty, 0, e)) ∨
    (∃ x n, rdU s.data.toList = (x, n, 0) ∧ n ≤ s.size ∧ s.size - n < x ∧ x ≤ 9223372036854775807 ∧ rdT s = (ByteArray.empty, 0, 2)) ∨
    ∃ x n, rdU s.data.toList = (x, n, 0) ∧ n ≤ s.size ∧ x ≤ s.size - n ∧ rdT s = (s.extract n (n + x), n + x, 0) := by
  unfold rdT
  rcases rdU_cases s.data.toList with ⟨h, _⟩ | ⟨h, _⟩ | ⟨_, _, _, _, h⟩ | ⟨x, n, _, _, h⟩
  · left; exact ⟨2, by omega, by omega, h, by rw [h]; rfl⟩
  · left; exact ⟨3, by omega, by omega, h, by rw [h]; rfl⟩
  · left; exact ⟨3, by omega, by omega, h, by rw [h]; rfl⟩
  · right
    have hk := rdU_ok h
    have hn := hk.1
    rw [len_l] at hn
    by_cases hx : x ≤ s.size - n
    · right
      exact ⟨x, n, h, hn, hx, by rw [h]; simp; omega⟩
    · left
      exact ⟨x, n, h, hn, by omega, hk.2.2.2.1, by rw [h]; simp; omega⟩

theorem ret3s {x x' : ByteArray} {y z y' z' : Int} (h : x = x') (h2 : y = y') (h3 : z = z') :
    Ending.returned (.tuple #[.string x, .int .i64 y, .int .i64 z]) = .returned (.tuple #[.string x', .int .i64 y', .int .i64 z']) := by rw [h, h2, h3]

/-! ### a reader -/
/-- Block b is a reader that has s left. -/
def Rat (w : World) (b : Nat) (s : ByteArray) : Prop := w.cell? ⟨b, 0, none⟩ = some (.string s) ∧ w.frozen? ⟨b, 0, none⟩ = false

theorem grown_refl (w : World) (r : Option Nat) : w.grownBy w r := ⟨rfl, rfl, rfl, Nat.le_refl _, fun _ _ _ => rfl⟩
theorem grown_set (w : World) (b : Nat) (u : Value) : w.grownBy (w.setCell ⟨b, 0, none⟩ u) (some b) :=
  ⟨rfl, rfl, rfl, by simp [World.setCell], fun k _ hne => Below.heap_setCell w ⟨b, 0, none⟩ u k (fun e => hne (by rw [e]))⟩
theorem rat_set {w : World} {b : Nat} {s : ByteArray} (h : Rat w b s) (t : ByteArray) : Rat (w.setCell ⟨b, 0, none⟩ (.string t)) b t := by
  obtain ⟨h1, h2⟩ := h
  exact ⟨World.cell?_setCell_same _ _ _ h1, (World.frozen?_setCell _ _ _ _).trans h2⟩

theorem ret2i {x y x' y' : Int} (h : x = x') (h2 : y = y') : Ending.returned (.tuple #[.int .i64 x, .int .i64 y]) = .returned (.tuple #[.int .i64 x', .int .i64 y']) := by rw [h, h2]

theorem extract_le (s : ByteArray) (n : Nat) (h : n ≤ s.size) : (s.extract n s.size).size = s.size - n := by simp

theorem ret2s {x x' : ByteArray} {y y' : Int} (h : x = x') (h2 : y = y') : Ending.returned (.tuple #[.string x, .int .i64 y]) = .returned (.tuple #[.string x', .int .i64 y']) := by rw [h, h2]

theorem behind (s : ByteArray) (n x : Nat) (h : n ≤ s.size) (hx : x ≤ s.size - n) : (s.extract n s.size).extract x (s.size - n) = s.extract (n + x) s.size := by
  rw [ByteArray.extract_extract]
  congr 1
  omega
theorem front (s : ByteArray) (n x : Nat) (h : n ≤ s.size) (hx : x ≤ s.size - n) : (s.extract n s.size).extract 0 x = s.extract n (n + x) := by
  rw [ByteArray.extract_extract]
  congr 1
  omega

set_option maxRecDepth 100000 in
theorem text_any (b : Nat) (s : ByteArray) (w : World) (h : Rat w b s) (hs : s.size ≤ maxLen) :
    Calls Try.prog 59 #[.pointer (some ⟨b, 0, none⟩)] w fun e w' => e = .returned (.tuple #[.string (rdT s).1, .int .i64 ((rdT s).2.2 : Int)]) ∧ Rat w' b (s.extract (rdT s).2.1 s.size) ∧ w.grownBy w' (some b) := by
  have c := number_any s w hs
  have hall := rat_set h
  have hsame : Rat w b (s.extract 0 s.size) := by rw [extract_all]; exact h
  obtain ⟨h1, h2⟩ := h
  unfold maxLen at hs
  rcases rdT_cases s with ⟨e, h0, h4, h, h3⟩ | ⟨x, n, h, hn, hx, hxm, h3⟩ | ⟨x, n, h, hn, hx, h3⟩
  · rw [h] at c
    rw [h3]
    have hne : ((e : Int) == 0) = false := by simp; omega
    have hne' : (!((e : Int) == 0)) = true := by simp; omega
    clear h h3 h0
    go_enter Try.func59, Try.ntmps59
    go_wp2_with (go_at_call 68; refine c.mono ?_; rintro e w' ⟨rfl, rfl⟩)
    go_ret2
    exact ⟨rfl, hsame, grown_refl _ _⟩
  · rw [h] at c
    rw [h3]
    have hlt : (s.size : Int) - n < x := by omega
    have hn' : (n : Int) ≤ s.size := by omega
    clear h h3
    go_enter Try.func59, Try.ntmps59
    go_wp2_with (go_at_call 68; refine c.mono ?_; rintro e w' ⟨rfl, rfl⟩)
    go_ret2
    exact ⟨rfl, hsame, grown_refl _ _⟩
  · rw [h] at c
    rw [h3]
    have hlt : (x : Int) ≤ (s.size : Int) - n := by omega
    have hn' : (n : Int) ≤ s.size := by omega
    clear h h3
    go_enter Try.func59, Try.ntmps59
    go_wp2_with (go_at_call 68; refine c.mono ?_; rintro e w' ⟨rfl, rfl⟩)
    go_ret2
    exact ⟨ret2s (front s n x hn hx) rfl, by rw [behind s n x hn hx]; exact hall _, grown_set _ _ _⟩

set_option maxRecDepth 100000 in
theorem left_any (b : Nat) (s : ByteArray) (w : World) (h : Rat w b s) (hs : s.size ≤ maxLen) :
    Calls Try.prog 60 #[.pointer (some ⟨b, 0, none⟩)] w fun e w' => e = .returned (.int .i64 (s.size : Int)) ∧ w = w' := by
  obtain ⟨h1, h2⟩ := h
  unfold maxLen at hs
  go_enter Try.func60, Try.ntmps60
  go_wp2
  go_ret
  exact ⟨rfl, rfl⟩

/-- The error of Done. -/
def dn (n : Nat) : Int := if n = 0 then 0 else 5
set_option maxRecDepth 100000 in
theorem text_nil (w : World) : Calls Try.prog 59 #[.pointer none] w fun e w' => e = .returned (.tuple #[.string ByteArray.empty, .int .i64 1]) ∧ w = w' := by
  go_enter Try.func59, Try.ntmps59
  go_wp2
  go_ret2
  exact ⟨rfl, rfl⟩
set_option maxRecDepth 100000 in
theorem left_nil (w : World) : Calls Try.prog 60 #[.pointer none] w fun e w' => e = .returned (.int .i64 0) ∧ w = w' := by
  go_enter Try.func60, Try.ntmps60
  go_wp2
  go_ret
  exact ⟨rfl, rfl⟩
set_option maxRecDepth 100000 in
theorem new_any (s : ByteArray) (w : World) :
    Calls Try.prog 58 #[.string s] w fun e w' => e = .returned (.pointer (some ⟨w.heap.size, 0, none⟩)) ∧ w.alloc (.cells #[.string s] 90) = w' := by
  go_enter Try.func58, Try.ntmps58
  go_wp2
  go_ret
  exact ⟨rfl, rfl⟩
theorem rat_new (w : World) (s : ByteArray) : Rat (w.alloc (.cells #[.string s] 90)) w.heap.size s := by
  constructor
  · go_simp
  · go_simp

end Go.Proofs.Ytbghokdlnnaeeaa.Wr

/- What the writers of numbers and texts do: wire.varint, wire.Uint, wire.Int, wire.Text, and the document's own: contracts. -/
namespace Go.Proofs.Ytbghokdlnnaeeaa.Wr
open Go.RowKit Wm
set_option linter.unusedVariables false

/-- A byte as a value. -/
def bv (b : UInt8) : Value := .int .u8 (b.toNat : Int)

theorem info5 : (Try.prog.info? 5).map (fun i => (i.zero, i.size, i.bytes)) = some (some (.int .u8 0), 1, 1) := by kernel_rfl

theorem own_str {w : World} {base : Nat} {v : Value} {n : Nat} {l : List UInt8} (h : w.ownsRow base 5 1 v n (l.map bv)) (hl : l.length = n) (hn : 0 < n) :
    ∃ g cap, v = .slice (some ⟨g, 0, none⟩) n cap ∧ (convert 64 9 (.slice (some ⟨g, 0, none⟩) n cap)).run Try.prog w = .ok (.string ⟨l.toArray⟩) w := by
  rcases h.2 with ⟨_, h0⟩ | ⟨g, cap, cur, hv, _⟩
  · omega
  · refine ⟨g, cap, hv, ?_⟩
    subst hl
    refine run_convert_bytes_back w 64 9 5 ⟨g, 0, none⟩ cap l Try.underlying64 Try.underlying5 Try.underlying9 ?_
    intro j hj
    refine h.cells (g := g) (by rw [hv]; rfl) j _ ?_
    rw [List.getElem?_map, List.getElem?_eq_getElem hj]
    rfl
theorem below_step {w wr w1 : World} {e : TypeId} {size n : Nat} {v : Value} {xs : List Value} {o : Obj} (hb : Below w.heap.size w wr) (hown : wr.ownsRow w.heap.size e size v n xs) (hg : (wr.alloc o).grownBy w1 v.ownBlock) : Below w.heap.size w w1 :=
  (hb.alloc hb.size o).grown hg (by have := hb.size; simp; omega) (fun k hk => (hown.lt k hk).1)
theorem or128 (y : Nat) : Value.int .u8 (bits .or .u8 ((y : Int) % 256) 128) = bv (UInt8.ofNat (128 + y % 128)) := by
  have e : ((y : Int) % 256) = ((y % 256 : Nat) : Int) := by omega
  have h := u8_or_nat (y % 256) 128 (by omega) (by omega)
  have e1 : y % 256 = y % 128 + 128 * (y / 128 % 2) := by omega
  have e2 : y % 256 ||| 128 = 128 + y % 128 := by
    rw [e1]
    rcases Nat.mod_two_eq_zero_or_one (y / 128) with h0 | h0
    · rw [h0, Nat.mul_zero, Nat.add_zero, Nat.or_comm, nat_join 7 128 _ (by decide) (by omega)]
    · rw [h0, Nat.mul_one, Nat.add_comm, ← nat_join 7 128 (y % 128) (by decide) (by omega), Nat.or_comm, ← Nat.or_assoc, Nat.or_self]
  rw [e, show (128 : Int) = ((128 : Nat) : Int) from rfl, h, e2, bv]
  congr 1
  simp
  omega
theorem low_byte (y : Nat) (h : y < 128) : Value.int .u8 (y : Int) = bv (UInt8.ofNat y) := by
  rw [bv]
  congr 1
  simp
  omega

set_option maxRecDepth 100000 in
set_option maxHeartbeats 400000 in
theorem varint_any (X : Nat) (w : World) (hX : X < 18446744073709551616) :
    Calls Try.prog 38 #[.int .u64 (X : Int)] w fun e w' => e = .returned (.string (vs X)) ∧ Below w.heap.size w w' := by
  obtain ⟨i0, hi, hz0, hz1, hz2⟩ := info_parts info5
  have hlen := vb_len hX
  go_enter Try.func38, Try.ntmps38
  go_wp2
  go_loopw [0, 3] (fun x v wr => ∃ (pre : List UInt8) (y : Nat), x = .int .u64 y ∧ Hid (vb X = pre ++ vb y) ∧ y < 18446744073709551616 ∧ wr.ownsRow w.heap.size 5 1 v pre.length (pre.map bv) ∧ Below w.heap.size w wr) (fun x _ _ => (intOf x).toNat)
  case atStart => exact ⟨[], X, rfl, rfl, hX, World.ownsRow_nil _ _ _ _, Below.refl _ _⟩
  case round =>
    obtain ⟨pre, y, rfl, hv, hy, hown, hb⟩ := hrel
    have hpl : pre.length + 1 ≤ 10 := by
      have h1 := congrArg List.length hv.out
      have h2 := vb_pos y
      rw [List.length_append] at h1
      omega
    have hsz := hb.size
    by_cases hlt : y < 128
    · go_wp2_with (at_builtin; refine wpList_append_own _ rfl _ _ 64 rfl w.heap.size 5 i0 (.int .u8 0) 1 1 Try.underlying64 hi hz0 hz1 hz2 rfl (by decide) _ _ _ rfl (hown.alloc _) ⟨wr.heap.size, 0, none⟩ 1 1 [.int .u8 (y : Int)] rfl rfl ?c1 ?c2 ?c3 ?c4 ?c5 ?_)
      case c1 => exact cell_one_new _ _ _
      case c2 => intro u hu; simp at hu; subst hu; rfl
      case c3 => unfold maxLen; omega
      case c4 => omega
      case c5 => simp; omega
      intro v' w1 hown' hgrow _
      have hb' := below_step hb hown hgrow
      rw [low_byte y hlt, show [bv (UInt8.ofNat y)] = [UInt8.ofNat y].map bv from rfl, ← List.map_append] at hown'
      obtain ⟨g, cap, hv', hc⟩ := own_str hown' (by simp) (by omega)
      have hres : (⟨(pre ++ [UInt8.ofNat y]).toArray⟩ : ByteArray) = vs X := by rw [vs, hv.out, vb_lo hlt]
      rw [hres] at hc
      clear hown hown' hgrow hres hv hb
      rw [hv']
      clear hv'
      go_wp2
      go_ret
      exact ⟨rfl, hb'⟩
    · go_wp2_with (at_builtin; refine wpList_append_own _ rfl _ _ 64 rfl w.heap.size 5 i0 (.int .u8 0) 1 1 Try.underlying64 hi hz0 hz1 hz2 rfl (by decide) _ _ _ rfl (hown.alloc _) ⟨wr.heap.size, 0, none⟩ 1 1 [.int .u8 (bits .or .u8 ((y : Int) % 256) 128)] rfl rfl ?c1 ?c2 ?c3 ?c4 ?c5 ?_)
      case c1 => exact cell_one_new _ _ _
      case c2 => intro u hu; simp at hu; subst hu; rfl
      case c3 => unfold maxLen; omega
      case c4 => omega
      case c5 => simp; omega
      intro v' w1 hown' hgrow _
      have hb' := below_step hb hown hgrow
      rw [or128 y, show [bv (UInt8.ofNat (128 + y % 128))] = [UInt8.ofNat (128 + y % 128)].map bv from rfl, ← List.map_append] at hown'
      have hv2 : Hid (vb X = (pre ++ [UInt8.ofNat (128 + y % 128)]) ++ vb (y / 128)) := by
        show vb X = _
        rw [hv.out, vb_hi (by omega), List.append_assoc]; rfl
      clear hown hgrow hv hb
      go_wp2
      go_roundw
      case rel => exact ⟨_, y / 128, by go_num, hv2, by omega, by simpa using hown', hb'⟩
      case measure => simp [intOf]; omega

end Go.Proofs.Ytbghokdlnnaeeaa.Wr

/- The document's varint, and what wire.Uint, Int, Text and the document's own answer: contracts. -/
namespace Go.Proofs.Ytbghokdlnnaeeaa.Wr
open Go.RowKit Wm
set_option linter.unusedVariables false

/-- One byte as a text. -/
def b1 (b : UInt8) : ByteArray := ⟨#[b]⟩
theorem b1_le (b : UInt8) : (b1 b).size ≤ 1 := Nat.le_refl _
theorem vs_le {x : Nat} (h : x < 18446744073709551616) : (vs x).size ≤ 10 := by rw [vs_size]; exact vb_len h
theorem vs_lo {x : Nat} (h : x < 128) : b1 (UInt8.ofNat x) = vs x := by rw [b1, vs, vb_lo h]
theorem vs_hi {x : Nat} (h : 128 ≤ x) : b1 (UInt8.ofNat (128 + x % 128)) ++ vs (x / 128) = vs x := by
  conv => rhs; rw [vs, vb_hi h]
  apply ByteArray.ext
  simp [b1, vs]
theorem conv_one (b : UInt8) (W : World) (g : Nat) (h : W.cell? ⟨g, 0, none⟩ = some (bv b)) : (convert 64 9 (.slice (some ⟨g, 0, none⟩) 1 1)).run Try.prog W = .ok (.string (b1 b)) W :=
  run_convert_bytes_back W 64 9 5 ⟨g, 0, none⟩ 1 [b] Try.underlying64 Try.underlying5 Try.underlying9 (fun j hj => by
    match j, hj with
    | 0, _ => exact h)

theorem kept_cell {w w1 : World} {v : Value} {t : TypeId} (hb : Below (w.alloc (.cells #[v] t)).drew.heap.size (w.alloc (.cells #[v] t)).drew w1) : w1.cell? ⟨w.heap.size, 0, none⟩ = some v := by
  refine (hb.cell (p := ⟨w.heap.size, 0, none⟩) ?_).trans ?_
  · simp
  · go_simp

theorem below_ac {w w1 : World} {o : Obj} (hb : Below (w.alloc o).drew.heap.size (w.alloc o).drew w1) : Below w.heap.size w w1 :=
  (((Below.refl _ _).alloc (Nat.le_refl _) o).drew).trans (hb.mono (by simp))
theorem below_ca {w w1 : World} {o : Obj} (hb : Below w.drew.heap.size w.drew w1) : Below w.heap.size w (w1.alloc o) :=
  ((Below.refl _ w).drew.trans hb).alloc hb.size o

end Go.Proofs.Ytbghokdlnnaeeaa.Wr

/- What wire.Uint, Int, Text and the document's own answer; what awake answers: contracts. -/
namespace Go.Proofs.Ytbghokdlnnaeeaa.Wr
open Go.RowKit Wm
set_option linter.unusedVariables false

theorem below_new {w w1 : World} {o : Obj} (h : Below w.heap.size w w1) : Below w.heap.size w (w1.alloc o) := h.alloc h.size o
theorem below_at {w w1 w2 : World} {b : Nat} (h : Below w.heap.size w w1) (hg : w1.grownBy w2 (some b)) (hb : w.heap.size ≤ b) : Below w.heap.size w w2 :=
  h.grown hg h.size (fun k hk => by injection hk with hk; omega)
theorem below_call {w w1 w2 : World} (h : Below w.heap.size w w1) (h2 : Below w1.heap.size w1 w2) : Below w.heap.size w w2 := h.trans (h2.mono h.size)

/-- The bytes of a number from 0 on, and the error. -/
def us (n : Int) : ByteArray := if n < 0 then ⟨#[]⟩ else vs n.toNat
def ue (n : Int) : Int := if n < 0 then 1 else 0
/-- A text's length and the text. -/
def ts (s : ByteArray) : ByteArray := vs s.size ++ s

set_option maxRecDepth 100000 in
theorem putText_any (s : ByteArray) (w : World) (hs : s.size ≤ 9223372036854775797) :
    Calls Try.prog 21 #[.string s] w fun e w' => e = .returned (.string (ts s)) ∧ Below w.heap.size w w' := by
  have c := fun W => varint_any s.size W (by omega)
  have hv : (vs s.size).size ≤ 10 := vs_le (by omega)
  rw [ts]
  obtain ⟨V, hV⟩ : ∃ V, V = vs s.size := ⟨_, rfl⟩
  rw [← hV] at c hv ⊢
  clear hV
  have hsum : V.size + s.size ≤ 9223372036854775807 := by omega
  go_enter Try.func21, Try.ntmps21
  go_wp2_with (go_at_call 38; refine (c _).mono ?_; rintro e w1 ⟨rfl, hb⟩)
  go_ret
  exact ⟨rfl, hb⟩
end Go.Proofs.Ytbghokdlnnaeeaa.Wr

/- Plain mathematics of frames (no Go text): the checksum, a frame, reading and scanning frames, a turned bit. -/
namespace Go.Proofs.Ytbghokdlnnaeeaa.Fm
open Wm Wr
set_option linter.unusedVariables false

/-! ### the checksum -/
/-- One bit b (0 or 1) taken into c. -/
def cstep (c b : Nat) : Nat := if c % 2 = b then c / 2 else (c / 2) ^^^ 3988292384
/-- k bits of x, the lowest first. -/
def cbits : Nat → Nat → Nat → Nat
  | 0, c, _ => c
  | k + 1, c, x => cbits k (cstep c (x % 2)) (x / 2)
def csum (c : Nat) (l : List UInt8) : Nat := l.foldl (fun c b => cbits 8 c b.toNat) c
def fsum (l : List UInt8) : Nat := 4294967295 - csum 4294967295 l

theorem xor_lt {a b : Nat} (ha : a < 4294967296) (hb : b < 4294967296) : a ^^^ b < 4294967296 := Nat.xor_lt_two_pow (n := 32) ha hb
theorem cstep_lt {c : Nat} (b : Nat) (h : c < 4294967296) : cstep c b < 4294967296 := by
  unfold cstep
  split
  · omega
  · exact xor_lt (by omega) (by decide)
theorem cbits_lt : ∀ (k : Nat) {c : Nat} (x : Nat), c < 4294967296 → cbits k c x < 4294967296
  | 0, _, _, h => h
  | k + 1, _, x, h => cbits_lt k (x / 2) (cstep_lt (x % 2) h)
theorem csum_lt : ∀ (l : List UInt8) {c : Nat}, c < 4294967296 → csum c l < 4294967296
  | [], _, h => h
  | b :: l, _, h => csum_lt l (cbits_lt 8 b.toNat h)
theorem fsum_lt (l : List UInt8) : fsum l < 4294967296 := by unfold fsum; omega
theorem csum_snoc (c : Nat) (l : List UInt8) (b : UInt8) : csum c (l ++ [b]) = cbits 8 (csum c l) b.toNat := by simp [csum]
theorem csum_append (c : Nat) (l m : List UInt8) : csum c (l ++ m) = csum (csum c l) m := by simp [csum]
/-- k + 1 bits are k bits and one more. -/
theorem cbits_snoc : ∀ (k c x : Nat), cbits (k + 1) c x = cstep (cbits k c x) (x / 2 ^ k % 2)
  | 0, c, x => by simp [cbits]
  | k + 1, c, x => by
    have h := cbits_snoc k (cstep c (x % 2)) (x / 2)
    rw [cbits, h, cbits, Nat.div_div_eq_div_mul, Nat.pow_succ, Nat.mul_comm 2]

/-- After i bytes and k bits of the next one. -/
theorem csum_take (s : ByteArray) (i : Nat) (h : i < s.size) : csum 4294967295 (s.data.toList.take (i + 1)) = cbits 8 (csum 4294967295 (s.data.toList.take i)) s[i].toNat := by
  have h' : i < s.data.toList.length := by rw [len_l]; exact h
  rw [List.take_succ_eq_append_getElem h', csum_snoc]
  congr 2
theorem csum_all (s : ByteArray) : 4294967295 - csum 4294967295 (s.data.toList.take s.size) = fsum s.data.toList := by
  rw [← len_l, List.take_length]
  rfl

/-- The highest bit tells whether the polynomial was laid over. -/
theorem top_of (a : Nat) (h : a < 2147483648) : 2147483648 ≤ a ^^^ 3988292384 := by
  have h1 : (a ^^^ 3988292384).testBit 31 = true := by
    rw [Nat.testBit_xor, Nat.testBit_lt_two_pow (i := 31) h]
    decide
  exact Nat.ge_two_pow_of_testBit h1
theorem cstep_inj {c d b : Nat} (hc : c < 4294967296) (hd : d < 4294967296) (hb : b < 2) (h : cstep c b = cstep d b) : c = d := by
  unfold cstep at h
  have hc2 : c / 2 < 2147483648 := by omega
  have hd2 : d / 2 < 2147483648 := by omega
  have tc := top_of (c / 2) hc2
  have td := top_of (d / 2) hd2
  by_cases h1 : c % 2 = b
  · by_cases h2 : d % 2 = b
    · rw [if_pos h1, if_pos h2] at h; omega
    · rw [if_pos h1, if_neg h2] at h; omega
  · by_cases h2 : d % 2 = b
    · rw [if_neg h1, if_pos h2] at h; omega
    · rw [if_neg h1, if_neg h2] at h
      have e := congrArg (· ^^^ 3988292384) h
      simp only [Nat.xor_assoc, Nat.xor_self, Nat.xor_zero] at e
      omega
theorem cstep_ne {c b d : Nat} (hc : c < 4294967296) (hb : b < 2) (hd : d < 2) (hne : b ≠ d) : cstep c b ≠ cstep c d := by
  unfold cstep
  have t := top_of (c / 2) (by omega)
  by_cases h1 : c % 2 = b
  · rw [if_pos h1, if_neg (by omega)]; omega
  · rw [if_neg h1, if_pos (by omega)]; omega
theorem cbits_inj : ∀ (k : Nat) {c d : Nat} (x : Nat), c < 4294967296 → d < 4294967296 → cbits k c x = cbits k d x → c = d
  | 0, _, _, _, _, _, h => h
  | k + 1, _, _, x, hc, hd, h => cstep_inj hc hd (Nat.mod_lt _ (by omega)) (cbits_inj k (x / 2) (cstep_lt _ hc) (cstep_lt _ hd) h)
theorem csum_inj : ∀ (l : List UInt8) {c d : Nat}, c < 4294967296 → d < 4294967296 → csum c l = csum d l → c = d
  | [], _, _, _, _, h => h
  | b :: l, _, _, hc, hd, h => cbits_inj 8 b.toNat hc hd (csum_inj l (cbits_lt 8 _ hc) (cbits_lt 8 _ hd) h)
/-- Bytes that differ in one bit alone make different states. -/
theorem cbits_ne : ∀ (k i : Nat) {c : Nat} (x y : Nat), c < 4294967296 → i < k → (∀ j, j < k → j ≠ i → x / 2 ^ j % 2 = y / 2 ^ j % 2) → x / 2 ^ i % 2 ≠ y / 2 ^ i % 2 → cbits k c x ≠ cbits k c y
  | 0, _, _, _, _, _, h, _, _ => absurd h (by omega)
  | k + 1, 0, c, x, y, hc, _, hs, hd => by
    have hd' : x % 2 ≠ y % 2 := by simpa using hd
    have hr : ∀ (k : Nat) (x y d : Nat), (∀ j, j < k → x / 2 ^ j % 2 = y / 2 ^ j % 2) → cbits k d x = cbits k d y := by
      intro k
      induction k with
      | zero => intro x y d _; rfl
      | succ k ih =>
        intro x y d h
        have h0 : x % 2 = y % 2 := by simpa using h 0 (by omega)
        rw [cbits, cbits, h0]
        refine ih (x / 2) (y / 2) _ (fun j hj => ?_)
        have := h (j + 1) (by omega)
        rwa [Nat.pow_succ, Nat.mul_comm, ← Nat.div_div_eq_div_mul, ← Nat.div_div_eq_div_mul] at this
    rw [cbits, cbits]
    have e := hr k (y / 2) (x / 2) (cstep c (y % 2)) (fun j hj => by
      have := hs (j + 1) (by omega) (by omega)
      rw [Nat.pow_succ, Nat.mul_comm, ← Nat.div_div_eq_div_mul, ← Nat.div_div_eq_div_mul] at this
      exact this.symm)
    rw [e]
    intro hh
    exact cstep_ne hc (Nat.mod_lt _ (by omega)) (Nat.mod_lt _ (by omega)) hd' (cbits_inj k (x / 2) (cstep_lt _ hc) (cstep_lt _ hc) hh)
  | k + 1, i + 1, c, x, y, hc, hi, hs, hd => by
    have h0 : x % 2 = y % 2 := by simpa using hs 0 (by omega) (by omega)
    rw [cbits, cbits, h0]
    refine cbits_ne k i (x / 2) (y / 2) (cstep_lt _ hc) (by omega) (fun j hj hne => ?_) ?_
    · have := hs (j + 1) (by omega) (by omega)
      rwa [Nat.pow_succ, Nat.mul_comm, ← Nat.div_div_eq_div_mul, ← Nat.div_div_eq_div_mul] at this
    · rwa [Nat.pow_succ, Nat.mul_comm, ← Nat.div_div_eq_div_mul, ← Nat.div_div_eq_div_mul] at hd

/-! ### a byte with one bit turned -/
theorem flip_all : ∀ c, c < 256 → ∀ i, i < 8 → (if c / 2 ^ i % 2 = 1 then c - 2 ^ i else c + 2 ^ i) = c ^^^ 2 ^ i ∧ c ^^^ 2 ^ i < 256 ∧ (∀ j, j < 8 → j ≠ i → (c ^^^ 2 ^ i) / 2 ^ j % 2 = c / 2 ^ j % 2) ∧ (c ^^^ 2 ^ i) / 2 ^ i % 2 ≠ c / 2 ^ i % 2 ∧ (c ^^^ 2 ^ i) ^^^ 2 ^ i = c := by
  decide +kernel

/-! ### frames -/
/-- Four bytes, the lowest first. -/
def le4 (c : Nat) : List UInt8 := [UInt8.ofNat (c % 256), UInt8.ofNat (c / 256 % 256), UInt8.ofNat (c / 256 / 256 % 256), UInt8.ofNat (c / 256 / 256 / 256 % 256)]
def sum4 (l : List UInt8) : ByteArray := ⟨(le4 (fsum l)).toArray⟩
/-- A frame. -/
def pk (s : ByteArray) : ByteArray := ts s ++ sum4 s.data.toList
theorem sum4_size (l : List UInt8) : (sum4 l).size = 4 := rfl
theorem pk_list (s : ByteArray) : (pk s).data.toList = vb s.size ++ (s.data.toList ++ le4 (fsum s.data.toList)) := by
  rw [pk, ByteArray.data_append, Array.toList_append, ts, ByteArray.data_append, Array.toList_append, vs_list, List.append_assoc]
  rfl
theorem pk_size (s : ByteArray) : (pk s).size = (vb s.size).length + s.size + 4 := by
  rw [← len_l, pk_list, List.length_append, List.length_append, len_l]
  have : (le4 (fsum s.data.toList)).length = 4 := rfl
  omega

theorem le4_inj {c d : Nat} (hc : c < 4294967296) (hd : d < 4294967296) (h : le4 c = le4 d) : c = d := by
  simp only [le4, List.cons.injEq, and_true] at h
  have e : ∀ a b, a < 256 → b < 256 → UInt8.ofNat a = UInt8.ofNat b → a = b := fun a b ha hb h => by
    have := congrArg UInt8.toNat h
    simp at this
    omega
  obtain ⟨h1, h2, h3, h4⟩ := h
  have h1 := e _ _ (Nat.mod_lt _ (by omega)) (Nat.mod_lt _ (by omega)) h1
  have h2 := e _ _ (Nat.mod_lt _ (by omega)) (Nat.mod_lt _ (by omega)) h2
  have h3 := e _ _ (Nat.mod_lt _ (by omega)) (Nat.mod_lt _ (by omega)) h3
  have h4 := e _ _ (Nat.mod_lt _ (by omega)) (Nat.mod_lt _ (by omega)) h4
  omega

/-- (the text, how many bytes its frame has, the error) of the frame at the front of s. -/
def fr (s : ByteArray) : ByteArray × Nat × Nat :=
  if (rdT s).2.2 ≠ 0 then (⟨#[]⟩, 0, (rdT s).2.2)
  else if s.size - (rdT s).2.1 < 4 then (⟨#[]⟩, 0, 2)
  else if s.extract 0 ((rdT s).2.1 + 4) ≠ pk (rdT s).1 then (⟨#[]⟩, 0, 6)
  else ((rdT s).1, (rdT s).2.1 + 4, 0)

theorem fr_le (s : ByteArray) : (fr s).2.1 ≤ s.size := by
  unfold fr
  split
  · exact Nat.zero_le _
  · split
    · exact Nat.zero_le _
    · split
      · exact Nat.zero_le _
      · rename_i h1 h2 h3
        show (rdT s).2.1 + 4 ≤ s.size
        omega
theorem fr_ok {s t : ByteArray} {n : Nat} (h : fr s = (t, n, 0)) : rdT s = (t, n - 4, 0) ∧ 4 < n ∧ n ≤ s.size ∧ s.extract 0 n = pk t := by
  have hle := fr_le s
  rw [h] at hle
  unfold fr at h
  rcases rdT_cases s with ⟨e, h0, _, _, h3⟩ | ⟨x, m, _, _, _, _, h3⟩ | ⟨x, m, hu, hn, hx, h3⟩
  · rw [h3, if_pos h0] at h
    simp only [Prod.mk.injEq] at h
    exact absurd h.2.2 h0
  · rw [h3, if_pos (by simp)] at h
    simp at h
  · have hm := (rdU_ok hu).2.2.1
    rw [h3, if_neg (fun h => h rfl)] at h
    simp only at h
    split at h
    · simp at h
    · split at h
      · simp at h
      · rename_i h5 h6
        simp only [Prod.mk.injEq] at h
        obtain ⟨rfl, rfl, _⟩ := h
        refine ⟨by rw [h3, Nat.add_sub_cancel], by omega, hle, ?_⟩
        exact Decidable.byContradiction h6

theorem trip {α β γ : Type} (p : α × β × γ) : ∃ a b c, p = (a, b, c) := ⟨p.1, p.2.1, p.2.2, rfl⟩

/-- The frames from the place a on, at most f of them: (the texts, how far they go, the error). -/
def scf (s : ByteArray) : Nat → Nat → List ByteArray × Nat × Nat
  | 0, a => ([], a, 0)
  | f + 1, a => if a < s.size then
      match fr (s.extract a s.size) with
      | (t, n, e) => if e = 0 then (t :: (scf s f (a + n)).1, (scf s f (a + n)).2.1, (scf s f (a + n)).2.2) else ([], a, e)
    else ([], a, 0)
theorem scf_end {s : ByteArray} (f : Nat) {a : Nat} (h : ¬ a < s.size) : scf s f a = ([], a, 0) := by
  cases f with
  | zero => rfl
  | succ f => rw [scf, if_neg h]
theorem scf_bad {s t : ByteArray} (f : Nat) {a n e : Nat} (h : a < s.size) (h2 : fr (s.extract a s.size) = (t, n, e)) (he : e ≠ 0) : scf s (f + 1) a = ([], a, e) := by
  rw [scf, if_pos h, h2]
  exact if_neg he
theorem scf_one {s t : ByteArray} (f : Nat) {a n : Nat} (h : a < s.size) (h2 : fr (s.extract a s.size) = (t, n, 0)) : scf s (f + 1) a = (t :: (scf s f (a + n)).1, (scf s f (a + n)).2.1, (scf s f (a + n)).2.2) := by
  rw [scf, if_pos h, h2]
  exact if_pos rfl
theorem scf_fuel (s : ByteArray) : ∀ (f g a : Nat), s.size - a < f → s.size - a < g → scf s f a = scf s g a
  | 0, _, _, h, _ => absurd h (by omega)
  | _ + 1, 0, _, _, h => absurd h (by omega)
  | f + 1, g + 1, a, hf, hg => by
    by_cases h : a < s.size
    · obtain ⟨t, n, e, h2⟩ := trip (fr (s.extract a s.size))
      by_cases he : e = 0
      · subst he
        have hn := (fr_ok h2).2.1
        rw [scf_one f h h2, scf_one g h h2, scf_fuel s f g (a + n) (by omega) (by omega)]
      · rw [scf_bad f h h2 he, scf_bad g h h2 he]
    · rw [scf_end _ h, scf_end _ h]
/-- The frames from the place a on. -/
def sc (s : ByteArray) (a : Nat) : List ByteArray × Nat × Nat := scf s (s.size + 1) a
theorem sc_end {s : ByteArray} {a : Nat} (h : ¬ a < s.size) : sc s a = ([], a, 0) := scf_end _ h
theorem sc_bad {s t : ByteArray} {a n e : Nat} (h : a < s.size) (h2 : fr (s.extract a s.size) = (t, n, e)) (he : e ≠ 0) : sc s a = ([], a, e) := scf_bad _ h h2 he
theorem sc_one {s t : ByteArray} {a n : Nat} (h : a < s.size) (h2 : fr (s.extract a s.size) = (t, n, 0)) : sc s a = (t :: (sc s (a + n)).1, (sc s (a + n)).2.1, (sc s (a + n)).2.2) := by
  have hn := (fr_ok h2).2.1
  rw [sc, scf_one _ h h2, sc, scf_fuel s s.size (s.size + 1) (a + n) (by omega) (by omega)]

theorem scf_count (s : ByteArray) : ∀ (f a : Nat), (scf s f a).1.length ≤ s.size - a
  | 0, a => Nat.zero_le _
  | f + 1, a => by
    by_cases h : a < s.size
    · obtain ⟨t, n, e, h2⟩ := trip (fr (s.extract a s.size))
      by_cases he : e = 0
      · subst he
        have hn := (fr_ok h2).2.1
        have := scf_count s f (a + n)
        rw [scf_one f h h2, List.length_cons]
        omega
      · rw [scf_bad f h h2 he]
        exact Nat.zero_le _
    · rw [scf_end _ h]
      exact Nat.zero_le _
theorem sc_count (s : ByteArray) : (sc s 0).1.length ≤ s.size := scf_count s (s.size + 1) 0

end Go.Proofs.Ytbghokdlnnaeeaa.Fm

/- What the document's own functions of frames answer: contracts. -/
namespace Go.Proofs.Ytbghokdlnnaeeaa.Fr
open Go.RowKit Wm Wr Fm
set_option linter.unusedVariables false

theorem cstep_eq {c b : Nat} (h : c % 2 = b) : cstep c b = c / 2 := by rw [cstep, if_pos h]
theorem cstep_other {c b : Nat} (h : c % 2 ≠ b) : cstep c b = (c / 2) ^^^ 3988292384 := by rw [cstep, if_neg h]
theorem xor32 (a : Nat) (h : a < 4294967296) : bits .xor .u32 (a : Int) 3988292384 = ((a ^^^ 3988292384 : Nat) : Int) := u32_xor_nat a 3988292384 h (by decide)

theorem le4_take (c j : Nat) (h : j < 4) : (le4 c).take (j + 1) = (le4 c).take j ++ [UInt8.ofNat (c / 256 ^ j % 256)] := by
  have e2 : c / 256 ^ 2 = c / 256 / 256 := by rw [Nat.div_div_eq_div_mul]
  have e3 : c / 256 ^ 3 = c / 256 / 256 / 256 := by rw [Nat.div_div_eq_div_mul, Nat.div_div_eq_div_mul]
  match j, h with
  | 0, _ => simp [le4]
  | 1, _ => simp [le4]
  | 2, _ => simp [le4, e2]
  | 3, _ => simp [le4, e3]
theorem own_at {w w1 : World} {base g cap n : Nat} {xs : List Value} {e : TypeId} (h : w.ownsRow base e 1 (.slice (some ⟨g, 0, none⟩) n cap) n xs) (hb : Below w.heap.size w w1) : w1.ownsRow base e 1 (.slice (some ⟨g, 0, none⟩) n cap) n xs := by
  refine ⟨h.1, ?_⟩
  rcases h.2 with ⟨h0, _⟩ | ⟨g', cap', cur, hv, hg, hh, r⟩
  · cases h0
  · exact .inr ⟨g', cap', cur, hv, hg, (hb.block g' (Array.getElem?_eq_some_iff.1 hh).1).trans hh, r⟩
set_option maxRecDepth 100000 in
theorem conv_below {w w1 : World} {base g cap n : Nat} {l : List UInt8} (h : w.ownsRow base 5 1 (.slice (some ⟨g, 0, none⟩) n cap) n (l.map bv)) (hl : l.length = n) (hn : 0 < n) (hb : Below w.heap.size w w1) :
    (convert 64 9 (.slice (some ⟨g, 0, none⟩) n cap)).run Try.prog w1 = .ok (.string ⟨l.toArray⟩) w1 := by
  obtain ⟨g', cap', hv, hc⟩ := own_str (own_at h hb) hl hn
  injection hv with hg _ hcap
  injection hg with hg
  injection hg with hg
  subst hg
  subst hcap
  exact hc

set_option maxRecDepth 100000 in
theorem conv_q {w w1 : World} {base g cap F : Nat} {Q : ByteArray} (h : w.ownsRow base 5 1 (.slice (some ⟨g, 0, none⟩) 4 cap) 4 ((le4 F).map bv)) (hq : Q = ⟨(le4 F).toArray⟩) (hb : Below w.heap.size w w1) :
    (convert 64 9 (.slice (some ⟨g, 0, none⟩) 4 cap)).run Try.prog w1 = .ok (.string Q) w1 := by
  rw [hq]
  exact conv_below h rfl (by omega) hb
theorem mod_byte (D : Nat) : Value.int .u8 ((D : Int) % 256) = bv (UInt8.ofNat (D % 256)) := by
  rw [bv]
  congr 1
  simp

/-- A frame's error, as the document tells it. -/
theorem fr_e (s : ByteArray) : (∃ e, e ≠ 0 ∧ e ≤ 3 ∧ (rdT s).2.2 = e ∧ fr s = (⟨#[]⟩, 0, e)) ∨
    (∃ t n, rdT s = (t, n, 0) ∧ n ≤ s.size ∧ t.size ≤ s.size ∧ s.size - n < 4 ∧ fr s = (⟨#[]⟩, 0, 2)) ∨
    (∃ t n, rdT s = (t, n, 0) ∧ n + 4 ≤ s.size ∧ t.size ≤ s.size ∧ s.extract 0 (n + 4) ≠ pk t ∧ fr s = (⟨#[]⟩, 0, 6)) ∨
    (∃ t n, rdT s = (t, n, 0) ∧ n + 4 ≤ s.size ∧ t.size ≤ s.size ∧ s.extract 0 (n + 4) = pk t ∧ fr s = (t, n + 4, 0)) := by
  have key : ∀ t n, rdT s = (t, n, 0) → n ≤ s.size → t.size ≤ s.size →
      (s.size - n < 4 ∧ fr s = (⟨#[]⟩, 0, 2)) ∨ (n + 4 ≤ s.size ∧ s.extract 0 (n + 4) ≠ pk t ∧ fr s = (⟨#[]⟩, 0, 6)) ∨ (n + 4 ≤ s.size ∧ s.extract 0 (n + 4) = pk t ∧ fr s = (t, n + 4, 0)) := by
    intro t n h hn ht
    unfold fr
    rw [h, if_neg (fun h => h rfl)]
    simp only
    by_cases h1 : s.size - n < 4
    · rw [if_pos h1]; exact .inl ⟨h1, rfl⟩
    · rw [if_neg h1]
      by_cases h2 : s.extract 0 (n + 4) = pk t
      · rw [if_neg (fun h => h h2)]; exact .inr (.inr ⟨by omega, h2, rfl⟩)
      · rw [if_pos h2]; exact .inr (.inl ⟨by omega, h2, rfl⟩)
  rcases rdT_cases s with ⟨e, h0, h1, _, h3⟩ | ⟨x, m, _, _, _, _, h3⟩ | ⟨x, m, hu, hn, hx, h3⟩
  · left
    exact ⟨e, h0, h1, by rw [h3], by unfold fr; rw [h3, if_pos h0]⟩
  · left
    exact ⟨2, by omega, by omega, by rw [h3], by unfold fr; rw [h3, if_pos (by simp)]⟩
  · right
    have hs : (s.extract m (m + x)).size ≤ s.size := by simp; omega
    rcases key _ _ h3 (by omega) hs with ⟨a, b⟩ | ⟨a, b, c⟩ | ⟨a, b, c⟩
    · exact .inl ⟨_, _, h3, by omega, hs, a, b⟩
    · exact .inr (.inl ⟨_, _, h3, a, hs, b, c⟩)
    · exact .inr (.inr ⟨_, _, h3, a, hs, b, c⟩)

theorem bytes_ne {a b : ByteArray} (h : a ≠ b) : (a.toList == b.toList) = false := by
  rw [ByteArray.toList_eq, ByteArray.toList_eq]
  apply Bool.eq_false_iff.2
  intro hc
  exact h (ByteArray.ext (Array.toList_inj.1 (eq_of_beq hc)))

end Go.Proofs.Ytbghokdlnnaeeaa.Fr

/- What the document's own Turn answers: contract. -/
namespace Go.Proofs.Ytbghokdlnnaeeaa.Fr
open Go.RowKit Wm Wr Fm
set_option linter.unusedVariables false

/-- A byte with bit i turned. -/
def flip (c i : Nat) : Nat := c ^^^ 2 ^ i
/-- s with the bit number B turned (B below 8 times the size). -/
def trn (s : ByteArray) (B : Nat) : ByteArray := s.extract 0 (B / 8) ++ b1 (UInt8.ofNat (flip (s.data.toList.getD (B / 8) 0).toNat (B % 8))) ++ s.extract (B / 8 + 1) s.size
/-- Turn. -/
def tn (s : ByteArray) (bit : Int) : ByteArray := if s.size = 0 then ⟨#[]⟩ else trn s (bit % (8 * s.size : Nat)).toNat

theorem rem_pos {b : Int} {n : Nat} (h : 0 ≤ b) : b.tmod (n : Int) = b % (n : Int) := Int.tmod_eq_emod_of_nonneg h
theorem rem_neg {b : Int} {n : Nat} (hn : 0 < n) (h : b < 0) : (b.tmod (n : Int) = 0 ∧ b % (n : Int) = 0) ∨ (b.tmod (n : Int) < 0 ∧ b.tmod (n : Int) + n = b % (n : Int)) := by
  have e : b.tmod (n : Int) = -((-b) % (n : Int)) := by
    have h1 : (-b).tmod (n : Int) = (-b) % (n : Int) := Int.tmod_eq_emod_of_nonneg (by omega)
    rw [Int.neg_tmod] at h1
    omega
  rw [e]
  have h1 := Int.emod_nonneg (-b) (show (n : Int) ≠ 0 by omega)
  have h2 := Int.emod_lt_of_pos (-b) (show 0 < (n : Int) by omega)
  by_cases h0 : (-b) % (n : Int) = 0
  · left
    rw [h0]
    refine ⟨rfl, ?_⟩
    have : (n : Int) ∣ b := (Int.dvd_neg).1 (Int.dvd_of_emod_eq_zero h0)
    exact Int.emod_eq_zero_of_dvd this
  · right
    refine ⟨by omega, ?_⟩
    have h3 := Int.mul_ediv_add_emod (-b) (n : Int)
    obtain ⟨q, hq⟩ : ∃ q, q = -b / (n : Int) := ⟨_, rfl⟩
    obtain ⟨m, hm⟩ : ∃ m, m = -b % (n : Int) := ⟨_, rfl⟩
    rw [← hq, ← hm] at h3
    rw [← hm] at h1 h2 h0 ⊢
    have hx : (n : Int) * (-q - 1) = -((n : Int) * q) - n := by rw [Int.mul_sub, Int.mul_neg, Int.mul_one]
    have e2 : b = (n - m) + n * (-q - 1) := by omega
    have e3 : b % (n : Int) = n - m := by
      rw [e2, Int.add_mul_emod_self_left]
      exact Int.emod_eq_of_lt (by omega) (by omega)
    omega

theorem xor_byte (c i : Nat) (hc : c < 256) (hi : i < 8) : (c / 2 ^ i % 2 = 1 → flip c i = c - 2 ^ i ∧ 2 ^ i ≤ c) ∧ (c / 2 ^ i % 2 = 0 → flip c i = c + 2 ^ i) ∧ flip c i < 256 := by
  have h := flip_all c hc i hi
  unfold flip
  refine ⟨fun h1 => ⟨by rw [← h.1, if_pos h1], ?_⟩, fun h1 => by rw [← h.1, if_neg (by omega)], h.2.1⟩
  rcases Nat.lt_or_ge c (2 ^ i) with hlt | hge
  · rw [Nat.div_eq_of_lt hlt] at h1
    omega
  · exact hge
theorem pow_small : ∀ i, i < 8 → 1 ≤ 2 ^ i ∧ 2 ^ i ≤ 128 := by decide

theorem b1_list (b : UInt8) : (b1 b).data.toList = [b] := rfl
/-- What a turned bit makes of the list. -/
theorem trn_list (s : ByteArray) (B : Nat) (h : B / 8 < s.size) : (trn s B).data.toList = s.data.toList.set (B / 8) (UInt8.ofNat (flip (s.data.toList.getD (B / 8) 0).toNat (B % 8))) := by
  have hl : B / 8 < s.data.toList.length := by rw [len_l]; exact h
  rw [trn, ByteArray.data_append, ByteArray.data_append, Array.toList_append, Array.toList_append, b1_list, ByteArray.data_extract, ByteArray.data_extract, Array.toList_extract, Array.toList_extract]
  rw [List.set_eq_take_append_cons_drop, if_pos hl]
  simp only [List.extract_eq_take_drop, List.drop_zero, Nat.sub_zero, List.append_assoc, List.singleton_append]
  congr 2
  exact List.take_of_length_le (by rw [List.length_drop, len_l]; exact Nat.le_refl _)

end Go.Proofs.Ytbghokdlnnaeeaa.Fr

/- The document's own Rot: contract. -/
namespace Go.Proofs.Ytbghokdlnnaeeaa.Dk
open Go.RowKit Tx Pm
set_option linter.unusedVariables false

def rotS (s : St) (p : ByteArray) (bit : Int) : Nat × St :=
  if there s p ≠ 0 then (there s p, s) else (0, putS s { old s.L p with data := Fr.tn (old s.L p).data bit, kept := Fr.tn (old s.L p).kept bit })

theorem rot_chg {w w4 w7 : World} {b bx : Nat} {u1 u2 : Value} (hb : Below w.heap.size w w4) (hge : w.heap.size ≤ bx) (h7 : Chg (· = b) ((w4.setCell ⟨bx, 2, none⟩ u1).setCell ⟨bx, 3, none⟩ u2) w7) :
    Chg (fun i => i = b ∨ w.heap.size ≤ i) w w7 := by
  have hs : ∀ (W : World) (k : Nat) (u : Value), Chg (fun i => i = b ∨ w.heap.size ≤ i) W (W.setCell ⟨bx, k, none⟩ u) := fun W k u => (chg_set u).mono (fun i hi => .inr (by rw [hi]; exact hge))
  exact (((Chg.of_below hb).then (hs _ _ _)).then (hs _ _ _)).then (h7.mono (fun i hi => .inl hi))

end Go.Proofs.Ytbghokdlnnaeeaa.Dk

/- The document's own Mix: contract. -/
namespace Go.Proofs.Ytbghokdlnnaeeaa.Dk
open Go.RowKit Tx Pm
set_option linter.unusedVariables false

def m64 : Nat := 18446744073709551616
def mixA (a n : Nat) : Nat := (a + n * 11400714819323198485) % 18446744073709551616
def mixB (x : Nat) : Nat := ((x ^^^ x / 1073741824) * 13787848793156543929) % 18446744073709551616
def mixC (x : Nat) : Nat := ((x ^^^ x / 134217728) * 10723151780598845931) % 18446744073709551616
def mix (a n : Nat) : Nat := mixC (mixB (mixA a n)) ^^^ mixC (mixB (mixA a n)) / 2147483648
theorem mixA_lt (a n : Nat) : mixA a n < 18446744073709551616 := Nat.mod_lt _ (by decide)
theorem mixB_lt (x : Nat) : mixB x < 18446744073709551616 := Nat.mod_lt _ (by decide)
theorem mixC_lt (x : Nat) : mixC x < 18446744073709551616 := Nat.mod_lt _ (by decide)
theorem mix_lt (a n : Nat) : mix a n < 18446744073709551616 := Nat.xor_lt_two_pow (n := 64) (mixC_lt _) (Nat.lt_of_le_of_lt (Nat.div_le_self _ _) (mixC_lt _))
theorem wrap_nat (x : Nat) : IntKind.u64.wrap (x : Int) = ((x % 18446744073709551616 : Nat) : Int) := by
  rw [IntKind.wrap_u64]
  omega
theorem xor_div (x d : Nat) (h : x < 18446744073709551616) : bits .xor .u64 (x : Int) ((x / d : Nat) : Int) = ((x ^^^ x / d : Nat) : Int) :=
  u64_xor_nat x (x / d) h (Nat.lt_of_le_of_lt (Nat.div_le_self _ _) h)

theorem quo_nat (x d : Nat) (h : x < 18446744073709551616) : IntKind.u64.wrap ((x : Int).tdiv (d : Int)) = ((x / d : Nat) : Int) := by
  rw [← Int.ofNat_tdiv, wrap_nat, Nat.mod_eq_of_lt (Nat.lt_of_le_of_lt (Nat.div_le_self _ _) h)]
theorem mul_nat (x k : Nat) : IntKind.u64.wrap ((x : Int) * (k : Int)) = ((x * k % 18446744073709551616 : Nat) : Int) := by
  rw [← Int.natCast_mul, wrap_nat]

end Go.Proofs.Ytbghokdlnnaeeaa.Dk

/- The document's own New: contract; what Restart makes of the items, as mathematics. -/
namespace Go.Proofs.Ytbghokdlnnaeeaa.Dk
open Go.RowKit Tx Pm
set_option linter.unusedVariables false

/-- A new disk. -/
def newS : St := ⟨[], [], 0, 0, -1, false⟩
/-- What a restart keeps of a loose item, by the number that it draws. -/
def lose (pick : Nat) (x : It) : It :=
  let k1 := if x.anew then (let k := pick % (x.data.size + 2); if k = 0 then x.kept else x.data.extract 0 (k - 1)) else (let k := pick % (x.data.size - x.kept.size + 1); x.data.extract 0 (x.kept.size + k))
  { x with data := k1, kept := k1, loose := false, anew := false }
def restartL (loss : Nat) : List It → Nat → Nat → List It × Nat
  | [], _, st => ([], st)
  | x :: l, n, st => if x.loose then (let r := restartL loss l (n + 1) (st + 1); ({ lose (mix loss (n + 1)) x with stamp := st + 1 } :: r.1, r.2)) else (let r := restartL loss l n st; (x :: r.1, r.2))
/-- A number of 64 bits without sign, of an int. -/
def u64 (i : Int) : Nat := (IntKind.u64.wrap i).toNat
def restartS (s : St) (loss : Int) : St := let r := restartL (u64 loss) s.L 0 s.stamps; { s with L := r.1, stamps := r.2, down := false, armed := -1 }

/-- The paths rise. -/
def Rises (l : List It) : Prop := l.Pairwise (fun x y => Op.bytesLess x.path.toList y.path.toList = true)
end Go.Proofs.Ytbghokdlnnaeeaa.Dk

/- The document's own Restart: contract. -/
namespace Go.Proofs.Ytbghokdlnnaeeaa.Dk
open Go.RowKit Tx Pm
set_option linter.unusedVariables false

theorem less_irrefl (l : List UInt8) : Op.bytesLess l l = false := by
  induction l with
  | nil => rfl
  | cons c r ih => simp [Op.bytesLess, ih]
theorem ins_same {a c : List It} {x x' : It} (hr : Rises (a ++ x :: c)) (hp : x'.path = x.path) : ins (a ++ x :: c) x' = a ++ x' :: c := by
  have hx : (a ++ x :: c)[a.length]? = some x := by simp
  rw [ins_at (k := a.length) (by simp) ?_ ?_, hx]
  · simp [hp]
  · intro y hy
    rw [List.take_left] at hy
    rw [hp]
    exact (List.pairwise_append.1 hr).2.2 y hy x (by simp)
  · intro y hy
    rw [hx] at hy
    injection hy with hy
    rw [← hy, hp]
    exact less_irrefl _
theorem rises_paths {a b : List It} (h : a.map (·.path) = b.map (·.path)) (hr : Rises a) : Rises b := by
  unfold Rises at *
  have h1 : (a.map (·.path)).Pairwise (fun x y => Op.bytesLess x.toList y.toList = true) := List.pairwise_map.2 hr
  rw [h] at h1
  exact List.pairwise_map.1 h1
/-- What a restart asks of the items. -/
structure Sound (s : St) : Prop where
  rises : Rises s.L
  kept : ∀ x ∈ s.L, x.anew = false → x.kept.size ≤ x.data.size
  size : ∀ x ∈ s.L, x.data.size ≤ 140737488355328 ∧ x.kept.size ≤ 140737488355328
  stamps : s.stamps + s.L.length ≤ 1000000000000
/-- Where the loop stands: k items are through; pre is what they have become, n of them were loose. -/
structure Through (s : St) (loss k n : Nat) (pre : List It) (st : Nat) : Prop where
  le : k ≤ s.L.length
  len : pre.length = k
  paths : pre.map (·.path) = (s.L.take k).map (·.path)
  rest : restartL loss s.L 0 s.stamps = (pre ++ (restartL loss (s.L.drop k) n st).1, (restartL loss (s.L.drop k) n st).2)
  num : n ≤ k
  stamp : st ≤ s.stamps + k
theorem through_zero (s : St) (loss : Nat) : Through s loss 0 0 [] s.stamps :=
  ⟨Nat.zero_le _, rfl, rfl, by rw [List.drop_zero, List.nil_append], Nat.le_refl _, Nat.le_refl _⟩
theorem through_calm {s : St} {loss k n st : Nat} {pre : List It} {x : It} (h : Through s loss k n pre st) (hx : s.L[k]? = some x) (hl : x.loose = false) : Through s loss (k + 1) n (pre ++ [x]) st := by
  obtain ⟨hk, he⟩ := List.getElem?_eq_some_iff.1 hx
  refine ⟨hk, by rw [List.length_append, h.len]; rfl, by rw [take_more hx, List.map_append, List.map_append, h.paths], ?_, by have := h.num; omega, by have := h.stamp; omega⟩
  rw [h.rest, List.drop_eq_getElem_cons hk, he, restartL, if_neg (by rw [hl]; decide), List.append_assoc]
  rfl
theorem through_loose {s : St} {loss k n st : Nat} {pre : List It} {x : It} (h : Through s loss k n pre st) (hx : s.L[k]? = some x) (hl : x.loose = true) :
    Through s loss (k + 1) (n + 1) (pre ++ [{ lose (mix loss (n + 1)) x with stamp := st + 1 }]) (st + 1) := by
  obtain ⟨hk, he⟩ := List.getElem?_eq_some_iff.1 hx
  refine ⟨hk, by rw [List.length_append, h.len]; rfl, by rw [take_more hx, List.map_append, List.map_append, h.paths]; rfl, ?_, by have := h.num; omega, by have := h.stamp; omega⟩
  rw [h.rest, List.drop_eq_getElem_cons hk, he, restartL, if_pos hl, List.append_assoc]
  rfl
theorem through_end {s : St} {loss n st : Nat} {pre : List It} (h : Through s loss s.L.length n pre st) : restartL loss s.L 0 s.stamps = (pre, st) := by
  rw [h.rest, List.drop_of_length_le (Nat.le_refl _), restartL, List.append_nil]
/-- The list, where the loop stands. -/
def mid (s : St) (k : Nat) (pre : List It) (st : Nat) : St := { s with L := pre ++ s.L.drop k, stamps := st }
theorem mid_rises {s : St} {loss k n st : Nat} {pre : List It} (h : Through s loss k n pre st) (hr : Rises s.L) : Rises (mid s k pre st).L := by
  refine rises_paths ?_ hr
  show s.L.map (·.path) = (pre ++ s.L.drop k).map (·.path)
  rw [List.map_append, h.paths, ← List.map_append, List.take_append_drop]
theorem mid_at {s : St} {loss k n st : Nat} {pre : List It} {x : It} (h : Through s loss k n pre st) (hx : s.L[k]? = some x) : (mid s k pre st).L = pre ++ x :: s.L.drop (k + 1) ∧ (mid s k pre st).L[k]? = some x := by
  obtain ⟨hk, he⟩ := List.getElem?_eq_some_iff.1 hx
  have e : (mid s k pre st).L = pre ++ x :: s.L.drop (k + 1) := by
    show pre ++ s.L.drop k = _
    rw [List.drop_eq_getElem_cons hk, he]
  refine ⟨e, ?_⟩
  rw [e, ← h.len]
  simp
theorem mid_len {s : St} {loss k n st : Nat} {pre : List It} (h : Through s loss k n pre st) : (mid s k pre st).L.length = s.L.length := by
  show (pre ++ s.L.drop k).length = _
  have := h.le
  rw [List.length_append, List.length_drop, h.len]
  omega
theorem mid_calm {s : St} {loss k n st : Nat} {pre : List It} {x : It} (h : Through s loss k n pre st) (hx : s.L[k]? = some x) : mid s (k + 1) (pre ++ [x]) st = mid s k pre st := by
  have := (mid_at h hx).1
  unfold mid at *
  rw [List.append_assoc, List.singleton_append]
  simp only at this
  rw [← this]
theorem mid_put {s : St} {loss k n st : Nat} {pre : List It} {x x' : It} (h : Through s loss k n pre st) (hr : Rises s.L) (hx : s.L[k]? = some x) (hp : x'.path = x.path) :
    { mid s k pre st with L := ins (mid s k pre st).L x', stamps := st + 1 } = mid s (k + 1) (pre ++ [x']) (st + 1) := by
  have h1 := mid_rises h hr
  have h2 := (mid_at h hx).1
  have h3 : ins (mid s k pre st).L x' = pre ++ x' :: s.L.drop (k + 1) := by
    rw [h2] at h1 ⊢
    exact ins_same h1 hp
  rw [h3]
  unfold mid
  rw [List.append_assoc, List.singleton_append]

theorem mid_start (s : St) : mid s 0 [] s.stamps = s := rfl
theorem u64_lt (i : Int) : u64 i < 18446744073709551616 := by
  unfold u64
  rw [IntKind.wrap_u64]
  omega
theorem u64_eq (i : Int) : IntKind.u64.wrap i = ((u64 i : Nat) : Int) := by
  unfold u64
  rw [IntKind.wrap_u64]
  omega

end Go.Proofs.Ytbghokdlnnaeeaa.Dk

/- The order of texts (no Go text). -/
namespace Go.Proofs.Ytbghokdlnnaeeaa.Od
set_option linter.unusedVariables false

theorem less_trans : ∀ (a b c : List UInt8), Op.bytesLess a b = true → Op.bytesLess b c = true → Op.bytesLess a c = true
  | [], [], _, h, _ => by rw [Op.bytesLess] at h; cases h
  | [], _ :: _, [], _, h => by rw [Op.bytesLess] at h; cases h
  | [], _ :: _, _ :: _, _, _ => by rw [Op.bytesLess]
  | _ :: _, [], _, h, _ => by rw [Op.bytesLess] at h; cases h
  | _ :: _, _ :: _, [], _, h => by rw [Op.bytesLess] at h; cases h
  | x :: a, y :: b, z :: c, h1, h2 => by
    have ih := less_trans a b c
    rw [Op.bytesLess] at h1 h2 ⊢
    simp only [Bool.or_eq_true, Bool.and_eq_true, decide_eq_true_eq, beq_iff_eq] at h1 h2 ⊢
    rcases h1 with h1 | ⟨rfl, h1⟩
    · rcases h2 with h2 | ⟨rfl, h2⟩
      · left
        rw [UInt8.lt_iff_toNat_lt] at h1 h2 ⊢
        omega
      · exact .inl h1
    · rcases h2 with h2 | ⟨rfl, h2⟩
      · exact .inl h2
      · exact .inr ⟨rfl, ih h1 h2⟩
theorem less_tri : ∀ (a b : List UInt8), Op.bytesLess a b = false → Op.bytesLess b a = false → a = b
  | [], [], _, _ => rfl
  | [], _ :: _, h, _ => by rw [Op.bytesLess] at h; cases h
  | _ :: _, [], _, h => by rw [Op.bytesLess] at h; cases h
  | x :: a, y :: b, h1, h2 => by
    have ih := less_tri a b
    rw [Op.bytesLess] at h1 h2
    simp only [Bool.or_eq_false_iff, Bool.and_eq_false_iff, decide_eq_false_iff_not, beq_eq_false_iff_ne] at h1 h2
    have e : x = y := by
      apply UInt8.toNat_inj.1
      have a1 := h1.1
      have a2 := h2.1
      rw [UInt8.lt_iff_toNat_lt] at a1 a2
      omega
    subst e
    rw [ih (h1.2.resolve_left (fun h => h rfl)) (h2.2.resolve_left (fun h => h rfl))]
theorem to_list {a b : ByteArray} : a.toList = b.toList ↔ a = b := by
  rw [ByteArray.toList_eq, ByteArray.toList_eq]
  exact ⟨fun h => ByteArray.ext (Array.toList_inj.1 h), fun h => by rw [h]⟩
end Go.Proofs.Ytbghokdlnnaeeaa.Od

/- What a disk may be behind some calls: the bounds, kept by every call (no Go text). -/
namespace Go.Proofs.Ytbghokdlnnaeeaa.Dk
open Go.RowKit Tx Pm Od
set_option linter.unusedVariables false

theorem mem_ins {l : List It} {x y : It} (h : y ∈ ins l x) : y = x ∨ y ∈ l := by
  rw [ins, List.mem_append, List.mem_cons] at h
  rcases h with h | h | h
  · exact .inr ((List.takeWhile_prefix _).subset h)
  · exact .inl h
  · have hd := List.dropWhile_suffix (fun y => Op.bytesLess y.path.toList x.path.toList) (l := l)
    cases hdw : l.dropWhile (fun y => Op.bytesLess y.path.toList x.path.toList) with
    | nil => rw [hdw] at h; cases h
    | cons z r =>
      rw [hdw] at h hd
      simp only at h
      split at h
      · exact .inr (hd.subset (List.mem_cons_of_mem _ h))
      · exact .inr (hd.subset h)
theorem len_ins (l : List It) (x : It) : (ins l x).length ≤ l.length + 1 := by
  have h1 := List.takeWhile_append_dropWhile (p := fun y => Op.bytesLess y.path.toList x.path.toList) (l := l)
  have h2 := congrArg List.length h1
  rw [List.length_append] at h2
  rw [ins, List.length_append, List.length_cons]
  cases hdw : l.dropWhile (fun y => Op.bytesLess y.path.toList x.path.toList) with
  | nil => rw [hdw] at h2; simp at h2 ⊢; omega
  | cons z r =>
    rw [hdw] at h2
    simp only
    simp only [List.length_cons] at h2
    split
    · omega
    · simp; omega
theorem rises_ins {l : List It} {x : It} (h : Rises l) : Rises (ins l x) := by
  unfold Rises at *
  have h1 := List.takeWhile_append_dropWhile (p := fun y => Op.bytesLess y.path.toList x.path.toList) (l := l)
  have htw : ∀ y ∈ l.takeWhile (fun y => Op.bytesLess y.path.toList x.path.toList), Op.bytesLess y.path.toList x.path.toList = true := fun y hy => by
    have := List.all_takeWhile (p := fun y => Op.bytesLess y.path.toList x.path.toList) (l := l)
    exact List.all_eq_true.1 this y hy
  rw [← h1] at h
  obtain ⟨p1, p2, p3⟩ := List.pairwise_append.1 h
  rw [ins, List.pairwise_append]
  have hrest : ∀ z r, l.dropWhile (fun y => Op.bytesLess y.path.toList x.path.toList) = z :: r → (z.path = x.path → ∀ y ∈ r, Op.bytesLess x.path.toList y.path.toList = true) ∧ (z.path ≠ x.path → ∀ y ∈ z :: r, Op.bytesLess x.path.toList y.path.toList = true) := by
    intro z r hz
    rw [hz] at p2
    have hn : Op.bytesLess z.path.toList x.path.toList = false := by
      have h0 := List.head?_dropWhile_not (fun y => Op.bytesLess y.path.toList x.path.toList) l
      rw [hz] at h0
      simpa using h0
    refine ⟨fun he y hy => ?_, fun he y hy => ?_⟩
    · rw [← he]
      exact (List.pairwise_cons.1 p2).1 y hy
    · have hxz : Op.bytesLess x.path.toList z.path.toList = true := by
        cases hc : Op.bytesLess x.path.toList z.path.toList with
        | true => rfl
        | false => exact absurd (to_list.1 (less_tri _ _ hn hc)) he
      rcases List.mem_cons.1 hy with rfl | hy
      · exact hxz
      · exact less_trans _ _ _ hxz ((List.pairwise_cons.1 p2).1 y hy)
  cases hdw : l.dropWhile (fun y => Op.bytesLess y.path.toList x.path.toList) with
  | nil =>
    simp only
    refine ⟨p1, List.pairwise_singleton _ _, fun y hy z hz => ?_⟩
    obtain rfl : z = x := by simpa using hz
    exact htw y hy
  | cons z r =>
    have hr := hrest z r hdw
    rw [hdw] at p2 p3
    simp only
    split
    · rename_i he
      refine ⟨p1, List.pairwise_cons.2 ⟨hr.1 he, (List.pairwise_cons.1 p2).2⟩, fun y hy q hq => ?_⟩
      rcases List.mem_cons.1 hq with rfl | hq
      · exact htw y hy
      · exact p3 y hy q (List.mem_cons_of_mem _ hq)
    · rename_i he
      refine ⟨p1, List.pairwise_cons.2 ⟨hr.2 he, p2⟩, fun y hy q hq => ?_⟩
      rcases List.mem_cons.1 hq with rfl | hq
      · exact htw y hy
      · exact p3 y hy q hq
theorem rises_drop {l : List It} (p : ByteArray) (h : Rises l) : Rises (drop l p) := List.Pairwise.filter _ h

/-- What a disk may be behind i calls, each of texts of at most 1048576 bytes. -/
structure Inv (s : St) (i T : Nat) : Prop where
  rises : Rises s.L
  len : s.L.length ≤ i
  path : ∀ x ∈ s.L, x.path.size ≤ 1048576
  size : ∀ x ∈ s.L, x.data.size ≤ T ∧ x.kept.size ≤ T
  kept : ∀ x ∈ s.L, x.anew = false → x.kept.size ≤ x.data.size
  rooms : s.rooms.length ≤ i
  steps : s.steps ≤ i
  stamps : s.stamps ≤ T
  armed : -1 ≤ s.armed ∧ s.armed ≤ 9223372036854775807
theorem inv_new : Inv newS 0 0 where
  rises := List.Pairwise.nil
  len := Nat.le_refl _
  path := fun x hx => by cases hx
  size := fun x hx => by cases hx
  kept := fun x hx => by cases hx
  rooms := Nat.le_refl _
  steps := Nat.le_refl _
  stamps := Nat.le_refl _
  armed := by
    show (-1 : Int) ≤ -1 ∧ (-1 : Int) ≤ 9223372036854775807
    omega
theorem Inv.more {s : St} {i T : Nat} (h : Inv s i T) : Inv s (i + 1) (T + 1048576) where
  rises := h.rises
  len := by have := h.len; omega
  path := h.path
  size := fun x hx => by have := h.size x hx; omega
  kept := h.kept
  rooms := by have := h.rooms; omega
  steps := by have := h.steps; omega
  stamps := by have := h.stamps; omega
  armed := h.armed
theorem whole_le {l : List It} {B : Nat} (h : ∀ x ∈ l, x.data.size ≤ B) : whole l ≤ l.length * B := by
  induction l with
  | nil => simp [whole]
  | cons x l ih =>
    have h1 := h x (by simp)
    have h2 := ih (fun y hy => h y (by simp [hy]))
    unfold whole at *
    rw [List.map_cons, List.sum_cons, List.length_cons, Nat.succ_mul]
    omega
theorem Inv.ok {s : St} {i T : Nat} (h : Inv s i T) (hi : i ≤ 1000) (hT : T ≤ 1048576000) : Ok s := by
  have hl := h.len
  have hw := whole_le (B := T) (fun x hx => (h.size x hx).1)
  have hm : s.L.length * T ≤ 1048576000000 := Nat.le_trans (Nat.mul_le_mul (Nat.le_trans hl hi) hT) (by decide)
  refine ⟨⟨by omega, fun x hx => by have := h.path x hx; omega, by omega⟩, by have := h.rooms; omega, by have := h.steps; omega, by have := h.stamps; omega, by have := h.armed; omega⟩
theorem Inv.sound {s : St} {i T : Nat} (h : Inv s i T) (hi : i ≤ 1000) (hT : T ≤ 1048576000) : Sound s :=
  ⟨h.rises, h.kept, fun x hx => by have := h.size x hx; omega, by have := h.stamps; have := h.len; omega⟩
/-- Behind a call that sets an item. -/
theorem inv_ins {s s' : St} {i T : Nat} {l : List It} {x : It} (h : Inv s i T) (hl : Rises l ∧ ∀ y ∈ l, y ∈ s.L) (hll : l.length ≤ s.L.length) (hL : s'.L = ins l x) (hp : x.path.size ≤ 1048576) (hd : x.data.size ≤ T + 1048576) (hk : x.kept.size ≤ T + 1048576)
    (ha : x.anew = false → x.kept.size ≤ x.data.size) (hr : s'.rooms = s.rooms) (hst : s'.steps ≤ i + 1) (hsm : s'.stamps ≤ T + 1048576) (har : -1 ≤ s'.armed ∧ s'.armed ≤ 9223372036854775807) : Inv s' (i + 1) (T + 1048576) := by
  have hm : ∀ y ∈ s'.L, y = x ∨ y ∈ s.L := fun y hy => by
    rw [hL] at hy
    exact (mem_ins hy).imp id (fun hh => hl.2 y hh)
  refine ⟨by rw [hL]; exact rises_ins hl.1, ?_, fun y hy => ?_, fun y hy => ?_, fun y hy => ?_, by rw [hr]; exact Nat.le_succ_of_le h.rooms, hst, hsm, har⟩
  · rw [hL]
    have := len_ins l x
    have := h.len
    omega
  · rcases hm y hy with rfl | hy
    · exact hp
    · exact h.path y hy
  · rcases hm y hy with rfl | hy
    · exact ⟨hd, hk⟩
    · have := h.size y hy
      omega
  · rcases hm y hy with rfl | hy
    · exact ha
    · exact h.kept y hy
theorem done_steps (s : St) : (done s).2.steps ≤ s.steps + 1 := by unfold done; split <;> simp
theorem done_armed {s : St} (h : -1 ≤ s.armed ∧ s.armed ≤ 9223372036854775807) : -1 ≤ (done s).2.armed ∧ (done s).2.armed ≤ 9223372036854775807 := by
  unfold done
  split
  · exact ⟨by show (-1 : Int) ≤ -1; omega, by show (-1 : Int) ≤ _; omega⟩
  · show -1 ≤ (if s.armed > 0 then s.armed - 1 else s.armed) ∧ _
    split <;> simp only <;> omega
theorem inv_done {s : St} {i T : Nat} (h : Inv s i T) : Inv (done s).2 (i + 1) (T + 1048576) := by
  have h1 := h.more
  refine ⟨by rw [done_L]; exact h1.rises, by rw [done_L]; exact h1.len, by rw [done_L]; exact h1.path, by rw [done_L]; exact h1.size, by rw [done_L]; exact h1.kept, by rw [done_rooms]; exact h1.rooms, ?_, by rw [done_stamps]; exact h1.stamps, done_armed h.armed⟩
  have := done_steps s
  have := h.steps
  omega
theorem find_mem {l : List It} {p : ByteArray} {x : It} (h : find l p = some x) : x ∈ l ∧ x.path = p := ⟨List.mem_of_find?_eq_some h, by have := List.find?_some h; exact of_decide_eq_true this⟩
/-- What the old item may be: there, or new. -/
theorem old_cases (l : List It) (p : ByteArray) : old l p = mk p ∨ (old l p ∈ l ∧ (old l p).path = p) := by
  unfold old
  cases h : find l p with
  | none => exact .inl rfl
  | some x => exact .inr (find_mem h)
theorem old_inv {s : St} {i T : Nat} {p : ByteArray} (h : Inv s i T) (hp : p.size ≤ 1048576) : (old s.L p).path.size ≤ 1048576 ∧ (old s.L p).data.size ≤ T ∧ (old s.L p).kept.size ≤ T ∧ ((old s.L p).anew = false → (old s.L p).kept.size ≤ (old s.L p).data.size) := by
  rcases old_cases s.L p with e | ⟨hm, _⟩
  · rw [e]
    exact ⟨hp, by show 0 ≤ _; omega, by show 0 ≤ _; omega, fun _ => Nat.le_refl _⟩
  · exact ⟨h.path _ hm, (h.size _ hm).1, (h.size _ hm).2, h.kept _ hm⟩
theorem same_in {s : St} {i T : Nat} (h : Inv s i T) : Rises s.L ∧ ∀ y ∈ s.L, y ∈ s.L := ⟨h.rises, fun _ hy => hy⟩

theorem inv_mkdir {s : St} {i T : Nat} {p : ByteArray} (h : Inv s i T) (hp : p.size ≤ 1048576) : Inv (mkdirS s p).2 (i + 1) (T + 1048576) := by
  unfold mkdirS
  split
  · exact h.more
  split
  · exact h.more
  split
  · exact h.more
  split
  · exact inv_done h
  · have hd := inv_done h
    exact inv_ins h (l := (done s).2.L) (by rw [done_L]; exact same_in h) (by rw [done_L]; exact Nat.le_refl _) rfl hp (by show 0 ≤ _; omega) (by show 0 ≤ _; omega) (fun _ => Nat.le_refl _) (done_rooms s) hd.steps hd.stamps hd.armed
theorem inv_putS {s : St} {i T : Nat} {l : List It} {x : It} (h : Inv s i T) (hl : Rises l ∧ ∀ y ∈ l, y ∈ s.L) (hll : l.length ≤ s.L.length) (hp : x.path.size ≤ 1048576) (hd : x.data.size ≤ T + 1048576) (hk : x.kept.size ≤ T + 1048576) (ha : x.anew = false → x.kept.size ≤ x.data.size) :
    Inv (putS { (done s).2 with L := l } x) (i + 1) (T + 1048576) := by
  have h2 := inv_done h
  refine inv_ins h hl hll (x := stamped { (done s).2 with L := l } x) rfl hp hd hk ha (done_rooms s) h2.steps ?_ h2.armed
  show (done s).2.stamps + 1 ≤ _
  rw [done_stamps]
  have := h.stamps
  omega
theorem putS_L {s : St} {i T : Nat} {x : It} (h : Inv (putS { (done s).2 with L := s.L } x) i T) : Inv (putS (done s).2 x) i T := by
  have e : ({ (done s).2 with L := s.L } : St) = (done s).2 := by
    have := done_L s
    generalize (done s).2 = d at this ⊢
    obtain ⟨a1, a2, a3, a4, a5, a6⟩ := d
    simp only at this
    rw [this]
  rw [e] at h
  exact h
theorem inv_write {s : St} {i T : Nat} {p d : ByteArray} (h : Inv s i T) (hp : p.size ≤ 1048576) (hd : d.size ≤ 1048576) : Inv (writeS s p d).2 (i + 1) (T + 1048576) := by
  unfold writeS
  split
  · exact h.more
  split
  · exact h.more
  split
  · exact h.more
  split
  · exact h.more
  split
  · exact inv_done h
  · obtain ⟨o1, o2, o3, o4⟩ := old_inv h hp
    have := inv_putS (x := { old s.L p with data := d, loose := true, anew := true }) h (same_in h) (Nat.le_refl _) o1 (by show d.size ≤ _; omega) (by show (old s.L p).kept.size ≤ _; omega) (fun hh => by cases hh)
    exact putS_L this
theorem inv_append {s : St} {i T : Nat} {p d : ByteArray} (h : Inv s i T) (hp : p.size ≤ 1048576) (hd : d.size ≤ 1048576) : Inv (appendS s p d).2 (i + 1) (T + 1048576) := by
  unfold appendS
  split
  · exact h.more
  split
  · exact h.more
  split
  · exact inv_done h
  · obtain ⟨o1, o2, o3, o4⟩ := old_inv h hp
    have hsz : ((old s.L p).data ++ d).size = (old s.L p).data.size + d.size := ByteArray.size_append
    have := inv_putS (x := { old s.L p with data := (old s.L p).data ++ d, loose := true }) h (same_in h) (Nat.le_refl _) o1 (by show ((old s.L p).data ++ d).size ≤ _; omega) (by show (old s.L p).kept.size ≤ _; omega) (fun hh => by have := o4 hh; show (old s.L p).kept.size ≤ ((old s.L p).data ++ d).size; omega)
    exact putS_L this
theorem inv_sync {s : St} {i T : Nat} {p : ByteArray} (h : Inv s i T) (hp : p.size ≤ 1048576) : Inv (syncS s p).2 (i + 1) (T + 1048576) := by
  unfold syncS
  split
  · exact h.more
  split
  · exact inv_done h
  · obtain ⟨o1, o2, o3, o4⟩ := old_inv h hp
    have hd := inv_done h
    exact inv_ins h (l := (done s).2.L) (by rw [done_L]; exact same_in h) (by rw [done_L]; exact Nat.le_refl _) rfl o1 (by show (old s.L p).data.size ≤ _; omega) (by show (old s.L p).data.size ≤ _; omega) (fun _ => Nat.le_refl _) (done_rooms s) hd.steps hd.stamps hd.armed
theorem drop_in (l : List It) (p : ByteArray) : (∀ y ∈ drop l p, y ∈ l) ∧ (drop l p).length ≤ l.length := ⟨fun y hy => (List.mem_filter.1 hy).1, List.length_filter_le _ _⟩
theorem inv_remove {s : St} {i T : Nat} {p : ByteArray} (h : Inv s i T) : Inv (removeS s p).2 (i + 1) (T + 1048576) := by
  unfold removeS
  split
  · exact h.more
  split
  · exact h.more
  split
  · exact h.more
  split
  · exact inv_done h
  · have hd := inv_done h
    obtain ⟨d1, d2⟩ := drop_in (done s).2.L p
    exact ⟨rises_drop p hd.rises, Nat.le_trans d2 hd.len, fun x hx => hd.path x (d1 x hx), fun x hx => hd.size x (d1 x hx), fun x hx => hd.kept x (d1 x hx), hd.rooms, hd.steps, hd.stamps, hd.armed⟩
theorem inv_rename {s : St} {i T : Nat} {f t : ByteArray} (h : Inv s i T) (hf : f.size ≤ 1048576) (ht : t.size ≤ 1048576) : Inv (renameS s f t).2 (i + 1) (T + 1048576) := by
  unfold renameS
  split
  · exact h.more
  split
  · exact h.more
  split
  · exact h.more
  split
  · exact h.more
  split
  · exact h.more
  split
  · exact inv_done h
  · obtain ⟨o1, o2, o3, o4⟩ := old_inv h hf
    obtain ⟨d1, d2⟩ := drop_in s.L f
    have := inv_putS (l := drop s.L f) (x := { old s.L f with path := t }) h ⟨rises_drop f h.rises, d1⟩ d2 ht (by show (old s.L f).data.size ≤ _; omega) (by show (old s.L f).kept.size ≤ _; omega) o4
    show Inv (putS { (done s).2 with L := drop (done s).2.L f } _) _ _
    rw [done_L s]
    exact this
theorem setRm_len : ∀ (l : List Rm) (v : ByteArray) (n : Int), (setRm l v n).length ≤ l.length + 1
  | [], v, n => Nat.le_refl _
  | r :: l, v, n => by
    rw [setRm]
    split
    · simp
    · have := setRm_len l v n
      simp
      omega
theorem inv_limit {s : St} {i T : Nat} {v : ByteArray} {n : Int} (h : Inv s i T) : Inv (limitS s v n).2 (i + 1) (T + 1048576) := by
  have h1 := h.more
  unfold limitS
  split
  · exact h1
  split
  · exact h1
  · refine ⟨h1.rises, h1.len, h1.path, h1.size, h1.kept, ?_, h1.steps, h1.stamps, h1.armed⟩
    have := setRm_len s.rooms v n
    have := h.rooms
    show (setRm s.rooms v n).length ≤ _
    omega
theorem inv_rot {s : St} {i T : Nat} {p : ByteArray} {bit : Int} (h : Inv s i T) (hp : p.size ≤ 1048576) (ht : ∀ x : ByteArray, (Fr.tn x bit).size = x.size) : Inv (rotS s p bit).2 (i + 1) (T + 1048576) := by
  unfold rotS
  split
  · exact h.more
  · obtain ⟨o1, o2, o3, o4⟩ := old_inv h hp
    have h1 := h.more
    refine inv_ins h (same_in h) (Nat.le_refl _) (x := stamped s { old s.L p with data := Fr.tn (old s.L p).data bit, kept := Fr.tn (old s.L p).kept bit }) rfl o1 ?_ ?_ ?_ rfl h1.steps ?_ h.armed
    · show (Fr.tn (old s.L p).data bit).size ≤ _
      rw [ht]; omega
    · show (Fr.tn (old s.L p).kept bit).size ≤ _
      rw [ht]; omega
    · intro hh
      show (Fr.tn (old s.L p).kept bit).size ≤ (Fr.tn (old s.L p).data bit).size
      rw [ht, ht]
      exact o4 hh
    · show s.stamps + 1 ≤ _
      have := h.stamps
      omega

theorem ext_size (x : ByteArray) (a : Nat) : (x.extract 0 a).size ≤ x.size := by rw [ByteArray.size_extract]; omega
theorem lose_is (pick : Nat) (x : It) : (lose pick x).path = x.path ∧ (lose pick x).anew = false ∧ (lose pick x).kept = (lose pick x).data ∧ ((lose pick x).data = x.kept ∨ (lose pick x).data.size ≤ x.data.size) := by
  unfold lose
  refine ⟨rfl, rfl, rfl, ?_⟩
  simp only
  split
  · split
    · exact .inl rfl
    · exact .inr (ext_size _ _)
  · exact .inr (ext_size _ _)
theorem restartL_is (loss T : Nat) : ∀ (l : List It) (n st : Nat), (∀ x ∈ l, x.path.size ≤ 1048576) → (∀ x ∈ l, x.data.size ≤ T ∧ x.kept.size ≤ T) → (∀ x ∈ l, x.anew = false → x.kept.size ≤ x.data.size) →
    (restartL loss l n st).1.map (·.path) = l.map (·.path) ∧ (restartL loss l n st).2 ≤ st + l.length ∧
    (∀ x ∈ (restartL loss l n st).1, x.path.size ≤ 1048576 ∧ x.data.size ≤ T ∧ x.kept.size ≤ T ∧ (x.anew = false → x.kept.size ≤ x.data.size))
  | [], n, st, _, _, _ => ⟨rfl, Nat.le_refl _, fun x hx => by cases hx⟩
  | y :: l, n, st, h1, h2, h3 => by
    have a1 := fun x hx => h1 x (List.mem_cons_of_mem y hx)
    have a2 := fun x hx => h2 x (List.mem_cons_of_mem y hx)
    have a3 := fun x hx => h3 x (List.mem_cons_of_mem y hx)
    rw [restartL]
    split
    · obtain ⟨i1, i2, i3⟩ := restartL_is loss T l (n + 1) (st + 1) a1 a2 a3
      obtain ⟨l1, l2, l3, l4⟩ := lose_is (mix loss (n + 1)) y
      have hy := h2 y (by simp)
      have hd : (lose (mix loss (n + 1)) y).data.size ≤ T := by
        rcases l4 with l4 | l4
        · rw [l4]; exact hy.2
        · omega
      refine ⟨?_, ?_, fun x hx => ?_⟩
      · show _ :: _ = _
        rw [List.map_cons, ← i1]
        show (lose (mix loss (n + 1)) y).path :: _ = _
        rw [l1]
      · show (restartL loss l (n + 1) (st + 1)).2 ≤ _
        rw [List.length_cons]
        omega
      · rcases List.mem_cons.1 hx with rfl | hx
        · refine ⟨?_, hd, ?_, fun _ => ?_⟩
          · show (lose (mix loss (n + 1)) y).path.size ≤ _
            rw [l1]
            exact h1 y (by simp)
          · show (lose (mix loss (n + 1)) y).kept.size ≤ _
            rw [l3]
            exact hd
          · show (lose (mix loss (n + 1)) y).kept.size ≤ (lose (mix loss (n + 1)) y).data.size
            rw [l3]
            exact Nat.le_refl _
        · exact i3 x hx
    · obtain ⟨i1, i2, i3⟩ := restartL_is loss T l n st a1 a2 a3
      refine ⟨?_, ?_, fun x hx => ?_⟩
      · show y.path :: _ = _
        rw [List.map_cons, ← i1]
      · show (restartL loss l n st).2 ≤ _
        rw [List.length_cons]
        omega
      · rcases List.mem_cons.1 hx with rfl | hx
        · exact ⟨h1 x (by simp), (h2 x (by simp)).1, (h2 x (by simp)).2, h3 x (by simp)⟩
        · exact i3 x hx
theorem inv_restart {s : St} {i T : Nat} {loss : Int} (h : Inv s i T) (hi : i ≤ 1000) : Inv (restartS s loss) (i + 1) (T + 1048576) := by
  obtain ⟨h1, h2, h3⟩ := restartL_is (u64 loss) T s.L 0 s.stamps h.path h.size h.kept
  have hm := h.more
  have hlen : (restartL (u64 loss) s.L 0 s.stamps).1.length = s.L.length := by
    have := congrArg List.length h1
    rwa [List.length_map, List.length_map] at this
  refine ⟨rises_paths h1.symm h.rises, by show (restartL (u64 loss) s.L 0 s.stamps).1.length ≤ _; rw [hlen]; exact hm.len, fun x hx => (h3 x hx).1, fun x hx => ?_, fun x hx => (h3 x hx).2.2.2, hm.rooms, hm.steps, ?_, by show (-1 : Int) ≤ -1; omega, by show (-1 : Int) ≤ _; omega⟩
  · have := h3 x hx
    omega
  · show (restartL (u64 loss) s.L 0 s.stamps).2 ≤ _
    have := h.stamps
    have := h.len
    omega
end Go.Proofs.Ytbghokdlnnaeeaa.Dk

/- A disk by its blocks, whichever it is; what a script's step makes of a disk. -/
namespace Go.Proofs.Ytbghokdlnnaeeaa.Dk
open Go.RowKit Tx Pm
set_option linter.unusedVariables false

/-- What a call leaves of a disk. -/
def Left (Obj : World → (Nat → Prop) → St → Prop) (w : World) (F : Nat → Prop) (s : St) (w' : World) : Prop := ∃ F', Obj w' F' s ∧ Chg F w w' ∧ ∀ g, F' g → F g ∨ w.heap.size ≤ g
/-- A kind of disk: where it stands, and what that hangs on. -/
structure Kind (Obj : World → (Nat → Prop) → St → Prop) : Prop where
  lt : ∀ {w F s}, Obj w F s → ∀ i, F i → i < w.heap.size
  kept : ∀ {w w1 F s}, Obj w F s → (∀ i, F i → w1.heap[i]? = w.heap[i]?) → Obj w1 F s
/-- What a step of a script is: its Kind, P, Q, N. -/
def stepS (s : St) (K : Int) (P Q : ByteArray) (N : Int) : St :=
  if K = 1 then (mkdirS s P).2 else if K = 2 then (writeS s P Q).2 else if K = 3 then (appendS s P Q).2 else if K = 4 then (syncS s P).2 else if K = 5 then (renameS s P Q).2 else if K = 6 then (removeS s P).2 else
  if K = 7 then (limitS s P N).2 else if K = 8 then { s with armed := if N < 0 then -1 else N } else if K = 9 then restartS s N else if K = 10 then (rotS s P N).2 else s
/-- Two disks apart, both of them in the state s. -/
def Pair (O1 O2 : World → (Nat → Prop) → St → Prop) (w : World) (F G : Nat → Prop) (s : St) : Prop := O1 w F s ∧ O2 w G s ∧ ∀ i, F i → ¬ G i
/-- Behind a call of the first, and then of the second. -/
theorem pair_calls {O1 O2 : World → (Nat → Prop) → St → Prop} (k1 : Kind O1) (k2 : Kind O2) {w w1 w2 : World} {F G : Nat → Prop} {s s' : St} (h : Pair O1 O2 w F G s) (h1 : Left O1 w F s' w1)
    (h2 : ∀ G0, (O2 w1 G s) → Left O2 w1 G s' w2 → G0 → True) (h2' : Left O2 w1 G s' w2) :
    ∃ F' G', Pair O1 O2 w2 F' G' s' ∧ Chg (fun i => F i ∨ G i) w w2 ∧ (∀ g, F' g → F g ∨ w.heap.size ≤ g) ∧ (∀ g, G' g → G g ∨ w.heap.size ≤ g) := by
  obtain ⟨o1, o2, hd⟩ := h
  obtain ⟨F', p1, c1, n1⟩ := h1
  obtain ⟨G', p2, c2, n2⟩ := h2'
  have hs1 := c1.size
  have hlt1 := k1.lt p1
  have hlt2 := k2.lt o2
  have hFG : ∀ i, F' i → ¬ G i := fun i hi hg => by
    rcases n1 i hi with hh | hh
    · exact hd i hh hg
    · have := hlt2 i hg
      omega
  refine ⟨F', G', ⟨k1.kept p1 (fun i hi => c2.block i (hlt1 i hi) (hFG i hi)), p2, fun i hi hg => ?_⟩, ?_, n1, fun g hg => (n2 g hg).imp id (fun hh => by omega)⟩
  · rcases n2 i hg with hh | hh
    · exact hFG i hi hh
    · have := hlt1 i hi
      omega
  · exact (c1.mono (fun i hi => .inl hi)).trans (G := G) c2 (fun i hi => .inl (.inr hi))
/-- The second is there behind a call of the first. -/
theorem pair_other {O1 O2 : World → (Nat → Prop) → St → Prop} (k2 : Kind O2) {w w1 : World} {F G : Nat → Prop} {s s' : St} (h : Pair O1 O2 w F G s) (h1 : Left O1 w F s' w1) : O2 w1 G s := by
  obtain ⟨o1, o2, hd⟩ := h
  obtain ⟨F', p1, c1, n1⟩ := h1
  exact k2.kept o2 (fun i hi => c1.block i (k2.lt o2 i hi) (fun hf => hd i hf hi))
end Go.Proofs.Ytbghokdlnnaeeaa.Dk

/- Nothing: this program lacks the document's own disk. -/


/- What every kind of disk does at a call, in the same words; the document's own does so. -/
namespace Go.Proofs.Ytbghokdlnnaeeaa.Dk
open Go.RowKit Tx Pm
set_option linter.unusedVariables false

/-- How far a script has come: i calls, texts of T bytes in all. -/
structure Far (s : St) (i T : Nat) : Prop where
  inv : Inv s i T
  i : i ≤ 1000
  T : T ≤ 1048576000
/-- A call answers a number and leaves the disk so. -/
def Does (O : World → (Nat → Prop) → St → Prop) (w : World) (F : Nat → Prop) (r : Nat × St) (e : Ending) (w' : World) : Prop := e = .returned (.int .i64 (r.1 : Nat)) ∧ Left O w F r.2 w'
/-- The nine calls that change a disk. -/
structure Works (O : World → (Nat → Prop) → St → Prop) (v : Value) (f : Fin 9 → FuncId) : Prop where
  kind : Kind O
  mkdir : ∀ {w F s i T} (P : ByteArray), O w F s → Far s i T → P.size ≤ 1048576 → Calls Try.prog (f 0) #[v, .string P] w (Does O w F (mkdirS s P))
  write : ∀ {w F s i T} (P Q : ByteArray), O w F s → Far s i T → P.size ≤ 1048576 → Q.size ≤ 1048576 → Calls Try.prog (f 1) #[v, .string P, .string Q] w (Does O w F (writeS s P Q))
  append : ∀ {w F s i T} (P Q : ByteArray), O w F s → Far s i T → P.size ≤ 1048576 → Q.size ≤ 1048576 → Calls Try.prog (f 2) #[v, .string P, .string Q] w (Does O w F (appendS s P Q))
  sync : ∀ {w F s i T} (P : ByteArray), O w F s → Far s i T → P.size ≤ 1048576 → Calls Try.prog (f 3) #[v, .string P] w (Does O w F (syncS s P))
  rename : ∀ {w F s i T} (P Q : ByteArray), O w F s → Far s i T → P.size ≤ 1048576 → Q.size ≤ 1048576 → Calls Try.prog (f 4) #[v, .string P, .string Q] w (Does O w F (renameS s P Q))
  remove : ∀ {w F s i T} (P : ByteArray), O w F s → Far s i T → P.size ≤ 1048576 → Calls Try.prog (f 5) #[v, .string P] w (Does O w F (removeS s P))
  limit : ∀ {w F s i T} (P : ByteArray) (M : Int), O w F s → Far s i T → P.size ≤ 1048576 → -9223372036854775808 ≤ M ∧ M ≤ 9223372036854775807 → Calls Try.prog (f 6) #[v, .string P, .int .i64 M] w (Does O w F (limitS s P M))
  restart : ∀ {w F s i T} (M : Int), O w F s → Far s i T → -9223372036854775808 ≤ M ∧ M ≤ 9223372036854775807 → Calls Try.prog (f 7) #[v, .int .i64 M] w (Does O w F (0, restartS s M))
  rot : ∀ {w F s i T} (P : ByteArray) (M : Int), O w F s → Far s i T → P.size ≤ 1048576 → -9223372036854775808 ≤ M ∧ M ≤ 9223372036854775807 → Calls Try.prog (f 8) #[v, .string P, .int .i64 M] w (Does O w F (rotS s P M))
end Go.Proofs.Ytbghokdlnnaeeaa.Dk

/- The law's own does, over any kind of disk that works: contract. -/
namespace Go.Proofs.Ytbghokdlnnaeeaa.Dk
open Go.RowKit Tx Pm
set_option linter.unusedVariables false

theorem pair_below {O1 O2 : World → (Nat → Prop) → St → Prop} (k1 : Kind O1) (k2 : Kind O2) {w w1 : World} {F G : Nat → Prop} {s : St} (h : Pair O1 O2 w F G s) (hb : Below w.heap.size w w1) : Pair O1 O2 w1 F G s :=
  ⟨k1.kept h.1 (fun i hi => hb.block i (k1.lt h.1 i hi)), k2.kept h.2.1 (fun i hi => hb.block i (k2.lt h.2.1 i hi)), h.2.2⟩
end Go.Proofs.Ytbghokdlnnaeeaa.Dk

/- A step of a script keeps the bounds. -/
namespace Go.Proofs.Ytbghokdlnnaeeaa.Dk
open Go.RowKit Tx Pm
set_option linter.unusedVariables false

theorem tn_size (x : ByteArray) (bit : Int) : (Fr.tn x bit).size = x.size := by
  unfold Fr.tn
  split
  · rename_i h; rw [h]; rfl
  · rename_i h
    have hp : (0 : Int) < (8 * x.size : Nat) := by omega
    have h1 := Int.emod_lt_of_pos bit hp
    have h2 := Int.emod_nonneg bit (show ((8 * x.size : Nat) : Int) ≠ 0 by omega)
    have h3 : (bit % (8 * x.size : Nat)).toNat < 8 * x.size := by omega
    generalize (bit % (8 * x.size : Nat)).toNat = B at h3
    unfold Fr.trn
    have hb : ∀ c : UInt8, (Wr.b1 c).size = 1 := fun c => rfl
    rw [ByteArray.size_append, ByteArray.size_append, ByteArray.size_extract, ByteArray.size_extract, hb]
    omega
theorem inv_arm {s : St} {i T : Nat} {M : Int} (h : Inv s i T) (hM : -9223372036854775808 ≤ M ∧ M ≤ 9223372036854775807) : Inv { s with armed := if M < 0 then -1 else M } (i + 1) (T + 1048576) := by
  have h1 := h.more
  exact ⟨h1.rises, h1.len, h1.path, h1.size, h1.kept, h1.rooms, h1.steps, h1.stamps, by show -1 ≤ (if M < 0 then (-1 : Int) else M) ∧ (if M < 0 then (-1 : Int) else M) ≤ _; split <;> omega⟩
/-- Behind a step of a script. -/
theorem inv_step {s : St} {i T : Nat} {K M : Int} {P Q : ByteArray} (h : Inv s i T) (hi : i ≤ 1000) (hP : P.size ≤ 1048576) (hQ : Q.size ≤ 1048576) (hM : -9223372036854775808 ≤ M ∧ M ≤ 9223372036854775807) :
    Inv (stepS s K P Q M) (i + 1) (T + 1048576) := by
  unfold stepS
  split
  · exact inv_mkdir h hP
  split
  · exact inv_write h hP hQ
  split
  · exact inv_append h hP hQ
  split
  · exact inv_sync h hP
  split
  · exact inv_rename h hP hQ
  split
  · exact inv_remove h
  split
  · exact inv_limit h
  split
  · exact inv_arm h hM
  split
  · exact inv_restart h hi
  split
  · exact inv_rot h hP (fun x => tn_size x M)
  · exact h.more
theorem far_new : Far newS 0 0 := ⟨inv_new, by omega, by omega⟩
theorem Far.step {s : St} {i : Nat} {K M : Int} {P Q : ByteArray} (h : Far s i (i * 1048576)) (hi : i < 1000) (hP : P.size ≤ 1048576) (hQ : Q.size ≤ 1048576) (hM : -9223372036854775808 ≤ M ∧ M ≤ 9223372036854775807) :
    Far (stepS s K P Q M) (i + 1) ((i + 1) * 1048576) := by
  refine ⟨?_, by omega, by omega⟩
  rw [Nat.succ_mul]
  exact inv_step h.inv h.i hP hQ hM
end Go.Proofs.Ytbghokdlnnaeeaa.Dk

/- What a step does to a path that it doesn't name: nothing. -/
namespace Go.Proofs.Ytbghokdlnnaeeaa.Dk
open Go.RowKit Tx Pm
set_option linter.unusedVariables false

theorem find_app (l r : List It) (p : ByteArray) : find (l ++ r) p = (find l p).or (find r p) := by
  unfold find
  rw [List.find?_append]
theorem find_one (x : It) (r : List It) {p : ByteArray} (h : x.path ≠ p) : find (x :: r) p = find r p := by
  unfold find
  rw [List.find?_cons_of_neg (by simpa using h)]
theorem find_ins (l : List It) {x : It} {p : ByteArray} (h : x.path ≠ p) : find (ins l x) p = find l p := by
  have e : l = l.takeWhile (fun y => Op.bytesLess y.path.toList x.path.toList) ++ l.dropWhile (fun y => Op.bytesLess y.path.toList x.path.toList) := (List.takeWhile_append_dropWhile).symm
  unfold ins
  generalize l.takeWhile (fun y => Op.bytesLess y.path.toList x.path.toList) = a at e ⊢
  generalize l.dropWhile (fun y => Op.bytesLess y.path.toList x.path.toList) = b at e ⊢
  rw [e, find_app, find_app, find_one _ _ h]
  cases b with
  | nil => rfl
  | cons y r =>
    simp only
    split
    · rename_i hy
      rw [find_one y r (by rw [hy]; exact h)]
    · rfl
theorem find_drop (l : List It) {q p : ByteArray} (h : q ≠ p) : find (drop l q) p = find l p := by
  unfold find drop
  rw [List.find?_filter]
  congr 1
  funext x
  by_cases hx : x.path = p
  · simp [hx, Ne.symm h]
  · simp [hx]
theorem old_path (l : List It) (p : ByteArray) : (old l p).path = p := by
  rcases old_cases l p with h | ⟨_, h⟩
  · rw [h]; rfl
  · exact h
theorem find_putS (s : St) {x : It} {p : ByteArray} (h : x.path ≠ p) : find (putS s x).L p = find s.L p := find_ins s.L (x := stamped s x) h

theorem other_step (s : St) {K N : Int} {P Q p : ByteArray} (h9 : K ≠ 9) (hP : p ≠ P) (hQ : p ≠ Q) : find (stepS s K P Q N).L p = find s.L p := by
  have hP' : P ≠ p := Ne.symm hP
  have hQ' : Q ≠ p := Ne.symm hQ
  have e := done_L s
  unfold stepS
  split
  · unfold mkdirS
    repeat' split
    all_goals first
      | rfl
      | exact congrArg (find · p) e
      | (show find (ins (done s).2.L _) p = _; rw [e]; exact find_ins _ hP')
  split
  · unfold writeS
    repeat' split
    all_goals first
      | rfl
      | exact congrArg (find · p) e
      | (rw [find_putS _ (by show (old s.L P).path ≠ p; rw [old_path]; exact hP'), e])
  split
  · unfold appendS
    repeat' split
    all_goals first
      | rfl
      | exact congrArg (find · p) e
      | (rw [find_putS _ (by show (old s.L P).path ≠ p; rw [old_path]; exact hP'), e])
  split
  · unfold syncS
    repeat' split
    all_goals first
      | rfl
      | exact congrArg (find · p) e
      | (show find (ins (done s).2.L _) p = _; rw [e]; exact find_ins _ (by show (old s.L P).path ≠ p; rw [old_path]; exact hP'))
  split
  · unfold renameS
    repeat' split
    all_goals first
      | rfl
      | exact congrArg (find · p) e
      | (rw [find_putS _ (by exact hQ')]; show find (drop (done s).2.L P) p = _; rw [e]; exact find_drop _ hP')
  split
  · unfold removeS
    repeat' split
    all_goals first
      | rfl
      | exact congrArg (find · p) e
      | (show find (drop (done s).2.L P) p = _; rw [e]; exact find_drop _ hP')
  split
  · unfold limitS
    repeat' split
    all_goals first
      | rfl
      | exact congrArg (find · p) e
  split
  · rfl
  split
  · unfold rotS
    repeat' split
    all_goals first
      | rfl
      | exact find_putS _ (by show (old s.L P).path ≠ p; rw [old_path]; exact hP')
  · rfl
theorem other_kind (s : St) {K N : Int} {P Q p : ByteArray} (h9 : K ≠ 9) (hP : p ≠ P) (hQ : p ≠ Q) : kind (stepS s K P Q N).L p = kind s.L p := by unfold kind; rw [other_step s h9 hP hQ]
theorem other_stamp (s : St) {K N : Int} {P Q p : ByteArray} (h9 : K ≠ 9) (hP : p ≠ P) (hQ : p ≠ Q) : stampS (stepS s K P Q N) p = stampS s p := by unfold stampS; rw [other_step s h9 hP hQ]
theorem other_read (s : St) {K N : Int} {P Q p : ByteArray} (h9 : K ≠ 9) (hP : p ≠ P) (hQ : p ≠ Q) (h0 : s.down = false) (h1 : (stepS s K P Q N).down = false) : readS (stepS s K P Q N) p = readS s p := by unfold readS; rw [other_step s h9 hP hQ, h0, h1]
end Go.Proofs.Ytbghokdlnnaeeaa.Dk

/- Package disk's maps, the items by path and the limits by volume: as they lie in memory, and what looks, stores and deletions make of them. -/
namespace Go.Proofs.Ytbghokdlnnaeeaa.Dk
open Go.RowKit Tx Pm
set_option linter.unusedVariables false

/-! The document's list, read by path -/
theorem find_ins_same (l : List It) {x : It} {p : ByteArray} (h : x.path = p) : find (ins l x) p = some x := by
  unfold ins
  rw [find_app]
  have h1 : find (l.takeWhile (fun y => Op.bytesLess y.path.toList x.path.toList)) p = none := by
    refine List.find?_eq_none.2 (fun y hy => ?_)
    have hl := List.all_eq_true.1 (List.all_takeWhile (p := fun y => Op.bytesLess y.path.toList x.path.toList) (l := l)) y hy
    intro he
    have he := of_decide_eq_true he
    rw [he, h, less_irrefl] at hl
    cases hl
  rw [h1, Option.none_or]
  unfold find
  rw [List.find?_cons_of_pos (by simpa using h)]
theorem find_drop_same (l : List It) (p : ByteArray) : find (drop l p) p = none := by
  unfold find drop
  refine List.find?_eq_none.2 (fun y hy => ?_)
  have := (List.mem_filter.1 hy).2
  simpa using this
theorem find_paths {l : List It} {x : It} (hr : Rises l) (hx : x ∈ l) : find l x.path = some x := by
  unfold find
  induction l with
  | nil => cases hx
  | cons y l ih =>
    obtain ⟨h1, h2⟩ := List.pairwise_cons.1 hr
    by_cases he : y.path = x.path
    · rw [List.find?_cons_of_pos (by simpa using he)]
      rcases List.mem_cons.1 hx with rfl | hx
      · rfl
      · have := h1 x hx
        rw [he, less_irrefl] at this
        cases this
    · rw [List.find?_cons_of_neg (by simpa using he)]
      rcases List.mem_cons.1 hx with rfl | hx
      · exact absurd rfl he
      · exact ih h2 hx
theorem drop_app (a b : List It) (p : ByteArray) : drop (a ++ b) p = drop a p ++ drop b p := List.filter_append ..
theorem drop_none {l : List It} {p : ByteArray} (h : find l p = none) : drop l p = l := by
  unfold find at h
  unfold drop
  refine List.filter_eq_self.2 (fun y hy => ?_)
  have := List.find?_eq_none.1 h y hy
  simpa using this
/-- At most one item goes. -/
theorem len_drop {l : List It} (hr : Rises l) (p : ByteArray) : l.length ≤ (drop l p).length + (if (find l p).isSome then 1 else 0) := by
  induction l with
  | nil => exact Nat.zero_le _
  | cons y l ih =>
    obtain ⟨h1, h2⟩ := List.pairwise_cons.1 hr
    by_cases he : y.path = p
    · have hn : find l p = none := by
        refine List.find?_eq_none.2 (fun z hz hzp => ?_)
        have hzp := of_decide_eq_true hzp
        have := h1 z hz
        rw [he, hzp, less_irrefl] at this
        cases this
      have e1 : drop (y :: l) p = drop l p := by unfold drop; rw [List.filter_cons_of_neg (by simpa using he)]
      have e2 : find (y :: l) p = some y := by unfold find; rw [List.find?_cons_of_pos (by simpa using he)]
      rw [e1, e2, drop_none hn]
      exact Nat.le_refl _
    · have e1 : drop (y :: l) p = y :: drop l p := by unfold drop; rw [List.filter_cons_of_pos (by simpa using he)]
      have e2 : find (y :: l) p = find l p := by unfold find; rw [List.find?_cons_of_neg (by simpa using he)]
      rw [e1, e2]
      have := ih h2
      simp only [List.length_cons]
      omega
theorem len_ins_more {l : List It} (x : It) : l.length + (if (find l x.path).isSome then 0 else 1) ≤ (ins l x).length := by
  have e : l = l.takeWhile (fun y => Op.bytesLess y.path.toList x.path.toList) ++ l.dropWhile (fun y => Op.bytesLess y.path.toList x.path.toList) := (List.takeWhile_append_dropWhile).symm
  have hall := List.all_takeWhile (p := fun y => Op.bytesLess y.path.toList x.path.toList) (l := l)
  unfold ins
  generalize l.takeWhile (fun y => Op.bytesLess y.path.toList x.path.toList) = a at e hall ⊢
  generalize l.dropWhile (fun y => Op.bytesLess y.path.toList x.path.toList) = b at e ⊢
  subst e
  cases b with
  | nil =>
    simp only [List.append_nil, List.length_append, List.length_cons, List.length_nil]
    split <;> omega
  | cons y r =>
    by_cases he : y.path = x.path
    · have hs : (find (a ++ y :: r) x.path).isSome = true := List.find?_isSome.2 ⟨y, by simp, by simpa using he⟩
      rw [if_pos hs]
      simp only [he, if_true, List.length_append, List.length_cons]
      omega
    · simp only [he, if_false, List.length_append, List.length_cons]
      split <;> omega

/-! An item's value -/
def stOf (x : It) : Int := if x.loose then (if x.anew then 2 else 1) else 0
def kOf (x : It) : Int := if x.dir then 1 else 2
def mv (k : Int) (s t : ByteArray) (st n : Int) : Value := .agg #[.int .i64 k, .string s, .string t, .int .i64 st, .int .i64 n]
def iv3 (x : It) : Value := mv (kOf x) x.data x.kept (stOf x) (x.stamp : Nat)
def dv3 (k : Int) (s t : ByteArray) (st n : Int) : DataW Unit := .agg [.lit (.int .i64 k), .lit (.string s.data.toList), .lit (.string t.data.toList), .lit (.int .i64 st), .lit (.int .i64 n)]
def itD (x : It) : DataW Unit := dv3 (kOf x) x.data x.kept (stOf x) (x.stamp : Nat)
def itemR : Value → Option (DataW Unit × List MemPlace)
  | .agg ⟨[.int .i64 k, .string s, .string t, .int .i64 st, .int .i64 n]⟩ => some (dv3 k s t st n, [])
  | _ => none
theorem itemR_mv (k : Int) (s t : ByteArray) (st n : Int) : itemR (mv k s t st n) = some (dv3 k s t st n, []) := rfl
theorem itemR_inv {v : Value} {z : DataW Unit × List MemPlace} (h : itemR v = some z) : ∃ k s t st n, v = mv k s t st n ∧ z = (dv3 k s t st n, []) := by
  unfold itemR at h
  split at h
  · cases h
    exact ⟨_, _, _, _, _, rfl, rfl⟩
  · cases h
theorem dv3_inj {k k' : Int} {s s' t t' : ByteArray} {st st' n n' : Int} (h : dv3 k s t st n = dv3 k' s' t' st' n') : k = k' ∧ s = s' ∧ t = t' ∧ st = st' ∧ n = n' := by
  unfold dv3 at h
  simp only [DataW.agg.injEq, List.cons.injEq, DataW.lit.injEq, Lit.int.injEq, Lit.string.injEq, true_and, and_true] at h
  obtain ⟨h1, h2, h3, h4, h5⟩ := h
  exact ⟨h1, ByteArray.ext (Array.toList_inj.1 h2), ByteArray.ext (Array.toList_inj.1 h3), h4, h5⟩
/-- What a look at a path answers: the item, or the zero item. -/
def lookV (L : List It) (p : ByteArray) : Value := match find L p with
  | some x => iv3 x
  | none => mv 0 ⟨#[]⟩ ⟨#[]⟩ 0 0
def kL (p : ByteArray) : Lit := .string p.data.toList
theorem kL_inj {p q : ByteArray} (h : kL p = kL q) : p = q := by
  injection h with h
  exact ByteArray.ext (Array.toList_inj.1 h)
theorem kL_key (p : ByteArray) : WideAt.IsKeyLit (kL p) := trivial

/-! The map of the items -/
theorem strK : Go.Maps.Keyed Try.prog 9 := Go.Maps.string_keyed Try.underlying9
theorem keyP {p : ByteArray} (hp : p.size ≤ maxLen) : keyOf Try.prog 9 (.string p) = some (kL p) := Go.WideMaps.keyOf_string_mk Try.underlying9 hp
theorem zeroI (w : World) : (zeroValue 43).run Try.prog w = .ok (mv 0 ⟨#[]⟩ ⟨#[]⟩ 0 0) w := by kernel_rfl
theorem zeroN (w : World) : (zeroValue 3).run Try.prog w = .ok (.int .i64 0) w := by kernel_rfl
/-- The datum reads as the list, path by path. -/
def ReadsI (D : DataW Unit) (L : List It) : Prop := ∀ p z, D.atKey (kL p) z = match find L p with
  | some x => itD x
  | none => z
/-- Block bi is the map of the items L. -/
def Mp (w : World) (bi : Nat) (L : List It) : Prop := ∃ D : DataW Unit, w.ownsMap Try.prog 9 itemR bi L.length D ∧ ReadsI D L ∧ Go.Maps.size D ≤ L.length
theorem Mp.lt {w : World} {bi : Nat} {L : List It} (h : Mp w bi L) : bi < w.heap.size := by
  obtain ⟨D, h, _⟩ := h
  exact h.lt
theorem ownsMap_at {H : Type} {w w1 : World} {P : Program} {k : TypeId} {R : Value → Option (DataW H × List MemPlace)} {b n : Nat} {D : DataW H} (h : w.ownsMap P k R b n D) (he : w1.heap[b]? = w.heap[b]?) : w1.ownsMap P k R b n D := by
  obtain ⟨es, clock, hb, r⟩ := h
  exact ⟨es, clock, he.trans hb, r⟩
theorem Mp.kept {w w1 : World} {bi : Nat} {L : List It} (h : Mp w bi L) (he : w1.heap[bi]? = w.heap[bi]?) : Mp w1 bi L := by
  obtain ⟨D, h, r⟩ := h
  exact ⟨D, ownsMap_at h he, r⟩
theorem readsI_has {D : DataW Unit} {L : List It} (h : ReadsI D L) (p : ByteArray) : Go.Maps.has D (kL p) = (find L p).isSome := by
  cases hf : find L p with
  | none =>
    refine (Go.Maps.has_false_of_atKey fun z => ?_).trans rfl
    rw [h p z, hf]
  | some x =>
    refine (Go.Maps.has_true_of_atKey (y := itD x) fun z => ?_).trans rfl
    rw [h p z, hf]
theorem Mp.look {w : World} {bi : Nat} {L : List It} (h : Mp w bi L) {p : ByteArray} (hp : p.size ≤ maxLen) :
    (Instr.lookup 44 (.map (some bi)) (.string p) false).run Try.prog w = .ok (lookV L p) w := by
  obtain ⟨D, ho, hr, _⟩ := h
  obtain ⟨v, ps, hrun, hv⟩ := ho.lookup strK Try.underlying44 (zeroI w) (itemR_mv _ _ _ _ _) (keyP hp)
  rw [hrun]
  obtain ⟨k, s, t, st, n, rfl, hz⟩ := itemR_inv hv
  have hz := congrArg Prod.fst hz
  simp only [hr p] at hz
  unfold lookV
  cases hf : find L p with
  | none =>
    rw [hf] at hz
    obtain ⟨rfl, rfl, rfl, rfl, rfl⟩ := dv3_inj hz
    rfl
  | some x =>
    rw [hf] at hz
    obtain ⟨rfl, rfl, rfl, rfl, rfl⟩ := dv3_inj (k := kOf x) (s := x.data) (t := x.kept) (st := stOf x) (n := (x.stamp : Nat)) hz
    rfl
theorem turned_block {w w' : World} {b i : Nat} (h : w.mapTurned w' b) (hi : i ≠ b) : w'.heap[i]? = w.heap[i]? := by
  obtain ⟨es, clock, es', clock', hb, rfl⟩ := h
  exact Go.ChangeMaps.heap_setBlock_other hb _ hi
theorem turned_chg {w w' : World} {b : Nat} (h : w.mapTurned w' b) : Chg (· = b) w w' := by
  have hg := h.grown
  exact ⟨hg.os, hg.tape, hg.output, hg.size, fun i hi hn => turned_block h hn⟩
theorem turned_size {w w' : World} {b : Nat} (h : w.mapTurned w' b) : w'.heap.size = w.heap.size := by
  obtain ⟨es, clock, es', clock', hb, rfl⟩ := h
  simp [Go.ChangeMaps.setBlock]
theorem own_len {w : World} {b n : Nat} {D : DataW Unit} {R : Value → Option (DataW Unit × List MemPlace)} (h : w.ownsMap Try.prog 9 R b n D) {m : Nat} (hm : Go.Maps.size D ≤ m) : w.ownsMap Try.prog 9 R b m D := by
  obtain ⟨es, clock, hb, F, hs, rfl⟩ := h
  refine ⟨es, clock, hb, F, ?_, rfl⟩
  simp only [Go.Maps.size, length_sorted, List.length_map, Array.length_toList] at hm
  exact hm
theorem Mp.store {w : World} {bi : Nat} {L : List It} (h : Mp w bi L) {x : It} (hp : x.path.size ≤ maxLen) (hn : L.length < maxLen) :
    ∃ w', (Instr.mapUpdate 44 (.map (some bi)) (.string x.path) (iv3 x)).run Try.prog w = .ok () w' ∧ Mp w' bi (ins L x) ∧ w.mapTurned w' bi := by
  obtain ⟨D, ho, hr, hs⟩ := h
  obtain ⟨w', hrun, ho', ht⟩ := ho.store strK Try.underlying44 hn (keyP hp) (itemR_mv (kOf x) x.data x.kept (stOf x) (x.stamp : Nat))
  have hsz : Go.Maps.size (D.put (kL x.path) (dv3 (kOf x) x.data x.kept (stOf x) (x.stamp : Nat))) ≤ (ins L x).length := by
    have h1 := Go.Maps.size_put (ho.tidy strK) (k := kL x.path) (dv3 (kOf x) x.data x.kept (stOf x) (x.stamp : Nat))
    rw [readsI_has hr] at h1
    have h2 := len_ins_more (l := L) x
    rw [h1]
    split at h2 <;> split <;> first | omega | simp_all
  refine ⟨w', hrun, ⟨_, own_len ho' hsz, fun p z => ?_, hsz⟩, ht⟩
  by_cases he : p = x.path
  · subst he
    rw [Go.Maps.atKey_put_same ho.isMap (kL_key _), find_ins_same L rfl]
    rfl
  · rw [Go.Maps.atKey_put_other (fun e => he (kL_inj e)), find_ins L (fun e => he e.symm)]
    exact hr p z
theorem Mp.del {w : World} {bi : Nat} {L : List It} (h : Mp w bi L) (hR : Rises L) {p : ByteArray} (hp : p.size ≤ maxLen) (ty : TypeId) :
    ∃ w', (Builtin.delete_ #[44, 9] ty #[.map (some bi), .string p]).run Try.prog w = .ok (.tuple #[]) w' ∧ Mp w' bi (drop L p) ∧ w.mapTurned w' bi := by
  obtain ⟨D, ho, hr, hs⟩ := h
  obtain ⟨w', hrun, ho', ht⟩ := ho.drop strK Try.underlying44 (keyP hp) ty
  have hsz : Go.Maps.size (D.del (kL p)) ≤ (drop L p).length := by
    have h1 := Go.Maps.size_del (ho.tidy strK) (k := kL p)
    rw [readsI_has hr] at h1
    have h2 := len_drop hR p
    omega
  refine ⟨w', hrun, ⟨_, own_len ho' hsz, fun q z => ?_, hsz⟩, ht⟩
  by_cases he : q = p
  · subst he
    rw [Go.Maps.atKey_del_same, find_drop_same]
  · rw [Go.Maps.atKey_del_other (fun e => he (kL_inj e)), find_drop L (fun e => he e.symm)]
    exact hr q z
theorem mp_made (w : World) : Mp (w.alloc (.map #[] 0)) w.heap.size [] := ⟨_, World.ownsMap_made w _ _ _, fun p z => rfl, Nat.le_refl _⟩

/-! The map of the limits -/
def roomOf (R : List Rm) (v : ByteArray) : Option Rm := R.find? (fun r => decide (r.vol = v))
def ReadsR (D : DataW Unit) (R : List Rm) : Prop := ∀ v z, D.atKey (kL v) z = match roomOf R v with
  | some r => .lit (.int .i64 r.n)
  | none => z
/-- Block bl is the map of the limits R. -/
def Lm (w : World) (bl : Nat) (R : List Rm) : Prop := ∃ D : DataW Unit, w.ownsMap Try.prog 9 (plainElem Try.prog 3) bl R.length D ∧ ReadsR D R ∧ Go.Maps.size D ≤ R.length
theorem Lm.lt {w : World} {bl : Nat} {R : List Rm} (h : Lm w bl R) : bl < w.heap.size := by
  obtain ⟨D, h, _⟩ := h
  exact h.lt
theorem Lm.kept {w w1 : World} {bl : Nat} {R : List Rm} (h : Lm w bl R) (he : w1.heap[bl]? = w.heap[bl]?) : Lm w1 bl R := by
  obtain ⟨D, h, r⟩ := h
  exact ⟨D, ownsMap_at h he, r⟩
theorem readsR_has {D : DataW Unit} {R : List Rm} (h : ReadsR D R) (v : ByteArray) : Go.Maps.has D (kL v) = (roomOf R v).isSome := by
  cases hf : roomOf R v with
  | none =>
    refine (Go.Maps.has_false_of_atKey fun z => ?_).trans rfl
    rw [h v z, hf]
  | some x =>
    refine (Go.Maps.has_true_of_atKey (y := .lit (.int .i64 x.n)) fun z => ?_).trans rfl
    rw [h v z, hf]
def limV (R : List Rm) (v : ByteArray) : Value := match roomOf R v with
  | some r => .tuple #[.int .i64 r.n, .bool true]
  | none => .tuple #[.int .i64 0, .bool false]
theorem Lm.look {w : World} {bl : Nat} {R : List Rm} (h : Lm w bl R) {v : ByteArray} (hp : v.size ≤ maxLen) :
    (Instr.lookup 45 (.map (some bl)) (.string v) true).run Try.prog w = .ok (limV R v) w := by
  obtain ⟨D, ho, hr, _⟩ := h
  obtain ⟨u, ps, hrun, hv⟩ := ho.look_ok strK Try.underlying45 (zeroN w) (plainElem_int Try.underlying3 (by decide)) (keyP hp)
  rw [hrun, readsR_has hr]
  obtain ⟨c, rfl, hc, hwc⟩ := plainElem_int_inv Try.underlying3 hv
  have hc := congrArg Prod.fst hc
  simp only [hr v] at hc
  unfold limV
  cases hf : roomOf R v with
  | none =>
    rw [hf] at hc
    cases hc
    rfl
  | some x =>
    rw [hf] at hc
    cases hc
    rfl
theorem roomOf_set_same : ∀ (R : List Rm) (v : ByteArray) (n : Int), roomOf (setRm R v n) v = some ⟨v, n⟩
  | [], v, n => by unfold setRm roomOf; rw [List.find?_cons_of_pos (by simp)]
  | r :: R, v, n => by
    unfold setRm
    split
    · rename_i h
      unfold roomOf
      rw [List.find?_cons_of_pos (by simp)]
    · rename_i h
      unfold roomOf
      rw [List.find?_cons_of_neg (by simpa using h)]
      exact roomOf_set_same R v n
theorem roomOf_set_other {v u : ByteArray} (hne : u ≠ v) : ∀ (R : List Rm) (n : Int), roomOf (setRm R v n) u = roomOf R u
  | [], n => by unfold setRm roomOf; rw [List.find?_cons_of_neg (by simpa using fun e => hne e.symm)]
  | r :: R, n => by
    unfold setRm
    split
    · rename_i h
      unfold roomOf
      rw [List.find?_cons_of_neg (by simpa using fun e => hne e.symm), List.find?_cons_of_neg (by simpa [h] using fun e => hne e.symm)]
    · rename_i h
      by_cases hu : r.vol = u
      · unfold roomOf
        rw [List.find?_cons_of_pos (by simpa using hu), List.find?_cons_of_pos (by simpa using hu)]
      · unfold roomOf
        rw [List.find?_cons_of_neg (by simpa using hu), List.find?_cons_of_neg (by simpa using hu)]
        exact roomOf_set_other hne R n
theorem len_set (v : ByteArray) (n : Int) : ∀ (R : List Rm), R.length + (if (roomOf R v).isSome then 0 else 1) ≤ (setRm R v n).length
  | [] => by unfold setRm; simp [roomOf]
  | r :: R => by
    by_cases h : r.vol = v
    · have e1 : (roomOf (r :: R) v).isSome = true := by unfold roomOf; rw [List.find?_cons_of_pos (by simpa using h)]; rfl
      have e2 : setRm (r :: R) v n = ⟨v, n⟩ :: R := by unfold setRm; rw [if_pos h]
      rw [e1, e2]
      exact Nat.le_refl _
    · have e : roomOf (r :: R) v = roomOf R v := by unfold roomOf; rw [List.find?_cons_of_neg (by simpa using h)]
      have e2 : setRm (r :: R) v n = r :: setRm R v n := by rw [setRm, if_neg h]
      have := len_set v n R
      rw [e, e2]
      simp only [List.length_cons]
      omega
theorem Lm.store {w : World} {bl : Nat} {R : List Rm} (h : Lm w bl R) {v : ByteArray} (hp : v.size ≤ maxLen) (hn : R.length < maxLen) {n : Int} (hw : (Lit.int .i64 n).wf = true) :
    ∃ w', (Instr.mapUpdate 45 (.map (some bl)) (.string v) (.int .i64 n)).run Try.prog w = .ok () w' ∧ Lm w' bl (setRm R v n) ∧ w.mapTurned w' bl := by
  obtain ⟨D, ho, hr, hs⟩ := h
  obtain ⟨w', hrun, ho', ht⟩ := ho.store strK Try.underlying45 hn (keyP hp) (plainElem_int Try.underlying3 hw)
  have hsz : Go.Maps.size (D.put (kL v) (.lit (.int .i64 n))) ≤ (setRm R v n).length := by
    have h1 := Go.Maps.size_put (ho.tidy strK) (k := kL v) (.lit (.int .i64 n))
    rw [readsR_has hr] at h1
    have h2 := len_set v n R
    rw [h1]
    split at h2 <;> split <;> first | omega | simp_all
  refine ⟨w', hrun, ⟨_, own_len ho' hsz, fun p z => ?_, hsz⟩, ht⟩
  by_cases he : p = v
  · subst he
    rw [Go.Maps.atKey_put_same ho.isMap (kL_key _), roomOf_set_same]
  · rw [Go.Maps.atKey_put_other (fun e => he (kL_inj e)), roomOf_set_other he]
    exact hr p z
theorem lm_made (w : World) : Lm (w.alloc (.map #[] 0)) w.heap.size [] := ⟨_, World.ownsMap_made w _ _ _, fun p z => rfl, Nat.le_refl _⟩
end Go.Proofs.Ytbghokdlnnaeeaa.Dk

/- Package disk's own disk in memory; what a walk looks at; what its calls keep of the document's list. -/
namespace Go.Proofs.Ytbghokdlnnaeeaa.Dk
open Go.RowKit Tx Pm
set_option linter.unusedVariables false

/-- The blocks of a disk of package disk. -/
def Ft (b bi bl : Nat) (i : Nat) : Prop := i = b ∨ i = bi ∨ i = bl
/-- A disk of package disk stands at block b, its maps at bi and bl; l steps are left. -/
structure Ia (b bi bl : Nat) (l : Int) (w : World) (s : St) : Prop where
  blk : w.heap[b]? = some (.cells #[.map (some bi), .map (some bl), .int .i64 l, .int .i64 s.steps, .int .i64 s.stamps, .bool s.down] 47 (0, 0))
  items : Mp w bi s.L
  limits : Lm w bl s.rooms
  ne : bi ≠ bl
  left : s.down = true ∨ l = s.armed
  low : -1 ≤ l ∧ l ≤ 9223372036854775807
theorem Ia.lt {b bi bl : Nat} {l : Int} {w : World} {s : St} (h : Ia b bi bl l w s) : ∀ i, Ft b bi bl i → i < w.heap.size := by
  rintro i (rfl | rfl | rfl)
  · exact (Array.getElem?_eq_some_iff.1 h.blk).1
  · exact h.items.lt
  · exact h.limits.lt
theorem map_block {H : Type} {w : World} {P : Program} {k : TypeId} {R : Value → Option (DataW H × List MemPlace)} {b n : Nat} {D : DataW H} (h : w.ownsMap P k R b n D) {cs : Array Value} {T : TypeId} {fz : Nat × Nat} : w.heap[b]? ≠ some (.cells cs T fz) := by
  obtain ⟨es, clock, hb, _⟩ := h
  rw [hb]
  intro e
  cases e
theorem Ia.nb {b bi bl : Nat} {l : Int} {w : World} {s : St} (h : Ia b bi bl l w s) : b ≠ bi ∧ b ≠ bl := by
  obtain ⟨D, hD, _⟩ := h.items
  obtain ⟨E, hE, _⟩ := h.limits
  exact ⟨fun e => map_block hD (e ▸ h.blk), fun e => map_block hE (e ▸ h.blk)⟩
theorem Ia.kept {b bi bl : Nat} {l : Int} {w w1 : World} {s : St} (h : Ia b bi bl l w s) (hk : ∀ i, Ft b bi bl i → w1.heap[i]? = w.heap[i]?) : Ia b bi bl l w1 s :=
  ⟨(hk b (.inl rfl)).trans h.blk, h.items.kept (hk bi (.inr (.inl rfl))), h.limits.kept (hk bl (.inr (.inr rfl))), h.ne, h.left, h.low⟩
theorem Ia.below {b bi bl : Nat} {l : Int} {w w1 : World} {s : St} (h : Ia b bi bl l w s) (hb : Below w.heap.size w w1) : Ia b bi bl l w1 s := h.kept (fun i hi => hb.block i (h.lt i hi))
theorem Ia.chg {b bi bl : Nat} {l : Int} {w w1 : World} {s : St} {F : Nat → Prop} (h : Ia b bi bl l w s) (hc : Chg F w w1) (hd : ∀ i, Ft b bi bl i → ¬ F i) : Ia b bi bl l w1 s := h.kept (fun i hi => hc.block i (h.lt i hi) (hd i hi))
theorem Ia.cell {b bi bl : Nat} {l : Int} {w : World} {s : St} (h : Ia b bi bl l w s) : w.cell? ⟨b, 0, none⟩ = some (.map (some bi)) ∧ w.cell? ⟨b, 1, none⟩ = some (.map (some bl)) ∧ w.cell? ⟨b, 2, none⟩ = some (.int .i64 l) ∧
    w.cell? ⟨b, 3, none⟩ = some (.int .i64 s.steps) ∧ w.cell? ⟨b, 4, none⟩ = some (.int .i64 s.stamps) ∧ w.cell? ⟨b, 5, none⟩ = some (.bool s.down) := by
  have hb := h.blk
  refine ⟨?_, ?_, ?_, ?_, ?_, ?_⟩ <;> · unfold World.cell?; rw [hb]; rfl
theorem Ia.warm {b bi bl : Nat} {l : Int} {w : World} {s : St} (h : Ia b bi bl l w s) (k : Nat) : w.frozen? ⟨b, k, none⟩ = false := by
  unfold World.frozen?
  rw [h.blk]
  simp
/-- The disk's own block has been written. -/
theorem Ia.poke {b bi bl : Nat} {l l1 : Int} {w w1 : World} {s s1 : St} (h : Ia b bi bl l w s) (hc : Chg (· = b) w w1)
    (hb : w1.heap[b]? = some (.cells #[.map (some bi), .map (some bl), .int .i64 l1, .int .i64 s1.steps, .int .i64 s1.stamps, .bool s1.down] 47 (0, 0)))
    (hL : s1.L = s.L) (hR : s1.rooms = s.rooms) (hl : s1.down = true ∨ l1 = s1.armed) (hlo : -1 ≤ l1 ∧ l1 ≤ 9223372036854775807) : Ia b bi bl l1 w1 s1 := by
  obtain ⟨n1, n2⟩ := h.nb
  exact ⟨hb, by rw [hL]; exact h.items.kept (hc.block bi h.items.lt (fun e => n1 e.symm)), by rw [hR]; exact h.limits.kept (hc.block bl h.limits.lt (fun e => n2 e.symm)), h.ne, hl, hlo⟩
/-- The map of the items has been written. -/
theorem Ia.turned {b bi bl : Nat} {l : Int} {w w1 : World} {s : St} {L : List It} (h : Ia b bi bl l w s) (hm : Mp w1 bi L) (ht : w.mapTurned w1 bi) : Ia b bi bl l w1 { s with L := L } := by
  obtain ⟨n1, n2⟩ := h.nb
  exact ⟨(turned_block ht n1).trans h.blk, hm, h.limits.kept (turned_block ht (fun e => h.ne e.symm)), h.ne, h.left, h.low⟩
/-- The map of the limits has been written. -/
theorem Ia.limited {b bi bl : Nat} {l : Int} {w w1 : World} {s : St} {R : List Rm} (h : Ia b bi bl l w s) (hm : Lm w1 bl R) (ht : w.mapTurned w1 bl) : Ia b bi bl l w1 { s with rooms := R } := by
  obtain ⟨n1, n2⟩ := h.nb
  exact ⟨(turned_block ht n2).trans h.blk, h.items.kept (turned_block ht h.ne), hm, h.ne, h.left, h.low⟩
/-- A disk behind a call: another state, nothing else of what was there. -/
def Ip (b bi bl : Nat) (w : World) (s : St) (w' : World) : Prop := ∃ l, Ia b bi bl l w' s ∧ Chg (Ft b bi bl) w w'
theorem ft_b {b bi bl : Nat} : ∀ i, i = b → Ft b bi bl i := fun i hi => .inl hi
theorem ft_i {b bi bl : Nat} : ∀ i, i = bi → Ft b bi bl i := fun i hi => .inr (.inl hi)
theorem ft_l {b bi bl : Nat} : ∀ i, i = bl → Ft b bi bl i := fun i hi => .inr (.inr hi)
theorem Ip.of {b bi bl : Nat} {l : Int} {w w1 : World} {s : St} (h : Ia b bi bl l w1 s) (hb : Below w.heap.size w w1) : Ip b bi bl w s w1 := ⟨l, h, Chg.of_below hb⟩
/-- A call that made memory first. -/
theorem Ip.after {b bi bl : Nat} {w w1 w2 : World} {s : St} (hb : Below w.heap.size w w1) (h : Ip b bi bl w1 s w2) : Ip b bi bl w s w2 := by
  obtain ⟨l, h1, h2⟩ := h
  exact ⟨l, h1, (Chg.of_below hb).then h2⟩

/-! What a look at a path answers -/
theorem kindK (L : List It) (p : ByteArray) {x : It} (h : find L p = some x) : kOf x = (kind L p : Nat) := by
  unfold kind kOf
  rw [h]
  unfold kindOf
  simp only
  split <;> rfl
theorem lookV_is (L : List It) (p : ByteArray) : lookV L p = .agg #[.int .i64 (kind L p : Nat), .string (old L p).data, .string (old L p).kept, .int .i64 (stOf (old L p)), .int .i64 (old L p).stamp] := by
  unfold lookV
  cases h : find L p with
  | none =>
    have h1 : kind L p = 0 := by unfold kind; rw [h]; rfl
    have h2 : old L p = mk p := by unfold old; rw [h]; rfl
    rw [h1, h2]
    rfl
  | some x =>
    have h2 : old L p = x := by unfold old; rw [h]; rfl
    rw [h2, ← kindK L p h]
    rfl
theorem Ia.look {b bi bl : Nat} {l : Int} {w : World} {s : St} (h : Ia b bi bl l w s) {p : ByteArray} (hp : p.size ≤ maxLen) : (Instr.lookup 44 (.map (some bi)) (.string p) false).run Try.prog w =
    .ok (.agg #[.int .i64 (kind s.L p : Nat), .string (old s.L p).data, .string (old s.L p).kept, .int .i64 (stOf (old s.L p)), .int .i64 (old s.L p).stamp]) w := by
  rw [← lookV_is]
  exact h.items.look hp
theorem maxLen_of {n : Nat} (h : n ≤ 8000000000000) : n ≤ maxLen := by unfold maxLen; omega

/-! What every list behind calls is -/
structure Good (s : St) : Prop where
  rises : Rises s.L
  dirs : ∀ x ∈ s.L, x.dir = true → x.data = ⟨#[]⟩ ∧ x.kept = ⟨#[]⟩ ∧ x.loose = false ∧ x.anew = false ∧ x.stamp = 0
  calm : ∀ x ∈ s.L, x.loose = false → x.anew = false
  vols : s.rooms.Pairwise (fun r r' => r.vol ≠ r'.vol)
theorem good_new : Good newS := ⟨List.Pairwise.nil, (fun x hx => by cases hx), (fun x hx => by cases hx), List.Pairwise.nil⟩
theorem good_of {s s' : St} (h : Good s) (hL : s'.L = s.L) (hR : s'.rooms = s.rooms) : Good s' := ⟨by rw [hL]; exact h.rises, by rw [hL]; exact h.dirs, by rw [hL]; exact h.calm, by rw [hR]; exact h.vols⟩
theorem good_done {s : St} (h : Good s) : Good (done s).2 := good_of h (done_L s) (done_rooms s)
theorem good_ins {s s' : St} {l : List It} {x : It} (h : Good s) (hl : Rises l ∧ ∀ y ∈ l, y ∈ s.L) (hL : s'.L = ins l x) (hd : x.dir = true → x.data = ⟨#[]⟩ ∧ x.kept = ⟨#[]⟩ ∧ x.loose = false ∧ x.anew = false ∧ x.stamp = 0)
    (hc : x.loose = false → x.anew = false) (hR : s'.rooms = s.rooms) : Good s' := by
  have hm : ∀ y ∈ s'.L, y = x ∨ y ∈ s.L := fun y hy => by
    rw [hL] at hy
    exact (mem_ins hy).imp id (fun hh => hl.2 y hh)
  refine ⟨by rw [hL]; exact rises_ins hl.1, fun y hy => ?_, fun y hy => ?_, by rw [hR]; exact h.vols⟩
  · rcases hm y hy with rfl | hy
    · exact hd
    · exact h.dirs y hy
  · rcases hm y hy with rfl | hy
    · exact hc
    · exact h.calm y hy
theorem good_drop {s s' : St} {p : ByteArray} (h : Good s) (hL : s'.L = drop s.L p) (hR : s'.rooms = s.rooms) : Good s' := by
  obtain ⟨d1, _⟩ := drop_in s.L p
  exact ⟨by rw [hL]; exact rises_drop p h.rises, fun y hy => h.dirs y (d1 y (by rw [← hL]; exact hy)), fun y hy => h.calm y (d1 y (by rw [← hL]; exact hy)), by rw [hR]; exact h.vols⟩
theorem old_file {s : St} {p : ByteArray} (h : there s p = 0) : (old s.L p).dir = false ∧ (old s.L p) ∈ s.L ∧ (old s.L p).path = p := by
  obtain ⟨k, x, _, hk, hf, _, hp, hd⟩ := there_file h
  have e : old s.L p = x := by rw [old, hf]; rfl
  rw [e]
  exact ⟨hd, List.mem_of_getElem? hk, hp⟩
theorem old_dir {l : List It} {p : ByteArray} (h : kind l p ≠ 1) : (old l p).dir = false := by
  unfold kind at h
  unfold old
  cases hf : find l p with
  | none => rfl
  | some x =>
    rw [hf] at h
    unfold kindOf at h
    cases hd : x.dir with
    | false => exact hd
    | true => simp [hd] at h
theorem good_mkdir {s : St} {p : ByteArray} (h : Good s) : Good (mkdirS s p).2 := by
  unfold mkdirS
  repeat' split
  all_goals first
    | exact h
    | exact good_done h
    | exact good_ins (good_done h) ⟨(good_done h).rises, fun _ hy => hy⟩ rfl (fun _ => ⟨rfl, rfl, rfl, rfl, rfl⟩) (fun _ => rfl) rfl
theorem good_put {s : St} {l : List It} {x : It} (h : Good s) (hl : Rises l ∧ ∀ y ∈ l, y ∈ s.L) (hd : x.dir = false) (hc : x.loose = false → x.anew = false) : Good (putS { s with L := l } x) :=
  good_ins h hl (x := stamped { s with L := l } x) rfl (fun e => by have e : x.dir = true := e; rw [hd] at e; cases e) hc rfl
theorem good_write {s : St} {p d : ByteArray} (h : Good s) : Good (writeS s p d).2 := by
  unfold writeS
  split
  · exact h
  split
  · exact h
  split
  · exact h
  split
  · exact h
  split
  · exact good_done h
  · rename_i h3 _ _
    exact good_put (l := (done s).2.L) (good_done h) ⟨(good_done h).rises, fun _ hy => hy⟩ (old_dir h3) (fun e => by cases e)
theorem calm_old {s : St} (h : Good s) (p : ByteArray) : (old s.L p).loose = false → (old s.L p).anew = false := by
  rcases old_cases s.L p with e | ⟨hm, _⟩
  · rw [e]; exact fun _ => rfl
  · exact h.calm _ hm
theorem there_dir {s : St} {p : ByteArray} (h : ¬ there s p ≠ 0) : (old s.L p).dir = false := (old_file (by omega)).1
theorem good_append {s : St} {p d : ByteArray} (h : Good s) : Good (appendS s p d).2 := by
  unfold appendS
  split
  · exact h
  split
  · exact h
  split
  · exact good_done h
  · rename_i h1 _ _
    exact good_put (l := (done s).2.L) (good_done h) ⟨(good_done h).rises, fun _ hy => hy⟩ (there_dir h1) (fun e => by cases e)
theorem good_sync {s : St} {p : ByteArray} (h : Good s) : Good (syncS s p).2 := by
  unfold syncS
  split
  · exact h
  split
  · exact good_done h
  · rename_i h1 _
    exact good_ins (good_done h) ⟨(good_done h).rises, fun _ hy => hy⟩ rfl (fun e => by have := there_dir h1; rw [show (old s.L p).dir = true from e] at this; cases this) (fun _ => rfl) rfl
theorem good_rename {s : St} {f t : ByteArray} (h : Good s) : Good (renameS s f t).2 := by
  unfold renameS
  split
  · exact h
  split
  · exact h
  split
  · exact h
  split
  · exact h
  split
  · exact h
  split
  · exact good_done h
  · rename_i h4 _ _
    have h1 : kind s.L f ≠ 1 := fun e => h4 (.inl e)
    obtain ⟨d1, _⟩ := drop_in (done s).2.L f
    exact good_put (l := drop (done s).2.L f) (good_done h) ⟨rises_drop f (good_done h).rises, d1⟩ (old_dir h1) (calm_old h f)
theorem good_remove {s : St} {p : ByteArray} (h : Good s) : Good (removeS s p).2 := by
  unfold removeS
  split
  · exact h
  split
  · exact h
  split
  · exact h
  split
  · exact good_done h
  · exact good_drop (good_done h) rfl rfl
theorem setRm_mem {v : ByteArray} {n : Int} : ∀ {R : List Rm} {r : Rm}, r ∈ setRm R v n → r.vol = v ∨ r ∈ R
  | [], r, h => by
    unfold setRm at h
    exact .inl (by rw [List.mem_singleton.1 h])
  | q :: R, r, h => by
    unfold setRm at h
    split at h
    · rcases List.mem_cons.1 h with rfl | h
      · exact .inl rfl
      · exact .inr (List.mem_cons_of_mem _ h)
    · rcases List.mem_cons.1 h with rfl | h
      · exact .inr List.mem_cons_self
      · exact (setRm_mem h).imp id (List.mem_cons_of_mem _)
theorem setRm_vols {v : ByteArray} {n : Int} : ∀ {R : List Rm}, R.Pairwise (fun r r' => r.vol ≠ r'.vol) → (setRm R v n).Pairwise (fun r r' => r.vol ≠ r'.vol)
  | [], _ => by unfold setRm; exact List.pairwise_singleton _ _
  | q :: R, h => by
    obtain ⟨h1, h2⟩ := List.pairwise_cons.1 h
    unfold setRm
    split
    · rename_i hq
      exact List.pairwise_cons.2 ⟨fun r hr => by have := h1 r hr; rw [hq] at this; exact this, h2⟩
    · rename_i hq
      refine List.pairwise_cons.2 ⟨fun r hr => ?_, setRm_vols h2⟩
      rcases setRm_mem hr with e | hr
      · rw [e]; exact hq
      · exact h1 r hr
theorem good_limit {s : St} {v : ByteArray} {n : Int} (h : Good s) : Good (limitS s v n).2 := by
  unfold limitS
  split
  · exact h
  split
  · exact h
  · exact ⟨h.rises, h.dirs, h.calm, setRm_vols h.vols⟩
theorem good_rot {s : St} {p : ByteArray} {bit : Int} (h : Good s) : Good (rotS s p bit).2 := by
  unfold rotS
  split
  · exact h
  · rename_i h1
    exact good_put (l := s.L) h ⟨h.rises, fun _ hy => hy⟩ (there_dir h1) (calm_old h p)
theorem restartL_good (loss : Nat) : ∀ (l : List It) (n st : Nat), (∀ x ∈ l, x.dir = true → x.data = ⟨#[]⟩ ∧ x.kept = ⟨#[]⟩ ∧ x.loose = false ∧ x.anew = false ∧ x.stamp = 0) → (∀ x ∈ l, x.loose = false → x.anew = false) →
    (restartL loss l n st).1.map (·.path) = l.map (·.path) ∧ ∀ x ∈ (restartL loss l n st).1, (x.dir = true → x.data = ⟨#[]⟩ ∧ x.kept = ⟨#[]⟩ ∧ x.loose = false ∧ x.anew = false ∧ x.stamp = 0) ∧ (x.loose = false → x.anew = false)
  | [], n, st, _, _ => ⟨rfl, fun x hx => by cases hx⟩
  | y :: l, n, st, h1, h2 => by
    have a1 := fun x hx => h1 x (List.mem_cons_of_mem y hx)
    have a2 := fun x hx => h2 x (List.mem_cons_of_mem y hx)
    rw [restartL]
    split
    · rename_i hl
      obtain ⟨i1, i2⟩ := restartL_good loss l (n + 1) (st + 1) a1 a2
      refine ⟨congrArg (y.path :: ·) i1, fun x hx => ?_⟩
      rcases List.mem_cons.1 hx with rfl | hx
      · refine ⟨fun hd => ?_, fun _ => rfl⟩
        have := (h1 y List.mem_cons_self hd).2.2.1
        rw [hl] at this
        cases this
      · exact i2 x hx
    · obtain ⟨i1, i2⟩ := restartL_good loss l n st a1 a2
      refine ⟨congrArg (y.path :: ·) i1, fun x hx => ?_⟩
      rcases List.mem_cons.1 hx with rfl | hx
      · exact ⟨h1 x List.mem_cons_self, h2 x List.mem_cons_self⟩
      · exact i2 x hx
theorem good_restart {s : St} {loss : Int} (h : Good s) : Good (restartS s loss) := by
  obtain ⟨h1, h2⟩ := restartL_good (u64 loss) s.L 0 s.stamps h.dirs h.calm
  exact ⟨rises_paths h1.symm h.rises, fun x hx => (h2 x hx).1, fun x hx => (h2 x hx).2, h.vols⟩

/-- The kind of disk that package disk's is. -/
def ImpAt (b : Nat) (w : World) (F : Nat → Prop) (s : St) : Prop := ∃ bi bl l, Ia b bi bl l w s ∧ Good s ∧ ∀ i, F i ↔ Ft b bi bl i
theorem imp_kind (b : Nat) : Kind (ImpAt b) where
  lt := fun ⟨bi, bl, l, h, _, hF⟩ i hi => h.lt i ((hF i).1 hi)
  kept := fun ⟨bi, bl, l, h, hg, hF⟩ hk => ⟨bi, bl, l, h.kept (fun i hi => hk i ((hF i).2 hi)), hg, hF⟩
theorem Ip.left {b bi bl : Nat} {w w' : World} {F : Nat → Prop} {s : St} (h : Ip b bi bl w s w') (hg : Good s) (hF : ∀ i, F i ↔ Ft b bi bl i) : Left (ImpAt b) w F s w' := by
  obtain ⟨l, h1, h2⟩ := h
  exact ⟨F, ⟨bi, bl, l, h1, hg, hF⟩, h2.mono (fun i hi => (hF i).2 hi), fun g hg => .inl hg⟩
end Go.Proofs.Ytbghokdlnnaeeaa.Dk

/- What the document's own Scan answers: contract; lists of texts of one's own. -/
namespace Go.Proofs.Ytbghokdlnnaeeaa.Fr
open Go.RowKit Wm Wr Fm
set_option linter.unusedVariables false

theorem info9 : (Try.prog.info? 9).map (fun i => (i.zero, i.size, i.bytes)) = some (some (.string ⟨#[]⟩), 1, 16) := by kernel_rfl
/-- A string as a value. -/
def sv (s : ByteArray) : Value := .string s
theorem sv_one (l : List ByteArray) : ∀ u ∈ l.map sv, u.oneCell' = true := by
  intro u hu
  obtain ⟨s, _, rfl⟩ := List.mem_map.1 hu
  rfl
/-- v is a list of texts of one's own, from block B on. -/
def Texts (w : World) (B : Nat) (v : Value) (l : List ByteArray) : Prop := w.ownsRow B 9 1 v l.length (l.map sv)
theorem Texts.below {w w1 : World} {B : Nat} {v : Value} {l : List ByteArray} (h : Texts w B v l) (hb : Below w.heap.size w w1) : Texts w1 B v l := by
  refine ⟨h.1, ?_⟩
  rcases h.2 with h0 | ⟨g', cap', cur, hv, hg, hh, r⟩
  · exact .inl h0
  · exact .inr ⟨g', cap', cur, hv, hg, (hb.block g' (Array.getElem?_eq_some_iff.1 hh).1).trans hh, r⟩

/-- What Scan comes to. -/
def ScanTo (s : ByteArray) (w : World) (e : Ending) (w' : World) : Prop := ∃ v, e = .returned (.tuple #[v, .int .i64 ((sc s 0).2.1 : Int), .int .i64 ((sc s 0).2.2 : Int)]) ∧ Texts w' w.heap.size v (sc s 0).1 ∧ Below w.heap.size w w'

/-- Behind the texts of pre, at the place a. -/
def Far (s : ByteArray) (pre : List ByteArray) (a : Nat) : Prop := sc s 0 = (pre ++ (sc s a).1, (sc s a).2.1, (sc s a).2.2) ∧ a ≤ s.size ∧ pre.length ≤ a
theorem far_start (s : ByteArray) : Far s [] 0 := ⟨rfl, Nat.zero_le _, Nat.le_refl _⟩
theorem far_step {s t : ByteArray} {pre : List ByteArray} {a n : Nat} (h : Far s pre a) (ha : a < s.size) (h2 : fr (s.extract a s.size) = (t, n, 0)) : Far s (pre ++ [t]) (a + n) := by
  obtain ⟨h1, h3, h4⟩ := h
  have hk := fr_ok h2
  have hs : (s.extract a s.size).size = s.size - a := by simp
  refine ⟨?_, by omega, by rw [List.length_append]; show _ + 1 ≤ _; omega⟩
  rw [h1, sc_one ha h2]
  simp
theorem far_bad {s t : ByteArray} {pre : List ByteArray} {a n e : Nat} (h : Far s pre a) (ha : a < s.size) (h2 : fr (s.extract a s.size) = (t, n, e)) (he : e ≠ 0) : sc s 0 = (pre, a, e) := by
  rw [h.1, sc_bad ha h2 he, List.append_nil]
theorem far_end {s : ByteArray} {pre : List ByteArray} {a : Nat} (h : Far s pre a) (ha : ¬ a < s.size) : sc s 0 = (pre, a, 0) := by
  rw [h.1, sc_end ha, List.append_nil]

theorem ret3v {v : Value} {x y x' y' : Int} (h1 : x = x') (h2 : y = y') : Ending.returned (.tuple #[v, .int .i64 x, .int .i64 y]) = .returned (.tuple #[v, .int .i64 x', .int .i64 y']) := by rw [h1, h2]

end Go.Proofs.Ytbghokdlnnaeeaa.Fr

/- What the statements' own Same answers of two lists that are alike: true. -/
namespace Go.Proofs.Ytbghokdlnnaeeaa.Fr
open Go.RowKit Wm Wr Fm
set_option linter.unusedVariables false

/-- The slice at a, of n elements, reads as the texts l. -/
def Strs (w : World) (a : Option Addr) (n : Nat) (l : List ByteArray) : Prop := l.length = n ∧ (n = 0 ∨ ∃ b off, a = some ⟨b, off, none⟩ ∧ b < w.heap.size ∧ ∀ k x, l[k]? = some x → w.cell? ⟨b, off + k, none⟩ = some (.string x))
theorem Strs.below {w w1 : World} {a : Option Addr} {n : Nat} {l : List ByteArray} (h : Strs w a n l) (hb : Below w.heap.size w w1) : Strs w1 a n l := by
  refine ⟨h.1, ?_⟩
  rcases h.2 with h0 | ⟨b, off, ha, hlt, hc⟩
  · exact .inl h0
  · exact .inr ⟨b, off, ha, Nat.lt_of_lt_of_le hlt hb.size, fun k x hx => (hb.cell (p := ⟨b, off + k, none⟩) hlt).trans (hc k x hx)⟩
theorem Strs.take {w : World} {a : Option Addr} {n m : Nat} {l : List ByteArray} (h : Strs w a n l) (hm : m ≤ n) : Strs w a m (l.take m) := by
  refine ⟨by rw [List.length_take, h.1]; omega, ?_⟩
  rcases h.2 with h0 | ⟨b, off, ha, hlt, hc⟩
  · exact .inl (by omega)
  · refine .inr ⟨b, off, ha, hlt, fun k x hx => hc k x ?_⟩
    rw [List.getElem?_take] at hx
    split at hx
    · exact hx
    · cases hx
theorem Texts.form {w : World} {B : Nat} {v : Value} {l : List ByteArray} (h : Texts w B v l) : ∃ a c, v = .slice a l.length c ∧ Strs w a l.length l ∧ l.length ≤ c ∧ c ≤ maxLen := by
  have hh := h
  rcases h.2 with ⟨rfl, h0⟩ | ⟨g, cap, cur, rfl, hg, hh2, hn, hc, _⟩
  · exact ⟨none, 0, by rw [h0], ⟨rfl, .inl h0⟩, by omega, Nat.zero_le _⟩
  · refine ⟨some ⟨g, 0, none⟩, cap, rfl, ⟨rfl, .inr ⟨g, 0, rfl, (Array.getElem?_eq_some_iff.1 hh2).1, fun k x hx => ?_⟩⟩, hn, hc⟩
    have := hh.cells (g := g) rfl k (sv x) (by rw [List.getElem?_map, hx]; rfl)
    rw [← WideShapes.add_plain]
    exact this

set_option maxRecDepth 100000 in
set_option maxHeartbeats 1000000 in
theorem same_true (a b : Option Addr) (n ca cb : Nat) (l : List ByteArray) (w : World) (hn : n ≤ 9223372036854775807) (ha : Strs w a n l) (hb : Strs w b n l) :
    Calls Try.prog 12 #[.slice a n ca, .slice b n cb] w fun e w' => e = .returned (.bool true) ∧ Below w.heap.size w w' := by
  by_cases h0 : n = 0
  · subst h0
    clear ha hb
    go_enter Try.func12, Try.ntmps12
    go_wp2_with fail
    go_loop [5] (fun i => i = .int .i64 0) (fun _ => 0)
    case atStart => exact rfl
    case round =>
      obtain rfl := hrel
      go_wp2_with fail
      go_ret
      exact ⟨rfl, Below.refl _ _⟩
  · obtain ⟨hl, ha⟩ := ha
    obtain ⟨ba, oa, rfl, hba, hca⟩ := ha.resolve_left h0
    obtain ⟨bb, ob, rfl, hbb, hcb⟩ := hb.2.resolve_left h0
    have HA := Lib.hid hca
    have HB := Lib.hid hcb
    clear hca hcb ha hb h0
    go_enter Try.func12, Try.ntmps12
    go_wp2_with fail
    go_loopw [5] (fun i wr => ∃ k : Nat, k ≤ n ∧ i = .int .i64 k ∧ Below w.heap.size w wr) (fun i _ => n - (intOf i).toNat)
    case atStart => exact ⟨0, Nat.zero_le _, rfl, Below.refl _ _⟩
    case round =>
      obtain ⟨k, hk, rfl, hB⟩ := hrel
      by_cases hlt : k < n
      · have c1 := (hB.cell (p := ⟨ba, oa + k, none⟩) hba).trans (HA.out k l[k] (List.getElem?_eq_getElem (by omega)))
        have c2 := (hB.cell (p := ⟨bb, ob + k, none⟩) hbb).trans (HB.out k l[k] (List.getElem?_eq_getElem (by omega)))
        obtain ⟨S, hS⟩ : ∃ S, S = l[k] := ⟨_, rfl⟩
        rw [← hS] at c1 c2
        clear hS hl
        have hlt1 : (k : Int) < (n : Int) := by omega
        go_wp2_with fail
        go_quiet (fail)
        go_wp2_with fail
        go_roundw
        case rel => exact ⟨k + 1, by omega, by go_num, below_drewN hB _⟩
        case measure => simp [intOf]; omega
      · go_wp2_with fail
        go_ret
        exact ⟨rfl, hB⟩

end Go.Proofs.Ytbghokdlnnaeeaa.Fr

/- A journal over a disk, by its blocks, whichever the disk is; what each call of a journal makes of the disk and of the journal (no Go text). -/
namespace Go.Proofs.Ytbghokdlnnaeeaa.Wl
open Go.RowKit Tx Pm Dk Fr
set_option linter.unusedVariables false

/-- _t -/
def tT : ByteArray := ⟨#[95, 116]⟩
/-- A journal: its disk's state, its records, whether it is damaged. -/
structure Jst where
  s : St
  R : List ByteArray
  dm : Bool
/-- To fill a file. -/
def fillS (s : St) (p d : ByteArray) : Nat × St :=
  if (writeS s (p ++ tT) d).1 ≠ 0 then writeS s (p ++ tT) d else
  if (syncS (writeS s (p ++ tT) d).2 (p ++ tT)).1 ≠ 0 then syncS (writeS s (p ++ tT) d).2 (p ++ tT) else
  renameS (syncS (writeS s (p ++ tT) d).2 (p ++ tT)).2 (p ++ tT) p
def addS (x : Jst) (p r : ByteArray) : Nat × Jst :=
  if (appendS x.s p (Fm.pk r)).1 ≠ 0 then ((appendS x.s p (Fm.pk r)).1, ⟨(appendS x.s p (Fm.pk r)).2, x.R, x.dm⟩) else
  if (syncS (appendS x.s p (Fm.pk r)).2 p).1 ≠ 0 then ((syncS (appendS x.s p (Fm.pk r)).2 p).1, ⟨(syncS (appendS x.s p (Fm.pk r)).2 p).2, x.R, x.dm⟩) else
  (0, ⟨(syncS (appendS x.s p (Fm.pk r)).2 p).2, x.R ++ [r], x.dm⟩)
def resetS (x : Jst) (p : ByteArray) : Nat × Jst :=
  if (fillS x.s p ⟨#[]⟩).1 ≠ 0 then ((fillS x.s p ⟨#[]⟩).1, ⟨(fillS x.s p ⟨#[]⟩).2, x.R, x.dm⟩) else (0, ⟨(fillS x.s p ⟨#[]⟩).2, [], x.dm⟩)
/-- Whether a scan's end tells damage. -/
def bad (e : Nat) : Bool := decide (e = 6) || decide (e = 3)
def openS (s : St) (p : ByteArray) : Nat × Jst :=
  if kind s.L p = 0 then ((fillS s p ⟨#[]⟩).1, ⟨(fillS s p ⟨#[]⟩).2, [], false⟩) else
  if (readS s p).2 ≠ 0 then ((readS s p).2, ⟨s, [], false⟩) else
  if (Fm.sc (readS s p).1 0).2.2 = 0 then (0, ⟨s, (Fm.sc (readS s p).1 0).1, bad (Fm.sc (readS s p).1 0).2.2⟩) else
  ((fillS s p ((readS s p).1.extract 0 (Fm.sc (readS s p).1 0).2.1)).1, ⟨(fillS s p ((readS s p).1.extract 0 (Fm.sc (readS s p).1 0).2.1)).2, (Fm.sc (readS s p).1 0).1, bad (Fm.sc (readS s p).1 0).2.2⟩)

/-! Memory -/
/-- What a call leaves of an object. -/
def LeftA {α : Type} (Obj : World → (Nat → Prop) → α → Prop) (w : World) (F : Nat → Prop) (x : α) (w' : World) : Prop := ∃ F', Obj w' F' x ∧ Chg F w w' ∧ ∀ g, F' g → F g ∨ w.heap.size ≤ g
/-- The journal at block j, over the disk O at b: a log's cells, its records are a row of its own. -/
structure JAt (O : World → (Nat → Prop) → St → Prop) (T : TypeId) (b j : Nat) (p : ByteArray) (v : Value) (Fd : Nat → Prop) (w : World) (F : Nat → Prop) (x : Jst) : Prop where
  dsk : O w Fd x.s
  blk : w.heap[j]? = some (.cells #[.pointer (some ⟨b, 0, none⟩), .string p, v, .bool x.dm] T (0, 0))
  row : Fr.Texts w 0 v x.R
  ne : v.ownBlock ≠ some j
  off : ∀ i, Fd i → i ≠ j ∧ v.ownBlock ≠ some i
  foot : ∀ i, F i ↔ Fd i ∨ i = j ∨ v.ownBlock = some i
def Jn (O : World → (Nat → Prop) → St → Prop) (T : TypeId) (b j : Nat) (p : ByteArray) (w : World) (F : Nat → Prop) (x : Jst) : Prop := ∃ v Fd, JAt O T b j p v Fd w F x
theorem JAt.lt {O : World → (Nat → Prop) → St → Prop} (k : Dk.Kind O) {T : TypeId} {b j : Nat} {p : ByteArray} {v : Value} {Fd : Nat → Prop} {w : World} {F : Nat → Prop} {x : Jst} (h : JAt O T b j p v Fd w F x) : ∀ i, F i → i < w.heap.size := fun i hi => by
  rcases (h.foot i).1 hi with h1 | rfl | h1
  · exact k.lt h.dsk i h1
  · exact (Array.getElem?_eq_some_iff.1 h.blk).1
  · exact (h.row.lt i h1).2
theorem JAt.kept {O : World → (Nat → Prop) → St → Prop} (k : Dk.Kind O) {T : TypeId} {b j : Nat} {p : ByteArray} {v : Value} {Fd : Nat → Prop} {w w1 : World} {F : Nat → Prop} {x : Jst} (h : JAt O T b j p v Fd w F x) (hk : ∀ i, F i → w1.heap[i]? = w.heap[i]?) : JAt O T b j p v Fd w1 F x :=
  ⟨k.kept h.dsk (fun i hi => hk i ((h.foot i).2 (.inl hi))), (hk j ((h.foot j).2 (.inr (.inl rfl)))).trans h.blk, own_kept h.row (fun g hg => hk g ((h.foot g).2 (.inr (.inr hg)))), h.ne, h.off, h.foot⟩
theorem JAt.below {O : World → (Nat → Prop) → St → Prop} (k : Dk.Kind O) {T : TypeId} {b j : Nat} {p : ByteArray} {v : Value} {Fd : Nat → Prop} {w w1 : World} {F : Nat → Prop} {x : Jst} (h : JAt O T b j p v Fd w F x) (hb : Below w.heap.size w w1) : JAt O T b j p v Fd w1 F x := h.kept k (fun i hi => hb.block i (h.lt k i hi))
theorem JAt.cell {O : World → (Nat → Prop) → St → Prop} {T : TypeId} {b j : Nat} {p : ByteArray} {v : Value} {Fd : Nat → Prop} {w : World} {F : Nat → Prop} {x : Jst} (h : JAt O T b j p v Fd w F x) :
    w.cell? ⟨j, 0, none⟩ = some (.pointer (some ⟨b, 0, none⟩)) ∧ w.cell? ⟨j, 1, none⟩ = some (.string p) ∧ w.cell? ⟨j, 2, none⟩ = some v ∧ w.cell? ⟨j, 3, none⟩ = some (.bool x.dm) := by
  have hb := h.blk
  refine ⟨?_, ?_, ?_, ?_⟩ <;> · unfold World.cell?; rw [hb]; rfl
theorem JAt.warm {O : World → (Nat → Prop) → St → Prop} {T : TypeId} {b j : Nat} {p : ByteArray} {v : Value} {Fd : Nat → Prop} {w : World} {F : Nat → Prop} {x : Jst} (h : JAt O T b j p v Fd w F x) (q : Nat) : w.frozen? ⟨j, q, none⟩ = false := by
  unfold World.frozen?
  rw [h.blk]
  simp
theorem JAt.disk_left {O : World → (Nat → Prop) → St → Prop} (k : Dk.Kind O) {T : TypeId} {b j : Nat} {p : ByteArray} {v : Value} {Fd : Nat → Prop} {w w1 : World} {F : Nat → Prop} {x : Jst} {s' : St} (h : JAt O T b j p v Fd w F x) (hl : Dk.Left O w Fd s' w1) :
    ∃ Fd' F', JAt O T b j p v Fd' w1 F' ⟨s', x.R, x.dm⟩ ∧ Chg F w w1 ∧ ∀ g, F' g → F g ∨ w.heap.size ≤ g := by
  obtain ⟨Fd', h1, h2, h3⟩ := hl
  have hj : j < w.heap.size := (Array.getElem?_eq_some_iff.1 h.blk).1
  have hvl := h.row.lt
  refine ⟨Fd', fun i => Fd' i ∨ i = j ∨ v.ownBlock = some i, ⟨h1, (h2.block j hj (fun hh => (h.off j hh).1 rfl)).trans h.blk, own_kept h.row (fun g hg => h2.block g (hvl g hg).2 (fun hh => (h.off g hh).2 hg)), h.ne, fun i hi => ?_, fun i => Iff.rfl⟩, h2.mono (fun i hi => (h.foot i).2 (.inl hi)), fun g hg => ?_⟩
  · rcases h3 i hi with hh | hh
    · exact h.off i hh
    · exact ⟨by omega, fun e => by have := (hvl i e).2; omega⟩
  · rcases hg with hg | hg
    · exact (h3 g hg).imp (fun hh => (h.foot g).2 (.inl hh)) id
    · exact .inl ((h.foot g).2 (.inr hg))
theorem jn_kind {O : World → (Nat → Prop) → St → Prop} (k : Dk.Kind O) (T : TypeId) (b j : Nat) (p : ByteArray) : (∀ {w F x}, Jn O T b j p w F x → ∀ i, F i → i < w.heap.size) ∧ (∀ {w w1 F x}, Jn O T b j p w F x → (∀ i, F i → w1.heap[i]? = w.heap[i]?) → Jn O T b j p w1 F x) :=
  ⟨fun ⟨v, Fd, h⟩ => h.lt k, fun ⟨v, Fd, h⟩ hk => ⟨v, Fd, h.kept k hk⟩⟩
theorem LeftA.trans {α : Type} {Obj : World → (Nat → Prop) → α → Prop} {w w1 w2 : World} {F F1 : Nat → Prop} {y : α} (hc : Chg F w w1) (hn : ∀ g, F1 g → F g ∨ w.heap.size ≤ g) (h : LeftA Obj w1 F1 y w2) : LeftA Obj w F y w2 := by
  obtain ⟨F2, h1, h2, h3⟩ := h
  have hs := hc.size
  exact ⟨F2, h1, hc.trans h2 hn, fun g hg => (h3 g hg).elim (fun hh => hn g hh) (fun hh => .inr (by omega))⟩
theorem left_trans {O : World → (Nat → Prop) → St → Prop} {w w1 w2 : World} {F F1 : Nat → Prop} {s : St} (hc : Chg F w w1) (hn : ∀ g, F1 g → F g ∨ w.heap.size ≤ g) (h : Dk.Left O w1 F1 s w2) : Dk.Left O w F s w2 := by
  obtain ⟨F2, h1, h2, h3⟩ := h
  have hs := hc.size
  exact ⟨F2, h1, hc.trans h2 hn, fun g hg => (h3 g hg).elim (fun hh => hn g hh) (fun hh => .inr (by omega))⟩
/-- A journal behind a call that left its records' row and path alone. -/
def Mid (O : World → (Nat → Prop) → St → Prop) (T : TypeId) (b j : Nat) (p : ByteArray) (v : Value) (w : World) (F : Nat → Prop) (x : Jst) (W : World) : Prop := ∃ Fd' F', JAt O T b j p v Fd' W F' x ∧ Chg F w W ∧ ∀ g, F' g → F g ∨ w.heap.size ≤ g
theorem Mid.left {O : World → (Nat → Prop) → St → Prop} {T : TypeId} {b j : Nat} {p : ByteArray} {v : Value} {w W : World} {F : Nat → Prop} {x : Jst} (h : Mid O T b j p v w F x W) : LeftA (Jn O T b j p) w F x W := by
  obtain ⟨Fd, F', q, h1, h2⟩ := h
  exact ⟨F', ⟨v, Fd, q⟩, h1, h2⟩
theorem Mid.of {O : World → (Nat → Prop) → St → Prop} (k : Dk.Kind O) {T : TypeId} {b j : Nat} {p : ByteArray} {v : Value} {w W : World} {F Fd : Nat → Prop} {x : Jst} (h : JAt O T b j p v Fd w F x) (hb : Below w.heap.size w W) : Mid O T b j p v w F x W := ⟨Fd, F, h.below k hb, Chg.of_below hb, fun g hg => .inl hg⟩
theorem Mid.trans {O : World → (Nat → Prop) → St → Prop} {T : TypeId} {b j : Nat} {p : ByteArray} {v : Value} {w W W2 : World} {F F1 : Nat → Prop} {x : Jst} (hc : Chg F w W) (hn : ∀ g, F1 g → F g ∨ w.heap.size ≤ g) (h : Mid O T b j p v W F1 x W2) : Mid O T b j p v w F x W2 := by
  obtain ⟨Fd, F2, q, h1, h2⟩ := h
  have hs := hc.size
  exact ⟨Fd, F2, q, hc.trans h1 hn, fun g hg => (h2 g hg).elim (fun hh => hn g hh) (fun hh => .inr (by omega))⟩
theorem Mid.below {O : World → (Nat → Prop) → St → Prop} (k : Dk.Kind O) {T : TypeId} {b j : Nat} {p : ByteArray} {v : Value} {w W W2 : World} {F : Nat → Prop} {x : Jst} (h : Mid O T b j p v w F x W) (hb : Below W.heap.size W W2) : Mid O T b j p v w F x W2 := by
  obtain ⟨Fd, F', q, h1, h2⟩ := h
  exact Mid.trans h1 h2 (Mid.of k q hb)
/-- A field of the journal's own block has been written: the path stays. -/
theorem JAt.poke {O : World → (Nat → Prop) → St → Prop} (k : Dk.Kind O) {T : TypeId} {b j : Nat} {p : ByteArray} {v v' : Value} {Fd : Nat → Prop} {w w1 : World} {F : Nat → Prop} {x : Jst} {R : List ByteArray} {dm : Bool} (h : JAt O T b j p v Fd w F x) (hc : Chg (fun i => i = j ∨ v.ownBlock = some i) w w1)
    (hb : w1.heap[j]? = some (.cells #[.pointer (some ⟨b, 0, none⟩), .string p, v', .bool dm] T (0, 0))) (hr : Fr.Texts w1 0 v' R) (hv : ∀ i, v'.ownBlock = some i → v.ownBlock = some i ∨ w.heap.size ≤ i) :
    Mid O T b j p v' w F ⟨x.s, R, dm⟩ w1 := by
  have hvl := h.row.lt
  refine ⟨Fd, fun i => Fd i ∨ i = j ∨ v'.ownBlock = some i, ⟨k.kept h.dsk (fun i hi => hc.block i (k.lt h.dsk i hi) (fun hh => by rcases hh with hh | hh; exact (h.off i hi).1 hh; exact (h.off i hi).2 hh)), hb, hr, fun e => by rcases hv j e with hh | hh; exact h.ne hh; have := (Array.getElem?_eq_some_iff.1 h.blk).1; omega, fun i hi => ⟨(h.off i hi).1, fun e => ?_⟩, fun i => Iff.rfl⟩, hc.mono (fun i hi => (h.foot i).2 (.inr hi)), fun g hg => ?_⟩
  · rcases hv i e with hh | hh
    · exact (h.off i hi).2 hh
    · have := k.lt h.dsk i hi; omega
  · rcases hg with hg | hg | hg
    · exact .inl ((h.foot g).2 (.inl hg))
    · exact .inl ((h.foot g).2 (.inr (.inl hg)))
    · exact (hv g hg).imp (fun hh => (h.foot g).2 (.inr (.inr hh))) id
theorem jat_left {O : World → (Nat → Prop) → St → Prop} {T : TypeId} {b j : Nat} {p : ByteArray} {v : Value} {Fd F F' : Nat → Prop} {w w1 : World} {x : Jst} (h : JAt O T b j p v Fd w1 F' x) (hc : Chg F w w1) (hn : ∀ g, F' g → F g ∨ w.heap.size ≤ g) : LeftA (Jn O T b j p) w F x w1 := ⟨F', ⟨v, Fd, h⟩, hc, hn⟩
end Go.Proofs.Ytbghokdlnnaeeaa.Wl
