/- Texts of this seat, one behind the other. -/
import Derived.Test.YtaoblifmggkpoaaRows
import Derived.WalkKit
import Derived.WalkLawsBesides
import Derived.WalkSpells
import Derived.LoopTactic
import Derived.Lib.Hide
import Derived.Deep.AppendLies
import Derived.Lib.Strings
import Derived.Lib.Bytealg
import Derived.Lib.IndexLaws
import Derived.Laws.RangeAny
import Derived.Shelf.RegionOpenPlain
import Derived.OwnWalk
import Derived.Deep.QuietTactic
import Derived.BigQuiet
import Derived.Maps.AppendAt
import Derived.Shelf.Strings.Builder1
import Derived.Shelf.Strings.Builder2
import Derived.Shelf.Strings.OnBuilder
import Derived.Shelf.Strings.Search1
import Derived.Shelf.Strings.Search2
import Derived.Shelf.Strings.Search3
import Derived.Shelf.Strings.Cut
import Derived.Shelf.Strings.Count
import Derived.Shelf.LaysM
import Derived.Shelf.Strings.Shaped
import Derived.Test.YtaoblifmggkpoaaProg
import Derived.Lib.SliceRun
namespace Go.Proofs.Ytaoblifmggkpoaa.Tx
open Go.RowKit
set_option linter.unusedVariables false
theorem info9 : (Try.prog.info? 9).map (fun i => (i.zero, i.size, i.bytes)) = some (some (.string ⟨#[]⟩), 1, 16) := by kernel_rfl
theorem below_call {w w1 w2 : World} (h : Below w.heap.size w w1) (h2 : Below w1.heap.size w1 w2) : Below w.heap.size w w2 := h.trans (h2.mono h.size)
theorem below_step {w wr w1 : World} {e : TypeId} {size n : Nat} {v : Value} {xs : List Value} {o : Obj} (hb : Below w.heap.size w wr) (hown : wr.ownsRow w.heap.size e size v n xs) (hg : (wr.alloc o).grownBy w1 v.ownBlock) : Below w.heap.size w w1 :=
  (hb.alloc hb.size o).grown hg (by have := hb.size; simp; omega) (fun k hk => (hown.lt k hk).1)
theorem len_l (s : ByteArray) : s.data.toList.length = s.size := by rw [Array.length_toList]; rfl
theorem gd (s : ByteArray) (k : Nat) (h : k < s.size) : s.data.toList.getD k 0 = s[k] := by
  have h' : k < s.data.size := h
  rw [List.getD_eq_getElem?_getD, Array.getElem?_toList, Array.getElem?_eq_getElem h']
  rfl
theorem mk_len (l : List UInt8) : (⟨l.toArray⟩ : ByteArray).size = l.length := by rw [ByteArray.size, List.size_toArray]
def tb (l : List UInt8) : ByteArray := ⟨l.toArray⟩
theorem tb_list (l : List UInt8) : (tb l).data.toList = l := rfl
theorem tb_of (s : ByteArray) : tb s.data.toList = s := by
  apply ByteArray.ext
  rfl
theorem tb_size (l : List UInt8) : (tb l).size = l.length := mk_len l
def sv (s : ByteArray) : Value := .string s
theorem sv_one (l : List ByteArray) : ∀ u ∈ l.map sv, u.oneCell' = true := by
  intro u hu
  obtain ⟨s, _, rfl⟩ := List.mem_map.1 hu
  rfl
def Texts (w : World) (B : Nat) (v : Value) (l : List ByteArray) : Prop := w.ownsRow B 9 1 v l.length (l.map sv)
theorem Texts.below {w w1 : World} {B : Nat} {v : Value} {l : List ByteArray} (h : Texts w B v l) (hb : Below w.heap.size w w1) : Texts w1 B v l := by
  refine ⟨h.1, ?_⟩
  rcases h.2 with h0 | ⟨g', cap', cur, hv, hg, hh, r⟩
  · exact .inl h0
  · exact .inr ⟨g', cap', cur, hv, hg, (hb.block g' (Array.getElem?_eq_some_iff.1 hh).1).trans hh, r⟩
def Strs (w : World) (a : Option Addr) (n : Nat) (l : List ByteArray) : Prop := l.length = n ∧ (n = 0 ∨ ∃ b off, a = some ⟨b, off, none⟩ ∧ b < w.heap.size ∧ ∀ k x, l[k]? = some x → w.cell? ⟨b, off + k, none⟩ = some (.string x))
theorem Strs.below {w w1 : World} {a : Option Addr} {n : Nat} {l : List ByteArray} (h : Strs w a n l) (hb : Below w.heap.size w w1) : Strs w1 a n l := by
  refine ⟨h.1, ?_⟩
  rcases h.2 with h0 | ⟨b, off, ha, hlt, hc⟩
  · exact .inl h0
  · exact .inr ⟨b, off, ha, Nat.lt_of_lt_of_le hlt hb.size, fun k x hx => (hb.cell (p := ⟨b, off + k, none⟩) hlt).trans (hc k x hx)⟩
theorem Texts.form {w : World} {B : Nat} {v : Value} {l : List ByteArray} (h : Texts w B v l) : ∃ a c, v = .slice a l.length c ∧ Strs w a l.length l ∧ l.length ≤ c ∧ c ≤ maxLen := by
  have hh := h
  rcases h.2 with ⟨rfl, h0⟩ | ⟨g, cap, cur, rfl, hg, hh2, hn, hc, _⟩
  · exact ⟨none, 0, by rw [h0], ⟨rfl, .inl h0⟩, by omega, Nat.zero_le _⟩
  · refine ⟨some ⟨g, 0, none⟩, cap, rfl, ⟨rfl, .inr ⟨g, 0, rfl, (Array.getElem?_eq_some_iff.1 hh2).1, fun k x hx => ?_⟩⟩, hn, hc⟩
    have := hh.cells (g := g) rfl k (sv x) (by rw [List.getElem?_map, hx]; rfl)
    rw [← WideShapes.add_plain]
    exact this
end Go.Proofs.Ytaoblifmggkpoaa.Tx

namespace Go.Proofs.Ytaoblifmggkpoaa.Lm
open Tx
set_option linter.unusedVariables false
def spl : List UInt8 → List (List UInt8)
  | [] => []
  | c :: r => if c = 10 then [10] :: spl r else
    match spl r with
    | [] => [[c]]
    | x :: xs => (c :: x) :: xs
def cutB : List UInt8 → List UInt8
  | [] => []
  | c :: r => if c = 10 then r else cutB r
def cutL : List UInt8 → List UInt8
  | [] => []
  | c :: r => if c = 10 then [10] else c :: cutL r
theorem spl_step (l : List UInt8) (h : l ≠ []) : spl l = cutL l :: spl (cutB l) := by
  induction l with
  | nil => exact absurd rfl h
  | cons c r ih =>
    rw [spl, cutL, cutB]
    by_cases hc : c = 10
    · rw [if_pos hc, if_pos hc, if_pos hc]
    · rw [if_neg hc, if_neg hc, if_neg hc]
      cases r with
      | nil => simp [spl, cutL, cutB]
      | cons d r => rw [ih (by simp)]
theorem cut_join (l : List UInt8) : cutL l ++ cutB l = l := by
  induction l with
  | nil => rfl
  | cons c r ih =>
    rw [cutL, cutB]
    by_cases hc : c = 10
    · rw [if_pos hc, if_pos hc, hc]; rfl
    · rw [if_neg hc, if_neg hc, List.cons_append, ih]
theorem cutL_ne {l : List UInt8} (h : l ≠ []) : cutL l ≠ [] := by
  cases l with
  | nil => exact absurd rfl h
  | cons c r => rw [cutL]; split <;> simp
theorem cutL_pos {l : List UInt8} (h : l ≠ []) : 0 < (cutL l).length := List.length_pos_iff.2 (cutL_ne h)
theorem cut_len (l : List UInt8) : (cutL l).length + (cutB l).length = l.length := by rw [← List.length_append, cut_join]
theorem spl_flat (l : List UInt8) : (spl l).flatten = l := by
  induction l with
  | nil => rfl
  | cons c r ih =>
    rw [spl]
    split
    · rename_i h; rw [List.flatten_cons, ih, h]; rfl
    · split
      · rename_i h; rw [h] at ih; simp at ih; simp [ih]
      · rename_i x xs h; rw [h] at ih; simp at ih; simp [ih]
theorem spl_len (l : List UInt8) : (spl l).length ≤ l.length := by
  induction l with
  | nil => simp [spl]
  | cons c r ih =>
    rw [spl]
    split
    · simp; omega
    · split
      · simp
      · rename_i x xs h
        rw [h] at ih
        simp at ih ⊢
        omega
def ends : List UInt8 → Bool
  | [] => false
  | [c] => decide (c = 10)
  | _ :: d :: r => ends (d :: r)
theorem ends_snoc (l : List UInt8) (c : UInt8) : ends (l ++ [c]) = decide (c = 10) := by
  induction l with
  | nil => rfl
  | cons x r ih =>
    cases r with
    | nil => rfl
    | cons y r => exact ih
theorem ends_get (l : List UInt8) (h : 0 < l.length) : ends l = decide (l[l.length - 1] = 10) := by
  obtain ⟨l', c, rfl⟩ : ∃ l' c, l = l' ++ [c] := ⟨l.dropLast, l.getLast (by intro e; simp [e] at h), (List.dropLast_concat_getLast _).symm⟩
  rw [ends_snoc]
  simp
def cnt (l : List UInt8) : Nat := if l = [] ∨ ends l = true then l.count 10 else l.count 10 + 1
theorem cnt_eq (l : List UInt8) : cnt l = (spl l).length := by
  induction l with
  | nil => simp [cnt, spl]
  | cons c r ih =>
    cases r with
    | nil =>
      by_cases hc : c = 10
      · simp [cnt, spl, ends, hc]
      · simp [cnt, spl, ends, hc]
    | cons d r =>
      have e : ends (c :: d :: r) = ends (d :: r) := rfl
      have hs : spl (d :: r) ≠ [] := by rw [spl_step _ (by simp)]; simp
      have x : cnt (c :: d :: r) = (if c = 10 then 1 else 0) + cnt (d :: r) := by
        rw [cnt, cnt, e]
        by_cases hc : c = 10
        · rw [if_pos hc, hc]
          by_cases hd : ends (d :: r) = true
          · rw [if_pos (.inr hd), if_pos (.inr hd), List.count_cons_self]; omega
          · rw [if_neg (by simp [hd]), if_neg (by simp [hd]), List.count_cons_self]; omega
        · rw [if_neg hc]
          by_cases hd : ends (d :: r) = true
          · rw [if_pos (.inr hd), if_pos (.inr hd), List.count_cons_of_ne hc]; omega
          · rw [if_neg (by simp [hd]), if_neg (by simp [hd]), List.count_cons_of_ne hc]; omega
      rw [x, ih]
      conv => rhs; rw [spl]
      by_cases hc : c = 10
      · rw [if_pos hc, if_pos hc, List.length_cons]; omega
      · rw [if_neg hc, if_neg hc]
        cases h : spl (d :: r) with
        | nil => exact absurd h hs
        | cons y ys => simp
theorem cutL_in (l : List UInt8) : ∀ k, k + 1 < (cutL l).length → ∀ c, (cutL l)[k]? = some c → c ≠ 10 := by
  induction l with
  | nil => intro k hk; simp [cutL] at hk
  | cons x r ih =>
    intro k hk c hc
    rw [cutL] at hk hc
    by_cases hx : x = 10
    · rw [if_pos hx] at hk; simp at hk
    · rw [if_neg hx] at hk hc
      cases k with
      | zero => simp at hc; exact hc ▸ hx
      | succ k => exact ih k (by simpa using hk) c (by simpa using hc)
theorem cutL_end (l : List UInt8) (h : cutB l ≠ []) : ends (cutL l) = true := by
  induction l with
  | nil => exact absurd rfl h
  | cons x r ih =>
    rw [cutB] at h
    rw [cutL]
    by_cases hx : x = 10
    · rw [if_pos hx]; rfl
    · rw [if_neg hx] at h ⊢
      have h1 := ih h
      cases hc : cutL r with
      | nil => rw [hc] at h1; cases h1
      | cons y ys => rw [hc] at h1; exact h1
def Good (ls : List (List UInt8)) : Prop := ∀ i x, ls[i]? = some x → 0 < x.length ∧ (∀ k, k + 1 < x.length → ∀ c, x[k]? = some c → c ≠ 10) ∧ (i + 1 < ls.length → ends x = true)
theorem good_cons {x : List UInt8} {ls : List (List UInt8)} (h : Good ls) (h0 : 0 < x.length) (h1 : ∀ k, k + 1 < x.length → ∀ c, x[k]? = some c → c ≠ 10) (h2 : 0 < ls.length → ends x = true) : Good (x :: ls) := by
  intro i y hy
  cases i with
  | zero =>
    simp at hy
    subst hy
    exact ⟨h0, h1, fun h => h2 (by simpa using h)⟩
  | succ i =>
    obtain ⟨a, b, c⟩ := h i y (by simpa using hy)
    exact ⟨a, b, fun h => c (by simpa using h)⟩
theorem spl_good (n : Nat) : ∀ l : List UInt8, l.length ≤ n → Good (spl l) := by
  induction n with
  | zero => intro l hl; obtain rfl := List.length_eq_zero_iff.1 (by omega : l.length = 0); intro i x hx; simp [spl] at hx
  | succ n ih =>
    intro l hl
    by_cases h : l = []
    · subst h; intro i x hx; simp [spl] at hx
    · rw [spl_step l h]
      have h1 := cutL_pos h
      have h2 := cut_len l
      refine good_cons (ih _ (by omega)) h1 (cutL_in l) (fun h3 => cutL_end l fun e => ?_)
      rw [e] at h3
      simp [spl] at h3
def clo (x : List UInt8) : List UInt8 := if ends x = true then x else x ++ [10]
def cls : List (List UInt8) → List (List UInt8)
  | [] => []
  | [x] => [clo x]
  | x :: y :: r => x :: cls (y :: r)
theorem cls_len (l : List (List UInt8)) : (cls l).length = l.length := by
  induction l with
  | nil => rfl
  | cons x r ih =>
    cases r with
    | nil => rfl
    | cons y r => rw [cls, List.length_cons, ih]; rfl
theorem cls_snoc (l : List (List UInt8)) (x : List UInt8) : cls (l ++ [x]) = l ++ [clo x] := by
  induction l with
  | nil => rfl
  | cons y r ih =>
    cases r with
    | nil => rfl
    | cons z r => exact congrArg (y :: ·) ih
theorem ends_clo (x : List UInt8) : ends (clo x) = true := by
  unfold clo
  split
  · assumption
  · rw [ends_snoc]; rfl
def Full (ls : List (List UInt8)) : Prop := ∀ x, x ∈ ls → ends x = true ∧ ∀ k, k + 1 < x.length → ∀ c, x[k]? = some c → c ≠ 10
theorem cut_full (x r : List UInt8) (h : ends x = true) (h2 : ∀ k, k + 1 < x.length → ∀ c, x[k]? = some c → c ≠ 10) : cutL (x ++ r) = x ∧ cutB (x ++ r) = r := by
  induction x with
  | nil => cases h
  | cons c x ih =>
    cases x with
    | nil =>
      obtain rfl : c = 10 := by simpa [ends] using h
      exact ⟨rfl, rfl⟩
    | cons d x =>
      have hc : c ≠ 10 := h2 0 (by simp) c rfl
      obtain ⟨a, b⟩ := ih h (fun k hk e he => h2 (k + 1) (by simpa using hk) e (by simpa using he))
      rw [List.cons_append, cutL, cutB, if_neg hc, if_neg hc, a, b]
      exact ⟨rfl, rfl⟩
theorem full_back (ls : List (List UInt8)) (h : Full ls) : spl ls.flatten = ls := by
  induction ls with
  | nil => rfl
  | cons x ls ih =>
    obtain ⟨h1, h2⟩ := h x (by simp)
    have hx : x ≠ [] := fun e => by rw [e] at h1; cases h1
    rw [List.flatten_cons, spl_step _ (by simp [hx]), (cut_full x _ h1 h2).1, (cut_full x _ h1 h2).2, ih (fun y hy => h y (by simp [hy]))]
theorem clo_in (x : List UInt8) (h : ∀ k, k + 1 < x.length → ∀ c, x[k]? = some c → c ≠ 10) : ∀ k, k + 1 < (clo x).length → ∀ c, (clo x)[k]? = some c → c ≠ 10 := by
  intro k hk c hc
  unfold clo at hk hc
  split at hk
  · rename_i he
    rw [if_pos he] at hc
    exact h k hk c hc
  · rename_i he
    rw [if_neg he] at hc
    simp at hk
    by_cases h1 : k + 1 < x.length
    · exact h k h1 c (by rwa [List.getElem?_append_left (by omega)] at hc)
    · have e : k = x.length - 1 := by omega
      have hp : 0 < x.length := by omega
      rw [List.getElem?_append_left (by omega), List.getElem?_eq_getElem (by omega)] at hc
      injection hc with hc
      subst e
      rw [ends_get x hp] at he
      intro h2
      rw [h2] at hc
      exact he (decide_eq_true hc)
theorem cls_full (ls : List (List UInt8)) (h : Good ls) : Full (cls ls) := by
  rcases List.eq_nil_or_concat ls with rfl | ⟨l, x, rfl⟩
  · intro y hy; simp [cls] at hy
  · rw [List.concat_eq_append] at h ⊢
    rw [cls_snoc]
    intro y hy
    rcases List.mem_append.1 hy with hy | hy
    · obtain ⟨i, hi, rfl⟩ := List.mem_iff_getElem.1 hy
      obtain ⟨_, a, b⟩ := h i l[i] (by rw [List.getElem?_append_left hi, List.getElem?_eq_getElem hi])
      exact ⟨b (by simp; omega), a⟩
    · obtain rfl := List.mem_singleton.1 hy
      obtain ⟨_, a, _⟩ := h l.length x (by simp)
      exact ⟨ends_clo x, clo_in x a⟩
theorem cls_back (l : List UInt8) : spl (cls (spl l)).flatten = cls (spl l) := full_back _ (cls_full _ (spl_good _ l (Nat.le_refl _)))
def lns (s : ByteArray) : List ByteArray := (spl s.data.toList).map tb
def clt (l : List ByteArray) : List ByteArray := (cls (l.map (·.data.toList))).map tb
def cat (l : List ByteArray) : ByteArray := tb (l.map (·.data.toList)).flatten
theorem back_tb (l : List (List UInt8)) : (l.map tb).map (·.data.toList) = l := by
  rw [List.map_map]
  conv => rhs; rw [← List.map_id l]
  rfl
theorem tb_back (l : List ByteArray) : (l.map (·.data.toList)).map tb = l := by
  rw [List.map_map]
  conv => rhs; rw [← List.map_id l]
  exact List.map_congr_left fun s _ => tb_of s
theorem lns_len (s : ByteArray) : (lns s).length = (spl s.data.toList).length := by rw [lns, List.length_map]
theorem lns_le (s : ByteArray) : (lns s).length ≤ s.size := by rw [lns_len, ← len_l]; exact spl_len _
theorem lns_cnt (s : ByteArray) : cnt s.data.toList = (lns s).length := by rw [lns_len, cnt_eq]
theorem lns_cat (s : ByteArray) : cat (lns s) = s := by rw [cat, lns, back_tb, spl_flat, tb_of]
theorem clt_len (l : List ByteArray) : (clt l).length = l.length := by rw [clt, List.length_map, cls_len, List.length_map]
theorem clt_back (s : ByteArray) : lns (cat (clt (lns s))) = clt (lns s) := by
  have e : (cat (clt (lns s))).data.toList = (cls (spl s.data.toList)).flatten := by
    rw [cat, tb_list, clt, back_tb, lns, back_tb]
  rw [lns, e, cls_back, clt, lns, back_tb]
theorem cat_size (l : List ByteArray) : (cat l).size = (l.map (·.size)).sum := by
  induction l with
  | nil => rfl
  | cons x l ih =>
    have h : (cat (x :: l)).size = x.size + (cat l).size := by
      simp only [cat, tb, ByteArray.size, List.map_cons, List.flatten_cons, List.size_toArray, List.length_append, Array.length_toList]
    rw [h, ih]; simp
theorem cat_snoc (l : List ByteArray) (x : ByteArray) : cat (l ++ [x]) = cat l ++ x := by
  apply ByteArray.ext
  simp [cat, tb]
theorem cat_take (l : List ByteArray) (k : Nat) (h : k < l.length) : cat (l.take (k + 1)) = cat (l.take k) ++ l[k] := by
  rw [← cat_snoc, List.take_succ_eq_append_getElem h]
theorem cat_take_le (l : List ByteArray) (k : Nat) : (cat (l.take k)).size ≤ (cat l).size := by
  rw [cat_size, cat_size]
  conv => rhs; rw [← List.take_append_drop k l]
  rw [List.map_append, List.sum_append]
  omega
def clot (s : ByteArray) : ByteArray := if ends s.data.toList = true then s else s ++ ⟨#[10]⟩
theorem clot_eq (s : ByteArray) : tb (clo s.data.toList) = clot s := by
  unfold clo clot
  split
  · rw [tb_of]
  · apply ByteArray.ext
    apply Array.toList_inj.1
    simp [tb]
theorem clt_snoc (l : List ByteArray) (x : ByteArray) : clt (l ++ [x]) = l ++ [clot x] := by
  rw [clt, List.map_append, List.map_singleton, cls_snoc, List.map_append, List.map_singleton, tb_back, clot_eq]
theorem clt_nil : clt [] = [] := rfl
end Go.Proofs.Ytaoblifmggkpoaa.Lm

namespace Go.Proofs.Ytaoblifmggkpoaa.Ln
open Go.RowKit Tx Lm
set_option linter.unusedVariables false
set_option maxRecDepth 100000 in
set_option maxHeartbeats 1000000 in
theorem count_any (s : ByteArray) (w : World) :
    Calls Try.prog 19 #[.string s, .string ⟨#[10]⟩] w fun e w' => e = .returned (.int .i64 (s.data.toList.count 10 : Nat)) ∧ w = w' := by
  go_enter Try.func19, Try.ntmps19
  go_wp2
  rw [run_callFunc_extern Try.func26 (by kernel_rfl) (by kernel_rfl) (by kernel_rfl) (e := Extern.BytealgCount.count) (by kernel_rfl), Lib.run_countString]
  simp only [Result.andThen]
  rw [Oper.upon_value]
  go_wp2
  go_ret
  exact ⟨rfl, rfl⟩
set_option maxRecDepth 100000 in
set_option maxHeartbeats 1000000 in
theorem indexByte_any (s : ByteArray) (w : World) :
    Calls Try.prog 36 #[.string s, .int .u8 10] w fun e w' => e = .returned (.int .i64 (Lib.indexByte s.data.toList 10)) ∧ w = w' := by
  go_enter Try.func36, Try.ntmps36
  go_wp2
  rw [run_callFunc_extern Try.func42 (by kernel_rfl) (by kernel_rfl) (by kernel_rfl) (e := Extern.BytealgIndexByte.indexByte) (by kernel_rfl), Lib.run_indexByteString]
  simp only [Result.andThen]
  rw [Oper.upon_value]
  go_wp2
  go_ret
  exact ⟨rfl, rfl⟩
set_option maxRecDepth 100000 in
set_option maxHeartbeats 1000000 in
theorem indexByte_zero (s : ByteArray) (w : World) :
    Calls Try.prog 36 #[.string s, .int .u8 0] w fun e w' => e = .returned (.int .i64 (Lib.indexByte s.data.toList 0)) ∧ w = w' := by
  go_enter Try.func36, Try.ntmps36
  go_wp2
  rw [run_callFunc_extern Try.func42 (by kernel_rfl) (by kernel_rfl) (by kernel_rfl) (e := Extern.BytealgIndexByte.indexByte) (by kernel_rfl), Lib.run_indexByteString]
  simp only [Result.andThen]
  rw [Oper.upon_value]
  go_wp2
  go_ret
  exact ⟨rfl, rfl⟩
set_option maxRecDepth 100000 in
set_option maxHeartbeats 1000000 in
theorem index_any (s : ByteArray) (w : World) :
    Calls Try.prog 32 #[.string s, .string ⟨#[10]⟩] w fun e w' => e = .returned (.int .i64 (Lib.indexByte s.data.toList 10)) ∧ w = w' := by
  go_enter Try.func32, Try.ntmps32
  go_wp2_with (go_at_call 36; refine (indexByte_any _ _).mono ?_; rintro e w' ⟨rfl, rfl⟩)
  · have h : ([10] == s.toList) = true := by assumption
    go_ret
    refine ⟨?_, rfl⟩
    have e : s.data.toList = [10] := by rw [← Lib.toList_data]; exact (beq_iff_eq.1 h).symm
    rw [e]
    simp [Lib.indexByte]
  · go_ret
    exact ⟨rfl, rfl⟩
set_option maxRecDepth 100000 in
set_option maxHeartbeats 1000000 in
theorem index_zero (s : ByteArray) (w : World) :
    Calls Try.prog 32 #[.string s, .string ⟨#[0]⟩] w fun e w' => e = .returned (.int .i64 (Lib.indexByte s.data.toList 0)) ∧ w = w' := by
  go_enter Try.func32, Try.ntmps32
  go_wp2_with (go_at_call 36; refine (indexByte_zero _ _).mono ?_; rintro e w' ⟨rfl, rfl⟩)
  · have h : ([0] == s.toList) = true := by assumption
    go_ret
    refine ⟨?_, rfl⟩
    have e : s.data.toList = [0] := by rw [← Lib.toList_data]; exact (beq_iff_eq.1 h).symm
    rw [e]
    simp [Lib.indexByte]
  · go_ret
    exact ⟨rfl, rfl⟩
set_option maxRecDepth 100000 in
theorem sindex_zero (s : ByteArray) (w : World) :
    Calls Try.prog 27 #[.string s, .string ⟨#[0]⟩] w fun e w' => e = .returned (.int .i64 (Lib.indexByte s.data.toList 0)) ∧ w = w' := by
  go_enter Try.func27, Try.ntmps27
  go_wp2_with (go_at_call 32; refine (index_zero _ _).mono ?_; rintro e w' ⟨rfl, rfl⟩)
  go_ret
  exact ⟨rfl, rfl⟩
theorem byte_there (l : List UInt8) (c : UInt8) : decide (0 ≤ Lib.indexByte l c) = l.contains c := by
  induction l with
  | nil => simp [Lib.indexByte]
  | cons x r ih =>
    rw [Lib.indexByte, List.contains_cons]
    have hge := Lib.indexByte_ge r c
    by_cases hc : x = c
    · rw [if_pos (by simp [hc])]; simp [hc]
    · rw [if_neg (by simpa using hc), ← ih]
      by_cases hn : Lib.indexByte r c = -1
      · rw [if_pos (by simp [hn])]; simp [hn, Ne.symm hc]
      · rw [if_neg (by simp [hn])]
        have h0 : 0 ≤ Lib.indexByte r c := by omega
        simp [h0]
        omega
set_option maxRecDepth 100000 in
theorem contains_zero (s : ByteArray) (w : World) :
    Calls Try.prog 21 #[.string s, .string ⟨#[0]⟩] w fun e w' => e = .returned (.bool (s.data.toList.contains 0)) ∧ w = w' := by
  have HB := Lib.hid (byte_there s.data.toList 0)
  go_enter Try.func21, Try.ntmps21
  go_wp2_with (go_at_call 27; refine (sindex_zero _ _).mono ?_; rintro e w' ⟨rfl, rfl⟩)
  go_ret
  exact ⟨by rw [← HB.out]; rfl, rfl⟩
theorem cut_in (l : List UInt8) (i : Nat) (h : Lib.indexByte l 10 = i) : i < l.length ∧ cutB l = l.drop (i + 1) := by
  induction l generalizing i with
  | nil => simp [Lib.indexByte] at h
  | cons c r ih =>
    rw [Lib.indexByte] at h
    by_cases hc : c = 10
    · rw [if_pos (by simp [hc])] at h
      obtain rfl : i = 0 := by omega
      simp [cutB, hc]
    · rw [if_neg (by simpa using hc)] at h
      have hge := Lib.indexByte_ge r 10
      by_cases hn : Lib.indexByte r 10 = -1
      · rw [if_pos (by simp [hn])] at h
        omega
      · rw [if_neg (by simp [hn])] at h
        obtain ⟨j, rfl⟩ : ∃ j, i = j + 1 := ⟨i - 1, by omega⟩
        obtain ⟨h1, h3⟩ := ih j (by push_cast at h; omega)
        simp [cutB, hc, h3]
        omega
theorem cut_out (l : List UInt8) (h : Lib.indexByte l 10 = -1) : cutB l = [] := by
  induction l with
  | nil => simp [cutB]
  | cons c r ih =>
    rw [Lib.indexByte] at h
    by_cases hc : c = 10
    · rw [if_pos (by simp [hc])] at h
      omega
    · rw [if_neg (by simpa using hc)] at h
      have hge := Lib.indexByte_ge r 10
      by_cases hn : Lib.indexByte r 10 = -1
      · simp [cutB, hc, ih hn]
      · rw [if_neg (by simp [hn])] at h
        omega
def CutTo (s : ByteArray) (w : World) (e : Ending) (w' : World) : Prop := (∃ a b, e = .returned (.tuple #[.string a, .string (tb (cutB s.data.toList)), .bool b])) ∧ ∃ n, w' = w.drewN n
set_option maxRecDepth 100000 in
set_option maxHeartbeats 1000000 in
theorem cutLite_any (s : ByteArray) (w : World) (hs : s.size ≤ 562949953421312) :
    Calls Try.prog 24 #[.string s, .string ⟨#[10]⟩] w (CutTo s w) := by
  have hge := Lib.indexByte_ge s.data.toList 10
  by_cases hm : Lib.indexByte s.data.toList 10 = -1
  · have HE := Lib.hid (cut_out _ hm)
    go_enter Try.func24, Try.ntmps24
    go_wp2_with (go_at_call 32; refine (index_any _ _).mono ?_; rintro e w' ⟨rfl, rfl⟩; rw [hm])
    go_ret3
    unfold CutTo
    rw [HE.out]
    exact ⟨⟨_, _, rfl⟩, 0, rfl⟩
  · obtain ⟨i, hi⟩ : ∃ i : Nat, Lib.indexByte s.data.toList 10 = i := ⟨(Lib.indexByte s.data.toList 10).toNat, by omega⟩
    obtain ⟨hlt, e2⟩ := cut_in _ i hi
    rw [len_l] at hlt
    have x2 : tb (cutB s.data.toList) = s.extract (i + 1) s.size := by
      apply ByteArray.ext
      apply Array.toList_inj.1
      rw [ByteArray.data_extract, Array.toList_extract, List.extract_eq_take_drop, e2]
      rw [List.take_of_length_le (by rw [List.length_drop, len_l]; omega)]
      rfl
    have HX := Lib.hid x2
    have c1 : (0 : Int) ≤ ↑i := by omega
    have c2 : (↑i : Int) ≤ ↑s.size := by omega
    have c3 : (0 : Int) ≤ ↑i + 1 := by omega
    have c4 : (↑i + 1 : Int) ≤ ↑s.size := by omega
    clear e2 x2 hge hm
    go_enter Try.func24, Try.ntmps24
    go_wp2_with (go_at_call 32; refine (index_any _ _).mono ?_; rintro e w' ⟨rfl, rfl⟩; rw [hi])
    go_region
    go_wp2
    go_ret3
    unfold CutTo
    rw [HX.out]
    exact ⟨⟨_, _, rfl⟩, 1, rfl⟩
set_option maxRecDepth 100000 in
set_option maxHeartbeats 1000000 in
theorem cut_any (s : ByteArray) (w : World) (hs : s.size ≤ 562949953421312) :
    Calls Try.prog 18 #[.string s, .string ⟨#[10]⟩] w (CutTo s w) := by
  go_enter Try.func18, Try.ntmps18
  go_wp2_with (go_at_call 24; refine (cutLite_any _ _ hs).mono ?_; rintro e w' ⟨⟨a, b, rfl⟩, n, rfl⟩)
  go_ret3
  exact ⟨⟨_, _, rfl⟩, n, rfl⟩
theorem suf_eq (s : ByteArray) (h : 1 ≤ s.size) : ((s.extract (s.size - 1) s.size).toList == [10]) = ends s.data.toList := by
  rw [ByteArray.toList_eq, ByteArray.data_extract, Array.toList_extract, List.extract_eq_take_drop, ends_get _ (by rw [len_l]; omega)]
  have e : List.take (s.size - (s.size - 1)) (List.drop (s.size - 1) s.data.toList) = [s.data.toList[s.data.toList.length - 1]'(by rw [len_l]; omega)] := by
    have h1 : s.size - (s.size - 1) = 1 := by omega
    have h2 : s.size - 1 < s.data.toList.length := by rw [len_l]; omega
    rw [h1, List.drop_eq_getElem_cons h2]
    simp only [List.take_succ_cons, List.take_zero, len_l]
  rw [e]
  simp
  rfl
set_option maxRecDepth 100000 in
set_option maxHeartbeats 1000000 in
theorem suffixLite_any (s : ByteArray) (w : World) (hs : s.size ≤ 562949953421312) :
    Calls Try.prog 33 #[.string s, .string ⟨#[10]⟩] w fun e w' => e = .returned (.bool (ends s.data.toList)) ∧ w = w' := by
  by_cases h0 : s.size = 0
  · have e : ends s.data.toList = false := by rw [List.length_eq_zero_iff.1 (by rw [len_l]; exact h0 : s.data.toList.length = 0)]; rfl
    have HE := Lib.hid e
    have h1 : (s.size : Int) < 1 := by omega
    have h2 : ¬ (1 : Int) ≤ s.size := by omega
    clear e h0
    go_enter Try.func33, Try.ntmps33
    go_wp2
    go_ret
    exact ⟨by rw [HE.out]; rfl, rfl⟩
  · have h1 : 1 ≤ s.size := by omega
    have HE := Lib.hid (suf_eq s h1)
    have h2 : (1 : Int) ≤ s.size := by omega
    have h3 : ((s.size : Int) - 1).toNat = s.size - 1 := by omega
    clear h0
    go_enter Try.func33, Try.ntmps33
    go_wp2
    go_ret
    trace_state
    exact ⟨by rw [← HE.out]; rfl, rfl⟩
set_option maxRecDepth 100000 in
theorem suffix_any (s : ByteArray) (w : World) (hs : s.size ≤ 562949953421312) :
    Calls Try.prog 28 #[.string s, .string ⟨#[10]⟩] w fun e w' => e = .returned (.bool (ends s.data.toList)) ∧ w = w' := by
  go_enter Try.func28, Try.ntmps28
  go_wp2_with (go_at_call 33; refine (suffixLite_any _ _ hs).mono ?_; rintro e w' ⟨rfl, rfl⟩)
  go_ret
  exact ⟨rfl, rfl⟩
end Go.Proofs.Ytaoblifmggkpoaa.Ln

namespace Go.Proofs.Ytaoblifmggkpoaa.Ln
open Go.RowKit Tx Lm
set_option linter.unusedVariables false
theorem line_at (l : List UInt8) (j : Nat) (hj : j < l.length) (h : ∀ k, k < j → l[k]? ≠ some 10) (h2 : l[j]? = some 10 ∨ j + 1 = l.length) : cutL l = l.take (j + 1) ∧ cutB l = l.drop (j + 1) := by
  induction l generalizing j with
  | nil => simp at hj
  | cons c r ih =>
    rw [cutL, cutB]
    cases j with
    | zero =>
      by_cases hc : c = 10
      · rw [if_pos hc, if_pos hc, hc]; exact ⟨rfl, rfl⟩
      · rw [if_neg hc, if_neg hc]
        rcases h2 with h2 | h2
        · simp at h2; exact absurd h2 hc
        · obtain rfl : r = [] := List.length_eq_zero_iff.1 (by simpa using h2)
          exact ⟨rfl, rfl⟩
    | succ j =>
      have hc : c ≠ 10 := fun e => h 0 (by omega) (by simp [e])
      rw [if_neg hc, if_neg hc]
      obtain ⟨a, b⟩ := ih j (by simpa using hj) (fun k hk => by have := h (k + 1) (by omega); simpa using this) (by simpa using h2)
      rw [a, b]
      exact ⟨rfl, rfl⟩
theorem ne_10 {x : UInt8} (h : x ≠ 10) : ((x.toNat : Int) == 10) = false := beq_eq_false_iff_ne.2 fun e => h (UInt8.toNat_inj.1 (show x.toNat = 10 by omega))
theorem ne_0 {x : UInt8} (h : x ≠ 0) : ((x.toNat : Int) == 0) = false := beq_eq_false_iff_ne.2 fun e => h (UInt8.toNat_inj.1 (show x.toNat = 0 by omega))
def Run (s : ByteArray) (pre : List ByteArray) (f i : Nat) : Prop :=
  f ≤ i ∧ i ≤ s.size ∧ lns s = pre ++ (spl (s.data.toList.drop f)).map tb ∧ (∀ k, f ≤ k → k < i → s.data.toList[k]? ≠ some 10) ∧ (i = s.size → f = s.size) ∧ pre.length ≤ f
theorem run_start (s : ByteArray) : Run s [] 0 0 := ⟨Nat.le_refl _, Nat.zero_le _, rfl, fun k h1 h2 => by omega, fun h => h, Nat.le_refl _⟩
theorem run_cut {s : ByteArray} {pre : List ByteArray} {f i : Nat} (h : Run s pre f i) (hi : i < s.size) (hc : s[i] = 10 ∨ i + 1 = s.size) : Run s (pre ++ [s.extract f (i + 1)]) (i + 1) (i + 1) := by
  obtain ⟨h1, h2, h3, h4, h5, h6⟩ := h
  have hl : (s.data.toList.drop f).length = s.size - f := by rw [List.length_drop, len_l]
  have hne : s.data.toList.drop f ≠ [] := fun e => by rw [e] at hl; simp at hl; omega
  obtain ⟨a, b⟩ := line_at (s.data.toList.drop f) (i - f) (by omega) (fun k hk => by rw [List.getElem?_drop]; exact h4 _ (by omega) (by omega)) (by
    rcases hc with hc | hc
    · left
      rw [List.getElem?_drop, show f + (i - f) = i by omega, Array.getElem?_toList]
      have h' : i < s.data.size := hi
      rw [Array.getElem?_eq_getElem h']
      exact congrArg some hc
    · right; omega)
  refine ⟨Nat.le_refl _, by omega, ?_, fun k hk hk2 => by omega, fun h => h, by simp; omega⟩
  rw [h3, spl_step _ hne, a, b, List.map_cons, List.append_assoc, List.singleton_append]
  congr 2
  · apply ByteArray.ext
    apply Array.toList_inj.1
    rw [ByteArray.data_extract, Array.toList_extract, List.extract_eq_take_drop]
    show List.take (i - f + 1) _ = _
    congr 1
    omega
  · rw [List.drop_drop]
    congr 3
    omega
theorem run_on {s : ByteArray} {pre : List ByteArray} {f i : Nat} (h : Run s pre f i) (hi : i < s.size) (hc : s[i] ≠ 10) (hc2 : i + 1 ≠ s.size) : Run s pre f (i + 1) := by
  obtain ⟨h1, h2, h3, h4, h5, h6⟩ := h
  refine ⟨by omega, by omega, h3, fun k hk hk2 => ?_, fun h => absurd h hc2, h6⟩
  by_cases e : k = i
  · subst e
    rw [Array.getElem?_toList]
    have h' : k < s.data.size := hi
    rw [Array.getElem?_eq_getElem h']
    intro he
    injection he with he
    exact hc he
  · exact h4 k hk (by omega)
theorem run_end {s : ByteArray} {pre : List ByteArray} {f i : Nat} (h : Run s pre f i) (hi : ¬ i < s.size) : lns s = pre := by
  obtain ⟨h1, h2, h3, h4, h5, h6⟩ := h
  have e : f = s.size := h5 (by omega)
  rw [h3, e, List.drop_of_length_le (by rw [len_l]; exact Nat.le_refl _)]
  simp [spl]
def ListTo (l : List ByteArray) (w : World) (e : Ending) (w' : World) : Prop := ∃ v, e = .returned v ∧ Texts w' w.heap.size v l ∧ Below w.heap.size w w'
set_option maxRecDepth 100000 in
set_option maxHeartbeats 1000000 in
theorem refSplit_any (s : ByteArray) (w : World) (hs : s.size ≤ 8796093022207) :
    Calls Try.prog 9 #[.string s] w (ListTo (lns s) w) := by
  obtain ⟨i0, hi, hz0, hz1, hz2⟩ := info_parts info9
  go_enter Try.func9, Try.ntmps9
  go_wp2_with fail
  go_loopw [3, 4, 5] (fun v f i wr => ∃ (pre : List ByteArray) (a b : Nat), f = .int .i64 a ∧ i = .int .i64 b ∧ Hid (Run s pre a b) ∧ Texts wr w.heap.size v pre ∧ Below w.heap.size w wr) (fun _ _ i _ => s.size - (intOf i).toNat)
  case atStart => exact ⟨[], 0, 0, rfl, rfl, run_start s, World.ownsRow_nil _ _ _ _, Below.refl _ _⟩
  case round =>
    obtain ⟨pre, a, b, rfl, rfl, HR, htx, hb⟩ := hrel
    have h1 := HR.out.1
    have h2 := HR.out.2.1
    have hpl := HR.out.2.2.2.2.2
    have hsz := hb.size
    by_cases hlt : b < s.size
    · have hlt' : (b : Int) < s.size := by omega
      by_cases hcut : s[b] = 10 ∨ b + 1 = s.size
      · have HN := Lib.hid (run_cut HR.out hlt hcut)
        have hown := htx
        unfold Texts at hown
        have e1 : (a : Int) ≤ (b : Int) + 1 := by omega
        have e2 : (b : Int) + 1 ≤ s.size := by omega
        have e3 : ((b : Int) + 1).toNat = b + 1 := by omega
        have ew : IntKind.i64.wrap ((b : Int) + 1) = (b : Int) + 1 := IntWalk.i64_in _ (by omega)
        by_cases hc : s[b] = 10
        · have e4 : ((s[b].toNat : Int) == 10) = true := by simp [hc]
          clear hcut HR htx
          go_wp2_with (at_builtin; refine wpList_append_own _ rfl _ _ 22 rfl w.heap.size 9 i0 (.string ⟨#[]⟩) 1 16 Try.underlying22 hi hz0 hz1 hz2 rfl (by decide) _ _ _ rfl (hown.alloc _) ⟨wr.heap.size, 0, none⟩ 1 1 [sv (s.extract a (b + 1))] rfl rfl ?c1 ?c2 ?c3 ?c4 ?c5 ?_)
          case c1 => exact cell_one_new _ _ _
          case c2 => exact sv_one [s.extract a (b + 1)]
          case c3 => unfold maxLen; omega
          case c4 => omega
          case c5 => simp; omega
          intro v' w2 hown' hgrow _
          have hb3 := below_step hb hown hgrow
          have htx2 : Texts w2 w.heap.size v' (pre ++ [s.extract a (b + 1)]) := by
            unfold Texts
            rw [List.length_append, List.map_append]
            exact hown'
          clear hown hown' hgrow hb
          go_wp2_with fail
          go_roundw
          case rel => exact ⟨pre ++ [s.extract a (b + 1)], b + 1, b + 1, by go_num, by go_num, HN, htx2, hb3⟩
          case measure => simp only [intOf]; omega
        · have e4 : ((s[b].toNat : Int) == 10) = false := ne_10 hc
          have e5 : ((b : Int) == (s.size : Int) - 1) = true := beq_iff_eq.2 (by have := hcut.resolve_left hc; omega)
          clear hcut HR htx hc
          go_wp2_with (at_builtin; refine wpList_append_own _ rfl _ _ 22 rfl w.heap.size 9 i0 (.string ⟨#[]⟩) 1 16 Try.underlying22 hi hz0 hz1 hz2 rfl (by decide) _ _ _ rfl (hown.alloc _) ⟨wr.heap.size, 0, none⟩ 1 1 [sv (s.extract a (b + 1))] rfl rfl ?c1 ?c2 ?c3 ?c4 ?c5 ?_)
          case c1 => exact cell_one_new _ _ _
          case c2 => exact sv_one [s.extract a (b + 1)]
          case c3 => unfold maxLen; omega
          case c4 => omega
          case c5 => simp; omega
          intro v' w2 hown' hgrow _
          have hb3 := below_step hb hown hgrow
          have htx2 : Texts w2 w.heap.size v' (pre ++ [s.extract a (b + 1)]) := by
            unfold Texts
            rw [List.length_append, List.map_append]
            exact hown'
          clear hown hown' hgrow hb
          go_wp2_with fail
          go_roundw
          case rel => exact ⟨pre ++ [s.extract a (b + 1)], b + 1, b + 1, by go_num, by go_num, HN, htx2, hb3⟩
          case measure => simp only [intOf]; omega
      · have hc1 : s[b] ≠ 10 := fun e => hcut (.inl e)
        have hc2 : b + 1 ≠ s.size := fun e => hcut (.inr e)
        have HN := Lib.hid (run_on HR.out hlt hc1 hc2)
        have e4 : ((s[b].toNat : Int) == 10) = false := ne_10 hc1
        have e5 : ((b : Int) == (s.size : Int) - 1) = false := beq_eq_false_iff_ne.2 (by omega)
        clear hcut HR hc1 hc2
        go_wp2_with fail
        go_roundw
        case rel => exact ⟨pre, a, b + 1, rfl, by go_num, HN, htx, hb⟩
        case measure => simp only [intOf]; omega
    · have HE := Lib.hid (run_end HR.out hlt)
      have hlt' : ¬ (b : Int) < s.size := by omega
      clear HR
      go_wp2_with fail
      go_ret
      unfold ListTo
      rw [HE.out]
      exact ⟨_, rfl, htx, hb⟩
def txt (s : ByteArray) : Nat := if s.data.toList.contains 0 then 21 else if 400 < (lns s).length then 4 else 0
theorem txt_bin {s : ByteArray} {i : Nat} (hi : i < s.size) (h : s[i] = 0) : txt s = 21 := by
  unfold txt
  rw [if_pos]
  have h' : i < s.data.size := hi
  exact List.contains_iff_mem.2 (List.mem_iff_getElem?.2 ⟨i, by rw [Array.getElem?_toList, Array.getElem?_eq_getElem h']; exact congrArg some h⟩)
theorem txt_not {s : ByteArray} (h : ∀ k, (hk : k < s.size) → s[k] ≠ 0) : txt s = if 400 < (lns s).length then 4 else 0 := by
  unfold txt
  rw [if_neg]
  intro hc
  obtain ⟨k, hk⟩ := List.mem_iff_getElem?.1 (List.contains_iff_mem.1 hc)
  rw [Array.getElem?_toList] at hk
  obtain ⟨hk1, hk2⟩ := Array.getElem?_eq_some_iff.1 hk
  exact h k hk1 hk2
set_option maxRecDepth 100000 in
set_option maxHeartbeats 1000000 in
theorem refText_any (s : ByteArray) (w : World) (hs : s.size ≤ 8796093022207) :
    Calls Try.prog 12 #[.string s] w fun e w' => e = .returned (.int .i64 (txt s : Nat)) ∧ Below w.heap.size w w' := by
  go_enter Try.func12, Try.ntmps12
  go_wp2_with fail
  go_loop [3] (fun i => ∃ b : Nat, b ≤ s.size ∧ i = .int .i64 b ∧ Hid (∀ k, (hk : k < s.size) → k < b → s[k] ≠ 0)) (fun i => s.size - (intOf i).toNat)
  case atStart => exact ⟨0, Nat.zero_le _, rfl, fun k _ h => by omega⟩
  case round =>
    obtain ⟨b, hb, rfl, HN⟩ := hrel
    by_cases hlt : b < s.size
    · have hlt' : (b : Int) < s.size := by omega
      by_cases hc : s[b] = 0
      · have e4 : ((s[b].toNat : Int) == 0) = true := by simp [hc]
        have HE := Lib.hid (txt_bin hlt hc)
        clear hc HN
        go_wp2_with fail
        go_ret
        exact ⟨by rw [HE.out]; rfl, Below.refl _ _⟩
      · have e4 : ((s[b].toNat : Int) == 0) = false := ne_0 hc
        have HN2 : Hid (∀ k, (hk : k < s.size) → k < b + 1 → s[k] ≠ 0) := fun k hk hk2 => by
          by_cases e : k = b
          · subst e; exact hc
          · exact HN.out k hk (by omega)
        clear hc HN
        go_wp2_with fail
        go_round
        case rel => exact ⟨b + 1, by omega, by go_num, HN2⟩
        case measure => simp only [intOf]; omega
    · have hlt' : ¬ (b : Int) < s.size := by omega
      have HT := Lib.hid (txt_not (s := s) fun k hk => HN.out k hk (by omega))
      have hle := lns_le s
      clear HN
      obtain ⟨L, hL⟩ : ∃ L, L = lns s := ⟨_, rfl⟩
      have c := refSplit_any s w hs
      rw [← hL] at c hle
      have HL := Lib.hid hL
      clear hL
      go_wp2_with fail
      go_at_call 9
      refine c.mono ?_
      rintro e w1 ⟨v, rfl, htx, hb1⟩
      obtain ⟨x, cc, rfl, _, _, _⟩ := htx.form
      by_cases hm : 400 < L.length
      · have hm' : (400 : Int) < (L.length : Int) := by omega
        go_wp2_with fail
        go_ret
        exact ⟨by rw [HT.out, if_pos (by rw [← HL.out]; exact hm)]; rfl, hb1⟩
      · have hm' : ¬ (400 : Int) < (L.length : Int) := by omega
        go_wp2_with fail
        go_ret
        exact ⟨by rw [HT.out, if_neg (by rw [← HL.out]; exact hm)]; rfl, hb1⟩
end Go.Proofs.Ytaoblifmggkpoaa.Ln

namespace Go.Proofs.Ytaoblifmggkpoaa.Ln
open Go.RowKit Tx Lm
set_option linter.unusedVariables false
set_option maxRecDepth 100000 in
set_option maxHeartbeats 1000000 in
theorem refJoin_any (a : Option Addr) (n c : Nat) (l : List ByteArray) (w : World) (ha : Strs w a n l) (hn : n ≤ 9223372036854775807) (hsum : (cat l).size ≤ 9223372036854775807) :
    Calls Try.prog 16 #[.slice a n c] w fun e w' => e = .returned (.string (cat l)) ∧ w = w' := by
  have hln := ha.1
  have hdone : cat (l.take n) = cat l := by rw [← hln, List.take_length]
  go_enter Try.func16, Try.ntmps16
  go_wp2_with fail
  go_loop [3, 4] (fun x i => ∃ k : Nat, k ≤ n ∧ i = .int .i64 k ∧ x = .string (cat (l.take k))) (fun _ i => n - (intOf i).toNat)
  case atStart => exact ⟨0, Nat.zero_le _, rfl, rfl⟩
  case round =>
    obtain ⟨k, hk, rfl, rfl⟩ := hrel
    by_cases hlt : k < n
    · obtain ⟨bs, off, rfl, hbs, hc⟩ := ha.2.resolve_left (by omega)
      obtain ⟨S, hS⟩ : ∃ S, S = l[k] := ⟨_, rfl⟩
      have hcell : w.cell? ⟨bs, off + k, none⟩ = some (.string S) := hc k S (by rw [hS]; exact List.getElem?_eq_getElem (by omega))
      have hstep := cat_take l k (by omega)
      rw [← hS] at hstep
      have hle := cat_take_le l (k + 1)
      rw [hstep, ByteArray.size_append] at hle
      obtain ⟨A, hA⟩ : ∃ A, A = cat (l.take k) := ⟨_, rfl⟩
      rw [← hA] at hstep hle ⊢
      have HS := Lib.hid hstep
      have hsz : A.size + S.size ≤ 9223372036854775807 := by omega
      have hlt' : (k : Int) < (n : Int) := by omega
      clear hS hstep hle hA hc hdone hln
      go_wp2_with fail
      go_round
      case rel => exact ⟨k + 1, by omega, by go_num, by rw [HS.out]⟩
      case measure => simp [intOf]; omega
    · obtain rfl : k = n := by omega
      rw [hdone]
      clear hdone hln
      obtain ⟨C, hC⟩ : ∃ C, C = cat l := ⟨_, rfl⟩
      rw [← hC]
      have HD := Lib.hid hC
      clear hC
      go_wp2_with fail
      go_ret
      exact ⟨by rw [← HD.out]; rfl, rfl⟩
def CK (l : List ByteArray) (k : Nat) (pre : List ByteArray) : Prop := pre.length = k ∧ pre = if k = l.length then clt l else l.take k
theorem ck_start (l : List ByteArray) : CK l 0 [] := by
  refine ⟨rfl, ?_⟩
  split
  · rename_i h; rw [List.length_eq_zero_iff.1 h.symm]; rfl
  · rfl
theorem ck_mid {l : List ByteArray} {k : Nat} {pre : List ByteArray} (h : CK l k pre) (hk : k < l.length) (h2 : k + 1 ≠ l.length) : CK l (k + 1) (pre ++ [l[k]]) := by
  obtain ⟨h1, h3⟩ := h
  rw [if_neg (by omega)] at h3
  exact ⟨by simp [h1], by rw [if_neg h2, h3, List.take_succ_eq_append_getElem hk]⟩
theorem ck_last {l : List ByteArray} {k : Nat} {pre : List ByteArray} (h : CK l k pre) (hk : k < l.length) (h2 : k + 1 = l.length) : CK l (k + 1) (pre ++ [clot l[k]]) := by
  obtain ⟨h1, h3⟩ := h
  rw [if_neg (by omega)] at h3
  refine ⟨by simp [h1], ?_⟩
  rw [if_pos h2, h3]
  have e : l = l.take k ++ [l[k]] := by rw [← List.take_succ_eq_append_getElem hk, h2, List.take_length]
  conv => rhs; rw [e]
  rw [clt_snoc]
theorem ck_end {l : List ByteArray} {k : Nat} {pre : List ByteArray} (h : CK l k pre) (hk : k = l.length) : clt l = pre := by
  rw [h.2, if_pos hk]
theorem ends_at (s : ByteArray) (h : 0 < s.size) : ends s.data.toList = decide (s[s.size - 1] = 10) := by
  rw [ends_get _ (by rw [len_l]; exact h)]
  simp only [len_l]
  rfl
set_option maxRecDepth 100000 in
set_option maxHeartbeats 2000000 in
theorem refClosed_any (a : Option Addr) (n c : Nat) (l : List ByteArray) (w : World) (ha : Strs w a n l) (hn : n ≤ 8796093022207) (hsz0 : ∀ (k : Nat) (x : ByteArray), l[k]? = some x → x.size ≤ 140737488355328) :
    Calls Try.prog 17 #[.slice a n c] w (ListTo (clt l) w) := by
  obtain ⟨i0, hi, hz0, hz1, hz2⟩ := info_parts info9
  have hln := ha.1
  have HA := Lib.hid ha
  clear ha
  go_enter Try.func17, Try.ntmps17
  go_wp2_with fail
  go_loopw [3, 4, 5] (fun v i _ wr => ∃ (pre : List ByteArray) (k : Nat), k ≤ n ∧ i = .int .i64 k ∧ Hid (CK l k pre) ∧ Texts wr w.heap.size v pre ∧ Below w.heap.size w wr) (fun _ i _ _ => n - (intOf i).toNat)
  case atStart => exact ⟨[], 0, Nat.zero_le _, rfl, ck_start l, World.ownsRow_nil _ _ _ _, Below.refl _ _⟩
  case round =>
    obtain ⟨pre, k, hk, rfl, HC, htx, hb⟩ := hrel
    have hsz := hb.size
    have hpl := HC.out.1
    by_cases hlt : k < n
    · obtain ⟨bs, off, rfl, hbs, hc⟩ := HA.out.2.resolve_left (by omega)
      obtain ⟨S, hS⟩ : ∃ S, S = l[k] := ⟨_, rfl⟩
      have hcell : wr.cell? ⟨bs, off + k, none⟩ = some (.string S) := (hb.cell (p := ⟨bs, off + k, none⟩) hbs).trans (hc k S (by rw [hS]; exact List.getElem?_eq_getElem (by omega)))
      have hss : S.size ≤ 140737488355328 := hsz0 k S (by rw [hS]; exact List.getElem?_eq_getElem (by omega))
      have hlt' : (k : Int) < (n : Int) := by omega
      have hown := htx
      unfold Texts at hown
      by_cases hlast : k + 1 = n
      · have e5 : ((k : Int) == (n : Int) - 1) = true := beq_iff_eq.2 (by omega)
        have HN := Lib.hid (ck_last HC.out (by omega) (by omega))
        rw [← hS] at HN
        by_cases h0 : S.size = 0
        · have HK : clot S = S ++ ⟨#[10]⟩ := by
            unfold clot
            rw [if_neg]
            rw [List.length_eq_zero_iff.1 (by rw [len_l]; exact h0 : S.data.toList.length = 0)]
            simp [ends]
          rw [HK] at HN
          have h0' : ((S.size : Int) == 0) = true := beq_iff_eq.2 (by omega)
          clear HK
          have hpn : pre.length ≤ 8796093022207 := by omega
          clear hS hc hpl hln htx HC
          go_wp2_with (at_builtin; refine wpList_append_own _ rfl _ _ 22 rfl w.heap.size 9 i0 (.string ⟨#[]⟩) 1 16 Try.underlying22 hi hz0 hz1 hz2 rfl (by decide) _ _ _ rfl (hown.alloc _) ⟨wr.heap.size, 0, none⟩ 1 1 [sv (S ++ ⟨#[10]⟩)] rfl rfl ?c1 ?c2 ?c3 ?c4 ?c5 ?_)
          case c1 => exact cell_one_new _ _ _
          case c2 => exact sv_one [S ++ ⟨#[10]⟩]
          case c3 => unfold maxLen; omega
          case c4 => omega
          case c5 => simp; omega
          intro v' w2 hown' hgrow _
          have hb3 := below_step hb hown hgrow
          have htx2 : Texts w2 w.heap.size v' (pre ++ [S ++ ⟨#[10]⟩]) := by
            unfold Texts
            rw [List.length_append, List.map_append]
            exact hown'
          clear hown hown' hgrow hb
          go_wp2_with fail
          go_roundw
          case rel => exact ⟨pre ++ [S ++ ⟨#[10]⟩], k + 1, by omega, by go_num, HN, htx2, hb3⟩
          case measure => simp only [intOf]; omega
        · have hpos : 0 < S.size := by omega
          have h0' : ((S.size : Int) == 0) = false := beq_eq_false_iff_ne.2 (by omega)
          have e6 : ((S.size : Int) - 1).toNat = S.size - 1 := by omega
          have hp' : (0 : Int) < S.size := by omega
          have hE := ends_at S hpos
          by_cases hc10 : S[S.size - 1] = 10
          · have HK : clot S = S := by
              unfold clot
              rw [if_pos (by rw [hE]; exact decide_eq_true hc10)]
            rw [HK] at HN
            have e7 : ((S[S.size - 1].toNat : Int) == 10) = true := by simp [hc10]
            have e8 : (!((S[S.size - 1].toNat : Int) == 10)) = false := by rw [e7]; rfl
            clear HK hE hc10
            have hpn : pre.length ≤ 8796093022207 := by omega
            clear hS hc hpl hln htx HC
            go_wp2_with (at_builtin; refine wpList_append_own _ rfl _ _ 22 rfl w.heap.size 9 i0 (.string ⟨#[]⟩) 1 16 Try.underlying22 hi hz0 hz1 hz2 rfl (by decide) _ _ _ rfl (hown.alloc _) ⟨wr.heap.size, 0, none⟩ 1 1 [sv (S)] rfl rfl ?c1 ?c2 ?c3 ?c4 ?c5 ?_)
            case c1 => exact cell_one_new _ _ _
            case c2 => exact sv_one [S]
            case c3 => unfold maxLen; omega
            case c4 => omega
            case c5 => simp; omega
            intro v' w2 hown' hgrow _
            have hb3 := below_step hb hown hgrow
            have htx2 : Texts w2 w.heap.size v' (pre ++ [S]) := by
              unfold Texts
              rw [List.length_append, List.map_append]
              exact hown'
            clear hown hown' hgrow hb
            go_wp2_with fail
            go_roundw
            case rel => exact ⟨pre ++ [S], k + 1, by omega, by go_num, HN, htx2, hb3⟩
            case measure => simp only [intOf]; omega
          · have HK : clot S = S ++ ⟨#[10]⟩ := by
              unfold clot
              rw [if_neg (by rw [hE]; simpa using hc10)]
            rw [HK] at HN
            have e7 : ((S[S.size - 1].toNat : Int) == 10) = false := ne_10 hc10
            have e8 : (!((S[S.size - 1].toNat : Int) == 10)) = true := by rw [e7]; rfl
            clear HK hE hc10
            have hpn : pre.length ≤ 8796093022207 := by omega
            clear hS hc hpl hln htx HC
            go_wp2_with (at_builtin; refine wpList_append_own _ rfl _ _ 22 rfl w.heap.size 9 i0 (.string ⟨#[]⟩) 1 16 Try.underlying22 hi hz0 hz1 hz2 rfl (by decide) _ _ _ rfl (hown.alloc _) ⟨wr.heap.size, 0, none⟩ 1 1 [sv (S ++ ⟨#[10]⟩)] rfl rfl ?c1 ?c2 ?c3 ?c4 ?c5 ?_)
            case c1 => exact cell_one_new _ _ _
            case c2 => exact sv_one [S ++ ⟨#[10]⟩]
            case c3 => unfold maxLen; omega
            case c4 => omega
            case c5 => simp; omega
            intro v' w2 hown' hgrow _
            have hb3 := below_step hb hown hgrow
            have htx2 : Texts w2 w.heap.size v' (pre ++ [S ++ ⟨#[10]⟩]) := by
              unfold Texts
              rw [List.length_append, List.map_append]
              exact hown'
            clear hown hown' hgrow hb
            go_wp2_with fail
            go_roundw
            case rel => exact ⟨pre ++ [S ++ ⟨#[10]⟩], k + 1, by omega, by go_num, HN, htx2, hb3⟩
            case measure => simp only [intOf]; omega
      · have e5 : ((k : Int) == (n : Int) - 1) = false := beq_eq_false_iff_ne.2 (by omega)
        have HN := Lib.hid (ck_mid HC.out (by omega) (by omega))
        rw [← hS] at HN
        have hpn : pre.length ≤ 8796093022207 := by omega
        clear hS hc hpl hln htx HC
        go_wp2_with (at_builtin; refine wpList_append_own _ rfl _ _ 22 rfl w.heap.size 9 i0 (.string ⟨#[]⟩) 1 16 Try.underlying22 hi hz0 hz1 hz2 rfl (by decide) _ _ _ rfl (hown.alloc _) ⟨wr.heap.size, 0, none⟩ 1 1 [sv S] rfl rfl ?c1 ?c2 ?c3 ?c4 ?c5 ?_)
        case c1 => exact cell_one_new _ _ _
        case c2 => exact sv_one [S]
        case c3 => unfold maxLen; omega
        case c4 => omega
        case c5 => simp; omega
        intro v' w2 hown' hgrow _
        have hb3 := below_step hb hown hgrow
        have htx2 : Texts w2 w.heap.size v' (pre ++ [S]) := by
          unfold Texts
          rw [List.length_append, List.map_append]
          exact hown'
        clear hown hown' hgrow hb
        go_wp2_with fail
        go_roundw
        case rel => exact ⟨pre ++ [S], k + 1, by omega, by go_num, HN, htx2, hb3⟩
        case measure => simp only [intOf]; omega
    · have HE := Lib.hid (ck_end HC.out (by omega))
      have hlt' : ¬ (k : Int) < (n : Int) := by omega
      clear HC hpl hln
      go_wp2_with fail
      go_ret
      unfold ListTo
      rw [HE.out]
      exact ⟨_, rfl, htx, hb⟩
end Go.Proofs.Ytaoblifmggkpoaa.Ln

namespace Go.Proofs.Ytaoblifmggkpoaa.Tx
open Go.RowKit
set_option linter.unusedVariables false
theorem below_drewN {B : Nat} {a w : World} (h : Below B a w) (n : Nat) : Below B a (w.drewN n) := ⟨h.os, h.tape, h.output, h.size, h.block⟩
set_option maxRecDepth 100000 in
set_option maxHeartbeats 1000000 in
theorem same_true (a b : Option Addr) (n ca cb : Nat) (l : List ByteArray) (w : World) (hn : n ≤ 9223372036854775807) (ha : Strs w a n l) (hb : Strs w b n l) :
    Calls Try.prog 8 #[.slice a n ca, .slice b n cb] w fun e w' => e = .returned (.bool true) ∧ Below w.heap.size w w' := by
  by_cases h0 : n = 0
  · subst h0
    clear ha hb
    go_enter Try.func8, Try.ntmps8
    go_wp2_with fail
    go_loop [5] (fun i => i = .int .i64 0) (fun _ => 0)
    case atStart => exact rfl
    case round =>
      obtain rfl := hrel
      go_wp2_with fail
      go_ret
      exact ⟨rfl, Below.refl _ _⟩
  · obtain ⟨hl, ha⟩ := ha
    obtain ⟨ba, oa, rfl, hba, hca⟩ := ha.resolve_left h0
    obtain ⟨bb, ob, rfl, hbb, hcb⟩ := hb.2.resolve_left h0
    have HA := Lib.hid hca
    have HB := Lib.hid hcb
    clear hca hcb ha hb h0
    go_enter Try.func8, Try.ntmps8
    go_wp2_with fail
    go_loopw [5] (fun i wr => ∃ k : Nat, k ≤ n ∧ i = .int .i64 k ∧ Below w.heap.size w wr) (fun i _ => n - (intOf i).toNat)
    case atStart => exact ⟨0, Nat.zero_le _, rfl, Below.refl _ _⟩
    case round =>
      obtain ⟨k, hk, rfl, hB⟩ := hrel
      by_cases hlt : k < n
      · have c1 := (hB.cell (p := ⟨ba, oa + k, none⟩) hba).trans (HA.out k l[k] (List.getElem?_eq_getElem (by omega)))
        have c2 := (hB.cell (p := ⟨bb, ob + k, none⟩) hbb).trans (HB.out k l[k] (List.getElem?_eq_getElem (by omega)))
        obtain ⟨S, hS⟩ : ∃ S, S = l[k] := ⟨_, rfl⟩
        rw [← hS] at c1 c2
        clear hS hl
        have hlt1 : (k : Int) < (n : Int) := by omega
        go_wp2_with fail
        go_quiet (fail)
        go_wp2_with fail
        go_roundw
        case rel => exact ⟨k + 1, by omega, by go_num, below_drewN hB _⟩
        case measure => simp [intOf]; omega
      · go_wp2_with fail
        go_ret
        exact ⟨rfl, hB⟩
end Go.Proofs.Ytaoblifmggkpoaa.Tx

namespace Go.Proofs.Ytaoblifmggkpoaa.Aq
open Go.RowKit Tx
set_option linter.unusedVariables false
section
variable {P : Program}
theorem append_two (w : World) (base : Nat) (t ty e : TypeId) (i : TypeInfo) (z : Value) (bytes : Nat) (ht : P.underlying t = some (.slice e)) (hi : P.info? e = some i) (hz : i.zero = some z)
    (hsize : i.size = 1) (hby : i.bytes = bytes) (hzs : z.cells.size = 1)
    (v : Value) (n : Nat) (xs : List Value) (hown : w.ownsRow base e 1 v n xs)
    (a : Addr) (c : Nat) (u : Value) (hu : w.cell? a = some u) (h1 : u.oneCell' = true)
    (hn : n + 1 ≤ 1152921504606846976) (hbytes : (n + 1) * bytes ≤ 140737488355328) (hbase : base ≤ w.heap.size) :
    ∃ v' w', (Builtin.append_ #[t, t] ty #[v, .slice (some a) 1 c]).run P w = .ok v' w' ∧ w'.ownsRow base e 1 v' (n + 1) (xs ++ [u]) ∧
      ((v'.ownBlock = v.ownBlock ∧ w.grownBy w' v.ownBlock) ∨ (v'.ownBlock = some w.heap.size ∧ w.grownBy w' none)) := by
  have hnews : ∀ j x, [u][j]? = some x → w.cell? (a.add j) = some x := by
    intro j x hj
    match j, hj with
    | 0, hj =>
      simp at hj
      subst hj
      simpa [Addr.add] using hu
  have hone : ∀ x ∈ [u], x.oneCell' = true := by intro x hx; simp at hx; subst hx; exact h1
  have hlen : (xs ++ [u]).length = (n + 1) * 1 := by rw [List.length_append, hown.1]; simp
  have made : ∀ old, old < n + 1 → (w.drew.alloc (.cells (xs.toArray ++ [u].toArray ++ Builtin.zeroCells z.cells (grownCap w (n + 1) old e - (n + 1))) e)).ownsRow base e 1 (.slice (some ⟨w.heap.size, 0, none⟩) (n + 1) (grownCap w (n + 1) old e)) (n + 1) (xs ++ [u]) ∧
      w.grownBy (w.drew.alloc (.cells (xs.toArray ++ [u].toArray ++ Builtin.zeroCells z.cells (grownCap w (n + 1) old e - (n + 1))) e)) none := by
    intro old _
    have hge := grownCap_ge w (n + 1) old e
    have hcm := grownCap_le_maxLen w (n + 1) old e (by unfold maxLen; omega)
    refine ⟨⟨hlen, .inr ⟨w.heap.size, _, _, rfl, hbase, heap_alloc_new w.drew _, hge, hcm, ?_, ?_⟩⟩, ⟨rfl, rfl, rfl, by simp, fun k hk _ => Below.heap_alloc w.drew _ k hk⟩⟩
    · have h0 := hown.1
      simp only [Array.size_append, List.size_toArray, size_zeroCells, hzs, List.length_singleton]
      omega
    · simp only [Array.toList_append, List.append_assoc]
      rw [← List.append_assoc]
      exact List.take_left' hlen
  rcases hown.2 with ⟨rfl, rfl⟩ | ⟨g, cap, cur, rfl, hbg, hg, hnc, hcm, hcs, htake⟩
  · have hx : xs = [] := List.eq_nil_of_length_eq_zero (by simpa using hown.1)
    subst hx
    have hr := run_append_nil (P := P) w t ty e i z ht hi hz a 1 c [u] (by rw [hsize]; rfl) hnews (by omega) (by omega) (by rw [hby]; have h2 := hbytes; simp only [Nat.zero_add] at h2; omega)
    have hm := made 0 (by omega)
    simp only [Nat.zero_add, List.nil_append, Array.empty_append] at hm ⊢
    exact ⟨_, _, hr, hm.1, .inr ⟨rfl, hm.2⟩⟩
  · by_cases hroom : n + 1 ≤ cap
    · have hfit : n * i.size + [u].length ≤ cur.size := by rw [hsize, hcs]; simp; omega
      have hr := run_append_room (P := P) w t ty e i ht hi g n cap cur hg a 1 c [u] (by rw [hsize]; rfl) hnews hone hroom hfit
      refine ⟨_, _, hr, ⟨hlen, .inr ⟨g, cap, _, rfl, hbg, setRow_heap w g cur _ e _ hg, hroom, hcm, ?_, ?_⟩⟩, .inl ⟨rfl, ⟨rfl, rfl, rfl, by simp, fun k _ hk => setRow_other w g k _ (fun e => hk (by simp [Value.ownBlock, e]))⟩⟩⟩
      · simp only [List.size_toArray, List.length_append, List.length_take, List.length_drop, Array.length_toList, hsize, List.length_singleton]
        simp only [hsize, List.length_singleton] at hfit
        omega
      · rw [hsize, htake]
        exact List.take_left' hlen
    · have hr := run_append_grow (P := P) w t ty e i z ht hi hz ⟨g, 0, none⟩ n cap xs (by rw [hsize]; exact hown.1) (hown.cells (g := g) rfl) a 1 c [u] (by rw [hsize]; rfl) hnews (by omega) (by omega) (growslice_fits (by omega) (by rw [hby]; exact hbytes))
      have hm := made cap (by omega)
      exact ⟨_, _, hr, hm.1, .inr ⟨rfl, hm.2⟩⟩
end
theorem wpList_append_two {P : Program} (w : World) {ops : Array Oper} {rest : List Oper} {o : Oper} {a : Act} {Q : Exit → Act → World → Prop} (hgd : o.guard = none) (s x : Operand) (t : TypeId)
    (ho : o.op = .call { callee := .builtin .append, args := #[s, x], argTypes := #[t, t] })
    (base : Nat) (e : TypeId) (i : TypeInfo) (z : Value) (bytes : Nat) (ht : P.underlying t = some (.slice e)) (hi : P.info? e = some i) (hz : i.zero = some z)
    (hsize : i.size = 1) (hby : i.bytes = bytes) (hzs : z.cells.size = 1)
    (v : Value) (n : Nat) (xs : List Value) (hs : a.eval s = v) (hown : w.ownsRow base e 1 v n xs)
    (ad : Addr) (c : Nat) (u : Value) (hx : a.eval x = .slice (some ad) 1 c) (hu : w.cell? ad = some u) (h1 : u.oneCell' = true)
    (hn : n + 1 ≤ 1152921504606846976) (hbytes : (n + 1) * bytes ≤ 140737488355328) (hbase : base ≤ w.heap.size)
    (h : ∀ v' w', w'.ownsRow base e 1 v' (n + 1) (xs ++ [u]) → ((v'.ownBlock = v.ownBlock ∧ w.grownBy w' v.ownBlock) ∨ (v'.ownBlock = some w.heap.size ∧ w.grownBy w' none)) → wpList P ops Q rest (a.put o.dst v') w') :
    wpList P ops Q (o :: rest) a w := by
  refine wpList_plain hgd fun K hK => ?_
  obtain ⟨v', w', hr, h2, h3⟩ := append_two (P := P) w base t o.type e i z bytes ht hi hz hsize hby hzs v n xs hown ad c u hu h1 hn hbytes hbase
  unfold Oper.wp execOp
  simp only [ho, resolve, invoke, builtin, Sem.run_bind, Sem.run_pure, Result.andThen_ok, List.map_toArray, List.map_cons, List.map_nil, hs, hx, hr]
  exact hK _ _ (h v' w' h2 h3)
theorem own_frozen {w : World} {base g n cap : Nat} {e : TypeId} {xs : List Value} (h : w.ownsRow base e 1 (.slice (some ⟨g, 0, none⟩) n cap) n xs) (k : Nat) : w.frozen? ⟨g, k, none⟩ = false := by
  rcases h.2 with ⟨h0, _⟩ | ⟨g', cap', cur, hv, _, hh, _⟩
  · cases h0
  · injection hv with hg
    injection hg with hg
    injection hg with hg
    subst hg
    simp [World.frozen?, hh]
theorem own_cell {w : World} {base g n cap : Nat} {e : TypeId} {xs : List Value} (h : w.ownsRow base e 1 (.slice (some ⟨g, 0, none⟩) n cap) n xs) {k : Nat} {u : Value} (hk : xs[k]? = some u) : w.cell? ⟨g, k, none⟩ = some u := by
  have := h.cells (g := g) rfl k u hk
  rwa [WideShapes.add_plain, Nat.zero_add] at this
theorem own_store {w : World} {base g n cap : Nat} {e : TypeId} {xs : List Value} (h : w.ownsRow base e 1 (.slice (some ⟨g, 0, none⟩) n cap) n xs) {k : Nat} (hk : k < n) (u : Value) :
    (w.setCell ⟨g, k, none⟩ u).ownsRow base e 1 (.slice (some ⟨g, 0, none⟩) n cap) n (xs.set k u) := by
  refine ⟨by rw [List.length_set]; exact h.1, ?_⟩
  rcases h.2 with ⟨h0, _⟩ | ⟨g', cap', cur, hv, hb, hh, hn, hc, hs, ht⟩
  · cases h0
  · injection hv with hg _ hcap
    injection hg with hg
    injection hg with hg
    subst hg
    subst hcap
    refine .inr ⟨g, cap, cur.setIfInBounds k u, rfl, hb, ?_, hn, hc, by simpa using hs, ?_⟩
    · simp [World.setCell, Array.getElem?_modify, hh]
    · rw [Array.toList_setIfInBounds, List.take_set, ht]
theorem own_far {w : World} {base n : Nat} {e : TypeId} {v : Value} {xs : List Value} (h : w.ownsRow base e 1 v n xs) {g k : Nat} (hne : v.ownBlock ≠ some g) (u : Value) : (w.setCell ⟨g, k, none⟩ u).ownsRow base e 1 v n xs := by
  have hg : w.grownBy (w.setCell ⟨g, k, none⟩ u) (some g) := ⟨rfl, rfl, rfl, by simp [World.setCell], fun j _ hj => Below.heap_setCell w ⟨g, k, none⟩ u j (fun e => hj (by rw [e]))⟩
  exact h.kept hg (.inr hne)
theorem types_ne {w : World} {base b2 n n2 : Nat} {e e2 : TypeId} {v v2 : Value} {xs ys : List Value} (h : w.ownsRow base e 1 v n xs) (h2 : w.ownsRow b2 e2 1 v2 n2 ys) (hne : e ≠ e2) {g : Nat} (hg : v.ownBlock = some g) : v2.ownBlock ≠ some g := by
  rcases h.2 with ⟨rfl, _⟩ | ⟨a, cap, cur, rfl, _, hh, _⟩
  · simp [Value.ownBlock] at hg
  · rcases h2.2 with ⟨rfl, _⟩ | ⟨a2, cap2, cur2, rfl, _, hh2, _⟩
    · simp [Value.ownBlock]
    · simp only [Value.ownBlock, Option.some.injEq] at hg ⊢
      subst hg
      intro he
      injection he with he
      subst he
      rw [hh] at hh2
      injection hh2 with hh2
      injection hh2 with _ ht
      exact hne ht
end Go.Proofs.Ytaoblifmggkpoaa.Aq

namespace Go.Proofs
open Go.Shelf
def Try.lays156_ren : Go.Shelf.Ren := ⟨fun | 156 => 23 | 165 => 29 | 166 => 30 | 169 => 31 | 240 => 34 | 241 => 35 | 276 => 40 | 277 => 41 | n => n, fun | 31 => 22 | 9 => 9 | 3 => 3 | 4 => 4 | 0 => 0 | 20 => 20 | 72 => 44 | 76 => 48 | 70 => 41 | 37 => 42 | 75 => 47 | 127 => 51 | 164 => 54 | 5 => 5 | 80 => 50 | n => n, fun | n => n⟩
theorem Try.lays156 : Go.Proofs.Lays.n156 Try.prog Try.lays156_ren := {
  mixed := by kernel_rfl
  f156 := Try.func23.trans (congrArg some (by kernel_rfl))
  f165 := Try.func29.trans (congrArg some (by kernel_rfl))
  f166 := Try.func30.trans (congrArg some (by kernel_rfl))
  f169 := Try.func31.trans (congrArg some (by kernel_rfl))
  f240 := Try.func34.trans (congrArg some (by kernel_rfl))
  f241 := Try.func35.trans (congrArg some (by kernel_rfl))
  f276 := Try.func40.trans (congrArg some (by kernel_rfl))
  f277 := Try.func41.trans (congrArg some (by kernel_rfl))
  t0 := Try.underlying0
  a0 := Try.isAgg0
  z0 := Try.sizeOf0
  v0 := Try.zeroValue0
  t3 := Try.underlying3
  a3 := Try.isAgg3
  z3 := Try.sizeOf3
  v3 := Try.zeroValue3
  t4 := Try.underlying4
  a4 := Try.isAgg4
  z4 := Try.sizeOf4
  v4 := Try.zeroValue4
  t9 := Try.underlying9
  a9 := Try.isAgg9
  z9 := Try.sizeOf9
  v9 := Try.zeroValue9
  t20 := Try.underlying20
  a20 := Try.isAgg20
  z20 := Try.sizeOf20
  v20 := Try.zeroValue20
  t31 := Try.underlying22
  a31 := Try.isAgg22
  z31 := Try.sizeOf22
  v31 := Try.zeroValue22
  t37 := Try.underlying42
  a37 := Try.isAgg42
  z37 := Try.sizeOf42
  v37 := Try.zeroValue42
  t70 := Try.underlying41
  a70 := Try.isAgg41
  z70 := Try.sizeOf41
  v70 := Try.zeroValue41
  t72 := Try.underlying44
  a72 := Try.isAgg44
  z72 := Try.sizeOf44
  v72 := Try.zeroValue44
  t75 := Try.underlying47
  a75 := Try.isAgg47
  z75 := Try.sizeOf47
  v75 := Try.zeroValue47
  t76 := Try.underlying48
  a76 := Try.isAgg48
  z76 := Try.sizeOf48
  v76 := Try.zeroValue48
  t127 := Try.underlying51
  a127 := Try.isAgg51
  z127 := Try.sizeOf51
  v127 := Try.zeroValue51
  t164 := Try.underlying54
  a164 := Try.isAgg54
  z164 := Try.sizeOf54
  v164 := Try.zeroValue54 }
theorem Try.Builder_Extra_156 : Builder.Extra Try.prog Try.lays156_ren := {
  sizeBuilder := by kernel_rfl
  liesBuilder := by kernel_rfl
  t5 := Try.underlying5
  a5 := Try.isAgg5
  z5 := Try.sizeOf5
  v5 := Try.zeroValue5
  infoByte := by kernel_rfl
  cellsByte := by kernel_rfl
  sizeByte := by kernel_rfl
  neB5 := by decide }
end Go.Proofs

namespace Go.Proofs.Ytaoblifmggkpoaa.Ln
open Go.RowKit Tx Lm Aq
set_option linter.unusedVariables false
set_option maxRecDepth 100000 in
theorem ended_any (s : ByteArray) (w : World) (hs : s.size ≤ 562949953421312) :
    Calls Try.prog 20 #[.string s] w fun e w' => e = .returned (.bool (ends s.data.toList)) ∧ w = w' := by
  go_enter Try.func20, Try.ntmps20
  go_wp2_with (go_at_call 28; refine (suffix_any _ _ hs).mono ?_; rintro e w' ⟨rfl, rfl⟩)
  go_ret
  exact ⟨rfl, rfl⟩
theorem nil_yes {s : ByteArray} (h : s = ⟨#[]⟩) : (s.toList == []) = true ∧ s.toList.isEmpty = true := by
  rw [h, ByteArray.toList_eq]; exact ⟨rfl, rfl⟩
theorem nil_no {s : ByteArray} (h : s ≠ ⟨#[]⟩) : (s.toList == []) = false ∧ s.toList.isEmpty = false := by
  rw [ByteArray.toList_eq]
  have h1 : s.data.toList ≠ [] := fun e => h (by rw [← tb_of s, e]; rfl)
  exact ⟨beq_eq_false_iff_ne.2 h1, by rw [List.isEmpty_eq_false_iff]; exact h1⟩
theorem cnt_nil {s : ByteArray} (h : s = ⟨#[]⟩) : (lns s).length = s.data.toList.count 10 := by subst h; rfl
theorem cnt_ends {s : ByteArray} (h : ends s.data.toList = true) : (lns s).length = s.data.toList.count 10 := by
  rw [← lns_cnt, cnt, if_pos (.inr h)]
theorem cnt_more {s : ByteArray} (h0 : s ≠ ⟨#[]⟩) (h : ends s.data.toList = false) : (lns s).length = s.data.toList.count 10 + 1 := by
  rw [← lns_cnt, cnt, if_neg]
  rintro (h1 | h1)
  · exact h0 (by rw [← tb_of s, h1]; rfl)
  · rw [h] at h1; cases h1
set_option maxRecDepth 100000 in
set_option maxHeartbeats 1000000 in
theorem count_lines (s : ByteArray) (w : World) (hs : s.size ≤ 562949953421312) :
    Calls Try.prog 10 #[.string s] w fun e w' => e = .returned (.int .i64 ((lns s).length : Nat)) ∧ w = w' := by
  have hle : s.data.toList.count 10 ≤ s.size := by rw [← len_l]; exact List.count_le_length
  by_cases h0 : s = ⟨#[]⟩
  · have HC := Lib.hid (cnt_nil h0)
    obtain ⟨e0, e1⟩ := nil_yes h0
    have HZ := Lib.hid h0
    clear h0
    obtain ⟨K, hK⟩ : ∃ K, K = s.data.toList.count 10 := ⟨_, rfl⟩
    have c2 := fun W => count_any s W
    rw [← hK] at hle HC c2
    clear hK
    go_enter Try.func10, Try.ntmps10
    go_wp2_with (go_at_call 19; refine (c2 _).mono ?_; rintro e w' ⟨rfl, rfl⟩)
    go_ret
    exact ⟨by rw [HC.out]; rfl, rfl⟩
  · obtain ⟨e0, e1⟩ := nil_no h0
    cases hE : ends s.data.toList with
    | true =>
      have HC := Lib.hid (cnt_ends hE)
      have c := fun W => ended_any s W hs
      rw [hE] at c
      clear hE h0
      obtain ⟨K, hK⟩ : ∃ K, K = s.data.toList.count 10 := ⟨_, rfl⟩
      have c2 := fun W => count_any s W
      rw [← hK] at hle HC c2
      clear hK
      go_enter Try.func10, Try.ntmps10
      go_wp2_with (first
        | (go_at_call 19; refine (c2 _).mono ?_; rintro e w' ⟨rfl, rfl⟩)
        | (go_at_call 20; refine (c _).mono ?_; rintro e w' ⟨rfl, rfl⟩))
      go_ret
      exact ⟨by rw [HC.out]; rfl, rfl⟩
    | false =>
      have HC := Lib.hid (cnt_more h0 hE)
      have c := fun W => ended_any s W hs
      rw [hE] at c
      clear hE h0
      obtain ⟨K, hK⟩ : ∃ K, K = s.data.toList.count 10 := ⟨_, rfl⟩
      have c2 := fun W => count_any s W
      rw [← hK] at hle HC c2
      clear hK
      go_enter Try.func10, Try.ntmps10
      go_wp2_with (first
        | (go_at_call 19; refine (c2 _).mono ?_; rintro e w' ⟨rfl, rfl⟩)
        | (go_at_call 20; refine (c _).mono ?_; rintro e w' ⟨rfl, rfl⟩))
      go_ret
      exact ⟨by rw [HC.out]; first | rfl | go_num, rfl⟩
set_option maxRecDepth 100000 in
set_option maxHeartbeats 1000000 in
theorem text_lines (s : ByteArray) (w : World) (hs : s.size ≤ 562949953421312) :
    Calls Try.prog 11 #[.string s] w fun e w' => e = .returned (.int .i64 (txt s : Nat)) ∧ w = w' := by
  have c := fun W => contains_zero s W
  have c2 := fun W => count_lines s W hs
  by_cases hz : s.data.toList.contains 0 = true
  · have HT : Hid (txt s = 21) := by show txt s = 21; unfold txt; rw [if_pos hz]
    rw [hz] at c
    clear hz
    go_enter Try.func11, Try.ntmps11
    go_wp2_with (go_at_call 21; refine (c _).mono ?_; rintro e w' ⟨rfl, rfl⟩)
    go_ret
    exact ⟨by rw [HT.out]; rfl, rfl⟩
  · have HT : Hid (txt s = if 400 < (lns s).length then 4 else 0) := by show txt s = _; unfold txt; rw [if_neg hz]
    rw [Bool.eq_false_iff.2 hz] at c
    clear hz
    obtain ⟨L, hL⟩ : ∃ L, L = (lns s).length := ⟨_, rfl⟩
    rw [← hL] at HT c2
    clear hL
    by_cases hm : 400 < L
    · have hm' : (400 : Int) < (L : Int) := by omega
      go_enter Try.func11, Try.ntmps11
      go_wp2_with (first
        | (go_at_call 21; refine (c _).mono ?_; rintro e w' ⟨rfl, rfl⟩)
        | (go_at_call 10; refine (c2 _).mono ?_; rintro e w' ⟨rfl, rfl⟩))
      go_ret
      exact ⟨by rw [HT.out, if_pos hm]; rfl, rfl⟩
    · have hm' : ¬ (400 : Int) < (L : Int) := by omega
      go_enter Try.func11, Try.ntmps11
      go_wp2_with (first
        | (go_at_call 21; refine (c _).mono ?_; rintro e w' ⟨rfl, rfl⟩)
        | (go_at_call 10; refine (c2 _).mono ?_; rintro e w' ⟨rfl, rfl⟩))
      go_ret
      exact ⟨by rw [HT.out, if_neg hm]; rfl, rfl⟩
def ListN (l : List ByteArray) (w : World) (e : Ending) (w' : World) : Prop := ∃ g c, e = .returned (.slice (some ⟨g, 0, none⟩) l.length c) ∧ Texts w' w.heap.size (.slice (some ⟨g, 0, none⟩) l.length c) l ∧ Below w.heap.size w w'
theorem own_some {w : World} {B n : Nat} {e : TypeId} {v : Value} {xs : List Value} (h : w.ownsRow B e 1 v n xs) (hv : v ≠ .slice none 0 0) : ∃ g c, v = .slice (some ⟨g, 0, none⟩) n c := by
  rcases h.2 with ⟨h0, _⟩ | ⟨g, cap, cur, h0, _⟩
  · exact absurd h0 hv
  · exact ⟨g, cap, h0⟩
theorem cut_bytes (r : ByteArray) (h : r ≠ ⟨#[]⟩) : lns r = r.extract 0 (r.size - (tb (cutB r.data.toList)).size) :: lns (tb (cutB r.data.toList)) ∧ (tb (cutB r.data.toList)).size < r.size := by
  have hne : r.data.toList ≠ [] := fun e => h (by rw [← tb_of r, e]; rfl)
  have h1 := cut_len r.data.toList
  have h2 := cutL_pos hne
  rw [len_l] at h1
  refine ⟨?_, by rw [tb_size]; omega⟩
  rw [lns, spl_step _ hne, List.map_cons, lns, tb_list, tb_size]
  congr 1
  apply ByteArray.ext
  apply Array.toList_inj.1
  rw [ByteArray.data_extract, Array.toList_extract, List.extract_eq_take_drop, List.drop_zero, show r.size - (cutB r.data.toList).length - 0 = (cutL r.data.toList).length by omega]
  show cutL r.data.toList = _
  conv => rhs; rw [← cut_join r.data.toList]
  rw [cut_join r.data.toList, ← cut_join r.data.toList]
  simp only [cut_join]
  conv => rhs; arg 2; rw [← cut_join r.data.toList]
  rw [List.take_left]
set_option maxRecDepth 100000 in
set_option maxHeartbeats 2000000 in
theorem split_lines (s : ByteArray) (w : World) (hs : s.size ≤ 8796093022207) :
    Calls Try.prog 6 #[.string s] w (ListN (lns s) w) := by
  obtain ⟨i0, hi, hz0, hz1, hz2⟩ := info_parts info9
  have hle := lns_le s
  have c0 := fun W => count_lines s W (by omega)
  obtain ⟨L, hL⟩ : ∃ L, L = lns s := ⟨_, rfl⟩
  rw [← hL] at hle c0 ⊢
  obtain ⟨N, hN⟩ : ∃ N, N = L.length := ⟨_, rfl⟩
  rw [← hN] at hle c0
  have HL := Lib.hid hL
  clear hL
  have HNN := Lib.hid hN
  clear hN
  go_enter Try.func6, Try.ntmps6
  go_wp2_with fail
  go_at_call 10
  refine (c0 _).mono ?_
  rintro e w' ⟨rfl, rfl⟩
  go_wp2_with (at_make; refine wpList_make_own _ rfl _ _ _ rfl w.heap.size 9 i0 (.string ⟨#[]⟩) 1 Try.underlying22 hi hz0 hz1 _ _ _ N rfl rfl rfl (by rw [hz2]; omega) (by unfold maxLen; omega) (Nat.le_refl _) ?_)
  intro w2 hown2 hgrow2
  have hB2 : Below w.heap.size w w2 := (Below.refl _ w).grown hgrow2 (Nat.le_refl _) (fun k hk => by cases hk)
  clear hgrow2
  go_wp2_with fail
  go_loopw [0, 3, 4, 5, 6] (fun x v _ _ _ wr => ∃ (pre : List ByteArray) (r : ByteArray), x = .string r ∧ r.size + pre.length ≤ s.size ∧ Hid (L = pre ++ lns r) ∧ Texts wr w.heap.size v pre ∧ v ≠ .slice none 0 0 ∧ Below w.heap.size w wr) (fun x _ _ _ _ _ => match x with | .string r => r.size | _ => 0)
  case atStart => exact ⟨[], s, rfl, by simp, HL.out, hown2, by simp, hB2⟩
  case round =>
    obtain ⟨pre, r, rfl, hrs, HP, htx, hv, hb⟩ := hrel
    have hsz := hb.size
    clear HL
    by_cases h0 : r = ⟨#[]⟩
    · obtain ⟨e0, e1⟩ := nil_yes h0
      have HE : Hid (L = pre) := by
        have h := HP.out
        rw [h0] at h
        exact h.trans (List.append_nil _)
      clear HP h0
      obtain ⟨g, c, rfl⟩ := own_some htx hv
      go_wp2_with fail
      go_ret
      have h := HE.out
      subst h
      exact ⟨g, c, rfl, htx, hb⟩
    · obtain ⟨e0, e1⟩ := nil_no h0
      obtain ⟨hcut, hlt⟩ := cut_bytes r h0
      have c1 := fun W => cut_any r W (by omega)
      unfold CutTo at c1
      obtain ⟨R, hR⟩ : ∃ R, R = tb (cutB r.data.toList) := ⟨_, rfl⟩
      rw [← hR] at hcut hlt c1
      have HP2 : Hid (L = (pre ++ [r.extract 0 (r.size - R.size)]) ++ lns R) := by
        show L = _
        rw [HP.out, hcut, List.append_assoc]
        rfl
      clear hR hcut HP h0
      have k1 : (0 : Int) ≤ (r.size : Int) - R.size := by omega
      have k2 : (r.size : Int) - R.size ≤ r.size := by omega
      have k3 : ((r.size : Int) - R.size).toNat = r.size - R.size := by omega
      have hown := htx
      unfold Texts at hown
      go_wp2_with fail
      go_at_call 18
      refine (c1 _).mono ?_
      rintro e w' ⟨⟨xa, xb, rfl⟩, nn, rfl⟩
      have hbd : Below w.heap.size w (wr.drewN nn) := ⟨hb.os, hb.tape, hb.output, hb.size, hb.block⟩
      have hownd : (wr.drewN nn).ownsRow w.heap.size 9 1 _ pre.length (pre.map sv) := hown
      have hszd : w.heap.size ≤ (wr.drewN nn).heap.size := hsz
      have hpl : pre.length ≤ 8796093022207 := by omega
      generalize wr.drewN nn = wd at hbd hownd hszd ⊢
      clear htx hown hb hsz c1
      go_wp2_with (at_builtin; refine wpList_append_own _ rfl _ _ 22 rfl w.heap.size 9 i0 (.string ⟨#[]⟩) 1 16 Try.underlying22 hi hz0 hz1 hz2 rfl (by decide) _ _ _ rfl (hownd.alloc _) ⟨wd.heap.size, 0, none⟩ 1 1 [sv (r.extract 0 (r.size - R.size))] rfl rfl ?c1 ?c2 ?c3 ?c4 ?c5 ?_)
      case c1 => exact cell_one_new _ _ _
      case c2 => exact sv_one [r.extract 0 (r.size - R.size)]
      case c3 => unfold maxLen; omega
      case c4 => omega
      case c5 => simp; omega
      intro v' w2 hown' hgrow hnil
      have hb3 := below_step hbd hownd hgrow
      have htx2 : Texts w2 w.heap.size v' (pre ++ [r.extract 0 (r.size - R.size)]) := by
        unfold Texts
        rw [List.length_append, List.map_append]
        exact hown'
      have hv2 : v' ≠ .slice none 0 0 := hnil
      clear hownd hown' hgrow hbd hnil hv
      go_wp2_with fail
      go_roundw
      case rel => exact ⟨pre ++ [r.extract 0 (r.size - R.size)], R, rfl, by simp; omega, HP2, htx2, hv2, hb3⟩
      case measure => exact hlt
end Go.Proofs.Ytaoblifmggkpoaa.Ln

namespace Go.Proofs.Ytaoblifmggkpoaa.Ln
open Go.RowKit Tx Lm Aq
set_option linter.unusedVariables false
theorem join_empty (l : List (List UInt8)) : Lib.join l (ByteArray.mk #[]).data.toList = l.flatten := by
  cases l with
  | nil => rfl
  | cons x l =>
    rw [Lib.join_cons, Lib.joinTail]
    simp
set_option maxRecDepth 100000 in
theorem join_lines (bk o n c : Nat) (xs : List ByteArray) (w : World) (hn : xs.length = n)
    (hcells : ∀ (j : Nat) x, xs[j]? = some x → w.cell? ⟨bk, o + j, none⟩ = some (.string x))
    (hbk : bk < w.heap.size) (hN : n ≤ 140737488355328) (hcap : n ≤ c) (hlen : (cat xs).size ≤ 140737488355328) :
    Calls Try.prog 15 #[.slice (some ⟨bk, o, none⟩) n c] w fun e w' => e = .returned (.string (cat xs)) ∧ Below w.heap.size w w' := by
  subst hn
  have e : (cat xs) = ⟨(Lib.join (xs.map (·.data.toList)) (ByteArray.mk #[]).data.toList).toArray⟩ := by
    rw [cat, join_empty]; rfl
  have hl : (Lib.join (xs.map (·.data.toList)) (ByteArray.mk #[]).data.toList).length ≤ 140737488355328 := by
    rw [join_empty]
    rw [cat, tb_size] at hlen
    exact hlen
  have c1 := fun W (h : ∀ (j : Nat) x, xs[j]? = some x → W.cell? ⟨bk, o + j, none⟩ = some (.string x)) (h2 : bk < W.heap.size) => Any.strings_Join Try.lays156 Try.Builder_Extra_156 bk o c xs ⟨#[]⟩ W h h2 hN hcap hl
  rw [← e] at c1
  have HC := Lib.hid hcells
  have HB := Lib.hid hbk
  clear hcells e hl hlen hbk
  go_enter Try.func15, Try.ntmps15
  go_wp2_with (go_at_call 23; refine (c1 _ HC.out HB.out).mono ?_; rintro e w1 ⟨rfl, hb⟩)
  go_ret
  exact ⟨rfl, hb⟩
theorem made0 (w : World) : (w.alloc (.cells #[] 9)).ownsRow w.heap.size 9 1 (.slice (some ⟨w.heap.size, 0, none⟩) 0 0) 0 [] :=
  World.ownsRow_made w #[] 0 (Nat.le_refl _) (Nat.zero_le _) rfl
theorem below_first {w w1 : World} {o : Obj} (h : (w.alloc o).grownBy w1 (Value.slice (some ⟨w.heap.size, 0, none⟩) 0 0).ownBlock) : Below w.heap.size w w1 :=
  ((Below.refl _ w).alloc (Nat.le_refl _) o).grown h (by simp) (fun k hk => by simp [Value.ownBlock] at hk; omega)
set_option maxRecDepth 100000 in
set_option maxHeartbeats 1000000 in
theorem clone_any (b off n c : Nat) (l : List ByteArray) (w : World) (hs : Strs w (some ⟨b, off, none⟩) n l) (hn : n ≤ 8796093022207) :
    Calls Try.prog 22 #[.slice (some ⟨b, off, none⟩) n c] w (ListN l w) := by
  obtain ⟨i0, hi, hz0, hz1, hz2⟩ := info_parts info9
  have hln := hs.1
  have q22 : ∀ (w : World) (a : Option Addr) (n c n' c' : Nat), (binOp .eql 22 (.slice a n c) (.slice none n' c')).run Try.prog w = .ok (.bool a.isNone) w := fun w a n c n' c' => Lib.run_eql_slice_nil w _ _ a n c n' c' Try.underlying22
  go_enter Try.func22, Try.ntmps22
  go_wp2_with (at_builtin; refine wpList_append_own _ rfl _ _ 22 rfl w.heap.size 9 i0 (.string ⟨#[]⟩) 1 16 Try.underlying22 hi hz0 hz1 hz2 rfl (by decide) _ _ _ rfl (made0 w) ⟨b, off, none⟩ n c (l.map sv) rfl ?c0 ?c1 ?c2 ?c3 ?c4 ?c5 ?_)
  case c0 => rw [List.length_map, hln, Nat.mul_one]
  case c1 =>
    intro j u hu
    rw [List.getElem?_map] at hu
    obtain ⟨x, hx, rfl⟩ := Option.map_eq_some_iff.1 hu
    have hj := (List.getElem?_eq_some_iff.1 hx).1
    obtain ⟨b', off', ha, hbl, hc⟩ := hs.2.resolve_left (by omega)
    injection ha with ha
    injection ha with h1 h2
    subst h1
    subst h2
    rw [WideShapes.add_plain]
    exact (World.cell?_alloc_lt w _ _ hbl).trans (hc j x hx)
  case c2 => exact sv_one l
  case c3 => unfold maxLen; omega
  case c4 => omega
  case c5 => simp
  intro v1 w1 hown1 hg1 hnil
  have hown : w1.ownsRow w.heap.size 9 1 v1 n (l.map sv) := by simpa using hown1
  have hb1 := below_first hg1
  obtain ⟨g, cp, hv⟩ := own_some hown hnil
  subst hv
  clear hown1 hg1 hnil hs
  subst hln
  go_wp2_with fail
  go_ret
  exact ⟨g, cp, rfl, hown, hb1⟩
theorem clt_set (l : List ByteArray) (n : Nat) (hn : l.length = n + 1) : clt l = l.set n (clot (l[n]'(by omega))) := by
  have e : l = l.take n ++ [l[n]'(by omega)] := by rw [← List.take_succ_eq_append_getElem (by omega), ← hn, List.take_length]
  have h1 : clt l = l.take n ++ [clot (l[n]'(by omega))] := by
    conv => lhs; rw [e]
    rw [clt_snoc]
  rw [h1]
  apply List.ext_getElem?
  intro k
  by_cases hk : k = n
  · subst hk
    rw [List.getElem?_set_self (by omega), List.getElem?_append_right (by simp; omega), List.length_take, Nat.min_eq_left (by omega), Nat.sub_self]
    rfl
  · rw [List.getElem?_set_ne (fun e => hk e.symm)]
    by_cases hk2 : k < n
    · rw [List.getElem?_append_left (by simp; omega), List.getElem?_take, if_pos hk2]
    · rw [List.getElem?_eq_none (by simp; omega), List.getElem?_eq_none (by omega)]
theorem clot_yes {s : ByteArray} (h : ends s.data.toList = true) : clot s = s := by unfold clot; rw [if_pos h]
theorem clot_no {s : ByteArray} (h : ends s.data.toList = false) : clot s = s ++ ⟨#[10]⟩ := by unfold clot; rw [if_neg (by rw [h]; simp)]
set_option maxRecDepth 100000 in
set_option maxHeartbeats 2000000 in
theorem closed_lines (b off n c : Nat) (l : List ByteArray) (w : World) (hs : Strs w (some ⟨b, off, none⟩) n l) (hn : n ≤ 8796093022207) (hsz0 : ∀ (k : Nat) (x : ByteArray), l[k]? = some x → x.size ≤ 140737488355328) :
    Calls Try.prog 14 #[.slice (some ⟨b, off, none⟩) n c] w (ListN (clt l) w) := by
  have hln := hs.1
  have c1 := fun W h => clone_any b off n c l W h hn
  have HS := Lib.hid hs
  clear hs
  unfold ListN at c1
  rw [hln] at c1
  by_cases h0 : n = 0
  · subst h0
    have hl0 : l = [] := List.length_eq_zero_iff.1 hln
    have HE : Hid (clt l = l) := by show clt l = l; rw [hl0]; rfl
    clear hl0
    go_enter Try.func14, Try.ntmps14
    go_wp2_with fail
    go_at_call 22
    refine (c1 _ HS.out).mono ?_
    rintro e w1 ⟨g, cp, rfl, htx, hb1⟩
    go_wp2_with fail
    go_ret
    unfold ListN
    rw [HE.out, hln]
    exact ⟨g, cp, rfl, htx, hb1⟩
  · obtain ⟨m, rfl⟩ : ∃ m, n = m + 1 := ⟨n - 1, by omega⟩
    have HL := Lib.hid (clt_set l m hln)
    have HLEN : Hid ((clt l).length = m + 1) := by show (clt l).length = m + 1; rw [clt_len, hln]
    obtain ⟨S, hS⟩ : ∃ S, S = l[m]'(by omega) := ⟨_, rfl⟩
    have hss : S.size ≤ 140737488355328 := hsz0 m S (by rw [hS]; exact List.getElem?_eq_getElem (by omega))
    have HSET := HL.out
    rw [← hS] at HSET
    have HX : Hid (l[m]? = some S) := by show l[m]? = some S; rw [hS]; exact List.getElem?_eq_getElem (by omega)
    have HN := Lib.hid HSET
    have em : IntKind.i64.wrap ((m : Int) + 1 - 1) = (m : Int) := by rw [show (m : Int) + 1 - 1 = m by omega]; exact IntWalk.i64_in _ (by omega)
    have em2 : (m : Int) + 1 - 1 = (m : Int) := by omega
    have c2 := fun W => ended_any S W (by omega)
    have HLN := Lib.hid hln
    clear HSET hS HL h0 hsz0 hln
    cases hE : ends S.data.toList with
    | true =>
      have HC := Lib.hid (clot_yes hE)
      rw [hE] at c2
      have HEND : Hid (clt l = l) := by
        show clt l = l
        rw [HN.out, HC.out]
        have h := HX.out
        obtain ⟨h1, h2⟩ := List.getElem?_eq_some_iff.1 h
        rw [← h2, List.set_getElem_self]
      clear hE
      go_enter Try.func14, Try.ntmps14
      go_wp2_with fail
      go_at_call 22
      refine (c1 _ HS.out).mono ?_
      rintro e w1 ⟨g, cp, rfl, htx, hb1⟩
      have htx' := htx
      unfold Texts at htx'
      rw [HLN.out] at htx'
      have hcell : w1.cell? ⟨g, m, none⟩ = some (.string S) := own_cell htx' (by rw [List.getElem?_map, HX.out]; rfl)
      clear htx'
      have HTX := Lib.hid htx
      clear htx
      go_wp2_with (go_at_call 20; refine (c2 _).mono ?_; rintro e w' ⟨rfl, rfl⟩)
      go_ret
      unfold ListN
      rw [HEND.out, HLN.out]
      exact ⟨g, cp, rfl, HTX.out, hb1⟩
    | false =>
      have HC := Lib.hid (clot_no hE)
      rw [hE] at c2
      clear hE
      go_enter Try.func14, Try.ntmps14
      go_wp2_with fail
      go_at_call 22
      refine (c1 _ HS.out).mono ?_
      rintro e w1 ⟨g, cp, rfl, htx, hb1⟩
      have htx' := htx
      unfold Texts at htx'
      rw [HLN.out] at htx'
      have hcell : w1.cell? ⟨g, m, none⟩ = some (.string S) := own_cell htx' (by rw [List.getElem?_map, HX.out]; rfl)
      have hfz := own_frozen htx' m
      have HST := Lib.hid (own_store htx' (show m < m + 1 by omega) (sv (S ++ ⟨#[10]⟩)))
      have hg : w.heap.size ≤ g := (htx'.lt g rfl).1
      clear htx' htx
      go_wp2_with (go_at_call 20; refine (c2 _).mono ?_; rintro e w' ⟨rfl, rfl⟩)
      go_ret
      have hT : Texts (w1.setCell ⟨g, m, none⟩ (.string (S ++ ⟨#[10]⟩))) w.heap.size (.slice (some ⟨g, 0, none⟩) (m + 1) cp) (clt l) := by
        unfold Texts
        rw [HLEN.out, HN.out, HC.out, List.map_set]
        exact HST.out
      unfold ListN
      rw [HLEN.out]
      exact ⟨g, cp, rfl, hT, hb1.setCell (p := ⟨g, m, none⟩) hg _⟩
end Go.Proofs.Ytaoblifmggkpoaa.Ln

namespace Go.Proofs.Ytaoblifmggkpoaa.Ln
open Go.RowKit Tx Lm Aq
set_option linter.unusedVariables false
theorem texts_cell {w : World} {B g n c : Nat} {l : List ByteArray} (h : Texts w B (.slice (some ⟨g, 0, none⟩) n c) l) {k : Nat} {x : ByteArray} (hx : l[k]? = some x) : w.cell? ⟨g, k, none⟩ = some (.string x) := by
  have hn : n = l.length := by
    rcases h.2 with ⟨h0, _⟩ | ⟨_, _, _, hv, _⟩
    · cases h0
    · injection hv
  subst hn
  exact own_cell h (by rw [List.getElem?_map, hx]; rfl)
theorem ab_lns : lns ⟨#[97, 10, 98]⟩ = [⟨#[97, 10]⟩, ⟨#[98]⟩] := by decide +kernel
theorem z_txt : txt ⟨#[0]⟩ = 21 := by decide +kernel
set_option maxRecDepth 100000 in
set_option maxHeartbeats 1000000 in
theorem awake_any11 (w : World) : Calls Try.prog 7 #[] w fun e w' => e = .returned (.bool true) ∧ Below w.heap.size w w' := by
  have c1 := fun W => split_lines ⟨#[97, 10, 98]⟩ W (by decide)
  have c2 := fun W => count_lines ⟨#[97, 10, 98]⟩ W (by decide)
  have c3 := fun W => text_lines ⟨#[0]⟩ W (by decide)
  rw [ab_lns] at c1 c2
  rw [z_txt] at c3
  unfold ListN at c1
  go_enter Try.func7, Try.ntmps7
  go_wp2_with fail
  go_at_call 6
  refine (c1 _).mono ?_
  rintro e w1 ⟨g, c, rfl, htx, hb1⟩
  have d0 := texts_cell htx (k := 0) rfl
  have d1 := texts_cell htx (k := 1) rfl
  have e0 : ((ByteArray.mk #[97, 10]).toList == [97, 10]) = true := by rw [ByteArray.toList_eq]; rfl
  have e1 : ((ByteArray.mk #[98]).toList == [98]) = true := by rw [ByteArray.toList_eq]; rfl
  clear htx
  go_wp2_with (first
    | (go_at_call 10; refine (c2 _).mono ?_; rintro e w' ⟨rfl, rfl⟩)
    | (go_at_call 11; refine (c3 _).mono ?_; rintro e w' ⟨rfl, rfl⟩))
  go_ret
  exact ⟨rfl, hb1⟩
end Go.Proofs.Ytaoblifmggkpoaa.Ln
