/- Texts of this seat, one behind the other. -/
import Derived.WalkKit
import Derived.Test.YtdpnmdnfnplcfaaGreatRows
import Derived.WalkLawsBesides
import Derived.WalkSpells
import Derived.LoopTactic
import Derived.Lib.Hide
import Derived.Deep.AppendLies
import Derived.Deep.QuietTactic
import Derived.BigQuiet
import Derived.Laws.Rows
import Derived.Laws.NewBlocks
import Derived.Test.YtdpnmdnfnplcfaaGreatProg
import Derived.Deep.RegionHeld3
import Derived.Deep.CutBlock
import Derived.Deep.CutRange
import Derived.Deep.RegionWith
namespace Go.Proofs.YtdpnmdnfnplcfaaGreat.Pm
set_option linter.unusedVariables false
def spl : List UInt8 → List (List UInt8)
  | [] => [[]]
  | c :: r => if c = 47 then [] :: spl r else
    match spl r with
    | [] => [[c]]
    | x :: xs => (c :: x) :: xs
theorem spl_ne (l : List UInt8) : spl l ≠ [] := by
  cases l with
  | nil => simp [spl]
  | cons c r =>
    rw [spl]
    split
    · simp
    · split <;> simp
def glue (one : List UInt8) : List (List UInt8) → List (List UInt8)
  | [] => [one]
  | x :: xs => (one ++ x) :: xs
theorem glue_nil {l : List (List UInt8)} (h : l ≠ []) : glue [] l = l := by
  cases l with
  | nil => exact absurd rfl h
  | cons x xs => rfl
theorem glue_step (one : List UInt8) (c : UInt8) (r : List UInt8) (h : c ≠ 47) : glue one (spl (c :: r)) = glue (one ++ [c]) (spl r) := by
  rw [spl, if_neg h]
  cases hs : spl r with
  | nil => exact absurd hs (spl_ne r)
  | cons x xs => simp [glue]
theorem glue_cut (one : List UInt8) (r : List UInt8) : glue one (spl (47 :: r)) = one :: spl r := by
  rw [spl, if_pos rfl]
  simp [glue]
theorem spl_len (l : List UInt8) : (spl l).length ≤ l.length + 1 := by
  induction l with
  | nil => simp [spl]
  | cons c r ih =>
    rw [spl]
    split
    · simp; omega
    · split
      · simp
      · rename_i x xs h
        rw [h] at ih
        simp at ih ⊢
        omega
def okC (c : UInt8) : Bool := (97 ≤ c.toNat && c.toNat ≤ 122) || (48 ≤ c.toNat && c.toNat ≤ 57) || c.toNat == 95
def isName (l : List UInt8) : Bool := decide (1 ≤ l.length) && decide (l.length ≤ 12) && l.all okC
def isPath (l : List UInt8) (deep : Int) : Bool := decide (((spl l).length : Int) ≤ deep) && (spl l).all isName
def chk (l : List UInt8) (deep : Int) : Nat := if isPath l deep then 0 else 10
def lastN : List UInt8 → Nat
  | [] => 0
  | c :: r => if lastN r = 0 then (if c = 47 then 1 else 0) else lastN r + 1
theorem lastN_le (l : List UInt8) : lastN l ≤ l.length := by
  induction l with
  | nil => exact Nat.le_refl _
  | cons c r ih =>
    rw [lastN]
    split
    · split <;> simp
    · simp; omega
theorem lastN_snoc (l : List UInt8) (c : UInt8) : lastN (l ++ [c]) = if c = 47 then l.length + 1 else lastN l := by
  induction l with
  | nil => simp [lastN]
  | cons d r ih =>
    rw [List.cons_append, lastN, ih, lastN]
    by_cases h : c = 47
    · simp [h]
    · simp [h]
def par (l : List UInt8) : List UInt8 := l.take (lastN l - 1)
def bas (l : List UInt8) : List UInt8 := l.drop (lastN l)
def joi (a b : List UInt8) : List UInt8 := if a ≠ [] ∧ b ≠ [] then a ++ 47 :: b else a ++ b
def und (p top : List UInt8) : Bool := decide (top = []) || decide (p = top) || (top ++ [47]).isPrefixOf p
def dep (p : List UInt8) : Nat := if p = [] then 0 else (spl p).length
end Go.Proofs.YtdpnmdnfnplcfaaGreat.Pm

namespace Go.Proofs.YtdpnmdnfnplcfaaGreat.Tx
open Go.RowKit
set_option linter.unusedVariables false
theorem info9 : (Tryz.prog.info? 9).map (fun i => (i.zero, i.size, i.bytes)) = some (some (.string ⟨#[]⟩), 1, 16) := by kernel_rfl
theorem below_call {w w1 w2 : World} (h : Below w.heap.size w w1) (h2 : Below w1.heap.size w1 w2) : Below w.heap.size w w2 := h.trans (h2.mono h.size)
theorem below_step {w wr w1 : World} {e : TypeId} {size n : Nat} {v : Value} {xs : List Value} {o : Obj} (hb : Below w.heap.size w wr) (hown : wr.ownsRow w.heap.size e size v n xs) (hg : (wr.alloc o).grownBy w1 v.ownBlock) : Below w.heap.size w w1 :=
  (hb.alloc hb.size o).grown hg (by have := hb.size; simp; omega) (fun k hk => (hown.lt k hk).1)
theorem len_l (s : ByteArray) : s.data.toList.length = s.size := by rw [Array.length_toList]; rfl
theorem gd (s : ByteArray) (k : Nat) (h : k < s.size) : s.data.toList.getD k 0 = s[k] := by
  have h' : k < s.data.size := h
  rw [List.getD_eq_getElem?_getD, Array.getElem?_toList, Array.getElem?_eq_getElem h']
  rfl
theorem mk_len (l : List UInt8) : (⟨l.toArray⟩ : ByteArray).size = l.length := by rw [ByteArray.size, List.size_toArray]
def tb (l : List UInt8) : ByteArray := ⟨l.toArray⟩
theorem tb_list (l : List UInt8) : (tb l).data.toList = l := rfl
theorem tb_of (s : ByteArray) : tb s.data.toList = s := by
  apply ByteArray.ext
  rfl
theorem tb_size (l : List UInt8) : (tb l).size = l.length := mk_len l
theorem bytes_ne {a b : ByteArray} (h : a ≠ b) : (a.toList == b.toList) = false := by
  rw [ByteArray.toList_eq, ByteArray.toList_eq]
  apply Bool.eq_false_iff.2
  intro hc
  exact h (ByteArray.ext (Array.toList_inj.1 (eq_of_beq hc)))
def sv (s : ByteArray) : Value := .string s
theorem sv_one (l : List ByteArray) : ∀ u ∈ l.map sv, u.oneCell' = true := by
  intro u hu
  obtain ⟨s, _, rfl⟩ := List.mem_map.1 hu
  rfl
def Texts (w : World) (B : Nat) (v : Value) (l : List ByteArray) : Prop := w.ownsRow B 9 1 v l.length (l.map sv)
theorem Texts.below {w w1 : World} {B : Nat} {v : Value} {l : List ByteArray} (h : Texts w B v l) (hb : Below w.heap.size w w1) : Texts w1 B v l := by
  refine ⟨h.1, ?_⟩
  rcases h.2 with h0 | ⟨g', cap', cur, hv, hg, hh, r⟩
  · exact .inl h0
  · exact .inr ⟨g', cap', cur, hv, hg, (hb.block g' (Array.getElem?_eq_some_iff.1 hh).1).trans hh, r⟩
def Strs (w : World) (a : Option Addr) (n : Nat) (l : List ByteArray) : Prop := l.length = n ∧ (n = 0 ∨ ∃ b off, a = some ⟨b, off, none⟩ ∧ b < w.heap.size ∧ ∀ k x, l[k]? = some x → w.cell? ⟨b, off + k, none⟩ = some (.string x))
theorem Strs.below {w w1 : World} {a : Option Addr} {n : Nat} {l : List ByteArray} (h : Strs w a n l) (hb : Below w.heap.size w w1) : Strs w1 a n l := by
  refine ⟨h.1, ?_⟩
  rcases h.2 with h0 | ⟨b, off, ha, hlt, hc⟩
  · exact .inl h0
  · exact .inr ⟨b, off, ha, Nat.lt_of_lt_of_le hlt hb.size, fun k x hx => (hb.cell (p := ⟨b, off + k, none⟩) hlt).trans (hc k x hx)⟩
theorem Texts.form {w : World} {B : Nat} {v : Value} {l : List ByteArray} (h : Texts w B v l) : ∃ a c, v = .slice a l.length c ∧ Strs w a l.length l ∧ l.length ≤ c ∧ c ≤ maxLen := by
  have hh := h
  rcases h.2 with ⟨rfl, h0⟩ | ⟨g, cap, cur, rfl, hg, hh2, hn, hc, _⟩
  · exact ⟨none, 0, by rw [h0], ⟨rfl, .inl h0⟩, by omega, Nat.zero_le _⟩
  · refine ⟨some ⟨g, 0, none⟩, cap, rfl, ⟨rfl, .inr ⟨g, 0, rfl, (Array.getElem?_eq_some_iff.1 hh2).1, fun k x hx => ?_⟩⟩, hn, hc⟩
    have := hh.cells (g := g) rfl k (sv x) (by rw [List.getElem?_map, hx]; rfl)
    rw [← WideShapes.add_plain]
    exact this
end Go.Proofs.YtdpnmdnfnplcfaaGreat.Tx

namespace Go.Proofs.YtdpnmdnfnplcfaaGreat.Pr
open Go.RowKit Pm Tx
set_option linter.unusedVariables false
def SplitTo (p : ByteArray) (w : World) (e : Ending) (w' : World) : Prop := ∃ v, e = .returned v ∧ Texts w' w.heap.size v ((spl p.data.toList).map tb) ∧ Below w.heap.size w w'
def At (p : ByteArray) (k : Nat) (out : List ByteArray) (one : ByteArray) : Prop := (spl p.data.toList).map tb = out ++ (glue one.data.toList (spl (p.data.toList.drop k))).map tb ∧ out.length + one.size ≤ k
theorem at_start (p : ByteArray) : At p 0 [] ⟨#[]⟩ := by
  refine ⟨?_, Nat.le_refl _⟩
  rw [List.drop_zero, List.nil_append]
  congr 1
  exact (glue_nil (spl_ne _)).symm
theorem drop_at (p : ByteArray) (k : Nat) (h : k < p.size) : p.data.toList.drop k = p[k] :: p.data.toList.drop (k + 1) := by
  have h' : k < p.data.toList.length := by rw [len_l]; exact h
  rw [List.drop_eq_getElem_cons h']
  rfl
theorem at_cut {p one : ByteArray} {k : Nat} {out : List ByteArray} (h : At p k out one) (hk : k < p.size) (hc : p[k].toNat = 47) : At p (k + 1) (out ++ [one]) ⟨#[]⟩ := by
  have e : p[k] = 47 := UInt8.toNat_inj.1 hc
  obtain ⟨h1, h2⟩ := h
  refine ⟨?_, by rw [List.length_append]; show _ + 1 + 0 ≤ _; omega⟩
  rw [h1, drop_at p k hk, e, glue_cut]
  have e2 : (glue (ByteArray.mk #[]).data.toList (spl (p.data.toList.drop (k + 1)))) = spl (p.data.toList.drop (k + 1)) := glue_nil (spl_ne _)
  rw [e2, List.map_cons, tb_of, List.append_assoc]
  rfl
theorem at_more {p one : ByteArray} {k : Nat} {out : List ByteArray} (h : At p k out one) (hk : k < p.size) (hc : p[k].toNat ≠ 47) : At p (k + 1) out (one ++ p.extract k (k + 1)) := by
  have e : p[k] ≠ 47 := fun e => hc (by rw [e]; rfl)
  obtain ⟨h1, h2⟩ := h
  have e2 : (p.extract k (k + 1)).data.toList = [p[k]] := by
    rw [ByteArray.data_extract, Array.toList_extract, List.extract_eq_take_drop, drop_at p k hk]
    simp
  refine ⟨?_, ?_⟩
  · rw [h1, drop_at p k hk, glue_step _ _ _ e, ByteArray.data_append, Array.toList_append, e2]
  · rw [ByteArray.size_append, ← len_l (p.extract k (k + 1)), e2]
    show _ + (_ + 1) ≤ _
    omega
theorem at_end {p one : ByteArray} {k : Nat} {out : List ByteArray} (h : At p k out one) (hk : ¬ k < p.size) : (spl p.data.toList).map tb = out ++ [one] := by
  rw [h.1, List.drop_of_length_le (by rw [len_l]; omega)]
  simp [spl, glue, tb_of]
set_option maxRecDepth 100000 in
set_option maxHeartbeats 1000000 in
theorem refSplit_any (p : ByteArray) (w : World) (hs : p.size ≤ 8796093022207) :
    Calls Tryz.prog 90 #[.string p] w (SplitTo p w) := by
  obtain ⟨i0, hi, hz0, hz1, hz2⟩ := info_parts info9
  go_enter Tryz.func90, Tryz.ntmps90
  go_wp2_with fail
  go_loopw [3, 4, 5] (fun v o i wr => ∃ (k : Nat) (out : List ByteArray) (one : ByteArray), k ≤ p.size ∧ i = .int .i64 k ∧ o = .string one ∧ Hid (At p k out one) ∧ Texts wr w.heap.size v out ∧ Below w.heap.size w wr) (fun _ _ i _ => p.size - (intOf i).toNat)
  case atStart => exact ⟨0, [], ⟨#[]⟩, Nat.zero_le _, rfl, rfl, at_start p, World.ownsRow_nil _ _ _ _, Below.refl _ _⟩
  case round =>
    obtain ⟨k, out, one, hk, rfl, rfl, hat, htx, hb⟩ := hrel
    have hlen := hat.out.2
    have hsz := hb.size
    have hown := htx
    unfold Texts at hown
    by_cases hlt : k < p.size
    · by_cases hc : p[k].toNat = 47
      · have hat' := Lib.hid (at_cut hat.out hlt hc)
        have hc' : ((p[k].toNat : Int) == 47) = true := by simp [hc]
        clear hc htx
        go_wp2_with (at_builtin; refine wpList_append_own _ rfl _ _ 58 rfl w.heap.size 9 i0 (.string ⟨#[]⟩) 1 16 Tryz.underlying58 hi hz0 hz1 hz2 rfl (by decide) _ _ _ rfl (hown.alloc _) ⟨wr.heap.size, 0, none⟩ 1 1 [sv one] rfl rfl ?c1 ?c2 ?c3 ?c4 ?c5 ?_)
        case c1 => exact cell_one_new _ _ _
        case c2 => exact sv_one [one]
        case c3 => unfold maxLen; omega
        case c4 => omega
        case c5 => simp; omega
        intro v' w2 hown' hgrow _
        have hb3 := below_step hb hown hgrow
        have htx2 : Texts w2 w.heap.size v' (out ++ [one]) := by
          unfold Texts
          rw [List.length_append, List.map_append]
          exact hown'
        clear hown hown' hgrow hb
        go_wp2_with fail
        go_roundw
        case rel => exact ⟨k + 1, out ++ [one], ⟨#[]⟩, by omega, by go_num, rfl, hat', htx2, hb3⟩
        case measure => simp [intOf]; omega
      · have hat' := Lib.hid (at_more hat.out hlt hc)
        have hc' : ((p[k].toNat : Int) == 47) = false := beq_eq_false_iff_ne.2 (by omega)
        have hes : (p.extract k (k + 1)).size ≤ 1 := by simp; omega
        clear hc hown
        go_wp2_with fail
        go_roundw
        case rel => exact ⟨k + 1, out, _, by omega, by go_num, rfl, hat', htx, hb⟩
        case measure => simp [intOf]; omega
    · have hend := Lib.hid (at_end hat.out hlt)
      clear htx
      go_wp2_with (at_builtin; refine wpList_append_own _ rfl _ _ 58 rfl w.heap.size 9 i0 (.string ⟨#[]⟩) 1 16 Tryz.underlying58 hi hz0 hz1 hz2 rfl (by decide) _ _ _ rfl (hown.alloc _) ⟨wr.heap.size, 0, none⟩ 1 1 [sv one] rfl rfl ?c1 ?c2 ?c3 ?c4 ?c5 ?_)
      case c1 => exact cell_one_new _ _ _
      case c2 => exact sv_one [one]
      case c3 => unfold maxLen; omega
      case c4 => omega
      case c5 => simp; omega
      intro v' w2 hown' hgrow _
      have hb3 := below_step hb hown hgrow
      have htx2 : Texts w2 w.heap.size v' (out ++ [one]) := by
        unfold Texts
        rw [List.length_append, List.map_append]
        exact hown'
      clear hown hown' hgrow hb
      go_wp2_with fail
      go_ret
      unfold SplitTo
      rw [hend.out]
      exact ⟨_, rfl, htx2, hb3⟩
end Go.Proofs.YtdpnmdnfnplcfaaGreat.Pr

namespace Go.Proofs.YtdpnmdnfnplcfaaGreat.Pr
open Go.RowKit Pm Tx
set_option linter.unusedVariables false
theorem take_at (p : ByteArray) (k : Nat) (h : k < p.size) : p.data.toList.take (k + 1) = p.data.toList.take k ++ [p[k]] := by
  have h' : k < p.data.toList.length := by rw [len_l]; exact h
  rw [List.take_succ_eq_append_getElem h']
  rfl
theorem take_all (p : ByteArray) : p.data.toList.take p.size = p.data.toList := List.take_of_length_le (by rw [len_l]; omega)
theorem all_at (p : ByteArray) (k : Nat) (h : k < p.size) (ha : (p.data.toList.take k).all okC = true) (hb : okC p[k] = true) : (p.data.toList.take (k + 1)).all okC = true := by
  rw [take_at p k h, List.all_append, ha]
  simp [hb]
theorem all_not (p : ByteArray) (k : Nat) (h : k < p.size) (hb : okC p[k] = false) : isName p.data.toList = false := by
  have h' : k < p.data.toList.length := by rw [len_l]; exact h
  have : p.data.toList.all okC = false := by
    rw [← Bool.not_eq_true, List.all_eq_true]
    intro hall
    have := hall _ (List.getElem_mem h')
    have e : p.data.toList[k] = p[k] := rfl
    rw [e, hb] at this
    cases this
  rw [isName, this, Bool.and_false]
set_option maxRecDepth 100000 in
set_option maxHeartbeats 1000000 in
theorem refName_any (s : ByteArray) (w : World) (hs : s.size ≤ 9223372036854775807) :
    Calls Tryz.prog 91 #[.string s] w fun e w' => e = .returned (.bool (isName s.data.toList)) ∧ w = w' := by
  by_cases h0 : 1 ≤ s.size ∧ s.size ≤ 12
  · obtain ⟨h1, h2⟩ := h0
    go_enter Tryz.func91, Tryz.ntmps91
    go_wp2
    go_loop [3] (fun i => ∃ k : Nat, k ≤ s.size ∧ i = .int .i64 k ∧ Hid ((s.data.toList.take k).all okC = true)) (fun i => s.size - (intOf i).toNat)
    case atStart => exact ⟨0, Nat.zero_le _, rfl, rfl⟩
    case round =>
      obtain ⟨k, hk, rfl, hall⟩ := hrel
      by_cases hlt : k < s.size
      · have hX := s[k].toNat_lt
        have hgood := fun h => Lib.hid (all_at s k hlt hall.out h)
        have hbad := fun h => Lib.hid (all_not s k hlt h)
        obtain ⟨X, hXe⟩ : ∃ X, X = s[k].toNat := ⟨_, rfl⟩
        have hok : okC s[k] = ((97 ≤ X && X ≤ 122) || (48 ≤ X && X ≤ 57) || X == 95) := by rw [hXe]; rfl
        rw [hok] at hgood hbad
        rw [← hXe] at hX
        have hXe' := hXe.symm
        clear hok hXe hall
        rcases show (X < 48) ∨ (57 < X ∧ X < 95) ∨ X = 96 ∨ 122 < X ∨ (48 ≤ X ∧ X ≤ 57) ∨ X = 95 ∨ (97 ≤ X ∧ X ≤ 122) by omega with h | h | h | h | h | h | h
        · have hb := hbad (by simp; omega)
          have e : ((X : Int) == 95) = false := beq_eq_false_iff_ne.2 (by omega)
          clear hgood hbad
          go_wp2
          go_ret
          exact ⟨by rw [hb.out]; rfl, rfl⟩
        · have hb := hbad (by simp; omega)
          have e : ((X : Int) == 95) = false := beq_eq_false_iff_ne.2 (by omega)
          have d57 : decide ((X : Int) ≤ 57) = false := decide_eq_false (by omega)
          clear hgood hbad
          go_wp2
          go_ret
          exact ⟨by rw [hb.out]; rfl, rfl⟩
        · have hb := hbad (by simp; omega)
          have e : ((X : Int) == 95) = false := beq_eq_false_iff_ne.2 (by omega)
          have d57 : decide ((X : Int) ≤ 57) = false := decide_eq_false (by omega)
          clear hgood hbad
          go_wp2
          go_ret
          exact ⟨by rw [hb.out]; rfl, rfl⟩
        · have hb := hbad (by simp; omega)
          have e : ((X : Int) == 95) = false := beq_eq_false_iff_ne.2 (by omega)
          have d57 : decide ((X : Int) ≤ 57) = false := decide_eq_false (by omega)
          have d122 : decide ((X : Int) ≤ 122) = false := decide_eq_false (by omega)
          clear hgood hbad
          go_wp2
          go_ret
          exact ⟨by rw [hb.out]; rfl, rfl⟩
        · have hb := hgood (by simp; omega)
          have e : ((X : Int) == 95) = false := beq_eq_false_iff_ne.2 (by omega)
          clear hgood hbad
          go_wp2
          go_round
          case rel => exact ⟨k + 1, by omega, by go_num, hb.out⟩
          case measure => simp [intOf]; omega
        · have hb := hgood (by simp; omega)
          have e : ((X : Int) == 95) = true := by simp [h]
          clear hgood hbad
          go_wp2
          go_round
          case rel => exact ⟨k + 1, by omega, by go_num, hb.out⟩
          case measure => simp [intOf]; omega
        · have hb := hgood (by simp; omega)
          have e : ((X : Int) == 95) = false := beq_eq_false_iff_ne.2 (by omega)
          clear hgood hbad
          go_wp2
          go_round
          case rel => exact ⟨k + 1, by omega, by go_num, hb.out⟩
          case measure => simp [intOf]; omega
      · obtain rfl : k = s.size := by omega
        have hn : isName s.data.toList = true := by
          have h := hall.out
          rw [take_all] at h
          rw [isName, h, len_l]
          simp [h1, h2]
        have HN := Lib.hid hn
        clear hn hall
        go_wp2
        go_ret
        exact ⟨by rw [HN.out]; rfl, rfl⟩
  · have hn : isName s.data.toList = false := by
      rw [isName, len_l]
      by_cases h1 : 1 ≤ s.size
      · have h2 : ¬ s.size ≤ 12 := fun h2 => h0 ⟨h1, h2⟩
        simp [h2]
      · simp [h1]
    rw [hn]
    rcases show s.size < 1 ∨ 12 < s.size by omega with h | h
    all_goals
      clear h0 hn
      go_enter Tryz.func91, Tryz.ntmps91
      go_wp2
      go_ret
      exact ⟨rfl, rfl⟩
set_option maxRecDepth 100000 in
set_option maxHeartbeats 1000000 in
theorem reflast_any (s : ByteArray) (w : World) (hs : s.size ≤ 9223372036854775807) :
    Calls Tryz.prog 95 #[.string s] w fun e w' => e = .returned (.int .i64 ((lastN s.data.toList : Nat) - 1)) ∧ w = w' := by
  go_enter Tryz.func95, Tryz.ntmps95
  go_wp2
  go_loop [3, 4] (fun a i => ∃ k L : Nat, k ≤ s.size ∧ i = .int .i64 k ∧ a = .int .i64 ((L : Int) - 1) ∧ Hid (L = lastN (s.data.toList.take k))) (fun _ i => s.size - (intOf i).toNat)
  case atStart => exact ⟨0, 0, Nat.zero_le _, rfl, rfl, rfl⟩
  case round =>
    obtain ⟨k, L, hk, rfl, rfl, hL⟩ := hrel
    by_cases hlt : k < s.size
    · have hX := s[k].toNat_lt
      have hn := lastN_snoc (s.data.toList.take k) s[k]
      rw [← take_at s k hlt, List.length_take, len_l, Nat.min_eq_left hk] at hn
      by_cases hc : s[k].toNat = 47
      · rw [if_pos (UInt8.toNat_inj.1 hc)] at hn
        have HN := Lib.hid hn
        have e : ((s[k].toNat : Int) == 47) = true := by simp [hc]
        clear hn hc hL
        go_wp2
        go_round
        case rel => exact ⟨k + 1, k + 1, by omega, by go_num, by go_num, HN.out.symm⟩
        case measure => simp [intOf]; omega
      · rw [if_neg (fun e => hc (by rw [e]; rfl)), ← hL.out] at hn
        have HN := Lib.hid hn
        have e : ((s[k].toNat : Int) == 47) = false := beq_eq_false_iff_ne.2 (by omega)
        clear hn hc hL
        go_wp2
        go_round
        case rel => exact ⟨k + 1, L, by omega, by go_num, rfl, HN.out.symm⟩
        case measure => simp [intOf]; omega
    · obtain rfl : k = s.size := by omega
      have h := hL.out
      rw [take_all] at h
      subst h
      clear hL
      go_wp2
      go_ret
      exact ⟨rfl, rfl⟩
end Go.Proofs.YtdpnmdnfnplcfaaGreat.Pr

namespace Go.Proofs.YtdpnmdnfnplcfaaGreat.Pr
open Go.RowKit Pm Tx
set_option linter.unusedVariables false
theorem par_ext (s : ByteArray) : s.extract 0 (lastN s.data.toList - 1) = tb (par s.data.toList) := by
  apply ByteArray.ext
  apply Array.toList_inj.1
  rw [ByteArray.data_extract, Array.toList_extract, List.extract_eq_take_drop]
  simp [tb, par]
set_option maxRecDepth 100000 in
set_option maxHeartbeats 1000000 in
theorem refParent_any (s : ByteArray) (w : World) (hs : s.size ≤ 9223372036854775807) :
    Calls Tryz.prog 51 #[.string s] w fun e w' => e = .returned (.string (tb (par s.data.toList))) ∧ w = w' := by
  have cl := fun W => reflast_any s W hs
  have hL := lastN_le s.data.toList
  rw [len_l] at hL
  rw [← par_ext]
  obtain ⟨L, hLe⟩ : ∃ L, L = lastN s.data.toList := ⟨_, rfl⟩
  rw [← hLe] at cl hL ⊢
  clear hLe
  by_cases h0 : L = 0
  · subst h0
    go_enter Tryz.func51, Tryz.ntmps51
    go_wp2_with (go_at_call 95; refine (cl _).mono ?_; rintro e w1 ⟨rfl, rfl⟩)
    go_ret
    exact ⟨by simp; rfl, rfl⟩
  · obtain ⟨K, rfl⟩ : ∃ K, L = K + 1 := ⟨L - 1, by omega⟩
    have e1 : ((K + 1 : Nat) : Int) - 1 = K := by omega
    rw [e1] at cl
    rw [Nat.add_sub_cancel]
    clear h0
    go_enter Tryz.func51, Tryz.ntmps51
    go_wp2_with (go_at_call 95; refine (cl _).mono ?_; rintro e w1 ⟨rfl, rfl⟩)
    go_ret
    exact ⟨rfl, rfl⟩
theorem size_zero {s : ByteArray} : s.size = 0 ↔ s = ⟨#[]⟩ := by
  refine ⟨fun h => ?_, fun h => by rw [h]; rfl⟩
  apply ByteArray.ext
  exact Array.eq_empty_of_size_eq_zero h
theorem list_nil {s : ByteArray} (h : s = ⟨#[]⟩) : s.data.toList = [] := by rw [h]
theorem list_ne {s : ByteArray} (h : s ≠ ⟨#[]⟩) : s.data.toList ≠ [] := fun e => h (ByteArray.ext (Array.toList_inj.1 e))
theorem is_empty {s : ByteArray} (h : s = ⟨#[]⟩) : s.toList.isEmpty = true := by rw [h, ByteArray.toList_eq]; rfl
theorem not_empty {s : ByteArray} (h : s ≠ ⟨#[]⟩) : s.toList.isEmpty = false := by
  rw [ByteArray.toList_eq]
  cases e : s.data.toList with
  | nil => exact absurd e (list_ne h)
  | cons c r => rfl
theorem extract_eq {p t : ByteArray} : p.extract 0 t.size = t ↔ t.data.toList <+: p.data.toList := by
  have e : (p.extract 0 t.size).data.toList = p.data.toList.take t.data.toList.length := by
    rw [ByteArray.data_extract, Array.toList_extract, List.extract_eq_take_drop, len_l]
    simp
  rw [List.prefix_iff_eq_take, ← e]
  exact ⟨fun h => by rw [h], fun h => ByteArray.ext (Array.toList_inj.1 h.symm)⟩
theorem und_top {p top : ByteArray} (h : top = ⟨#[]⟩) : und p.data.toList top.data.toList = true := by
  rw [und, list_nil h]; simp
theorem und_same {p top : ByteArray} (h : p = top) : und p.data.toList top.data.toList = true := by
  rw [und, h]; simp
theorem und_eq {p top : ByteArray} (h1 : top ≠ ⟨#[]⟩) (h2 : p ≠ top) : und p.data.toList top.data.toList = (top.data.toList ++ [47]).isPrefixOf p.data.toList := by
  have e1 := list_ne h1
  have e2 : p.data.toList ≠ top.data.toList := fun e => h2 (ByteArray.ext (Array.toList_inj.1 e))
  rw [und, decide_eq_false e1, decide_eq_false e2, Bool.false_or, Bool.false_or]
theorem pre_cons {p t : ByteArray} (h : t.size < p.size) : t.data.toList ++ [47] <+: p.data.toList ↔ (t.data.toList <+: p.data.toList ∧ p[t.size] = 47) := by
  have h' : t.data.toList.length < p.data.toList.length := by rw [len_l, len_l]; exact h
  have e : p.data.toList[t.data.toList.length] = p[t.size] := by
    have e3 : ∀ (k : Nat) (hk : k < p.data.toList.length) (hk2 : k < p.size), p.data.toList[k] = p[k] := fun _ _ _ => rfl
    have e4 : ∀ (k n : Nat) (hk : k < p.size) (hn : n < p.size), k = n → p[k] = p[n] := by
      intro k n hk hn hh
      subst hh
      rfl
    rw [e3 _ h' (by rw [len_l]; exact h)]
    exact e4 _ _ _ _ (len_l t)
  rw [List.prefix_iff_eq_take, List.prefix_iff_eq_take, List.length_append, List.length_singleton, List.take_succ_eq_append_getElem h', e]
  constructor
  · intro hh
    have := List.append_inj hh (by rw [List.length_take]; omega)
    refine ⟨this.1, ?_⟩
    have h3 := this.2
    injection h3 with h3 _
    exact h3.symm
  · rintro ⟨h1, h2⟩
    rw [← h1, h2]
theorem pre_short {p t : ByteArray} (h : p.size ≤ t.size) : (t.data.toList ++ [47]).isPrefixOf p.data.toList = false := by
  apply Bool.eq_false_iff.2
  intro hh
  have := (List.isPrefixOf_iff_prefix.1 hh).length_le
  rw [List.length_append, len_l, len_l] at this
  simp at this
  omega
set_option maxRecDepth 100000 in
set_option maxHeartbeats 1000000 in
theorem refUnder_any (p t : ByteArray) (w : World) (hp : p.size ≤ 9223372036854775807) (ht : t.size ≤ 9223372036854775807) :
    Calls Tryz.prog 42 #[.string p, .string t] w fun e w' => e = .returned (.bool (und p.data.toList t.data.toList)) ∧ w = w' := by
  by_cases h1 : t = ⟨#[]⟩
  · have e1 := is_empty h1
    rw [und_top h1]
    clear h1
    go_enter Tryz.func42, Tryz.ntmps42
    go_wp2
    go_ret
    exact ⟨rfl, rfl⟩
  have e1 := not_empty h1
  by_cases h2 : p = t
  · rw [und_same h2]
    subst h2
    have e2 : (p.toList == p.toList) = true := beq_self_eq_true _
    clear h1
    go_enter Tryz.func42, Tryz.ntmps42
    go_wp2
    go_ret
    exact ⟨rfl, rfl⟩
  have e2 := bytes_ne h2
  rw [und_eq h1 h2]
  by_cases h3 : t.size < p.size
  · have hpc := pre_cons h3
    by_cases h4 : p.extract 0 t.size = t
    · have e4 : ((p.extract 0 t.size).toList == t.toList) = true := by rw [h4]; exact beq_self_eq_true _
      by_cases h5 : p[t.size] = 47
      · have HR := Lib.hid (List.isPrefixOf_iff_prefix.2 (hpc.2 ⟨extract_eq.1 h4, h5⟩))
        have e5 : ((p[t.size].toNat : Int) == 47) = true := by rw [h5]; rfl
        clear h1 h2 h4 h5 hpc
        go_enter Tryz.func42, Tryz.ntmps42
        go_wp2
        go_ret
        exact ⟨by rw [HR.out]; rfl, rfl⟩
      · have HR := Lib.hid (Bool.eq_false_iff.2 (fun hh => h5 (hpc.1 (List.isPrefixOf_iff_prefix.1 hh)).2))
        have e5 : ((p[t.size].toNat : Int) == 47) = false := by
          apply Bool.eq_false_iff.2
          intro hh
          have hh : (p[t.size].toNat : Int) = 47 := eq_of_beq hh
          exact h5 (UInt8.toNat_inj.1 (by rw [show (47 : UInt8).toNat = 47 from rfl]; omega))
        clear h1 h2 h4 h5 hpc
        go_enter Tryz.func42, Tryz.ntmps42
        go_wp2
        go_ret
        exact ⟨by rw [HR.out]; rfl, rfl⟩
    · have e4 := bytes_ne h4
      have HR := Lib.hid (Bool.eq_false_iff.2 (fun hh => h4 (extract_eq.2 (hpc.1 (List.isPrefixOf_iff_prefix.1 hh)).1)))
      clear h1 h2 h4 hpc
      go_enter Tryz.func42, Tryz.ntmps42
      go_wp2
      go_ret
      exact ⟨by rw [HR.out]; rfl, rfl⟩
  · have HR := Lib.hid (pre_short (p := p) (t := t) (by omega))
    clear h1 h2
    go_enter Tryz.func42, Tryz.ntmps42
    go_wp2
    go_ret
    exact ⟨by rw [HR.out]; rfl, rfl⟩
theorem all_step (l : List (List UInt8)) (k : Nat) (x : List UInt8) (h : l[k]? = some x) (ha : (l.take k).all isName = true) (hb : isName x = true) : (l.take (k + 1)).all isName = true := by
  obtain ⟨hk, he⟩ := List.getElem?_eq_some_iff.1 h
  rw [List.take_succ_eq_append_getElem hk, List.all_append, ha, he]
  simp [hb]
theorem all_fail (l : List (List UInt8)) (k : Nat) (x : List UInt8) (h : l[k]? = some x) (hb : isName x = false) : l.all isName = false := by
  obtain ⟨hk, he⟩ := List.getElem?_eq_some_iff.1 h
  rw [← Bool.not_eq_true, List.all_eq_true]
  intro hall
  have := hall _ (List.getElem_mem hk)
  rw [he, hb] at this
  cases this
theorem chk_far {l : List UInt8} {d : Int} (h : d < (spl l).length) : chk l d = 10 := by
  rw [chk, isPath, decide_eq_false (by omega), Bool.false_and, if_neg (by simp)]
theorem chk_bad {l : List UInt8} {d : Int} (h : (spl l).all isName = false) : chk l d = 10 := by
  rw [chk, isPath, h, Bool.and_false, if_neg (by simp)]
theorem chk_good {l : List UInt8} {d : Int} (hd : ((spl l).length : Int) ≤ d) (h : (spl l).all isName = true) : chk l d = 0 := by
  rw [chk, isPath, h, decide_eq_true hd, Bool.and_true, if_pos rfl]
theorem spl_sizes (l : List UInt8) : ∀ x ∈ spl l, x.length ≤ l.length := by
  induction l with
  | nil => simp [spl]
  | cons c r ih =>
    rw [spl]
    split
    · intro x hx
      rcases List.mem_cons.1 hx with rfl | hx
      · simp
      · have := ih x hx; simp; omega
    · cases hs : spl r with
      | nil => exact absurd hs (spl_ne r)
      | cons y ys =>
        rw [hs] at ih
        intro x hx
        rcases List.mem_cons.1 hx with rfl | hx
        · have := ih y (List.mem_cons_self ..); simp; omega
        · have := ih x (List.mem_cons_of_mem _ hx); simp; omega
set_option maxRecDepth 100000 in
set_option maxHeartbeats 1000000 in
theorem refCheck_any (p : ByteArray) (d : Int) (w : World) (hs : p.size ≤ 8796093022207) (h1 : -9223372036854775808 ≤ d) (h2 : d ≤ 9223372036854775807) :
    Calls Tryz.prog 40 #[.string p, .int .i64 d] w fun e w' => e = .returned (.int .i64 (chk p.data.toList d : Nat)) ∧ Below w.heap.size w w' := by
  have hl := spl_len p.data.toList
  rw [len_l] at hl
  have hsz := spl_sizes p.data.toList
  rw [len_l] at hsz
  have hfar := @chk_far p.data.toList d
  have hbad := @chk_bad p.data.toList d
  have hgood := @chk_good p.data.toList d
  have cs := fun W => refSplit_any p W hs
  unfold SplitTo at cs
  obtain ⟨S, hS⟩ : ∃ S, S = spl p.data.toList := ⟨_, rfl⟩
  obtain ⟨R, hR⟩ : ∃ R, R = chk p.data.toList d := ⟨_, rfl⟩
  rw [← hS] at hl hsz hfar hbad hgood cs
  rw [← hR] at hfar hbad hgood
  rw [← hR]
  have hne : S ≠ [] := by rw [hS]; exact spl_ne _
  have hpos : 0 < S.length := List.length_pos_iff.2 hne
  clear hS hR hne
  by_cases hd : d < (S.length : Int)
  · have e := hfar hd
    subst e
    clear hfar hbad hgood
    go_enter Tryz.func40, Tryz.ntmps40
    go_wp2_with (go_at_call 90; refine (cs _).mono ?_; rintro e w1 ⟨v, rfl, ht, hb⟩; obtain ⟨a, c, rfl, hst, _, _⟩ := ht.form)
    go_ret
    exact ⟨rfl, hb⟩
  · have HB := Lib.hid hbad
    have HG := Lib.hid (hgood (by omega))
    have HZ := Lib.hid hsz
    have hd' : (S.length : Int) ≤ d := by omega
    clear hfar hbad hgood hsz
    go_enter Tryz.func40, Tryz.ntmps40
    go_wp2_with (go_at_call 90; refine (cs _).mono ?_; rintro e w1 ⟨v, rfl, ht, hb⟩; obtain ⟨a, c, rfl, hst, _, _⟩ := ht.form)
    obtain ⟨hln, hst⟩ := hst
    obtain ⟨b, off, rfl, hlt, hc⟩ := hst.resolve_left (by rw [List.length_map]; omega)
    have hsz1 := hb.size
    have HC : Hid (∀ k x, S[k]? = some x → w1.cell? ⟨b, off + k, none⟩ = some (.string (tb x))) := fun k x hx => hc k (tb x) (by rw [List.getElem?_map, hx]; rfl)
    clear hst hln hc ht
    go_loop [6] (fun i => ∃ k : Nat, k ≤ S.length ∧ i = .int .i64 k ∧ Hid ((S.take k).all isName = true)) (fun i => S.length - (intOf i).toNat)
    case atStart => exact ⟨0, Nat.zero_le _, rfl, rfl⟩
    case round =>
      obtain ⟨k, hk, rfl, hall⟩ := hrel
      by_cases hlk : k < S.length
      · obtain ⟨x, hx⟩ : ∃ x, S[k]? = some x := ⟨_, List.getElem?_eq_getElem hlk⟩
        have hcell := HC.out k x hx
        have hxl := HZ.out x (List.mem_of_getElem? hx)
        have cn := fun W => refName_any (tb x) W (by rw [tb_size]; omega)
        rw [tb_list] at cn
        have hnext := fun h => Lib.hid (all_step S k x hx hall.out h)
        have hfail := fun h => HB.out (all_fail S k x hx h)
        obtain ⟨T, hT⟩ : ∃ T, T = tb x := ⟨_, rfl⟩
        rw [← hT] at hcell cn
        clear hx hxl hT hall
        by_cases hn : isName x = true
        · have HN := hnext hn
          rw [hn] at cn
          clear hnext hfail hn
          go_wp2_with (go_at_call 91; refine (cn _).mono ?_; rintro e w2 ⟨rfl, rfl⟩)
          go_round
          case rel => exact ⟨k + 1, by omega, by go_num, HN⟩
          case measure => simp [intOf]; omega
        · rw [Bool.eq_false_iff.2 hn] at cn
          have HF := hfail (Bool.eq_false_iff.2 hn)
          subst HF
          clear hnext hfail hn
          go_wp2_with (go_at_call 91; refine (cn _).mono ?_; rintro e w2 ⟨rfl, rfl⟩)
          go_ret
          exact ⟨rfl, hb⟩
      · obtain rfl : k = S.length := by omega
        have h := hall.out
        rw [List.take_of_length_le (Nat.le_refl _)] at h
        have HF := HG.out h
        subst HF
        clear hall h
        go_wp2
        go_ret
        exact ⟨rfl, hb⟩
end Go.Proofs.YtdpnmdnfnplcfaaGreat.Pr

namespace Go.Proofs.YtdpnmdnfnplcfaaGreat.Dk
open Go.RowKit Tx Pm
set_option linter.unusedVariables false
structure It where
  path : ByteArray
  dir : Bool
  data : ByteArray
  kept : ByteArray
  loose : Bool
  anew : Bool
  stamp : Nat
structure Rm where
  vol : ByteArray
  n : Int
structure St where
  L : List It
  rooms : List Rm
  steps : Nat
  stamps : Nat
  armed : Int
  down : Bool
def find (l : List It) (p : ByteArray) : Option It := l.find? (fun x => decide (x.path = p))
def place (l : List It) (p : ByteArray) : Nat := l.findIdx (fun x => decide (x.path = p))
def kindOf : Option It → Nat
  | none => 0
  | some x => if x.dir then 1 else 2
def kind (l : List It) (p : ByteArray) : Nat := kindOf (find l p)
def vol (p : ByteArray) : ByteArray := tb ((spl p.data.toList).headD [])
def used (l : List It) (v : ByteArray) : Nat := (l.map fun x => if vol x.path = v then x.data.size else 0).sum
def whole (l : List It) : Nat := (l.map fun x => x.data.size).sum
theorem used_le (l : List It) (v : ByteArray) : used l v ≤ whole l := by
  unfold used whole
  induction l with
  | nil => exact Nat.le_refl _
  | cons x l ih =>
    simp only [List.map_cons, List.sum_cons]
    split <;> omega
def fits (s : St) (p : ByteArray) (more : Int) : Bool := decide (more ≤ 0) || s.rooms.all (fun r => !(decide (r.vol = vol p) && decide ((used s.L (vol p) : Int) + more > r.n)))
def first (s : St) (p : ByteArray) (names : Nat) : Nat := if s.down then 14 else if chk p.data.toList 6 ≠ 0 ∨ (spl p.data.toList).length ≤ names then 10 else 0
def home (l : List It) (p : ByteArray) : Bool := decide (par p.data.toList = []) || decide (kind l (tb (par p.data.toList)) = 1)
def there (s : St) (p : ByteArray) : Nat := if first s p 1 ≠ 0 then first s p 1 else if kind s.L p = 0 then 11 else if kind s.L p = 1 then 12 else 0
def done (s : St) : Nat × St := if s.armed = 0 then (14, { s with down := true, armed := -1 }) else (0, { s with armed := if s.armed > 0 then s.armed - 1 else s.armed, steps := s.steps + 1 })
def ins (l : List It) (x : It) : List It := l.takeWhile (fun y => Op.bytesLess y.path.toList x.path.toList) ++ x :: (match l.dropWhile (fun y => Op.bytesLess y.path.toList x.path.toList) with | [] => [] | y :: r => if y.path = x.path then r else y :: r)
def drop (l : List It) (p : ByteArray) : List It := l.filter (fun x => !decide (x.path = p))
def stamped (s : St) (x : It) : It := { x with stamp := s.stamps + 1 }
def putS (s : St) (x : It) : St := { s with L := ins s.L (stamped s x), stamps := s.stamps + 1 }
def list (l : List It) (p : ByteArray) : List ByteArray := (l.filter fun x => decide (tb (par x.path.data.toList) = p)).map (·.path)
def cells (x : It) : List Value := [.string x.path, .bool x.dir, .string x.data, .string x.kept, .bool x.loose, .bool x.anew, .int .i64 x.stamp]
def cellsR (x : Rm) : List Value := [.string x.vol, .int .i64 x.n]
theorem infoI : (Tryz.prog.info? 76).map (fun i => (i.zero, i.size, i.bytes)) = some (some (.agg #[.string ⟨#[]⟩, .bool false, .string ⟨#[]⟩, .string ⟨#[]⟩, .bool false, .bool false, .int .i64 0]), 7, 72) := by kernel_rfl
theorem flat_at {α : Type} (f : α → List Value) (m : Nat) (hf : ∀ x, (f x).length = m) : ∀ (l : List α) (k : Nat) (x : α) (j : Nat), l[k]? = some x → j < m → (l.flatMap f)[k * m + j]? = (f x)[j]?
  | [], k, x, j, h, _ => by cases h
  | y :: l, 0, x, j, h, hj => by
    injection h with h
    subst h
    rw [List.flatMap_cons, List.getElem?_append_left (by rw [Nat.zero_mul, Nat.zero_add, hf]; exact hj), Nat.zero_mul, Nat.zero_add]
  | y :: l, k + 1, x, j, h, hj => by
    have e : (k + 1) * m + j = (f y).length + (k * m + j) := by rw [hf, Nat.succ_mul]; omega
    rw [List.flatMap_cons, e, List.getElem?_append_right (by omega), Nat.add_sub_cancel_left]
    exact flat_at f m hf l k x j h hj
def OwnI (w : World) (B : Nat) (v : Value) (l : List It) : Prop := w.ownsRow B 76 7 v l.length (l.flatMap cells)
def OwnR (w : World) (B : Nat) (v : Value) (l : List Rm) : Prop := w.ownsRow B 124 2 v l.length (l.flatMap cellsR)
theorem own_kept {w w1 : World} {B size n : Nat} {e : TypeId} {v : Value} {xs : List Value} (h : w.ownsRow B e size v n xs) (hk : ∀ g, v.ownBlock = some g → w1.heap[g]? = w.heap[g]?) : w1.ownsRow B e size v n xs := by
  refine ⟨h.1, ?_⟩
  rcases h.2 with h0 | ⟨g, cap, cur, hv, hg, hh, r⟩
  · exact .inl h0
  · exact .inr ⟨g, cap, cur, hv, hg, (hk g (by rw [hv]; rfl)).trans hh, r⟩
def Items (w : World) (a : Option Addr) (n : Nat) (l : List It) : Prop := l.length = n ∧ (n = 0 ∨ ∃ g, a = some ⟨g, 0, none⟩ ∧ g < w.heap.size ∧ ∀ k x, l[k]? = some x →
  w.cell? ⟨g, k * 7, none⟩ = some (.string x.path) ∧ w.cell? ⟨g, k * 7 + 1, none⟩ = some (.bool x.dir) ∧ w.cell? ⟨g, k * 7 + 2, none⟩ = some (.string x.data) ∧ w.cell? ⟨g, k * 7 + 3, none⟩ = some (.string x.kept) ∧
  w.cell? ⟨g, k * 7 + 4, none⟩ = some (.bool x.loose) ∧ w.cell? ⟨g, k * 7 + 5, none⟩ = some (.bool x.anew) ∧ w.cell? ⟨g, k * 7 + 6, none⟩ = some (.int .i64 x.stamp))
theorem OwnI.form {w : World} {B : Nat} {v : Value} {l : List It} (h : OwnI w B v l) : ∃ a c, v = .slice a l.length c ∧ Items w a l.length l ∧ l.length ≤ c ∧ c ≤ maxLen := by
  have hh := h
  rcases h.2 with ⟨rfl, h0⟩ | ⟨g, cap, cur, rfl, hg, hh2, hn, hc, _⟩
  · exact ⟨none, 0, by rw [h0], ⟨rfl, .inl h0⟩, by omega, Nat.zero_le _⟩
  · refine ⟨some ⟨g, 0, none⟩, cap, rfl, ⟨rfl, .inr ⟨g, rfl, (Array.getElem?_eq_some_iff.1 hh2).1, fun k x hx => ?_⟩⟩, hn, hc⟩
    have hc : ∀ j u, j < 7 → (cells x)[j]? = some u → w.cell? ⟨g, k * 7 + j, none⟩ = some u := by
      intro j u hj hu
      have := hh.cells (g := g) rfl (k * 7 + j) u ((flat_at cells 7 (fun _ => rfl) l k x j hx hj).trans hu)
      rw [WideShapes.add_plain, Nat.zero_add] at this
      exact this
    exact ⟨hc 0 _ (by omega) rfl, hc 1 _ (by omega) rfl, hc 2 _ (by omega) rfl, hc 3 _ (by omega) rfl, hc 4 _ (by omega) rfl, hc 5 _ (by omega) rfl, hc 6 _ (by omega) rfl⟩
def Rms (w : World) (a : Option Addr) (n : Nat) (l : List Rm) : Prop := l.length = n ∧ (n = 0 ∨ ∃ g, a = some ⟨g, 0, none⟩ ∧ g < w.heap.size ∧ ∀ k x, l[k]? = some x →
  w.cell? ⟨g, k * 2, none⟩ = some (.string x.vol) ∧ w.cell? ⟨g, k * 2 + 1, none⟩ = some (.int .i64 x.n))
theorem OwnR.form {w : World} {B : Nat} {v : Value} {l : List Rm} (h : OwnR w B v l) : ∃ a c, v = .slice a l.length c ∧ Rms w a l.length l ∧ l.length ≤ c ∧ c ≤ maxLen := by
  have hh := h
  rcases h.2 with ⟨rfl, h0⟩ | ⟨g, cap, cur, rfl, hg, hh2, hn, hc, _⟩
  · exact ⟨none, 0, by rw [h0], ⟨rfl, .inl h0⟩, by omega, Nat.zero_le _⟩
  · refine ⟨some ⟨g, 0, none⟩, cap, rfl, ⟨rfl, .inr ⟨g, rfl, (Array.getElem?_eq_some_iff.1 hh2).1, fun k x hx => ?_⟩⟩, hn, hc⟩
    have hc : ∀ j u, j < 2 → (cellsR x)[j]? = some u → w.cell? ⟨g, k * 2 + j, none⟩ = some u := by
      intro j u hj hu
      have := hh.cells (g := g) rfl (k * 2 + j) u ((flat_at cellsR 2 (fun _ => rfl) l k x j hx hj).trans hu)
      rw [WideShapes.add_plain, Nat.zero_add] at this
      exact this
    exact ⟨hc 0 _ (by omega) rfl, hc 1 _ (by omega) rfl⟩
structure Chg (F : Nat → Prop) (w w1 : World) : Prop where
  os : w1.os = w.os
  tape : w1.tape = w.tape
  output : w1.output = w.output
  size : w.heap.size ≤ w1.heap.size
  block : ∀ i, i < w.heap.size → ¬ F i → w1.heap[i]? = w.heap[i]?
theorem Chg.of_below {F : Nat → Prop} {w w1 : World} (h : Below w.heap.size w w1) : Chg F w w1 := ⟨h.os, h.tape, h.output, h.size, fun i hi _ => h.block i hi⟩
theorem Chg.trans {F G : Nat → Prop} {w w1 w2 : World} (h : Chg F w w1) (h2 : Chg G w1 w2) (hG : ∀ i, G i → F i ∨ w.heap.size ≤ i) : Chg F w w2 :=
  ⟨h2.os.trans h.os, h2.tape.trans h.tape, h2.output.trans h.output, Nat.le_trans h.size h2.size, fun i hi hn => (h2.block i (Nat.lt_of_lt_of_le hi h.size) (fun hg => by rcases hG i hg with h | h <;> first | exact hn h | omega)).trans (h.block i hi hn)⟩
theorem Chg.mono {F G : Nat → Prop} {w w1 : World} (h : Chg F w w1) (hG : ∀ i, F i → G i) : Chg G w w1 := ⟨h.os, h.tape, h.output, h.size, fun i hi hn => h.block i hi (fun hf => hn (hG i hf))⟩
theorem Chg.below {F : Nat → Prop} {w w1 : World} {B : Nat} (h : Chg F w w1) (hB : B ≤ w.heap.size) (hF : ∀ i, F i → B ≤ i) : Below B w w1 :=
  ⟨h.os, h.tape, h.output, h.size, fun i hi => h.block i (Nat.lt_of_lt_of_le hi hB) (fun hf => by have := hF i hf; omega)⟩
def Foot (b : Nat) (vL vR : Value) (i : Nat) : Prop := i = b ∨ vL.ownBlock = some i ∨ vR.ownBlock = some i
structure At (w : World) (b : Nat) (s : St) (vL vR : Value) : Prop where
  blk : w.heap[b]? = some (.cells #[vL, vR, .int .i64 s.steps, .int .i64 s.stamps, .int .i64 s.armed, .bool s.down] 68 (0, 0))
  rowL : OwnI w 0 vL s.L
  rowR : OwnR w 0 vR s.rooms
theorem At.lt {w : World} {b : Nat} {s : St} {vL vR : Value} (h : At w b s vL vR) : ∀ i, Foot b vL vR i → i < w.heap.size := by
  rintro i (rfl | hi | hi)
  · exact (Array.getElem?_eq_some_iff.1 h.blk).1
  · exact (h.rowL.lt i hi).2
  · exact (h.rowR.lt i hi).2
theorem At.kept {w w1 : World} {b : Nat} {s : St} {vL vR : Value} (h : At w b s vL vR) (hk : ∀ i, Foot b vL vR i → w1.heap[i]? = w.heap[i]?) : At w1 b s vL vR :=
  ⟨(hk b (.inl rfl)).trans h.blk, own_kept h.rowL (fun g hg => hk g (.inr (.inl hg))), own_kept h.rowR (fun g hg => hk g (.inr (.inr hg)))⟩
theorem At.below {w w1 : World} {b : Nat} {s : St} {vL vR : Value} (h : At w b s vL vR) (hb : Below w.heap.size w w1) : At w1 b s vL vR :=
  h.kept (fun i hi => hb.block i (h.lt i hi))
theorem At.chg {w w1 : World} {F : Nat → Prop} {b : Nat} {s : St} {vL vR : Value} (h : At w b s vL vR) (hc : Chg F w w1) (hd : ∀ i, Foot b vL vR i → ¬ F i) : At w1 b s vL vR :=
  h.kept (fun i hi => hc.block i (h.lt i hi) (hd i hi))
theorem At.cell {w : World} {b : Nat} {s : St} {vL vR : Value} (h : At w b s vL vR) :
    w.cell? ⟨b, 0, none⟩ = some vL ∧ w.cell? ⟨b, 1, none⟩ = some vR ∧ w.cell? ⟨b, 2, none⟩ = some (.int .i64 s.steps) ∧ w.cell? ⟨b, 3, none⟩ = some (.int .i64 s.stamps) ∧ w.cell? ⟨b, 4, none⟩ = some (.int .i64 s.armed) ∧ w.cell? ⟨b, 5, none⟩ = some (.bool s.down) := by
  have hb := h.blk
  refine ⟨?_, ?_, ?_, ?_, ?_, ?_⟩ <;> · unfold World.cell?; rw [hb]; rfl
theorem At.warm {w : World} {b : Nat} {s : St} {vL vR : Value} (h : At w b s vL vR) (k : Nat) : w.frozen? ⟨b, k, none⟩ = false := by
  unfold World.frozen?
  rw [h.blk]
  simp
end Go.Proofs.YtdpnmdnfnplcfaaGreat.Dk

namespace Go.Proofs.YtdpnmdnfnplcfaaGreat.Dk
open Go.RowKit Tx Pm
set_option linter.unusedVariables false
def placeI (l : List It) (p : ByteArray) : Int := if place l p < l.length then (place l p : Int) else -1
theorem place_hit {l : List It} {p : ByteArray} {k : Nat} {x : It} (hx : l[k]? = some x) (he : x.path = p) (hb : ∀ j y, j < k → l[j]? = some y → y.path ≠ p) : place l p = k := by
  obtain ⟨hk, hx'⟩ := List.getElem?_eq_some_iff.1 hx
  unfold place
  rw [List.findIdx_eq hk]
  refine ⟨by rw [hx']; exact decide_eq_true he, fun j hj => ?_⟩
  exact decide_eq_false (hb j _ hj (List.getElem?_eq_getElem (by omega)))
theorem place_miss {l : List It} {p : ByteArray} (hb : ∀ j y, j < l.length → l[j]? = some y → y.path ≠ p) : place l p = l.length := by
  unfold place
  rw [List.findIdx_eq_length]
  intro x hx
  obtain ⟨j, hj, he⟩ := List.getElem_of_mem hx
  exact decide_eq_false (hb j x hj (by rw [List.getElem?_eq_getElem hj, he]))
theorem find_place {l : List It} {p : ByteArray} : find l p = l[place l p]? := List.find?_eq_getElem?_findIdx
theorem place_le (l : List It) (p : ByteArray) : place l p ≤ l.length := List.findIdx_le_length
set_option maxRecDepth 100000 in
set_option maxHeartbeats 1000000 in
theorem rPlace_any (b : Nat) (s : St) (vL vR : Value) (p : ByteArray) (w : World) (h : At w b s vL vR) (hn : s.L.length ≤ 1000000000000) :
    Calls Tryz.prog 73 #[.pointer (some ⟨b, 0, none⟩), .string p] w fun e w' => e = .returned (.int .i64 (placeI s.L p)) ∧ w = w' := by
  obtain ⟨a, c, rfl, hI, _, _⟩ := h.rowL.form
  obtain ⟨c0, c1, c2, c3, c4, c5⟩ := h.cell
  have HW := h.warm
  obtain ⟨n, hnn⟩ : ∃ n, n = s.L.length := ⟨_, rfl⟩
  rw [← hnn] at hI c0 hn
  obtain ⟨hln, hc⟩ := hI
  have HL := Lib.hid hln
  clear h
  by_cases h0 : n = 0
  · subst h0
    have hr : placeI s.L p = -1 := by rw [placeI, if_neg (by omega)]
    rw [hr]
    clear hc HL hr hnn hln
    go_enter Tryz.func73, Tryz.ntmps73
    go_wp2
    go_loop [5] (fun i => i = .int .i64 0) (fun _ => 0)
    case atStart => exact rfl
    case round =>
      obtain rfl := hrel
      go_wp2
      go_ret
      exact ⟨rfl, rfl⟩
  · obtain ⟨g, rfl, hg, hc⟩ := hc.resolve_left h0
    have HC := Lib.hid hc
    clear hc h0 hnn hln
    go_enter Tryz.func73, Tryz.ntmps73
    go_wp2
    go_loop [5] (fun i => ∃ k : Nat, k ≤ n ∧ i = .int .i64 k ∧ Hid (∀ j y, j < k → s.L[j]? = some y → y.path ≠ p)) (fun i => n - (intOf i).toNat)
    case atStart => exact ⟨0, Nat.zero_le _, rfl, fun j y hj => absurd hj (by omega)⟩
    case round =>
      obtain ⟨k, hk, rfl, hno⟩ := hrel
      by_cases hlt : k < n
      · obtain ⟨x, hx⟩ : ∃ x, s.L[k]? = some x := ⟨_, List.getElem?_eq_getElem (by rw [HL.out]; exact hlt)⟩
        obtain ⟨d0, _⟩ := HC.out k x hx
        by_cases he : x.path = p
        · have hp := Lib.hid (place_hit hx he hno.out)
          have e1 : (x.path.toList == p.toList) = true := by rw [he]; exact beq_self_eq_true _
          obtain ⟨P, hP⟩ : ∃ P, P = x.path := ⟨_, rfl⟩
          rw [← hP] at d0 e1
          clear hP hno he hx
          go_wp2
          go_ret
          refine ⟨?_, rfl⟩
          rw [placeI, hp.out, HL.out, if_pos hlt]
          rfl
        · have hno2 := Lib.hid (show ∀ j y, j < k + 1 → s.L[j]? = some y → y.path ≠ p from fun j y hj hy => by
            rcases Nat.lt_succ_iff_lt_or_eq.1 hj with hj | rfl
            · exact hno.out j y hj hy
            · rw [hx] at hy; injection hy with hy; rw [← hy]; exact he)
          have e1 : (x.path.toList == p.toList) = false := bytes_ne he
          obtain ⟨P, hP⟩ : ∃ P, P = x.path := ⟨_, rfl⟩
          rw [← hP] at d0 e1
          clear hP hno he hx
          go_wp2
          go_round
          case rel => exact ⟨k + 1, by omega, by go_num, hno2.out⟩
          case measure => simp [intOf]; omega
      · obtain rfl : k = n := by omega
        have hp := Lib.hid (place_miss (fun j y hj hy => hno.out j y (by rw [← HL.out]; exact hj) hy))
        clear hno
        go_wp2
        go_ret
        refine ⟨?_, rfl⟩
        rw [placeI, hp.out, if_neg (Nat.lt_irrefl _)]
        rfl
theorem find_hit {l : List It} {p : ByteArray} (h : place l p < l.length) : find l p = some (l[place l p]) := by rw [find_place, List.getElem?_eq_getElem h]
theorem find_none {l : List It} {p : ByteArray} (h : ¬ place l p < l.length) : find l p = none := by rw [find_place]; exact List.getElem?_eq_none (by omega)
theorem find_cases (l : List It) (p : ByteArray) : (find l p = none ∧ placeI l p = -1) ∨ ∃ (k : Nat) (x : It), k < l.length ∧ l[k]? = some x ∧ find l p = some x ∧ placeI l p = k ∧ x.path = p := by
  by_cases h : place l p < l.length
  · refine .inr ⟨place l p, l[place l p], h, List.getElem?_eq_getElem h, find_hit h, by rw [placeI, if_pos h], ?_⟩
    have := List.findIdx_getElem (w := h)
    exact of_decide_eq_true this
  · exact .inl ⟨find_none h, by rw [placeI, if_neg h]⟩
set_option maxRecDepth 100000 in
set_option maxHeartbeats 1000000 in
theorem rKind_any (b : Nat) (s : St) (vL vR : Value) (p : ByteArray) (w : World) (h : At w b s vL vR) (hn : s.L.length ≤ 1000000000000) :
    Calls Tryz.prog 41 #[.pointer (some ⟨b, 0, none⟩), .string p] w fun e w' => e = .returned (.int .i64 (kind s.L p : Nat)) ∧ w = w' := by
  have cp := rPlace_any b s vL vR p w h hn
  obtain ⟨a, c, rfl, hI, _, _⟩ := h.rowL.form
  obtain ⟨c0, c1, c2, c3, c4, c5⟩ := h.cell
  rcases find_cases s.L p with ⟨hf, hp⟩ | ⟨k, x, hk, hx, hf, hp, _⟩
  · rw [hp] at cp
    rw [kind, hf]
    clear hI hf hp h
    go_enter Tryz.func41, Tryz.ntmps41
    go_wp2_with (go_at_call 73; refine cp.mono ?_; rintro e w' ⟨rfl, rfl⟩)
    go_ret
    exact ⟨rfl, rfl⟩
  · rw [hp] at cp
    rw [kind, hf]
    obtain ⟨n, hnn⟩ : ∃ n, n = s.L.length := ⟨_, rfl⟩
    rw [← hnn] at hI c0 hn hk
    obtain ⟨g, rfl, hg, hc⟩ := hI.2.resolve_left (by omega)
    obtain ⟨_, d1, _⟩ := hc k x hx
    rw [kindOf]
    obtain ⟨D, hD⟩ : ∃ D, D = x.dir := ⟨_, rfl⟩
    rw [← hD] at d1 ⊢
    clear hI hf hp h hc hx hD hnn
    cases D
    all_goals
      go_enter Tryz.func41, Tryz.ntmps41
      go_wp2_with (go_at_call 73; refine cp.mono ?_; rintro e w' ⟨rfl, rfl⟩)
      go_ret
      exact ⟨rfl, rfl⟩
set_option maxRecDepth 100000 in
set_option maxHeartbeats 1000000 in
theorem rVolume_any (p : ByteArray) (w : World) (hs : p.size ≤ 8796093022207) :
    Calls Tryz.prog 82 #[.string p] w fun e w' => e = .returned (.string (vol p)) ∧ Below w.heap.size w w' := by
  have cs := Pr.refSplit_any p w hs
  obtain ⟨V, r, hsp⟩ : ∃ V r, spl p.data.toList = V :: r := by
    cases h : spl p.data.toList with
    | nil => exact absurd h (spl_ne _)
    | cons x xs => exact ⟨x, xs, rfl⟩
  have hv : vol p = tb V := by rw [vol, hsp]; rfl
  unfold Pr.SplitTo at cs
  rw [hsp] at cs
  rw [hv]
  clear hsp hv
  go_enter Tryz.func82, Tryz.ntmps82
  go_wp2_with fail
  go_at_call 90
  refine cs.mono ?_
  rintro e w1 ⟨v, rfl, ht, hb⟩
  obtain ⟨a, c, rfl, hS, _, _⟩ := ht.form
  obtain ⟨B, off, rfl, hB, hc⟩ := hS.2.resolve_left (by simp)
  have h0 := hc 0 (tb V) rfl
  rw [Nat.add_zero] at h0
  have hlen : ((List.map tb (V :: r)).length : Int) = ((r.length + 1 : Nat) : Int) := by simp
  clear hc hS ht
  go_wp2_with fail
  go_ret
  exact ⟨rfl, hb⟩
end Go.Proofs.YtdpnmdnfnplcfaaGreat.Dk

namespace Go.Proofs.YtdpnmdnfnplcfaaGreat.Dk
open Go.RowKit Tx Pm
set_option linter.unusedVariables false
def Fit (s : St) : Prop := s.L.length ≤ 1000000000 ∧ (∀ x ∈ s.L, x.path.size ≤ 8000000000000) ∧ whole s.L ≤ 4000000000000000000
theorem used_take (l : List It) (v : ByteArray) (k : Nat) (x : It) (h : l[k]? = some x) : used (l.take (k + 1)) v = used (l.take k) v + (if vol x.path = v then x.data.size else 0) := by
  obtain ⟨hk, he⟩ := List.getElem?_eq_some_iff.1 h
  rw [List.take_succ_eq_append_getElem hk, he, used, List.map_append, List.sum_append]
  simp [used]
theorem used_take_le (l : List It) (v : ByteArray) (k : Nat) : used (l.take k) v ≤ used l v := by
  unfold used
  conv => rhs; rw [← List.take_append_drop k l]
  rw [List.map_append, List.sum_append]
  omega
set_option maxRecDepth 100000 in
set_option maxHeartbeats 1000000 in
theorem rUsed_any (b : Nat) (s : St) (vL vR : Value) (v : ByteArray) (w : World) (h : At w b s vL vR) (hf : Fit s) :
    Calls Tryz.prog 107 #[.pointer (some ⟨b, 0, none⟩), .string v] w fun e w' => e = .returned (.int .i64 (used s.L v : Nat)) ∧ Below w.heap.size w w' := by
  obtain ⟨hn, hps, hws⟩ := hf
  have hu := Nat.le_trans (used_le s.L v) hws
  obtain ⟨a, c, rfl, hI, _, _⟩ := h.rowL.form
  obtain ⟨c0, c1, c2, c3, c4, c5⟩ := h.cell
  have hbl := (h.lt b (.inl rfl))
  obtain ⟨n, hnn⟩ : ∃ n, n = s.L.length := ⟨_, rfl⟩
  rw [← hnn] at hI c0 hn
  obtain ⟨hln, hc⟩ := hI
  have HL := Lib.hid hln
  have HP := Lib.hid hps
  clear h hps hws
  by_cases h0 : n = 0
  · subst h0
    have hr : used s.L v = 0 := by rw [List.length_eq_zero_iff.1 hln]; rfl
    rw [hr]
    clear hc HL hr hnn hln
    go_enter Tryz.func107, Tryz.ntmps107
    go_wp2
    go_loop [5, 6] (fun t i => i = .int .i64 0 ∧ t = .int .i64 0) (fun _ _ => 0)
    case atStart => exact ⟨rfl, rfl⟩
    case round =>
      obtain ⟨rfl, rfl⟩ := hrel
      go_wp2
      go_ret
      exact ⟨rfl, Below.refl _ _⟩
  · obtain ⟨g, rfl, hg, hc⟩ := hc.resolve_left h0
    have HC := Lib.hid hc
    clear hc h0 hnn hln
    go_enter Tryz.func107, Tryz.ntmps107
    go_wp2_with fail
    go_loopw [5, 6] (fun t i wr => ∃ k T : Nat, k ≤ n ∧ i = .int .i64 k ∧ t = .int .i64 (T : Nat) ∧ Hid (T = used (s.L.take k) v) ∧ Below w.heap.size w wr) (fun _ i _ => n - (intOf i).toNat)
    case atStart => exact ⟨0, 0, Nat.zero_le _, rfl, rfl, rfl, Below.refl _ _⟩
    case round =>
      obtain ⟨k, T, hk, rfl, rfl, hT, hB⟩ := hrel
      have e0 := (hB.cell (p := ⟨b, 0, none⟩) hbl).trans c0
      by_cases hlt : k < n
      · obtain ⟨x, hx⟩ : ∃ x, s.L[k]? = some x := ⟨_, List.getElem?_eq_getElem (by rw [HL.out]; exact hlt)⟩
        obtain ⟨d0, _, d2, _⟩ := HC.out k x hx
        have f0 := (hB.cell (p := ⟨g, _, none⟩) hg).trans d0
        have f2 := (hB.cell (p := ⟨g, _, none⟩) hg).trans d2
        have hxs := HP.out x (List.mem_of_getElem? hx)
        have cv := rVolume_any x.path wr (by omega)
        have hnx := used_take s.L v k x hx
        rw [← hT.out] at hnx
        have hle := Nat.le_trans (used_take_le s.L v (k + 1)) hu
        obtain ⟨P, hP⟩ : ∃ P, P = x.path := ⟨_, rfl⟩
        obtain ⟨D, hD⟩ : ∃ D, D = x.data := ⟨_, rfl⟩
        obtain ⟨V, hV⟩ : ∃ V, V = vol x.path := ⟨_, rfl⟩
        rw [← hP] at f0 cv hxs
        rw [← hD] at f2 hnx
        rw [← hV] at hnx
        rw [hP, ← hV] at cv
        rw [← hP] at cv
        by_cases hvv : V = v
        · have e1 : (V.toList == v.toList) = true := by rw [hvv]; exact beq_self_eq_true _
          rw [if_pos hvv] at hnx
          rw [hnx] at hle
          have HN := Lib.hid hnx
          clear hnx hP hD hV hx d0 d2 hT hvv
          go_wp2_with (go_at_call 82; refine cv.mono ?_; rintro e w1 ⟨rfl, hb1⟩; have hB1 := below_call hB hb1; have g0 := (hB1.cell (p := ⟨b, 0, none⟩) hbl).trans c0; have g2 := (hb1.cell (p := ⟨g, _, none⟩) (Nat.lt_of_lt_of_le hg hB.size)).trans f2)
          go_roundw
          case rel => exact ⟨k + 1, T + D.size, by omega, by go_num, by go_num, HN.out.symm, hB1⟩
          case measure => simp [intOf]; omega
        · have e1 : (V.toList == v.toList) = false := bytes_ne hvv
          rw [if_neg hvv, Nat.add_zero] at hnx
          have HN := Lib.hid hnx
          clear hnx hP hD hV hx d0 d2 hT hvv hle
          go_wp2_with (go_at_call 82; refine cv.mono ?_; rintro e w1 ⟨rfl, hb1⟩; have hB1 := below_call hB hb1)
          go_roundw
          case rel => exact ⟨k + 1, T, by omega, by go_num, rfl, HN.out.symm, hB1⟩
          case measure => simp [intOf]; omega
      · obtain rfl : k = n := by omega
        have hT' := hT.out
        rw [List.take_of_length_le (by rw [HL.out]; omega)] at hT'
        have HT := Lib.hid hT'
        clear hT hT'
        go_wp2_with fail
        go_ret
        exact ⟨by rw [HT.out]; rfl, hB⟩
set_option maxRecDepth 100000 in
set_option maxHeartbeats 1000000 in
theorem rHome_any (b : Nat) (s : St) (vL vR : Value) (p : ByteArray) (w : World) (h : At w b s vL vR) (hf : Fit s) (hp : p.size ≤ 8000000000000) :
    Calls Tryz.prog 70 #[.pointer (some ⟨b, 0, none⟩), .string p] w fun e w' => e = .returned (.bool (home s.L p)) ∧ w = w' := by
  have cpar := fun W => Pr.refParent_any p W (by omega)
  have ck := fun q => rKind_any b s vL vR q w h (by have := hf.1; omega)
  by_cases h0 : par p.data.toList = []
  · have e1 : (tb (par p.data.toList)).toList.isEmpty = true := Pr.is_empty (by rw [h0]; rfl)
    have hr : home s.L p = true := by rw [home, decide_eq_true h0]; rfl
    rw [hr]
    clear h0 hr
    go_enter Tryz.func70, Tryz.ntmps70
    go_wp2_with (go_at_call 51; refine (cpar _).mono ?_; rintro e w1 ⟨rfl, rfl⟩)
    go_ret
    exact ⟨rfl, rfl⟩
  · have e1 : (tb (par p.data.toList)).toList.isEmpty = false := Pr.not_empty (fun e => h0 (by rw [← tb_list (par p.data.toList), e]))
    have ck2 := ck (tb (par p.data.toList))
    obtain ⟨K, hK⟩ : ∃ K, K = kind s.L (tb (par p.data.toList)) := ⟨_, rfl⟩
    rw [← hK] at ck2
    by_cases h1 : K = 1
    · have hr : home s.L p = true := by rw [home, ← hK, decide_eq_true h1, Bool.or_true]
      rw [hr]
      subst h1
      clear h0 hr ck hK
      go_enter Tryz.func70, Tryz.ntmps70
      go_wp2_with (first | (go_at_call 51; refine (cpar _).mono ?_; rintro e w1 ⟨rfl, rfl⟩) | (go_at_call 41; refine ck2.mono ?_; rintro e w1 ⟨rfl, rfl⟩))
      go_ret
      exact ⟨rfl, rfl⟩
    · have hr : home s.L p = false := by rw [home, ← hK, decide_eq_false h0, decide_eq_false h1]; rfl
      have e2 : ((K : Int) == 1) = false := beq_eq_false_iff_ne.2 (by omega)
      rw [hr]
      clear h0 hr ck hK h1
      go_enter Tryz.func70, Tryz.ntmps70
      go_wp2_with (first | (go_at_call 51; refine (cpar _).mono ?_; rintro e w1 ⟨rfl, rfl⟩) | (go_at_call 41; refine ck2.mono ?_; rintro e w1 ⟨rfl, rfl⟩))
      go_ret
      exact ⟨rfl, rfl⟩
end Go.Proofs.YtdpnmdnfnplcfaaGreat.Dk

namespace Go.Proofs.YtdpnmdnfnplcfaaGreat.Rg
open Go.RowKit
set_option linter.unusedVariables false
def Only (R : Act → World → Prop) : Exit → Act → World → Prop
  | .normal, a, w => R a w
  | _, _, _ => False
theorem wp_only {P : Program} {c : Code} {Q : Exit → Act → World → Prop} {R : Act → World → Prop} {a : Act} {w : World} (hR : ∀ a w, R a w → Q .normal a w) (h : c.wp P (Only R) a w) : c.wp P Q a w :=
  Code.wp_mono (fun e a w h => by cases e <;> first | exact hR _ _ h | exact (h : False).elim) h
def regOps (n : Nat) : Code → Option (Array Oper)
  | .region id ops _ => if id = n then some ops else none
  | .seq a b => (match regOps n a with | some x => some x | none => regOps n b)
  | .cond _ a b => (match regOps n a with | some x => some x | none => regOps n b)
  | .block _ a => regOps n a
  | .loop a => regOps n a
  | .scope a => regOps n a
  | .rangeFunc _ _ a b => (match regOps n a with | some x => some x | none => regOps n b)
  | _ => none
def opsOf (f : Func) (n : Nat) : Array Oper := match f.body with | some c => (regOps n c).getD #[] | none => #[]
def opOf (ops : Array Oper) (i : Nat) : Oper := (ops[i]?).getD default
section
variable {P : Program} {ops : Array Oper} {R : Act → World → Prop} {S : World → Prop}
theorem opOf_some {i : Nat} (h : decide (i < ops.size) = true) : ops[i]? = some (opOf ops i) := by
  have h := of_decide_eq_true h
  rw [opOf, Array.getElem?_eq_getElem h]
  rfl
theorem take (i : Nat) (d : Option Tmp) (v : Value) {fuel : Nat} {listed : Array Bool} {a : Act} {w : World} (hs : Region.noSelect ops = true)
    (hi : decide (i < ops.size) = true) (hd : (opOf ops i).dst = d) (hf : Region.free .any ops listed i = true) (hr : (Region.ready .any ops listed).contains i = true)
    (hw : Region.wanted (opOf ops i) (yielded ops a.tmps) = true) (hS : S w)
    (hy : ∀ w, S w → (execOp a.eval (opOf ops i)).run P w = .ok (.value v) w)
    (h : wpAnyH P .any ops (Only R) S fuel (listed.setIfInBounds i true) (a.put d v) w) : wpAnyH P .any ops (Only R) S (fuel + 1) listed a w := by
  subst hd
  exact wpAnyH_take (opOf_some hi) hs hf hr (fun _ _ _ h => h) (Or.inl ⟨hw, hy⟩) hS h
theorem skip (i : Nat) (d : Option Tmp) {fuel : Nat} {listed : Array Bool} {a : Act} {w : World} (hs : Region.noSelect ops = true)
    (hi : decide (i < ops.size) = true) (hd : (opOf ops i).dst = d) (hf : Region.free .any ops listed i = true) (hr : (Region.ready .any ops listed).contains i = true)
    (hw : Region.wanted (opOf ops i) (yielded ops a.tmps) = false) (hS : S w)
    (h : wpAnyH P .any ops (Only R) S fuel (listed.setIfInBounds i true) (a.put d undef) w) : wpAnyH P .any ops (Only R) S (fuel + 1) listed a w := by
  subst hd
  exact wpAnyH_take (opOf_some hi) hs hf hr (fun _ _ _ h => h) (Or.inr ⟨hw, rfl⟩) hS h
theorem enters {f : FuncId} {fn : Func} (hf : P.funcs[f]? = some fn) (hn : (fn.name == "runtime.NumGoroutine") = false) (hb : fn.body.isNone = false) (args : Array Value) (w : World) : (callFunc f args).run P w = .ok (.enter f args) w := by
  have h1 : fn.name ≠ "runtime.NumGoroutine" := by simpa using hn
  have h2 : fn.body ≠ none := fun h => by rw [h] at hb; cases hb
  simp [callFunc, hf, h1, h2]
theorem call (i : Nat) (d : Option Tmp) (f : FuncId) (args : Array Value) {fn : Func} {xs : Array Operand} {ats : Array TypeId} {fuel : Nat} {listed : Array Bool} {a : Act} {w : World}
    (hi : decide (i < ops.size) = true) (hd : (opOf ops i).dst = d) (hr : Region.ready .any ops listed = [i])
    (hw : Region.wanted (opOf ops i) (yielded ops a.tmps) = true) (ho : (opOf ops i).op = .call { callee := .value (.func f), args := xs, argTypes := ats })
    (hf : P.funcs[f]? = some fn) (hn : (fn.name == "runtime.NumGoroutine") = false) (hb : fn.body.isNone = false) (hx : xs.map a.eval = args)
    (h : Calls P f args w fun e w' => ∃ v, e = .returned v ∧ S w' ∧ (S w' → wpAnyH P .any ops (Only R) S fuel (listed.setIfInBounds i true) (a.put d v) w')) :
    wpAnyH P .any ops (Only R) S (fuel + 1) listed a w := by
  subst hd
  refine wpAnyH_all hr (by simp) fun j hj => ?_
  obtain rfl : j = i := by simpa using hj
  unfold wpOp
  rw [opOf_some hi]
  simp only [hw, if_true]
  refine .inl ?_
  have he : execOp a.eval (opOf ops j) = callFunc f args := by
    rw [← hx]
    generalize opOf ops j = o at ho
    obtain ⟨dst, op, ty, pos, after, guard⟩ := o
    subst ho
    have := execOp_call_go a dst f xs ats ty pos after guard
    simpa using this
  unfold Oper.wp
  rw [he, enters hf hn hb]
  refine Calls.mono h fun e w' hh => ?_
  obtain ⟨v, rfl, hS, hh⟩ := hh
  exact ⟨hS, hh hS⟩
theorem done {fuel : Nat} {listed : Array Bool} {a : Act} {w : World} (hr : Region.ready .any ops listed = []) (h : R a w) : wpAnyH P .any ops (Only R) S fuel listed a w :=
  wpAnyH_done hr h fuel
theorem y_move {o : Oper} {a : Act} {x : Operand} {v : Value} (ho : o.op = .move x ∨ o.op = .assign x) (hv : a.eval x = v) : ∀ w, S w → (execOp a.eval o).run P w = .ok (.value v) w := by
  intro w _
  obtain ⟨dst, op, ty, pos, after, guard⟩ := o
  rcases ho with ho | ho <;> (simp only at ho; subst ho; rw [← hv]; rfl)
theorem y_bin {o : Oper} {a : Act} {b : BinOp} {T R' : TypeId} {x y : Operand} {vx vy v : Value} (ho : o.op = .binOp b T x y R') (hx : a.eval x = vx) (hy : a.eval y = vy)
    (hv : ∀ w, S w → (do eqGuard b T x y vx vy; binOp b T vx vy : Sem Value).run P w = .ok v w) : ∀ w, S w → (execOp a.eval o).run P w = .ok (.value v) w := by
  intro w hw
  obtain ⟨dst, op, ty, pos, after, guard⟩ := o
  simp only at ho
  subst ho
  have := hv w hw
  simp only [execOp, hx, hy]
  simp only [Sem.run_bind] at this ⊢
  rw [this]
  rfl
theorem y_at {o : Oper} {a : Act} {T : TypeId} {x y : Operand} {vx vy v : Value} (ho : o.op = .indexAddr T x y) (hx : a.eval x = vx) (hy : a.eval y = vy)
    (hv : ∀ w, S w → (Instr.indexAt T vx vy).run P w = .ok v w) : ∀ w, S w → (execOp a.eval o).run P w = .ok (.value v) w := by
  intro w hw
  obtain ⟨dst, op, ty, pos, after, guard⟩ := o
  simp only at ho
  subst ho
  have := hv w hw
  simp only [execOp, hx, hy, Sem.run_bind]
  rw [this]
  rfl
theorem y_load {o : Oper} {a : Act} {T : TypeId} {x : Operand} {vx v : Value} (ho : o.op = .load T x) (hx : a.eval x = vx)
    (hv : ∀ w, S w → (Instr.loadAt T vx).run P w = .ok v w) : ∀ w, S w → (execOp a.eval o).run P w = .ok (.value v) w := by
  intro w hw
  obtain ⟨dst, op, ty, pos, after, guard⟩ := o
  simp only at ho
  subst ho
  have := hv w hw
  simp only [execOp, hx, Sem.run_bind]
  rw [this]
  rfl
theorem y_pick {o : Oper} {a : Act} {c x y : Operand} {b : Bool} {v : Value} (ho : o.op = .pick c x y) (hc : a.eval c = .bool b) (hv : (if b then a.eval x else a.eval y) = v) :
    ∀ w, S w → (execOp a.eval o).run P w = .ok (.value v) w := by
  intro w hw
  obtain ⟨dst, op, ty, pos, after, guard⟩ := o
  simp only at ho
  subst ho
  rw [← hv]
  simp only [execOp, hc]
  rfl
theorem y_nil {o : Oper} {a : Act} {x : Operand} {p : Addr} (ho : o.op = .nilCheck x) (hx : a.eval x = .pointer (some p)) : ∀ w, S w → (execOp a.eval o).run P w = .ok (.value (.pointer (some p))) w := by
  intro w hw
  obtain ⟨dst, op, ty, pos, after, guard⟩ := o
  simp only at ho
  subst ho
  simp only [execOp, hx]
  rfl
theorem y_field {o : Oper} {a : Act} {T k : Nat} {x : Operand} {vx v : Value} (ho : o.op = .fieldAddr T x k) (hx : a.eval x = vx)
    (hv : ∀ w, S w → (Instr.fieldAt T vx k).run P w = .ok v w) : ∀ w, S w → (execOp a.eval o).run P w = .ok (.value v) w := by
  intro w hw
  obtain ⟨dst, op, ty, pos, after, guard⟩ := o
  simp only at ho
  subst ho
  have := hv w hw
  simp only [execOp, hx, Sem.run_bind]
  rw [this]
  rfl
theorem y_len {o : Oper} {a : Act} {x : Operand} {ats : Array TypeId} {vx : Value} {n : Nat} (ho : o.op = .call { callee := .builtin .len, args := #[x], argTypes := ats }) (hx : a.eval x = vx)
    (hv : ∀ ty w, S w → (Builtin.len_ ats ty #[vx]).run P w = .ok (.int .i64 n) w) : ∀ w, S w → (execOp a.eval o).run P w = .ok (.value (.int .i64 n)) w := by
  intro w hw
  obtain ⟨dst, op, ty, pos, after, guard⟩ := o
  simp only at ho
  subst ho
  have h2 := hv ty w hw
  rw [← hx] at h2
  generalize a.eval = ρ at h2 ⊢
  simp [go_sem, h2]
theorem store (i : Nat) {T : TypeId} {x y : Operand} {vx vy : Value} {w1 : World} {fuel : Nat} {listed : Array Bool} {a : Act} {w : World}
    (hi : decide (i < ops.size) = true) (hd : (opOf ops i).dst = none) (hr : Region.ready .any ops listed = [i])
    (hw : Region.wanted (opOf ops i) (yielded ops a.tmps) = true) (ho : (opOf ops i).op = .store T x y) (hx : a.eval x = vx) (hy : a.eval y = vy)
    (hv : (Instr.storeAt T vx vy).run P w = .ok () w1) (hS : S w1)
    (h : S w1 → wpAnyH P .any ops (Only R) S fuel (listed.setIfInBounds i true) a w1) :
    wpAnyH P .any ops (Only R) S (fuel + 1) listed a w := by
  refine wpAnyH_all hr (by simp) fun j hj => ?_
  obtain rfl : j = i := by simpa using hj
  unfold wpOp
  rw [opOf_some hi]
  simp only [hw, if_true]
  refine .inl ?_
  have he : (execOp a.eval (opOf ops j)).run P w = .ok .skip w1 := by
    generalize opOf ops j = o at ho
    obtain ⟨dst, op, ty, pos, after, guard⟩ := o
    simp only at ho
    subst ho
    simp only [execOp, hx, hy, Sem.run_bind]
    rw [hv]
    rfl
  unfold Oper.wp
  rw [he, Oper.upon_skip, hd]
  exact ⟨hS, h hS⟩
theorem op_call (i : Nat) (d : Option Tmp) (f : FuncId) (args : Array Value) {fn : Func} {xs : Array Operand} {ats : Array TypeId} {fuel : Nat} {listed : Array Bool} {a : Act} {w : World}
    (hi : decide (i < ops.size) = true) (hd : (opOf ops i).dst = d)
    (hw : Region.wanted (opOf ops i) (yielded ops a.tmps) = true) (ho : (opOf ops i).op = .call { callee := .value (.func f), args := xs, argTypes := ats })
    (hf : P.funcs[f]? = some fn) (hn : (fn.name == "runtime.NumGoroutine") = false) (hb : fn.body.isNone = false) (hx : xs.map a.eval = args)
    (h : Calls P f args w fun e w' => ∃ v, e = .returned v ∧ S w' ∧ (S w' → wpAnyH P .any ops (Only R) S fuel (listed.setIfInBounds i true) (a.put d v) w')) :
    wpOp P ops (Only R) i (fun a' w' => S w' ∧ wpAnyH P .any ops (Only R) S fuel (listed.setIfInBounds i true) a' w') a w := by
  subst hd
  unfold wpOp
  rw [opOf_some hi]
  simp only [hw, if_true]
  refine .inl ?_
  have he : execOp a.eval (opOf ops i) = callFunc f args := by
    rw [← hx]
    generalize opOf ops i = o at ho
    obtain ⟨dst, op, ty, pos, after, guard⟩ := o
    subst ho
    have := execOp_call_go a dst f xs ats ty pos after guard
    simpa using this
  unfold Oper.wp
  rw [he, enters hf hn hb]
  refine Calls.mono h fun e w' hh => ?_
  obtain ⟨v, rfl, hS, hh⟩ := hh
  exact ⟨hS, hh hS⟩
theorem op_alloc (i : Nat) (d : Option Tmp) {T : TypeId} {v : Value} {w1 : World} {fuel : Nat} {listed : Array Bool} {a : Act} {w : World}
    (hi : decide (i < ops.size) = true) (hd : (opOf ops i).dst = d)
    (hw : Region.wanted (opOf ops i) (yielded ops a.tmps) = true) (ho : (opOf ops i).op = .alloc T)
    (hv : (Instr.alloc T true (.tuple #[])).run P w = .ok v w1) (hS : S w1)
    (h : S w1 → wpAnyH P .any ops (Only R) S fuel (listed.setIfInBounds i true) (a.put d v) w1) :
    wpOp P ops (Only R) i (fun a' w' => S w' ∧ wpAnyH P .any ops (Only R) S fuel (listed.setIfInBounds i true) a' w') a w := by
  subst hd
  unfold wpOp
  rw [opOf_some hi]
  simp only [hw, if_true]
  refine .inl ?_
  have he : (execOp a.eval (opOf ops i)).run P w = .ok (.value v) w1 := by
    generalize opOf ops i = o at ho
    obtain ⟨dst, op, ty, pos, after, guard⟩ := o
    simp only at ho
    subst ho
    simp only [execOp, Sem.run_bind]
    rw [hv]
    rfl
  unfold Oper.wp
  rw [he, Oper.upon_value]
  exact ⟨hS, h hS⟩
theorem op_load (i : Nat) (d : Option Tmp) {T : TypeId} {x : Operand} {vx v : Value} {fuel : Nat} {listed : Array Bool} {a : Act} {w : World}
    (hi : decide (i < ops.size) = true) (hd : (opOf ops i).dst = d)
    (hw : Region.wanted (opOf ops i) (yielded ops a.tmps) = true) (ho : (opOf ops i).op = .load T x) (hx : a.eval x = vx)
    (hv : (Instr.loadAt T vx).run P w = .ok v w) (hS : S w)
    (h : wpAnyH P .any ops (Only R) S fuel (listed.setIfInBounds i true) (a.put d v) w) :
    wpOp P ops (Only R) i (fun a' w' => S w' ∧ wpAnyH P .any ops (Only R) S fuel (listed.setIfInBounds i true) a' w') a w := by
  subst hd
  unfold wpOp
  rw [opOf_some hi]
  simp only [hw, if_true]
  refine .inl ?_
  have he : (execOp a.eval (opOf ops i)).run P w = .ok (.value v) w := y_load (S := fun W => W = w) ho hx (fun W hW => by rw [hW]; exact hv) w rfl
  unfold Oper.wp
  rw [he, Oper.upon_value]
  exact ⟨hS, h⟩
theorem one {i : Nat} {fuel : Nat} {listed : Array Bool} {a : Act} {w : World} (hr : Region.ready .any ops listed = [i])
    (h : wpOp P ops (Only R) i (fun a' w' => S w' ∧ wpAnyH P .any ops (Only R) S fuel (listed.setIfInBounds i true) a' w') a w) : wpAnyH P .any ops (Only R) S (fuel + 1) listed a w :=
  wpAnyH_all hr (by simp) fun j hj => by obtain rfl : j = i := by simpa using hj
                                         exact h
theorem two {i j : Nat} {fuel : Nat} {listed : Array Bool} {a : Act} {w : World} (hr : Region.ready .any ops listed = [i, j])
    (h1 : wpOp P ops (Only R) i (fun a' w' => S w' ∧ wpAnyH P .any ops (Only R) S fuel (listed.setIfInBounds i true) a' w') a w)
    (h2 : wpOp P ops (Only R) j (fun a' w' => S w' ∧ wpAnyH P .any ops (Only R) S fuel (listed.setIfInBounds j true) a' w') a w) : wpAnyH P .any ops (Only R) S (fuel + 1) listed a w :=
  wpAnyH_all hr (by simp) fun k hk => by
    rcases (by simpa using hk : k = i ∨ k = j) with rfl | rfl
    · exact h1
    · exact h2
end
end Go.Proofs.YtdpnmdnfnplcfaaGreat.Rg

namespace Go.Proofs.YtdpnmdnfnplcfaaGreat.Dk
open Go.RowKit Tx Pm
set_option linter.unusedVariables false
set_option maxRecDepth 100000 in
set_option maxHeartbeats 2000000 in
theorem fitsReg_1 (ops : Array Oper) (hops : ops = (Rg.opsOf Tryz.f74 6)) (id : Nat) (b g n c k T : Nat) (p RV V : ByteArray) (more RN : Int) {u3 u4 u5 u6 u8 u9 u10 u11 u12 u13 u14 u15 u16 u17 u18 u19 u20 u21 u22 u23 u24 u25 u26 u27 u28 u29 u30 u31 u32 u33 u34 u35 u36 u37 u38 u39 u40 u41 u42 u43 u44 u45 u46 : Value} (w0 w : World) (hW : Below w0.heap.size w0 w)
    (hq : ∀ W, Below w0.heap.size w0 W → (fun W => W.cell? ⟨b, 1, none⟩ = some (.slice (some ⟨g, 0, none⟩) n c) ∧ W.cell? ⟨g, k * 2, none⟩ = some (.string RV) ∧ W.cell? ⟨g, k * 2 + 1, none⟩ = some (.int .i64 RN)) W)
    (hlt : k < n) (hnm : n ≤ 1000000000000)
    (hV : RV ≠ V)
    (cv : ∀ W, Calls Tryz.prog 82 #[.string p] W fun e w' => e = .returned (.string V) ∧ Below W.heap.size W w')
    (cu : ∀ W, Below w0.heap.size w0 W → Calls Tryz.prog 107 #[.pointer (some ⟨b, 0, none⟩), .string V] W fun e w' => e = .returned (.int .i64 (T : Int)) ∧ Below W.heap.size W w') :
    (Code.region id ops true).wp Tryz.prog (Rg.Only fun a' w' => a' = ⟨#[(.pointer (some ⟨b, 0, none⟩)), (.string p), (.int .i64 more), u3, u4, u5, u6, (.int .i64 (k : Int)), u8, u9, u10, u11, u12, u13, u14, u15, u16, u17, u18, (.pointer (some ⟨b, 0, none⟩)), (.pointer (some ⟨b, 0, none⟩)), (.pointer (some ⟨b, 1, none⟩)), (.slice (some ⟨g, 0, none⟩) n c), (.int .i64 (k : Int)), (.pointer (some ⟨g, k * 2, none⟩)), (.pointer (some ⟨g, k * 2, none⟩)), (.string RV), (.string p), (.string V), (.bool false), (.bool false), undef, undef, undef, undef, undef, undef, undef, undef, undef, undef, undef, undef, undef, undef, undef, (Value.bool false)], []⟩ ∧ Below w0.heap.size w0 w') ⟨#[(.pointer (some ⟨b, 0, none⟩)), (.string p), (.int .i64 more), u3, u4, u5, u6, (.int .i64 (k : Int)), u8, u9, u10, u11, u12, u13, u14, u15, u16, u17, u18, u19, u20, u21, u22, u23, u24, u25, u26, u27, u28, u29, u30, u31, u32, u33, u34, u35, u36, u37, u38, u39, u40, u41, u42, u43, u44, u45, u46], []⟩ w := by
  subst hops
  have hNS : Region.noSelect (Rg.opsOf Tryz.f74 6) = true := by kernel_rfl
  have hW0 := hW.drew
  have hSB := hq
  have heV : (RV.toList == V.toList) = false := bytes_ne hV
  refine wp_region_held_drew (S := fun W => W.cell? ⟨b, 1, none⟩ = some (.slice (some ⟨g, 0, none⟩) n c) ∧ W.cell? ⟨g, k * 2, none⟩ = some (.string RV) ∧ W.cell? ⟨g, k * 2 + 1, none⟩ = some (.int .i64 RN)) (by kernel_rfl) (hSB _ hW0) (fun hHeld => ?_)
  rw [show (Rg.opsOf Tryz.f74 6).size = 28 by kernel_rfl]
  refine Rg.take (ops := (Rg.opsOf Tryz.f74 6)) 0 (some 19) ((.pointer (some ⟨b, 0, none⟩))) hNS (by kernel_rfl) (by kernel_rfl) (by kernel_rfl) (by kernel_rfl) (by kernel_rfl) hHeld (Rg.y_move (x := (Operand.tmp 0)) (Or.inl (by kernel_rfl)) (by kernel_rfl)) ?_
  refine Rg.take (ops := (Rg.opsOf Tryz.f74 6)) 1 (some 20) ((.pointer (some ⟨b, 0, none⟩))) hNS (by kernel_rfl) (by kernel_rfl) (by kernel_rfl) (by kernel_rfl) (by kernel_rfl) hHeld (Rg.y_nil (x := (Operand.tmp 19)) (by kernel_rfl) (by kernel_rfl)) ?_
  refine Rg.take (ops := (Rg.opsOf Tryz.f74 6)) 2 (some 21) ((.pointer (some ⟨b, 1, none⟩))) hNS (by kernel_rfl) (by kernel_rfl) (by kernel_rfl) (by kernel_rfl) (by kernel_rfl) hHeld (Rg.y_field (T := 68) (k := 1) (x := (Operand.tmp 20)) (vx := (.pointer (some ⟨b, 0, none⟩))) (by kernel_rfl) (by kernel_rfl) ?_) ?_
  · (intro w hSw; obtain ⟨hS1, hS2, hS3⟩ := hSw; go_simp)
  refine Rg.take (ops := (Rg.opsOf Tryz.f74 6)) 3 (some 22) ((.slice (some ⟨g, 0, none⟩) n c)) hNS (by kernel_rfl) (by kernel_rfl) (by kernel_rfl) (by kernel_rfl) (by kernel_rfl) hHeld (Rg.y_load (T := 66) (x := (Operand.tmp 21)) (vx := (.pointer (some ⟨b, 1, none⟩))) (by kernel_rfl) (by kernel_rfl) ?_) ?_
  · (intro w hSw; obtain ⟨hS1, hS2, hS3⟩ := hSw; go_simp)
  refine Rg.take (ops := (Rg.opsOf Tryz.f74 6)) 4 (some 23) ((.int .i64 (k : Int))) hNS (by kernel_rfl) (by kernel_rfl) (by kernel_rfl) (by kernel_rfl) (by kernel_rfl) hHeld (Rg.y_move (x := (Operand.tmp 7)) (Or.inl (by kernel_rfl)) (by kernel_rfl)) ?_
  refine Rg.take (ops := (Rg.opsOf Tryz.f74 6)) 5 (some 24) ((.pointer (some ⟨g, k * 2, none⟩))) hNS (by kernel_rfl) (by kernel_rfl) (by kernel_rfl) (by kernel_rfl) (by kernel_rfl) hHeld (Rg.y_at (T := 66) (x := (Operand.tmp 22)) (y := (Operand.tmp 23)) (vx := (.slice (some ⟨g, 0, none⟩) n c)) (vy := (.int .i64 (k : Int))) (by kernel_rfl) (by kernel_rfl) (by kernel_rfl) ?_) ?_
  · (intro w hSw; go_simp <;> (intros; exfalso; omega))
  refine Rg.take (ops := (Rg.opsOf Tryz.f74 6)) 6 (some 25) ((.pointer (some ⟨g, k * 2, none⟩))) hNS (by kernel_rfl) (by kernel_rfl) (by kernel_rfl) (by kernel_rfl) (by kernel_rfl) hHeld (Rg.y_field (T := 124) (k := 0) (x := (Operand.tmp 24)) (vx := (.pointer (some ⟨g, k * 2, none⟩))) (by kernel_rfl) (by kernel_rfl) ?_) ?_
  · (intro w hSw; obtain ⟨hS1, hS2, hS3⟩ := hSw; go_simp)
  refine Rg.take (ops := (Rg.opsOf Tryz.f74 6)) 7 (some 26) ((.string RV)) hNS (by kernel_rfl) (by kernel_rfl) (by kernel_rfl) (by kernel_rfl) (by kernel_rfl) hHeld (Rg.y_load (T := 9) (x := (Operand.tmp 25)) (vx := (.pointer (some ⟨g, k * 2, none⟩))) (by kernel_rfl) (by kernel_rfl) ?_) ?_
  · (intro w hSw; obtain ⟨hS1, hS2, hS3⟩ := hSw; go_simp)
  refine Rg.take (ops := (Rg.opsOf Tryz.f74 6)) 8 (some 27) ((.string p)) hNS (by kernel_rfl) (by kernel_rfl) (by kernel_rfl) (by kernel_rfl) (by kernel_rfl) hHeld (Rg.y_move (x := (Operand.tmp 1)) (Or.inl (by kernel_rfl)) (by kernel_rfl)) ?_
  refine Rg.call (ops := (Rg.opsOf Tryz.f74 6)) (fn := Tryz.f82) (xs := #[Operand.tmp 27]) (ats := #[9]) 9 (some 28) 82 #[(.string p)] (by kernel_rfl) (by kernel_rfl) (by kernel_rfl) (by kernel_rfl) (by kernel_rfl) Tryz.func82 (by kernel_rfl) (by kernel_rfl) (by kernel_rfl) ?_
  refine (cv _).mono ?_
  rintro e w1 ⟨rfl, hb1'⟩
  have hW1 := below_call hW0 hb1'
  refine ⟨_, rfl, hSB _ hW1, fun hHeld => ?_⟩
  refine Rg.take (ops := (Rg.opsOf Tryz.f74 6)) 10 (some 29) ((.bool false)) hNS (by kernel_rfl) (by kernel_rfl) (by kernel_rfl) (by kernel_rfl) (by kernel_rfl) hHeld (Rg.y_bin (b := BinOp.eql) (T := 9) (R' := 9) (x := (Operand.tmp 26)) (y := (Operand.tmp 28)) (vx := (.string RV)) (vy := (.string V)) (by kernel_rfl) (by kernel_rfl) (by kernel_rfl) ?_) ?_
  · (intro w hSw; obtain ⟨hS1, hS2, hS3⟩ := hSw; go_simp)
  refine Rg.take (ops := (Rg.opsOf Tryz.f74 6)) 11 (some 30) ((.bool false)) hNS (by kernel_rfl) (by kernel_rfl) (by kernel_rfl) (by kernel_rfl) (by kernel_rfl) hHeld (Rg.y_move (x := (Operand.tmp 29)) (Or.inl (by kernel_rfl)) (by kernel_rfl)) ?_
  refine Rg.skip (ops := (Rg.opsOf Tryz.f74 6)) 12 (some 31) hNS (by kernel_rfl) (by kernel_rfl) (by kernel_rfl) (by kernel_rfl) (by kernel_rfl) hHeld ?_
  refine Rg.skip (ops := (Rg.opsOf Tryz.f74 6)) 13 (some 32) hNS (by kernel_rfl) (by kernel_rfl) (by kernel_rfl) (by kernel_rfl) (by kernel_rfl) hHeld ?_
  refine Rg.skip (ops := (Rg.opsOf Tryz.f74 6)) 14 (some 33) hNS (by kernel_rfl) (by kernel_rfl) (by kernel_rfl) (by kernel_rfl) (by kernel_rfl) hHeld ?_
  refine Rg.skip (ops := (Rg.opsOf Tryz.f74 6)) 15 (some 34) hNS (by kernel_rfl) (by kernel_rfl) (by kernel_rfl) (by kernel_rfl) (by kernel_rfl) hHeld ?_
  refine Rg.skip (ops := (Rg.opsOf Tryz.f74 6)) 16 (some 35) hNS (by kernel_rfl) (by kernel_rfl) (by kernel_rfl) (by kernel_rfl) (by kernel_rfl) hHeld ?_
  refine Rg.skip (ops := (Rg.opsOf Tryz.f74 6)) 17 (some 36) hNS (by kernel_rfl) (by kernel_rfl) (by kernel_rfl) (by kernel_rfl) (by kernel_rfl) hHeld ?_
  refine Rg.skip (ops := (Rg.opsOf Tryz.f74 6)) 18 (some 37) hNS (by kernel_rfl) (by kernel_rfl) (by kernel_rfl) (by kernel_rfl) (by kernel_rfl) hHeld ?_
  refine Rg.skip (ops := (Rg.opsOf Tryz.f74 6)) 19 (some 38) hNS (by kernel_rfl) (by kernel_rfl) (by kernel_rfl) (by kernel_rfl) (by kernel_rfl) hHeld ?_
  refine Rg.skip (ops := (Rg.opsOf Tryz.f74 6)) 20 (some 39) hNS (by kernel_rfl) (by kernel_rfl) (by kernel_rfl) (by kernel_rfl) (by kernel_rfl) hHeld ?_
  refine Rg.skip (ops := (Rg.opsOf Tryz.f74 6)) 21 (some 40) hNS (by kernel_rfl) (by kernel_rfl) (by kernel_rfl) (by kernel_rfl) (by kernel_rfl) hHeld ?_
  refine Rg.skip (ops := (Rg.opsOf Tryz.f74 6)) 22 (some 41) hNS (by kernel_rfl) (by kernel_rfl) (by kernel_rfl) (by kernel_rfl) (by kernel_rfl) hHeld ?_
  refine Rg.skip (ops := (Rg.opsOf Tryz.f74 6)) 23 (some 42) hNS (by kernel_rfl) (by kernel_rfl) (by kernel_rfl) (by kernel_rfl) (by kernel_rfl) hHeld ?_
  refine Rg.skip (ops := (Rg.opsOf Tryz.f74 6)) 24 (some 43) hNS (by kernel_rfl) (by kernel_rfl) (by kernel_rfl) (by kernel_rfl) (by kernel_rfl) hHeld ?_
  refine Rg.skip (ops := (Rg.opsOf Tryz.f74 6)) 25 (some 44) hNS (by kernel_rfl) (by kernel_rfl) (by kernel_rfl) (by kernel_rfl) (by kernel_rfl) hHeld ?_
  refine Rg.skip (ops := (Rg.opsOf Tryz.f74 6)) 26 (some 45) hNS (by kernel_rfl) (by kernel_rfl) (by kernel_rfl) (by kernel_rfl) (by kernel_rfl) hHeld ?_
  refine Rg.take (ops := (Rg.opsOf Tryz.f74 6)) 27 (some 46) ((Value.bool false)) hNS (by kernel_rfl) (by kernel_rfl) (by kernel_rfl) (by kernel_rfl) (by kernel_rfl) hHeld (Rg.y_pick (c := (Operand.tmp 30)) (x := (Operand.tmp 45)) (y := (Operand.const (Value.bool false))) (b := false) (by kernel_rfl) (by kernel_rfl) (by kernel_rfl)) ?_
  refine Rg.done (ops := (Rg.opsOf Tryz.f74 6)) (by kernel_rfl) ?_
  exact ⟨by kernel_rfl, hW1⟩
set_option maxRecDepth 100000 in
set_option maxHeartbeats 2000000 in
theorem fitsReg_2 (ops : Array Oper) (hops : ops = (Rg.opsOf Tryz.f74 6)) (id : Nat) (b g n c k T : Nat) (p RV V : ByteArray) (more RN : Int) {u3 u4 u5 u6 u8 u9 u10 u11 u12 u13 u14 u15 u16 u17 u18 u19 u20 u21 u22 u23 u24 u25 u26 u27 u28 u29 u30 u31 u32 u33 u34 u35 u36 u37 u38 u39 u40 u41 u42 u43 u44 u45 u46 : Value} (w0 w : World) (hW : Below w0.heap.size w0 w)
    (hq : ∀ W, Below w0.heap.size w0 W → (fun W => W.cell? ⟨b, 1, none⟩ = some (.slice (some ⟨g, 0, none⟩) n c) ∧ W.cell? ⟨g, k * 2, none⟩ = some (.string RV) ∧ W.cell? ⟨g, k * 2 + 1, none⟩ = some (.int .i64 RN)) W)
    (hlt : k < n) (hnm : n ≤ 1000000000000)
    (hV : RV = V)
    (hadd : IntKind.i64.wrap ((T : Int) + more) = (T : Int) + more) (hfit : ¬ (T : Int) + more > RN)
    (cv : ∀ W, Calls Tryz.prog 82 #[.string p] W fun e w' => e = .returned (.string V) ∧ Below W.heap.size W w')
    (cu : ∀ W, Below w0.heap.size w0 W → Calls Tryz.prog 107 #[.pointer (some ⟨b, 0, none⟩), .string V] W fun e w' => e = .returned (.int .i64 (T : Int)) ∧ Below W.heap.size W w') :
    (Code.region id ops true).wp Tryz.prog (Rg.Only fun a' w' => a' = ⟨#[(.pointer (some ⟨b, 0, none⟩)), (.string p), (.int .i64 more), u3, u4, u5, u6, (.int .i64 (k : Int)), u8, u9, u10, u11, u12, u13, u14, u15, u16, u17, u18, (.pointer (some ⟨b, 0, none⟩)), (.pointer (some ⟨b, 0, none⟩)), (.pointer (some ⟨b, 1, none⟩)), (.slice (some ⟨g, 0, none⟩) n c), (.int .i64 (k : Int)), (.pointer (some ⟨g, k * 2, none⟩)), (.pointer (some ⟨g, k * 2, none⟩)), (.string RV), (.string p), (.string V), (.bool true), (.bool true), (.pointer (some ⟨b, 0, none⟩)), (.string p), (.string V), (.int .i64 (T : Int)), (.int .i64 more), (.int .i64 ((T : Int) + more)), (.pointer (some ⟨b, 0, none⟩)), (.pointer (some ⟨b, 0, none⟩)), (.pointer (some ⟨b, 1, none⟩)), (.slice (some ⟨g, 0, none⟩) n c), (.int .i64 (k : Int)), (.pointer (some ⟨g, k * 2, none⟩)), (.pointer (some ⟨g, k * 2 + 1, none⟩)), (.int .i64 RN), (.bool false), (.bool false)], []⟩ ∧ Below w0.heap.size w0 w') ⟨#[(.pointer (some ⟨b, 0, none⟩)), (.string p), (.int .i64 more), u3, u4, u5, u6, (.int .i64 (k : Int)), u8, u9, u10, u11, u12, u13, u14, u15, u16, u17, u18, u19, u20, u21, u22, u23, u24, u25, u26, u27, u28, u29, u30, u31, u32, u33, u34, u35, u36, u37, u38, u39, u40, u41, u42, u43, u44, u45, u46], []⟩ w := by
  subst hops
  have hNS : Region.noSelect (Rg.opsOf Tryz.f74 6) = true := by kernel_rfl
  have hW0 := hW.drew
  have hSB := hq
  have heV : (RV.toList == V.toList) = true := by rw [hV]; exact beq_self_eq_true _
  refine wp_region_held_drew (S := fun W => W.cell? ⟨b, 1, none⟩ = some (.slice (some ⟨g, 0, none⟩) n c) ∧ W.cell? ⟨g, k * 2, none⟩ = some (.string RV) ∧ W.cell? ⟨g, k * 2 + 1, none⟩ = some (.int .i64 RN)) (by kernel_rfl) (hSB _ hW0) (fun hHeld => ?_)
  rw [show (Rg.opsOf Tryz.f74 6).size = 28 by kernel_rfl]
  refine Rg.take (ops := (Rg.opsOf Tryz.f74 6)) 0 (some 19) ((.pointer (some ⟨b, 0, none⟩))) hNS (by kernel_rfl) (by kernel_rfl) (by kernel_rfl) (by kernel_rfl) (by kernel_rfl) hHeld (Rg.y_move (x := (Operand.tmp 0)) (Or.inl (by kernel_rfl)) (by kernel_rfl)) ?_
  refine Rg.take (ops := (Rg.opsOf Tryz.f74 6)) 1 (some 20) ((.pointer (some ⟨b, 0, none⟩))) hNS (by kernel_rfl) (by kernel_rfl) (by kernel_rfl) (by kernel_rfl) (by kernel_rfl) hHeld (Rg.y_nil (x := (Operand.tmp 19)) (by kernel_rfl) (by kernel_rfl)) ?_
  refine Rg.take (ops := (Rg.opsOf Tryz.f74 6)) 2 (some 21) ((.pointer (some ⟨b, 1, none⟩))) hNS (by kernel_rfl) (by kernel_rfl) (by kernel_rfl) (by kernel_rfl) (by kernel_rfl) hHeld (Rg.y_field (T := 68) (k := 1) (x := (Operand.tmp 20)) (vx := (.pointer (some ⟨b, 0, none⟩))) (by kernel_rfl) (by kernel_rfl) ?_) ?_
  · (intro w hSw; obtain ⟨hS1, hS2, hS3⟩ := hSw; go_simp)
  refine Rg.take (ops := (Rg.opsOf Tryz.f74 6)) 3 (some 22) ((.slice (some ⟨g, 0, none⟩) n c)) hNS (by kernel_rfl) (by kernel_rfl) (by kernel_rfl) (by kernel_rfl) (by kernel_rfl) hHeld (Rg.y_load (T := 66) (x := (Operand.tmp 21)) (vx := (.pointer (some ⟨b, 1, none⟩))) (by kernel_rfl) (by kernel_rfl) ?_) ?_
  · (intro w hSw; obtain ⟨hS1, hS2, hS3⟩ := hSw; go_simp)
  refine Rg.take (ops := (Rg.opsOf Tryz.f74 6)) 4 (some 23) ((.int .i64 (k : Int))) hNS (by kernel_rfl) (by kernel_rfl) (by kernel_rfl) (by kernel_rfl) (by kernel_rfl) hHeld (Rg.y_move (x := (Operand.tmp 7)) (Or.inl (by kernel_rfl)) (by kernel_rfl)) ?_
  refine Rg.take (ops := (Rg.opsOf Tryz.f74 6)) 5 (some 24) ((.pointer (some ⟨g, k * 2, none⟩))) hNS (by kernel_rfl) (by kernel_rfl) (by kernel_rfl) (by kernel_rfl) (by kernel_rfl) hHeld (Rg.y_at (T := 66) (x := (Operand.tmp 22)) (y := (Operand.tmp 23)) (vx := (.slice (some ⟨g, 0, none⟩) n c)) (vy := (.int .i64 (k : Int))) (by kernel_rfl) (by kernel_rfl) (by kernel_rfl) ?_) ?_
  · (intro w hSw; go_simp <;> (intros; exfalso; omega))
  refine Rg.take (ops := (Rg.opsOf Tryz.f74 6)) 6 (some 25) ((.pointer (some ⟨g, k * 2, none⟩))) hNS (by kernel_rfl) (by kernel_rfl) (by kernel_rfl) (by kernel_rfl) (by kernel_rfl) hHeld (Rg.y_field (T := 124) (k := 0) (x := (Operand.tmp 24)) (vx := (.pointer (some ⟨g, k * 2, none⟩))) (by kernel_rfl) (by kernel_rfl) ?_) ?_
  · (intro w hSw; obtain ⟨hS1, hS2, hS3⟩ := hSw; go_simp)
  refine Rg.take (ops := (Rg.opsOf Tryz.f74 6)) 7 (some 26) ((.string RV)) hNS (by kernel_rfl) (by kernel_rfl) (by kernel_rfl) (by kernel_rfl) (by kernel_rfl) hHeld (Rg.y_load (T := 9) (x := (Operand.tmp 25)) (vx := (.pointer (some ⟨g, k * 2, none⟩))) (by kernel_rfl) (by kernel_rfl) ?_) ?_
  · (intro w hSw; obtain ⟨hS1, hS2, hS3⟩ := hSw; go_simp)
  refine Rg.take (ops := (Rg.opsOf Tryz.f74 6)) 8 (some 27) ((.string p)) hNS (by kernel_rfl) (by kernel_rfl) (by kernel_rfl) (by kernel_rfl) (by kernel_rfl) hHeld (Rg.y_move (x := (Operand.tmp 1)) (Or.inl (by kernel_rfl)) (by kernel_rfl)) ?_
  refine Rg.call (ops := (Rg.opsOf Tryz.f74 6)) (fn := Tryz.f82) (xs := #[Operand.tmp 27]) (ats := #[9]) 9 (some 28) 82 #[(.string p)] (by kernel_rfl) (by kernel_rfl) (by kernel_rfl) (by kernel_rfl) (by kernel_rfl) Tryz.func82 (by kernel_rfl) (by kernel_rfl) (by kernel_rfl) ?_
  refine (cv _).mono ?_
  rintro e w1 ⟨rfl, hb1'⟩
  have hW1 := below_call hW0 hb1'
  refine ⟨_, rfl, hSB _ hW1, fun hHeld => ?_⟩
  refine Rg.take (ops := (Rg.opsOf Tryz.f74 6)) 10 (some 29) ((.bool true)) hNS (by kernel_rfl) (by kernel_rfl) (by kernel_rfl) (by kernel_rfl) (by kernel_rfl) hHeld (Rg.y_bin (b := BinOp.eql) (T := 9) (R' := 9) (x := (Operand.tmp 26)) (y := (Operand.tmp 28)) (vx := (.string RV)) (vy := (.string V)) (by kernel_rfl) (by kernel_rfl) (by kernel_rfl) ?_) ?_
  · (intro w hSw; obtain ⟨hS1, hS2, hS3⟩ := hSw; go_simp)
  refine Rg.take (ops := (Rg.opsOf Tryz.f74 6)) 11 (some 30) ((.bool true)) hNS (by kernel_rfl) (by kernel_rfl) (by kernel_rfl) (by kernel_rfl) (by kernel_rfl) hHeld (Rg.y_move (x := (Operand.tmp 29)) (Or.inl (by kernel_rfl)) (by kernel_rfl)) ?_
  refine Rg.take (ops := (Rg.opsOf Tryz.f74 6)) 12 (some 31) ((.pointer (some ⟨b, 0, none⟩))) hNS (by kernel_rfl) (by kernel_rfl) (by kernel_rfl) (by kernel_rfl) (by kernel_rfl) hHeld (Rg.y_move (x := (Operand.tmp 0)) (Or.inl (by kernel_rfl)) (by kernel_rfl)) ?_
  refine Rg.take (ops := (Rg.opsOf Tryz.f74 6)) 13 (some 32) ((.string p)) hNS (by kernel_rfl) (by kernel_rfl) (by kernel_rfl) (by kernel_rfl) (by kernel_rfl) hHeld (Rg.y_move (x := (Operand.tmp 1)) (Or.inl (by kernel_rfl)) (by kernel_rfl)) ?_
  refine Rg.take (ops := (Rg.opsOf Tryz.f74 6)) 16 (some 35) ((.int .i64 more)) hNS (by kernel_rfl) (by kernel_rfl) (by kernel_rfl) (by kernel_rfl) (by kernel_rfl) hHeld (Rg.y_move (x := (Operand.tmp 2)) (Or.inl (by kernel_rfl)) (by kernel_rfl)) ?_
  refine Rg.take (ops := (Rg.opsOf Tryz.f74 6)) 18 (some 37) ((.pointer (some ⟨b, 0, none⟩))) hNS (by kernel_rfl) (by kernel_rfl) (by kernel_rfl) (by kernel_rfl) (by kernel_rfl) hHeld (Rg.y_move (x := (Operand.tmp 0)) (Or.inl (by kernel_rfl)) (by kernel_rfl)) ?_
  refine Rg.take (ops := (Rg.opsOf Tryz.f74 6)) 19 (some 38) ((.pointer (some ⟨b, 0, none⟩))) hNS (by kernel_rfl) (by kernel_rfl) (by kernel_rfl) (by kernel_rfl) (by kernel_rfl) hHeld (Rg.y_nil (x := (Operand.tmp 37)) (by kernel_rfl) (by kernel_rfl)) ?_
  refine Rg.take (ops := (Rg.opsOf Tryz.f74 6)) 20 (some 39) ((.pointer (some ⟨b, 1, none⟩))) hNS (by kernel_rfl) (by kernel_rfl) (by kernel_rfl) (by kernel_rfl) (by kernel_rfl) hHeld (Rg.y_field (T := 68) (k := 1) (x := (Operand.tmp 38)) (vx := (.pointer (some ⟨b, 0, none⟩))) (by kernel_rfl) (by kernel_rfl) ?_) ?_
  · (intro w hSw; obtain ⟨hS1, hS2, hS3⟩ := hSw; go_simp)
  refine Rg.take (ops := (Rg.opsOf Tryz.f74 6)) 21 (some 40) ((.slice (some ⟨g, 0, none⟩) n c)) hNS (by kernel_rfl) (by kernel_rfl) (by kernel_rfl) (by kernel_rfl) (by kernel_rfl) hHeld (Rg.y_load (T := 66) (x := (Operand.tmp 39)) (vx := (.pointer (some ⟨b, 1, none⟩))) (by kernel_rfl) (by kernel_rfl) ?_) ?_
  · (intro w hSw; obtain ⟨hS1, hS2, hS3⟩ := hSw; go_simp)
  refine Rg.take (ops := (Rg.opsOf Tryz.f74 6)) 22 (some 41) ((.int .i64 (k : Int))) hNS (by kernel_rfl) (by kernel_rfl) (by kernel_rfl) (by kernel_rfl) (by kernel_rfl) hHeld (Rg.y_move (x := (Operand.tmp 7)) (Or.inl (by kernel_rfl)) (by kernel_rfl)) ?_
  refine Rg.take (ops := (Rg.opsOf Tryz.f74 6)) 23 (some 42) ((.pointer (some ⟨g, k * 2, none⟩))) hNS (by kernel_rfl) (by kernel_rfl) (by kernel_rfl) (by kernel_rfl) (by kernel_rfl) hHeld (Rg.y_at (T := 66) (x := (Operand.tmp 40)) (y := (Operand.tmp 41)) (vx := (.slice (some ⟨g, 0, none⟩) n c)) (vy := (.int .i64 (k : Int))) (by kernel_rfl) (by kernel_rfl) (by kernel_rfl) ?_) ?_
  · (intro w hSw; go_simp <;> (intros; exfalso; omega))
  refine Rg.take (ops := (Rg.opsOf Tryz.f74 6)) 24 (some 43) ((.pointer (some ⟨g, k * 2 + 1, none⟩))) hNS (by kernel_rfl) (by kernel_rfl) (by kernel_rfl) (by kernel_rfl) (by kernel_rfl) hHeld (Rg.y_field (T := 124) (k := 1) (x := (Operand.tmp 42)) (vx := (.pointer (some ⟨g, k * 2, none⟩))) (by kernel_rfl) (by kernel_rfl) ?_) ?_
  · (intro w hSw; obtain ⟨hS1, hS2, hS3⟩ := hSw; go_simp)
  refine Rg.take (ops := (Rg.opsOf Tryz.f74 6)) 25 (some 44) ((.int .i64 RN)) hNS (by kernel_rfl) (by kernel_rfl) (by kernel_rfl) (by kernel_rfl) (by kernel_rfl) hHeld (Rg.y_load (T := 3) (x := (Operand.tmp 43)) (vx := (.pointer (some ⟨g, k * 2 + 1, none⟩))) (by kernel_rfl) (by kernel_rfl) ?_) ?_
  · (intro w hSw; obtain ⟨hS1, hS2, hS3⟩ := hSw; go_simp)
  refine Rg.call (ops := (Rg.opsOf Tryz.f74 6)) (fn := Tryz.f82) (xs := #[Operand.tmp 32]) (ats := #[9]) 14 (some 33) 82 #[(.string p)] (by kernel_rfl) (by kernel_rfl) (by kernel_rfl) (by kernel_rfl) (by kernel_rfl) Tryz.func82 (by kernel_rfl) (by kernel_rfl) (by kernel_rfl) ?_
  refine (cv _).mono ?_
  rintro e w2 ⟨rfl, hb2'⟩
  have hW2 := below_call hW1 hb2'
  refine ⟨_, rfl, hSB _ hW2, fun hHeld => ?_⟩
  refine Rg.call (ops := (Rg.opsOf Tryz.f74 6)) (fn := Tryz.f107) (xs := #[Operand.tmp 31, Operand.tmp 33]) (ats := #[25, 9]) 15 (some 34) 107 #[(.pointer (some ⟨b, 0, none⟩)), (.string V)] (by kernel_rfl) (by kernel_rfl) (by kernel_rfl) (by kernel_rfl) (by kernel_rfl) Tryz.func107 (by kernel_rfl) (by kernel_rfl) (by kernel_rfl) ?_
  refine (cu _ hW2).mono ?_
  rintro e w3 ⟨rfl, hb3'⟩
  have hW3 := below_call hW2 hb3'
  refine ⟨_, rfl, hSB _ hW3, fun hHeld => ?_⟩
  refine Rg.take (ops := (Rg.opsOf Tryz.f74 6)) 17 (some 36) ((.int .i64 ((T : Int) + more))) hNS (by kernel_rfl) (by kernel_rfl) (by kernel_rfl) (by kernel_rfl) (by kernel_rfl) hHeld (Rg.y_bin (b := BinOp.add) (T := 3) (R' := 3) (x := (Operand.tmp 34)) (y := (Operand.tmp 35)) (vx := (.int .i64 (T : Int))) (vy := (.int .i64 more)) (by kernel_rfl) (by kernel_rfl) (by kernel_rfl) ?_) ?_
  · (intro w hSw; go_simp <;> exact hadd)
  refine Rg.take (ops := (Rg.opsOf Tryz.f74 6)) 26 (some 45) ((.bool false)) hNS (by kernel_rfl) (by kernel_rfl) (by kernel_rfl) (by kernel_rfl) (by kernel_rfl) hHeld (Rg.y_bin (b := BinOp.gtr) (T := 3) (R' := 3) (x := (Operand.tmp 36)) (y := (Operand.tmp 44)) (vx := (.int .i64 ((T : Int) + more))) (vy := (.int .i64 RN)) (by kernel_rfl) (by kernel_rfl) (by kernel_rfl) ?_) ?_
  · (intro w hSw; go_simp <;> omega)
  refine Rg.take (ops := (Rg.opsOf Tryz.f74 6)) 27 (some 46) ((.bool false)) hNS (by kernel_rfl) (by kernel_rfl) (by kernel_rfl) (by kernel_rfl) (by kernel_rfl) hHeld (Rg.y_pick (c := (Operand.tmp 30)) (x := (Operand.tmp 45)) (y := (Operand.const (Value.bool false))) (b := true) (by kernel_rfl) (by kernel_rfl) (by kernel_rfl)) ?_
  refine Rg.done (ops := (Rg.opsOf Tryz.f74 6)) (by kernel_rfl) ?_
  exact ⟨by kernel_rfl, hW3⟩
set_option maxRecDepth 100000 in
set_option maxHeartbeats 2000000 in
theorem fitsReg_3 (ops : Array Oper) (hops : ops = (Rg.opsOf Tryz.f74 6)) (id : Nat) (b g n c k T : Nat) (p RV V : ByteArray) (more RN : Int) {u3 u4 u5 u6 u8 u9 u10 u11 u12 u13 u14 u15 u16 u17 u18 u19 u20 u21 u22 u23 u24 u25 u26 u27 u28 u29 u30 u31 u32 u33 u34 u35 u36 u37 u38 u39 u40 u41 u42 u43 u44 u45 u46 : Value} (w0 w : World) (hW : Below w0.heap.size w0 w)
    (hq : ∀ W, Below w0.heap.size w0 W → (fun W => W.cell? ⟨b, 1, none⟩ = some (.slice (some ⟨g, 0, none⟩) n c) ∧ W.cell? ⟨g, k * 2, none⟩ = some (.string RV) ∧ W.cell? ⟨g, k * 2 + 1, none⟩ = some (.int .i64 RN)) W)
    (hlt : k < n) (hnm : n ≤ 1000000000000)
    (hV : RV = V)
    (hadd : IntKind.i64.wrap ((T : Int) + more) = (T : Int) + more) (hfit : (T : Int) + more > RN)
    (cv : ∀ W, Calls Tryz.prog 82 #[.string p] W fun e w' => e = .returned (.string V) ∧ Below W.heap.size W w')
    (cu : ∀ W, Below w0.heap.size w0 W → Calls Tryz.prog 107 #[.pointer (some ⟨b, 0, none⟩), .string V] W fun e w' => e = .returned (.int .i64 (T : Int)) ∧ Below W.heap.size W w') :
    (Code.region id ops true).wp Tryz.prog (Rg.Only fun a' w' => a' = ⟨#[(.pointer (some ⟨b, 0, none⟩)), (.string p), (.int .i64 more), u3, u4, u5, u6, (.int .i64 (k : Int)), u8, u9, u10, u11, u12, u13, u14, u15, u16, u17, u18, (.pointer (some ⟨b, 0, none⟩)), (.pointer (some ⟨b, 0, none⟩)), (.pointer (some ⟨b, 1, none⟩)), (.slice (some ⟨g, 0, none⟩) n c), (.int .i64 (k : Int)), (.pointer (some ⟨g, k * 2, none⟩)), (.pointer (some ⟨g, k * 2, none⟩)), (.string RV), (.string p), (.string V), (.bool true), (.bool true), (.pointer (some ⟨b, 0, none⟩)), (.string p), (.string V), (.int .i64 (T : Int)), (.int .i64 more), (.int .i64 ((T : Int) + more)), (.pointer (some ⟨b, 0, none⟩)), (.pointer (some ⟨b, 0, none⟩)), (.pointer (some ⟨b, 1, none⟩)), (.slice (some ⟨g, 0, none⟩) n c), (.int .i64 (k : Int)), (.pointer (some ⟨g, k * 2, none⟩)), (.pointer (some ⟨g, k * 2 + 1, none⟩)), (.int .i64 RN), (.bool true), (.bool true)], []⟩ ∧ Below w0.heap.size w0 w') ⟨#[(.pointer (some ⟨b, 0, none⟩)), (.string p), (.int .i64 more), u3, u4, u5, u6, (.int .i64 (k : Int)), u8, u9, u10, u11, u12, u13, u14, u15, u16, u17, u18, u19, u20, u21, u22, u23, u24, u25, u26, u27, u28, u29, u30, u31, u32, u33, u34, u35, u36, u37, u38, u39, u40, u41, u42, u43, u44, u45, u46], []⟩ w := by
  subst hops
  have hNS : Region.noSelect (Rg.opsOf Tryz.f74 6) = true := by kernel_rfl
  have hW0 := hW.drew
  have hSB := hq
  have heV : (RV.toList == V.toList) = true := by rw [hV]; exact beq_self_eq_true _
  refine wp_region_held_drew (S := fun W => W.cell? ⟨b, 1, none⟩ = some (.slice (some ⟨g, 0, none⟩) n c) ∧ W.cell? ⟨g, k * 2, none⟩ = some (.string RV) ∧ W.cell? ⟨g, k * 2 + 1, none⟩ = some (.int .i64 RN)) (by kernel_rfl) (hSB _ hW0) (fun hHeld => ?_)
  rw [show (Rg.opsOf Tryz.f74 6).size = 28 by kernel_rfl]
  refine Rg.take (ops := (Rg.opsOf Tryz.f74 6)) 0 (some 19) ((.pointer (some ⟨b, 0, none⟩))) hNS (by kernel_rfl) (by kernel_rfl) (by kernel_rfl) (by kernel_rfl) (by kernel_rfl) hHeld (Rg.y_move (x := (Operand.tmp 0)) (Or.inl (by kernel_rfl)) (by kernel_rfl)) ?_
  refine Rg.take (ops := (Rg.opsOf Tryz.f74 6)) 1 (some 20) ((.pointer (some ⟨b, 0, none⟩))) hNS (by kernel_rfl) (by kernel_rfl) (by kernel_rfl) (by kernel_rfl) (by kernel_rfl) hHeld (Rg.y_nil (x := (Operand.tmp 19)) (by kernel_rfl) (by kernel_rfl)) ?_
  refine Rg.take (ops := (Rg.opsOf Tryz.f74 6)) 2 (some 21) ((.pointer (some ⟨b, 1, none⟩))) hNS (by kernel_rfl) (by kernel_rfl) (by kernel_rfl) (by kernel_rfl) (by kernel_rfl) hHeld (Rg.y_field (T := 68) (k := 1) (x := (Operand.tmp 20)) (vx := (.pointer (some ⟨b, 0, none⟩))) (by kernel_rfl) (by kernel_rfl) ?_) ?_
  · (intro w hSw; obtain ⟨hS1, hS2, hS3⟩ := hSw; go_simp)
  refine Rg.take (ops := (Rg.opsOf Tryz.f74 6)) 3 (some 22) ((.slice (some ⟨g, 0, none⟩) n c)) hNS (by kernel_rfl) (by kernel_rfl) (by kernel_rfl) (by kernel_rfl) (by kernel_rfl) hHeld (Rg.y_load (T := 66) (x := (Operand.tmp 21)) (vx := (.pointer (some ⟨b, 1, none⟩))) (by kernel_rfl) (by kernel_rfl) ?_) ?_
  · (intro w hSw; obtain ⟨hS1, hS2, hS3⟩ := hSw; go_simp)
  refine Rg.take (ops := (Rg.opsOf Tryz.f74 6)) 4 (some 23) ((.int .i64 (k : Int))) hNS (by kernel_rfl) (by kernel_rfl) (by kernel_rfl) (by kernel_rfl) (by kernel_rfl) hHeld (Rg.y_move (x := (Operand.tmp 7)) (Or.inl (by kernel_rfl)) (by kernel_rfl)) ?_
  refine Rg.take (ops := (Rg.opsOf Tryz.f74 6)) 5 (some 24) ((.pointer (some ⟨g, k * 2, none⟩))) hNS (by kernel_rfl) (by kernel_rfl) (by kernel_rfl) (by kernel_rfl) (by kernel_rfl) hHeld (Rg.y_at (T := 66) (x := (Operand.tmp 22)) (y := (Operand.tmp 23)) (vx := (.slice (some ⟨g, 0, none⟩) n c)) (vy := (.int .i64 (k : Int))) (by kernel_rfl) (by kernel_rfl) (by kernel_rfl) ?_) ?_
  · (intro w hSw; go_simp <;> (intros; exfalso; omega))
  refine Rg.take (ops := (Rg.opsOf Tryz.f74 6)) 6 (some 25) ((.pointer (some ⟨g, k * 2, none⟩))) hNS (by kernel_rfl) (by kernel_rfl) (by kernel_rfl) (by kernel_rfl) (by kernel_rfl) hHeld (Rg.y_field (T := 124) (k := 0) (x := (Operand.tmp 24)) (vx := (.pointer (some ⟨g, k * 2, none⟩))) (by kernel_rfl) (by kernel_rfl) ?_) ?_
  · (intro w hSw; obtain ⟨hS1, hS2, hS3⟩ := hSw; go_simp)
  refine Rg.take (ops := (Rg.opsOf Tryz.f74 6)) 7 (some 26) ((.string RV)) hNS (by kernel_rfl) (by kernel_rfl) (by kernel_rfl) (by kernel_rfl) (by kernel_rfl) hHeld (Rg.y_load (T := 9) (x := (Operand.tmp 25)) (vx := (.pointer (some ⟨g, k * 2, none⟩))) (by kernel_rfl) (by kernel_rfl) ?_) ?_
  · (intro w hSw; obtain ⟨hS1, hS2, hS3⟩ := hSw; go_simp)
  refine Rg.take (ops := (Rg.opsOf Tryz.f74 6)) 8 (some 27) ((.string p)) hNS (by kernel_rfl) (by kernel_rfl) (by kernel_rfl) (by kernel_rfl) (by kernel_rfl) hHeld (Rg.y_move (x := (Operand.tmp 1)) (Or.inl (by kernel_rfl)) (by kernel_rfl)) ?_
  refine Rg.call (ops := (Rg.opsOf Tryz.f74 6)) (fn := Tryz.f82) (xs := #[Operand.tmp 27]) (ats := #[9]) 9 (some 28) 82 #[(.string p)] (by kernel_rfl) (by kernel_rfl) (by kernel_rfl) (by kernel_rfl) (by kernel_rfl) Tryz.func82 (by kernel_rfl) (by kernel_rfl) (by kernel_rfl) ?_
  refine (cv _).mono ?_
  rintro e w1 ⟨rfl, hb1'⟩
  have hW1 := below_call hW0 hb1'
  refine ⟨_, rfl, hSB _ hW1, fun hHeld => ?_⟩
  refine Rg.take (ops := (Rg.opsOf Tryz.f74 6)) 10 (some 29) ((.bool true)) hNS (by kernel_rfl) (by kernel_rfl) (by kernel_rfl) (by kernel_rfl) (by kernel_rfl) hHeld (Rg.y_bin (b := BinOp.eql) (T := 9) (R' := 9) (x := (Operand.tmp 26)) (y := (Operand.tmp 28)) (vx := (.string RV)) (vy := (.string V)) (by kernel_rfl) (by kernel_rfl) (by kernel_rfl) ?_) ?_
  · (intro w hSw; obtain ⟨hS1, hS2, hS3⟩ := hSw; go_simp)
  refine Rg.take (ops := (Rg.opsOf Tryz.f74 6)) 11 (some 30) ((.bool true)) hNS (by kernel_rfl) (by kernel_rfl) (by kernel_rfl) (by kernel_rfl) (by kernel_rfl) hHeld (Rg.y_move (x := (Operand.tmp 29)) (Or.inl (by kernel_rfl)) (by kernel_rfl)) ?_
  refine Rg.take (ops := (Rg.opsOf Tryz.f74 6)) 12 (some 31) ((.pointer (some ⟨b, 0, none⟩))) hNS (by kernel_rfl) (by kernel_rfl) (by kernel_rfl) (by kernel_rfl) (by kernel_rfl) hHeld (Rg.y_move (x := (Operand.tmp 0)) (Or.inl (by kernel_rfl)) (by kernel_rfl)) ?_
  refine Rg.take (ops := (Rg.opsOf Tryz.f74 6)) 13 (some 32) ((.string p)) hNS (by kernel_rfl) (by kernel_rfl) (by kernel_rfl) (by kernel_rfl) (by kernel_rfl) hHeld (Rg.y_move (x := (Operand.tmp 1)) (Or.inl (by kernel_rfl)) (by kernel_rfl)) ?_
  refine Rg.take (ops := (Rg.opsOf Tryz.f74 6)) 16 (some 35) ((.int .i64 more)) hNS (by kernel_rfl) (by kernel_rfl) (by kernel_rfl) (by kernel_rfl) (by kernel_rfl) hHeld (Rg.y_move (x := (Operand.tmp 2)) (Or.inl (by kernel_rfl)) (by kernel_rfl)) ?_
  refine Rg.take (ops := (Rg.opsOf Tryz.f74 6)) 18 (some 37) ((.pointer (some ⟨b, 0, none⟩))) hNS (by kernel_rfl) (by kernel_rfl) (by kernel_rfl) (by kernel_rfl) (by kernel_rfl) hHeld (Rg.y_move (x := (Operand.tmp 0)) (Or.inl (by kernel_rfl)) (by kernel_rfl)) ?_
  refine Rg.take (ops := (Rg.opsOf Tryz.f74 6)) 19 (some 38) ((.pointer (some ⟨b, 0, none⟩))) hNS (by kernel_rfl) (by kernel_rfl) (by kernel_rfl) (by kernel_rfl) (by kernel_rfl) hHeld (Rg.y_nil (x := (Operand.tmp 37)) (by kernel_rfl) (by kernel_rfl)) ?_
  refine Rg.take (ops := (Rg.opsOf Tryz.f74 6)) 20 (some 39) ((.pointer (some ⟨b, 1, none⟩))) hNS (by kernel_rfl) (by kernel_rfl) (by kernel_rfl) (by kernel_rfl) (by kernel_rfl) hHeld (Rg.y_field (T := 68) (k := 1) (x := (Operand.tmp 38)) (vx := (.pointer (some ⟨b, 0, none⟩))) (by kernel_rfl) (by kernel_rfl) ?_) ?_
  · (intro w hSw; obtain ⟨hS1, hS2, hS3⟩ := hSw; go_simp)
  refine Rg.take (ops := (Rg.opsOf Tryz.f74 6)) 21 (some 40) ((.slice (some ⟨g, 0, none⟩) n c)) hNS (by kernel_rfl) (by kernel_rfl) (by kernel_rfl) (by kernel_rfl) (by kernel_rfl) hHeld (Rg.y_load (T := 66) (x := (Operand.tmp 39)) (vx := (.pointer (some ⟨b, 1, none⟩))) (by kernel_rfl) (by kernel_rfl) ?_) ?_
  · (intro w hSw; obtain ⟨hS1, hS2, hS3⟩ := hSw; go_simp)
  refine Rg.take (ops := (Rg.opsOf Tryz.f74 6)) 22 (some 41) ((.int .i64 (k : Int))) hNS (by kernel_rfl) (by kernel_rfl) (by kernel_rfl) (by kernel_rfl) (by kernel_rfl) hHeld (Rg.y_move (x := (Operand.tmp 7)) (Or.inl (by kernel_rfl)) (by kernel_rfl)) ?_
  refine Rg.take (ops := (Rg.opsOf Tryz.f74 6)) 23 (some 42) ((.pointer (some ⟨g, k * 2, none⟩))) hNS (by kernel_rfl) (by kernel_rfl) (by kernel_rfl) (by kernel_rfl) (by kernel_rfl) hHeld (Rg.y_at (T := 66) (x := (Operand.tmp 40)) (y := (Operand.tmp 41)) (vx := (.slice (some ⟨g, 0, none⟩) n c)) (vy := (.int .i64 (k : Int))) (by kernel_rfl) (by kernel_rfl) (by kernel_rfl) ?_) ?_
  · (intro w hSw; go_simp <;> (intros; exfalso; omega))
  refine Rg.take (ops := (Rg.opsOf Tryz.f74 6)) 24 (some 43) ((.pointer (some ⟨g, k * 2 + 1, none⟩))) hNS (by kernel_rfl) (by kernel_rfl) (by kernel_rfl) (by kernel_rfl) (by kernel_rfl) hHeld (Rg.y_field (T := 124) (k := 1) (x := (Operand.tmp 42)) (vx := (.pointer (some ⟨g, k * 2, none⟩))) (by kernel_rfl) (by kernel_rfl) ?_) ?_
  · (intro w hSw; obtain ⟨hS1, hS2, hS3⟩ := hSw; go_simp)
  refine Rg.take (ops := (Rg.opsOf Tryz.f74 6)) 25 (some 44) ((.int .i64 RN)) hNS (by kernel_rfl) (by kernel_rfl) (by kernel_rfl) (by kernel_rfl) (by kernel_rfl) hHeld (Rg.y_load (T := 3) (x := (Operand.tmp 43)) (vx := (.pointer (some ⟨g, k * 2 + 1, none⟩))) (by kernel_rfl) (by kernel_rfl) ?_) ?_
  · (intro w hSw; obtain ⟨hS1, hS2, hS3⟩ := hSw; go_simp)
  refine Rg.call (ops := (Rg.opsOf Tryz.f74 6)) (fn := Tryz.f82) (xs := #[Operand.tmp 32]) (ats := #[9]) 14 (some 33) 82 #[(.string p)] (by kernel_rfl) (by kernel_rfl) (by kernel_rfl) (by kernel_rfl) (by kernel_rfl) Tryz.func82 (by kernel_rfl) (by kernel_rfl) (by kernel_rfl) ?_
  refine (cv _).mono ?_
  rintro e w2 ⟨rfl, hb2'⟩
  have hW2 := below_call hW1 hb2'
  refine ⟨_, rfl, hSB _ hW2, fun hHeld => ?_⟩
  refine Rg.call (ops := (Rg.opsOf Tryz.f74 6)) (fn := Tryz.f107) (xs := #[Operand.tmp 31, Operand.tmp 33]) (ats := #[25, 9]) 15 (some 34) 107 #[(.pointer (some ⟨b, 0, none⟩)), (.string V)] (by kernel_rfl) (by kernel_rfl) (by kernel_rfl) (by kernel_rfl) (by kernel_rfl) Tryz.func107 (by kernel_rfl) (by kernel_rfl) (by kernel_rfl) ?_
  refine (cu _ hW2).mono ?_
  rintro e w3 ⟨rfl, hb3'⟩
  have hW3 := below_call hW2 hb3'
  refine ⟨_, rfl, hSB _ hW3, fun hHeld => ?_⟩
  refine Rg.take (ops := (Rg.opsOf Tryz.f74 6)) 17 (some 36) ((.int .i64 ((T : Int) + more))) hNS (by kernel_rfl) (by kernel_rfl) (by kernel_rfl) (by kernel_rfl) (by kernel_rfl) hHeld (Rg.y_bin (b := BinOp.add) (T := 3) (R' := 3) (x := (Operand.tmp 34)) (y := (Operand.tmp 35)) (vx := (.int .i64 (T : Int))) (vy := (.int .i64 more)) (by kernel_rfl) (by kernel_rfl) (by kernel_rfl) ?_) ?_
  · (intro w hSw; go_simp <;> exact hadd)
  refine Rg.take (ops := (Rg.opsOf Tryz.f74 6)) 26 (some 45) ((.bool true)) hNS (by kernel_rfl) (by kernel_rfl) (by kernel_rfl) (by kernel_rfl) (by kernel_rfl) hHeld (Rg.y_bin (b := BinOp.gtr) (T := 3) (R' := 3) (x := (Operand.tmp 36)) (y := (Operand.tmp 44)) (vx := (.int .i64 ((T : Int) + more))) (vy := (.int .i64 RN)) (by kernel_rfl) (by kernel_rfl) (by kernel_rfl) ?_) ?_
  · (intro w hSw; go_simp <;> omega)
  refine Rg.take (ops := (Rg.opsOf Tryz.f74 6)) 27 (some 46) ((.bool true)) hNS (by kernel_rfl) (by kernel_rfl) (by kernel_rfl) (by kernel_rfl) (by kernel_rfl) hHeld (Rg.y_pick (c := (Operand.tmp 30)) (x := (Operand.tmp 45)) (y := (Operand.const (Value.bool false))) (b := true) (by kernel_rfl) (by kernel_rfl) (by kernel_rfl)) ?_
  refine Rg.done (ops := (Rg.opsOf Tryz.f74 6)) (by kernel_rfl) ?_
  exact ⟨by kernel_rfl, hW3⟩
end Go.Proofs.YtdpnmdnfnplcfaaGreat.Dk

namespace Go.Proofs.YtdpnmdnfnplcfaaGreat.Dk
open Go.RowKit Tx Pm
set_option linter.unusedVariables false
theorem all_take {α : Type} (f : α → Bool) (l : List α) (k : Nat) (x : α) (h : l[k]? = some x) : (l.take (k + 1)).all f = ((l.take k).all f && f x) := by
  obtain ⟨hk, he⟩ := List.getElem?_eq_some_iff.1 h
  rw [List.take_succ_eq_append_getElem hk, he, List.all_append]
  simp
theorem all_not {α : Type} (f : α → Bool) (l : List α) (k : Nat) (x : α) (h : l[k]? = some x) (hf : f x = false) : l.all f = false := by
  rw [← Bool.not_eq_true, List.all_eq_true]
  intro hall
  have := hall x (List.mem_of_getElem? h)
  rw [hf] at this
  cases this
def lets (s : St) (p : ByteArray) (more : Int) (r : Rm) : Bool := !(decide (r.vol = vol p) && decide ((used s.L (vol p) : Int) + more > r.n))
set_option maxRecDepth 100000 in
set_option maxHeartbeats 1000000 in
theorem rFits_any (b : Nat) (s : St) (vL vR : Value) (p : ByteArray) (more : Int) (w : World) (h : At w b s vL vR) (hf : Fit s) (hr : s.rooms.length ≤ 1000000000) (hp : p.size ≤ 8000000000000) (hm : -4000000000000000000 ≤ more ∧ more ≤ 4000000000000000000) :
    Calls Tryz.prog 74 #[.pointer (some ⟨b, 0, none⟩), .string p, .int .i64 more] w fun e w' => e = .returned (.bool (fits s p more)) ∧ Below w.heap.size w w' := by
  by_cases h0 : more ≤ 0
  · have hr : fits s p more = true := by rw [fits, decide_eq_true h0]; rfl
    rw [hr]
    clear hr
    go_enter Tryz.func74, Tryz.ntmps74
    go_wp2_with fail
    go_ret
    exact ⟨rfl, Below.refl _ _⟩
  · have hfit : fits s p more = s.rooms.all (lets s p more) := by rw [fits, decide_eq_false h0, Bool.false_or]; rfl
    have HF := Lib.hid hfit
    have cv := fun W => rVolume_any p W (by omega)
    have cu := fun W (hW : Below w.heap.size w W) => rUsed_any b s vL vR (vol p) W (h.below hW) hf
    have hul := Nat.le_trans (used_le s.L (vol p)) hf.2.2
    have hadd : IntKind.i64.wrap ((used s.L (vol p) : Int) + more) = (used s.L (vol p) : Int) + more := IntWalk.i64_in _ (by omega)
    obtain ⟨a, c, rfl, hI, _, _⟩ := h.rowR.form
    obtain ⟨c0, c1, c2, c3, c4, c5⟩ := h.cell
    have hbl := (h.lt b (.inl rfl))
    obtain ⟨n, hnn⟩ : ∃ n, n = s.rooms.length := ⟨_, rfl⟩
    rw [← hnn] at hI c1 hr
    obtain ⟨hln, hc⟩ := hI
    have HL := Lib.hid hln
    have hlets : ∀ r : Rm, lets s p more r = !(decide (r.vol = vol p) && decide ((used s.L (vol p) : Int) + more > r.n)) := fun _ => rfl
    obtain ⟨T, hT⟩ : ∃ T, T = used s.L (vol p) := ⟨_, rfl⟩
    obtain ⟨V, hV⟩ : ∃ V, V = vol p := ⟨_, rfl⟩
    rw [← hV] at cv cu hadd hlets hul hT
    rw [← hT] at cu hadd hlets hul
    have HLT := Lib.hid hlets
    clear h hfit hlets hf
    by_cases hn0 : n = 0
    · subst hn0
      have hnil : s.rooms = [] := List.length_eq_zero_iff.1 hln
      have HN := Lib.hid (show fits s p more = true by rw [HF.out, hnil]; rfl)
      clear hc HL hnn hln hnil HF
      go_enter Tryz.func74, Tryz.ntmps74
      go_wp2_with fail
      go_loop [7] (fun i => i = .int .i64 0) (fun _ => 0)
      case atStart => exact rfl
      case round =>
        obtain rfl := hrel
        go_wp2_with fail
        go_ret
        exact ⟨by rw [HN.out]; rfl, Below.refl _ _⟩
    · obtain ⟨g, rfl, hg, hc⟩ := hc.resolve_left hn0
      have HC := Lib.hid hc
      clear hc hn0 hnn hln
      go_enter Tryz.func74, Tryz.ntmps74
      go_wp2_with fail
      go_loopw [7] (fun i wr => ∃ k : Nat, k ≤ n ∧ i = .int .i64 k ∧ Hid ((s.rooms.take k).all (lets s p more) = true) ∧ Below w.heap.size w wr) (fun i _ => n - (intOf i).toNat)
      case atStart => exact ⟨0, Nat.zero_le _, rfl, rfl, Below.refl _ _⟩
      case round =>
        obtain ⟨k, hk, rfl, hall, hB⟩ := hrel
        have e1 := (hB.cell (p := ⟨b, 1, none⟩) hbl).trans c1
        by_cases hlt : k < n
        · obtain ⟨x, hx⟩ : ∃ x, s.rooms[k]? = some x := ⟨_, List.getElem?_eq_getElem (by rw [HL.out]; exact hlt)⟩
          obtain ⟨d0, d1⟩ := HC.out k x hx
          have hq : ∀ W, Below w.heap.size w W → W.cell? ⟨b, 1, none⟩ = some (.slice (some ⟨g, 0, none⟩) n c) ∧ W.cell? ⟨g, k * 2, none⟩ = some (.string x.vol) ∧ W.cell? ⟨g, k * 2 + 1, none⟩ = some (.int .i64 x.n) :=
            fun W hW => ⟨(hW.cell (p := ⟨b, 1, none⟩) hbl).trans c1, (hW.cell (p := ⟨g, _, none⟩) hg).trans d0, (hW.cell (p := ⟨g, _, none⟩) hg).trans d1⟩
          have hnx := all_take (lets s p more) s.rooms k x hx
          have hbad := all_not (lets s p more) s.rooms k x hx
          rw [hall.out, Bool.true_and, HLT.out x] at hnx
          rw [HLT.out x] at hbad
          clear hall
          by_cases hv : x.vol = V
          · by_cases hov : (T : Int) + more > x.n
            · have HB := Lib.hid (show fits s p more = false by rw [HF.out]; exact hbad (by simp [hv, hov]))
              clear hnx hbad hx d0 d1
              go_wp2_with fail
              refine Rg.wp_only ?_ (fitsReg_3 _ (by kernel_rfl) _ b g n c k T p x.vol V more x.n w _ hB hq hlt (by omega) hv hadd (by omega) cv cu)
              rintro _ w9 ⟨rfl, hW9⟩
              go_wp2_with fail
              go_ret
              exact ⟨by rw [HB.out]; rfl, hW9⟩
            · have HN := Lib.hid (show (s.rooms.take (k + 1)).all (lets s p more) = true by rw [hnx]; simp [hov])
              clear hnx hbad hx d0 d1
              go_wp2_with fail
              refine Rg.wp_only ?_ (fitsReg_2 _ (by kernel_rfl) _ b g n c k T p x.vol V more x.n w _ hB hq hlt (by omega) hv hadd (by omega) cv cu)
              rintro _ w9 ⟨rfl, hW9⟩
              go_wp2_with fail
              go_roundw
              case rel => exact ⟨k + 1, by omega, by go_num, HN.out, hW9⟩
              case measure => simp [intOf]; omega
          · have HN := Lib.hid (show (s.rooms.take (k + 1)).all (lets s p more) = true by rw [hnx]; simp [hv])
            clear hnx hbad hx d0 d1
            go_wp2_with fail
            refine Rg.wp_only ?_ (fitsReg_1 _ (by kernel_rfl) _ b g n c k T p x.vol V more x.n w _ hB hq hlt (by omega) hv cv cu)
            rintro _ w9 ⟨rfl, hW9⟩
            go_wp2_with fail
            go_roundw
            case rel => exact ⟨k + 1, by omega, by go_num, HN.out, hW9⟩
            case measure => simp [intOf]; omega
        · obtain rfl : k = n := by omega
          have ht := hall.out
          rw [List.take_of_length_le (by rw [HL.out]; omega)] at ht
          have HN := Lib.hid (show fits s p more = true by rw [HF.out, ht])
          clear hall ht
          go_wp2_with fail
          go_ret
          exact ⟨by rw [HN.out]; rfl, hB⟩
set_option maxRecDepth 100000 in
set_option maxHeartbeats 1000000 in
theorem rFirst_any (b : Nat) (s : St) (vL vR : Value) (p : ByteArray) (k : Nat) (w : World) (h : At w b s vL vR) (hp : p.size ≤ 8000000000000) (hk : k ≤ 1000) :
    Calls Tryz.prog 69 #[.pointer (some ⟨b, 0, none⟩), .string p, .int .i64 k] w fun e w' => e = .returned (.int .i64 (first s p k : Nat)) ∧ Below w.heap.size w w' := by
  obtain ⟨c0, c1, c2, c3, c4, c5⟩ := h.cell
  have cc := fun W => Pr.refCheck_any p 6 W (by omega) (by omega) (by omega)
  have cs := fun W => Pr.refSplit_any p W (by omega)
  unfold first
  clear h
  obtain ⟨D, hD⟩ : ∃ D, D = s.down := ⟨_, rfl⟩
  rw [← hD] at c5 ⊢
  clear hD
  cases D with
  | true =>
    rw [if_pos rfl]
    go_enter Tryz.func69, Tryz.ntmps69
    go_wp2_with fail
    go_ret
    exact ⟨rfl, Below.refl _ _⟩
  | false =>
    rw [if_neg (by decide)]
    have hch : chk p.data.toList 6 = 0 ∨ chk p.data.toList 6 = 10 := by unfold chk; split <;> simp
    rcases hch with hch | hch
    · rw [hch] at cc
      rw [hch]
      obtain ⟨n, hn⟩ : ∃ n, n = (spl p.data.toList).length := ⟨_, rfl⟩
      have hn2 : (List.map tb (spl p.data.toList)).length = n := by rw [List.length_map, hn]
      rw [← hn]
      by_cases hle : n ≤ k
      · rw [if_pos (.inr hle)]
        go_enter Tryz.func69, Tryz.ntmps69
        go_wp2_with (first | (go_at_call 40; refine (cc _).mono ?_; rintro e w1 ⟨rfl, hb1⟩) | (go_at_call 90; refine (cs _).mono ?_; rintro e w2 ⟨v, rfl, ht, hb2⟩; obtain ⟨a2, k2, rfl, _, _, _⟩ := ht.form; rw [hn2]; clear ht))
        go_ret
        exact ⟨rfl, below_call hb1 hb2⟩
      · rw [if_neg (by rintro (h | h) <;> omega)]
        go_enter Tryz.func69, Tryz.ntmps69
        go_wp2_with (first | (go_at_call 40; refine (cc _).mono ?_; rintro e w1 ⟨rfl, hb1⟩) | (go_at_call 90; refine (cs _).mono ?_; rintro e w2 ⟨v, rfl, ht, hb2⟩; obtain ⟨a2, k2, rfl, _, _, _⟩ := ht.form; rw [hn2]; clear ht))
        go_ret
        exact ⟨rfl, below_call hb1 hb2⟩
    · rw [hch] at cc
      rw [hch, if_pos (.inl (by decide))]
      go_enter Tryz.func69, Tryz.ntmps69
      go_wp2_with (go_at_call 40; refine (cc _).mono ?_; rintro e w1 ⟨rfl, hb1⟩)
      go_ret
      exact ⟨rfl, hb1⟩
set_option maxRecDepth 100000 in
set_option maxHeartbeats 1000000 in
theorem rThere_any (b : Nat) (s : St) (vL vR : Value) (p : ByteArray) (w : World) (h : At w b s vL vR) (hf : Fit s) (hp : p.size ≤ 8000000000000) :
    Calls Tryz.prog 85 #[.pointer (some ⟨b, 0, none⟩), .string p] w fun e w' => e = .returned (.int .i64 (there s p : Nat)) ∧ Below w.heap.size w w' := by
  have c1 := fun W (hW : Below w.heap.size w W) => rFirst_any b s vL vR p 1 W (h.below hW) hp (by omega)
  have c2 := fun W (hW : Below w.heap.size w W) => rKind_any b s vL vR p W (h.below hW) (by have := hf.1; omega)
  unfold there
  obtain ⟨E, hE⟩ : ∃ E, E = first s p 1 := ⟨_, rfl⟩
  obtain ⟨K, hK⟩ : ∃ K, K = kind s.L p := ⟨_, rfl⟩
  rw [← hE] at c1 ⊢
  rw [← hK] at c2 ⊢
  clear hE hK h hf
  by_cases h1 : E = 0
  · subst h1
    rw [if_neg (by decide)]
    by_cases h2 : K = 0
    · subst h2
      rw [if_pos rfl]
      go_enter Tryz.func85, Tryz.ntmps85
      go_wp2_with (first | (go_at_call 69; refine (c1 _ (Below.refl _ _)).mono ?_; rintro e w1 ⟨rfl, hb1⟩) | (go_at_call 41; refine (c2 _ hb1).mono ?_; rintro e w2 ⟨rfl, rfl⟩))
      go_ret
      exact ⟨rfl, hb1⟩
    · rw [if_neg h2]
      have e0 : ((K : Int) == 0) = false := beq_eq_false_iff_ne.2 (by omega)
      by_cases h3 : K = 1
      · subst h3
        rw [if_pos rfl]
        go_enter Tryz.func85, Tryz.ntmps85
        go_wp2_with fail
        go_at_call 69
        refine (c1 _ (Below.refl _ _)).mono ?_
        rintro e w1 ⟨rfl, hb1⟩
        go_wp2_with (go_at_call 41; refine (c2 _ hb1).mono ?_; rintro e w2 ⟨rfl, rfl⟩)
        go_ret
        exact ⟨rfl, hb1⟩
      · rw [if_neg h3]
        have e1 : ((K : Int) == 1) = false := beq_eq_false_iff_ne.2 (by omega)
        go_enter Tryz.func85, Tryz.ntmps85
        go_wp2_with fail
        go_at_call 69
        refine (c1 _ (Below.refl _ _)).mono ?_
        rintro e w1 ⟨rfl, hb1⟩
        go_wp2_with (go_at_call 41; refine (c2 _ hb1).mono ?_; rintro e w2 ⟨rfl, rfl⟩)
        go_ret
        exact ⟨rfl, hb1⟩
  · have e1 : ((E : Int) == 0) = false := beq_eq_false_iff_ne.2 (by omega)
    rw [if_pos h1]
    go_enter Tryz.func85, Tryz.ntmps85
    go_wp2_with (go_at_call 69; refine (c1 _ (Below.refl _ _)).mono ?_; rintro e w1 ⟨rfl, hb1⟩)
    go_ret
    exact ⟨rfl, hb1⟩
end Go.Proofs.YtdpnmdnfnplcfaaGreat.Dk

namespace Go.Proofs.YtdpnmdnfnplcfaaGreat.Dk
open Go.RowKit Tx Pm
set_option linter.unusedVariables false
theorem At.offL {w : World} {b : Nat} {s : St} {vL vR : Value} (h : At w b s vL vR) : vL.ownBlock ≠ some b := by
  rcases h.rowL.2 with ⟨rfl, _⟩ | ⟨g, cap, cur, rfl, _, hh, _⟩
  · simp [Value.ownBlock]
  · simp only [Value.ownBlock, ne_eq, Option.some.injEq]
    rintro rfl
    rw [h.blk] at hh
    injection hh with hh
    injection hh with _ ht
    revert ht
    decide
theorem At.offR {w : World} {b : Nat} {s : St} {vL vR : Value} (h : At w b s vL vR) : vR.ownBlock ≠ some b := by
  rcases h.rowR.2 with ⟨rfl, _⟩ | ⟨g, cap, cur, rfl, _, hh, _⟩
  · simp [Value.ownBlock]
  · simp only [Value.ownBlock, ne_eq, Option.some.injEq]
    rintro rfl
    rw [h.blk] at hh
    injection hh with hh
    injection hh with _ ht
    revert ht
    decide
theorem At.poke {w w1 : World} {b : Nat} {s s1 : St} {vL vR : Value} (h : At w b s vL vR)
    (hb : w1.heap[b]? = some (.cells #[vL, vR, .int .i64 s1.steps, .int .i64 s1.stamps, .int .i64 s1.armed, .bool s1.down] 68 (0, 0)))
    (hk : ∀ i, i ≠ b → w1.heap[i]? = w.heap[i]?) (hL : s1.L = s.L) (hR : s1.rooms = s.rooms) : At w1 b s1 vL vR := by
  refine ⟨hb, ?_, ?_⟩
  · rw [hL]
    exact own_kept h.rowL (fun g hg => hk g (fun e => h.offL (by rw [hg, e])))
  · rw [hR]
    exact own_kept h.rowR (fun g hg => hk g (fun e => h.offR (by rw [hg, e])))
theorem set_block {w : World} {b k : Nat} {cs : Array Value} {T : TypeId} {fz : Nat × Nat} (h : w.heap[b]? = some (.cells cs T fz)) (u : Value) : (w.setCell ⟨b, k, none⟩ u).heap[b]? = some (.cells (cs.setIfInBounds k u) T fz) := by
  simp [World.setCell, Array.getElem?_modify, h]
theorem set_other {w : World} {b k i : Nat} (u : Value) (h : i ≠ b) : (w.setCell ⟨b, k, none⟩ u).heap[i]? = w.heap[i]? := Below.heap_setCell w ⟨b, k, none⟩ u i h
theorem chg_set {w : World} {b k : Nat} (u : Value) : Chg (· = b) w (w.setCell ⟨b, k, none⟩ u) := ⟨rfl, rfl, rfl, by simp [World.setCell], fun i _ hi => set_other u hi⟩
theorem Chg.refl (F : Nat → Prop) (w : World) : Chg F w w := ⟨rfl, rfl, rfl, Nat.le_refl _, fun _ _ _ => rfl⟩
theorem Chg.then {F : Nat → Prop} {w w1 w2 : World} (h : Chg F w w1) (h2 : Chg F w1 w2) : Chg F w w2 := h.trans h2 (fun i hi => .inl hi)
set_option maxRecDepth 100000 in
set_option maxHeartbeats 1000000 in
theorem rDone_any (b : Nat) (s : St) (vL vR : Value) (w : World) (h : At w b s vL vR) (hst : s.steps ≤ 1000000000000) (ha : -1000000000000000000 ≤ s.armed ∧ s.armed ≤ 9223372036854775807) :
    Calls Tryz.prog 71 #[.pointer (some ⟨b, 0, none⟩)] w fun e w' => e = .returned (.int .i64 ((done s).1 : Nat)) ∧ At w' b (done s).2 vL vR ∧ Chg (· = b) w w' := by
  obtain ⟨c0, c1, c2, c3, c4, c5⟩ := h.cell
  have HW := h.warm
  have HA := Lib.hid h
  obtain ⟨L, rooms, steps, stamps, armed, down⟩ := s
  simp only at c2 c3 c4 c5 hst ha
  unfold done
  simp only
  by_cases h0 : armed = 0
  · subst h0
    rw [if_pos rfl]
    clear h
    go_enter Tryz.func71, Tryz.ntmps71
    go_wp2_with fail
    go_ret
    refine ⟨rfl, HA.out.poke ?_ (fun i hi => ?_) rfl rfl, ?_⟩
    · rw [set_block (set_block HA.out.blk _) _]; rfl
    · rw [set_other _ hi, set_other _ hi]
    · exact (chg_set _).then (chg_set _)
  · rw [if_neg h0]
    have e0 : ((armed : Int) == 0) = false := beq_eq_false_iff_ne.2 h0
    by_cases hp : 0 < armed
    · rw [if_pos hp]
      have ew : IntKind.i64.wrap (armed - 1) = armed - 1 := IntWalk.i64_in _ (by omega)
      have es : IntKind.i64.wrap ((steps : Int) + 1) = ((steps + 1 : Nat) : Int) := IntWalk.i64_in _ (by omega)
      clear h
      go_enter Tryz.func71, Tryz.ntmps71
      go_wp2_with fail
      go_ret
      refine ⟨rfl, HA.out.poke ?_ (fun i hi => ?_) rfl rfl, ?_⟩
      · rw [set_block (set_block HA.out.blk _) _]; rfl
      · rw [set_other _ hi, set_other _ hi]
      · exact (chg_set _).then (chg_set _)
    · rw [if_neg hp]
      have es : IntKind.i64.wrap ((steps : Int) + 1) = ((steps + 1 : Nat) : Int) := IntWalk.i64_in _ (by omega)
      clear h
      go_enter Tryz.func71, Tryz.ntmps71
      go_wp2_with fail
      go_ret
      refine ⟨rfl, HA.out.poke ?_ (fun i hi => ?_) rfl rfl, ?_⟩
      · rw [set_block HA.out.blk _]; rfl
      · rw [set_other _ hi]
      · exact chg_set _
theorem new_at (w : World) (o : Obj) {g : Nat} (h : g = w.heap.size) : (w.alloc o).heap[g]? = some o := by
  subst h
  exact heap_alloc_new _ _
theorem infoI7 : (Tryz.prog.info? 76).map (·.size) = some 7 := by kernel_rfl
def iv (x : It) : Value := .agg #[.string x.path, .bool x.dir, .string x.data, .string x.kept, .bool x.loose, .bool x.anew, .int .i64 x.stamp]
set_option maxRecDepth 100000 in
set_option maxHeartbeats 1000000 in
theorem rStamped_any (b : Nat) (s : St) (vL vR : Value) (x : It) (w : World) (h : At w b s vL vR) (hst : s.stamps ≤ 1000000000000) :
    Calls Tryz.prog 75 #[.pointer (some ⟨b, 0, none⟩), iv x] w fun e w' => e = .returned (iv (stamped s x)) ∧ At w' b { s with stamps := s.stamps + 1 } vL vR ∧ Chg (· = b) w w' := by
  obtain ⟨c0, c1, c2, c3, c4, c5⟩ := h.cell
  have HW := h.warm
  have hbl := h.lt b (.inl rfl)
  have HA := Lib.hid h
  obtain ⟨L, rooms, steps, stamps, armed, down⟩ := s
  obtain ⟨P, D, X, K, LO, AN, S⟩ := x
  simp only at c2 c3 c4 c5 hst
  have es : IntKind.i64.wrap ((stamps : Int) + 1) = ((stamps + 1 : Nat) : Int) := IntWalk.i64_in _ (by omega)
  unfold iv stamped
  simp only
  clear h
  go_enter Tryz.func75, Tryz.ntmps75
  go_wp2_with fail
  refine bodyPost_ret (results_cell_row rfl _ _ _ _ _ _ _ rfl (new_at _ _ (by simp [World.setCell])) Tryz.underlying76 rfl infoI7) rfl ?_
  refine ⟨by rw [show ((stamps : Int) + 1) = ((stamps + 1 : Nat) : Int) by omega], ?_, ?_⟩
  · have hp := HA.out.poke (s1 := { L := L, rooms := rooms, steps := steps, stamps := stamps + 1, armed := armed, down := down }) (set_block (k := 3) HA.out.blk (.int .i64 ((stamps : Int) + 1))) (fun i hi => set_other _ hi) rfl rfl
    have hp2 := hp.below ((Below.refl _ _).alloc (Nat.le_refl _) (.cells #[.string P, .bool D, .string X, .string K, .bool LO, .bool AN, .int .i64 ((stamps : Int) + 1)] 76))
    exact hp2.below ((Below.refl _ _).alloc (Nat.le_refl _) _)
  · have hc := (chg_set (w := w) (b := b) (k := 3) (.int .i64 ((stamps : Int) + 1))).then (Chg.of_below ((Below.refl _ _).alloc (Nat.le_refl _) (.cells #[.string P, .bool D, .string X, .string K, .bool LO, .bool AN, .int .i64 ((stamps : Int) + 1)] 76)))
    exact hc.then (Chg.of_below ((Below.refl _ _).alloc (Nat.le_refl _) _))
end Go.Proofs.YtdpnmdnfnplcfaaGreat.Dk

namespace Go.Proofs.YtdpnmdnfnplcfaaGreat.Dk
open Go.RowKit Tx Pm
set_option linter.unusedVariables false
set_option maxRecDepth 100000 in
set_option maxHeartbeats 2000000 in
theorem putReg3_1 (ops : Array Oper) (hops : ops = (Rg.opsOf Tryz.f72 3)) (id : Nat) (A : Option Addr) (b bx g n c k : Nat) (YP XP : ByteArray) {u1 u2 u4 u6 u7 u8 u9 u10 u11 u12 u13 u14 u15 u16 u17 u18 u19 u20 u21 u22 u23 u24 u25 u26 u27 u28 u29 u30 u31 u32 u33 u34 u35 u36 u37 u38 u39 u40 u41 u42 u43 u44 u45 u46 u47 u48 u49 u50 u51 u52 u53 u54 u55 u56 u57 u58 u59 u60 u61 u62 u63 u64 u65 u66 u67 u68 u69 u70 u71 u72 u73 u74 u75 u76 u77 u78 u79 u80 u81 u82 u83 u84 u85 u86 : Value} (w : World)
    (hq : (fun W => W.cell? ⟨b, 0, none⟩ = some (.slice A n c)) w)
    (hlt : ¬ k < n) (hnm : n ≤ 1000000000000) :
    (Code.region id ops true).wp Tryz.prog (Rg.Only fun a' w' => a' = ⟨#[(.pointer (some ⟨b, 0, none⟩)), u1, u2, (.pointer (some ⟨bx, 0, none⟩)), u4, (.int .i64 (k : Int)), (.int .i64 (k : Int)), (.pointer (some ⟨b, 0, none⟩)), (.pointer (some ⟨b, 0, none⟩)), (.pointer (some ⟨b, 0, none⟩)), (.slice A n c), (.int .i64 (n : Int)), (.bool false), (.bool false), undef, undef, undef, undef, undef, undef, undef, undef, undef, undef, undef, (Value.bool false), u26, u27, u28, u29, u30, u31, u32, u33, u34, u35, u36, u37, u38, u39, u40, u41, u42, u43, u44, u45, u46, u47, u48, u49, u50, u51, u52, u53, u54, u55, u56, u57, u58, u59, u60, u61, u62, u63, u64, u65, u66, u67, u68, u69, u70, u71, u72, u73, u74, u75, u76, u77, u78, u79, u80, u81, u82, u83, u84, u85, u86], []⟩ ∧ w' = w.drew) ⟨#[(.pointer (some ⟨b, 0, none⟩)), u1, u2, (.pointer (some ⟨bx, 0, none⟩)), u4, (.int .i64 (k : Int)), u6, u7, u8, u9, u10, u11, u12, u13, u14, u15, u16, u17, u18, u19, u20, u21, u22, u23, u24, u25, u26, u27, u28, u29, u30, u31, u32, u33, u34, u35, u36, u37, u38, u39, u40, u41, u42, u43, u44, u45, u46, u47, u48, u49, u50, u51, u52, u53, u54, u55, u56, u57, u58, u59, u60, u61, u62, u63, u64, u65, u66, u67, u68, u69, u70, u71, u72, u73, u74, u75, u76, u77, u78, u79, u80, u81, u82, u83, u84, u85, u86], []⟩ w := by
  subst hops
  have hNS : Region.noSelect (Rg.opsOf Tryz.f72 3) = true := by kernel_rfl
  refine wp_region_held_drew (S := fun W => W.cell? ⟨b, 0, none⟩ = some (.slice A n c)) (by kernel_rfl) hq (fun hHeld => ?_)
  rw [show (Rg.opsOf Tryz.f72 3).size = 20 by kernel_rfl]
  refine Rg.take (ops := (Rg.opsOf Tryz.f72 3)) 0 (some 6) ((.int .i64 (k : Int))) hNS (by kernel_rfl) (by kernel_rfl) (by kernel_rfl) (by kernel_rfl) (by kernel_rfl) hHeld (Rg.y_move (x := (Operand.tmp 5)) (Or.inl (by kernel_rfl)) (by kernel_rfl)) ?_
  refine Rg.take (ops := (Rg.opsOf Tryz.f72 3)) 1 (some 7) ((.pointer (some ⟨b, 0, none⟩))) hNS (by kernel_rfl) (by kernel_rfl) (by kernel_rfl) (by kernel_rfl) (by kernel_rfl) hHeld (Rg.y_move (x := (Operand.tmp 0)) (Or.inl (by kernel_rfl)) (by kernel_rfl)) ?_
  refine Rg.take (ops := (Rg.opsOf Tryz.f72 3)) 2 (some 8) ((.pointer (some ⟨b, 0, none⟩))) hNS (by kernel_rfl) (by kernel_rfl) (by kernel_rfl) (by kernel_rfl) (by kernel_rfl) hHeld (Rg.y_nil (x := (Operand.tmp 7)) (by kernel_rfl) (by kernel_rfl)) ?_
  refine Rg.take (ops := (Rg.opsOf Tryz.f72 3)) 3 (some 9) ((.pointer (some ⟨b, 0, none⟩))) hNS (by kernel_rfl) (by kernel_rfl) (by kernel_rfl) (by kernel_rfl) (by kernel_rfl) hHeld (Rg.y_field (T := 68) (k := 0) (x := (Operand.tmp 8)) (vx := (.pointer (some ⟨b, 0, none⟩))) (by kernel_rfl) (by kernel_rfl) ?_) ?_
  · (intro w hSw; go_simp)
  refine Rg.take (ops := (Rg.opsOf Tryz.f72 3)) 4 (some 10) ((.slice A n c)) hNS (by kernel_rfl) (by kernel_rfl) (by kernel_rfl) (by kernel_rfl) (by kernel_rfl) hHeld (Rg.y_load (T := 65) (x := (Operand.tmp 9)) (vx := (.pointer (some ⟨b, 0, none⟩))) (by kernel_rfl) (by kernel_rfl) ?_) ?_
  · (intro w hSw; go_simp)
  refine Rg.take (ops := (Rg.opsOf Tryz.f72 3)) 5 (some 11) ((.int .i64 (n : Int))) hNS (by kernel_rfl) (by kernel_rfl) (by kernel_rfl) (by kernel_rfl) (by kernel_rfl) hHeld (Rg.y_len (x := (Operand.tmp 10)) (ats := #[65]) (vx := (.slice A n c)) (n := n) (by kernel_rfl) (by kernel_rfl) ?_) ?_
  · (intro ty w hSw; go_simp)
  refine Rg.take (ops := (Rg.opsOf Tryz.f72 3)) 6 (some 12) ((.bool false)) hNS (by kernel_rfl) (by kernel_rfl) (by kernel_rfl) (by kernel_rfl) (by kernel_rfl) hHeld (Rg.y_bin (b := BinOp.lss) (T := 3) (R' := 3) (x := (Operand.tmp 6)) (y := (Operand.tmp 11)) (vx := (.int .i64 (k : Int))) (vy := (.int .i64 (n : Int))) (by kernel_rfl) (by kernel_rfl) (by kernel_rfl) ?_) ?_
  · (intro w hSw; go_simp <;> omega)
  refine Rg.take (ops := (Rg.opsOf Tryz.f72 3)) 7 (some 13) ((.bool false)) hNS (by kernel_rfl) (by kernel_rfl) (by kernel_rfl) (by kernel_rfl) (by kernel_rfl) hHeld (Rg.y_move (x := (Operand.tmp 12)) (Or.inl (by kernel_rfl)) (by kernel_rfl)) ?_
  refine Rg.skip (ops := (Rg.opsOf Tryz.f72 3)) 8 (some 14) hNS (by kernel_rfl) (by kernel_rfl) (by kernel_rfl) (by kernel_rfl) (by kernel_rfl) hHeld ?_
  refine Rg.skip (ops := (Rg.opsOf Tryz.f72 3)) 9 (some 15) hNS (by kernel_rfl) (by kernel_rfl) (by kernel_rfl) (by kernel_rfl) (by kernel_rfl) hHeld ?_
  refine Rg.skip (ops := (Rg.opsOf Tryz.f72 3)) 10 (some 16) hNS (by kernel_rfl) (by kernel_rfl) (by kernel_rfl) (by kernel_rfl) (by kernel_rfl) hHeld ?_
  refine Rg.skip (ops := (Rg.opsOf Tryz.f72 3)) 11 (some 17) hNS (by kernel_rfl) (by kernel_rfl) (by kernel_rfl) (by kernel_rfl) (by kernel_rfl) hHeld ?_
  refine Rg.skip (ops := (Rg.opsOf Tryz.f72 3)) 12 (some 18) hNS (by kernel_rfl) (by kernel_rfl) (by kernel_rfl) (by kernel_rfl) (by kernel_rfl) hHeld ?_
  refine Rg.skip (ops := (Rg.opsOf Tryz.f72 3)) 13 (some 19) hNS (by kernel_rfl) (by kernel_rfl) (by kernel_rfl) (by kernel_rfl) (by kernel_rfl) hHeld ?_
  refine Rg.skip (ops := (Rg.opsOf Tryz.f72 3)) 14 (some 20) hNS (by kernel_rfl) (by kernel_rfl) (by kernel_rfl) (by kernel_rfl) (by kernel_rfl) hHeld ?_
  refine Rg.skip (ops := (Rg.opsOf Tryz.f72 3)) 15 (some 21) hNS (by kernel_rfl) (by kernel_rfl) (by kernel_rfl) (by kernel_rfl) (by kernel_rfl) hHeld ?_
  refine Rg.skip (ops := (Rg.opsOf Tryz.f72 3)) 16 (some 22) hNS (by kernel_rfl) (by kernel_rfl) (by kernel_rfl) (by kernel_rfl) (by kernel_rfl) hHeld ?_
  refine Rg.skip (ops := (Rg.opsOf Tryz.f72 3)) 17 (some 23) hNS (by kernel_rfl) (by kernel_rfl) (by kernel_rfl) (by kernel_rfl) (by kernel_rfl) hHeld ?_
  refine Rg.skip (ops := (Rg.opsOf Tryz.f72 3)) 18 (some 24) hNS (by kernel_rfl) (by kernel_rfl) (by kernel_rfl) (by kernel_rfl) (by kernel_rfl) hHeld ?_
  refine Rg.take (ops := (Rg.opsOf Tryz.f72 3)) 19 (some 25) ((Value.bool false)) hNS (by kernel_rfl) (by kernel_rfl) (by kernel_rfl) (by kernel_rfl) (by kernel_rfl) hHeld (Rg.y_pick (c := (Operand.tmp 13)) (x := (Operand.tmp 24)) (y := (Operand.const (Value.bool false))) (b := false) (by kernel_rfl) (by kernel_rfl) (by kernel_rfl)) ?_
  refine Rg.done (ops := (Rg.opsOf Tryz.f72 3)) (by kernel_rfl) ?_
  exact ⟨by kernel_rfl, rfl⟩
set_option maxRecDepth 100000 in
set_option maxHeartbeats 2000000 in
theorem putReg3_2 (ops : Array Oper) (hops : ops = (Rg.opsOf Tryz.f72 3)) (id : Nat) (A : Option Addr) (b bx g n c k : Nat) (YP XP : ByteArray) {u1 u2 u4 u6 u7 u8 u9 u10 u11 u12 u13 u14 u15 u16 u17 u18 u19 u20 u21 u22 u23 u24 u25 u26 u27 u28 u29 u30 u31 u32 u33 u34 u35 u36 u37 u38 u39 u40 u41 u42 u43 u44 u45 u46 u47 u48 u49 u50 u51 u52 u53 u54 u55 u56 u57 u58 u59 u60 u61 u62 u63 u64 u65 u66 u67 u68 u69 u70 u71 u72 u73 u74 u75 u76 u77 u78 u79 u80 u81 u82 u83 u84 u85 u86 : Value} (w : World)
    (hq : (fun W => W.cell? ⟨b, 0, none⟩ = some (.slice (some ⟨g, 0, none⟩) n c) ∧ W.cell? ⟨g, k * 7, none⟩ = some (.string YP) ∧ W.cell? ⟨bx, 0, none⟩ = some (.string XP)) w)
    (hlt : k < n) (hnm : n ≤ 1000000000000)
    (htest : Op.bytesLess YP.toList XP.toList = true) :
    (Code.region id ops true).wp Tryz.prog (Rg.Only fun a' w' => a' = ⟨#[(.pointer (some ⟨b, 0, none⟩)), u1, u2, (.pointer (some ⟨bx, 0, none⟩)), u4, (.int .i64 (k : Int)), (.int .i64 (k : Int)), (.pointer (some ⟨b, 0, none⟩)), (.pointer (some ⟨b, 0, none⟩)), (.pointer (some ⟨b, 0, none⟩)), (.slice (some ⟨g, 0, none⟩) n c), (.int .i64 (n : Int)), (.bool true), (.bool true), (.pointer (some ⟨b, 0, none⟩)), (.pointer (some ⟨b, 0, none⟩)), (.pointer (some ⟨b, 0, none⟩)), (.slice (some ⟨g, 0, none⟩) n c), (.int .i64 (k : Int)), (.pointer (some ⟨g, k * 7, none⟩)), (.pointer (some ⟨g, k * 7, none⟩)), (.string YP), (.pointer (some ⟨bx, 0, none⟩)), (.string XP), (.bool true), (.bool true), u26, u27, u28, u29, u30, u31, u32, u33, u34, u35, u36, u37, u38, u39, u40, u41, u42, u43, u44, u45, u46, u47, u48, u49, u50, u51, u52, u53, u54, u55, u56, u57, u58, u59, u60, u61, u62, u63, u64, u65, u66, u67, u68, u69, u70, u71, u72, u73, u74, u75, u76, u77, u78, u79, u80, u81, u82, u83, u84, u85, u86], []⟩ ∧ w' = w.drew) ⟨#[(.pointer (some ⟨b, 0, none⟩)), u1, u2, (.pointer (some ⟨bx, 0, none⟩)), u4, (.int .i64 (k : Int)), u6, u7, u8, u9, u10, u11, u12, u13, u14, u15, u16, u17, u18, u19, u20, u21, u22, u23, u24, u25, u26, u27, u28, u29, u30, u31, u32, u33, u34, u35, u36, u37, u38, u39, u40, u41, u42, u43, u44, u45, u46, u47, u48, u49, u50, u51, u52, u53, u54, u55, u56, u57, u58, u59, u60, u61, u62, u63, u64, u65, u66, u67, u68, u69, u70, u71, u72, u73, u74, u75, u76, u77, u78, u79, u80, u81, u82, u83, u84, u85, u86], []⟩ w := by
  subst hops
  have hNS : Region.noSelect (Rg.opsOf Tryz.f72 3) = true := by kernel_rfl
  refine wp_region_held_drew (S := fun W => W.cell? ⟨b, 0, none⟩ = some (.slice (some ⟨g, 0, none⟩) n c) ∧ W.cell? ⟨g, k * 7, none⟩ = some (.string YP) ∧ W.cell? ⟨bx, 0, none⟩ = some (.string XP)) (by kernel_rfl) hq (fun hHeld => ?_)
  rw [show (Rg.opsOf Tryz.f72 3).size = 20 by kernel_rfl]
  refine Rg.take (ops := (Rg.opsOf Tryz.f72 3)) 0 (some 6) ((.int .i64 (k : Int))) hNS (by kernel_rfl) (by kernel_rfl) (by kernel_rfl) (by kernel_rfl) (by kernel_rfl) hHeld (Rg.y_move (x := (Operand.tmp 5)) (Or.inl (by kernel_rfl)) (by kernel_rfl)) ?_
  refine Rg.take (ops := (Rg.opsOf Tryz.f72 3)) 1 (some 7) ((.pointer (some ⟨b, 0, none⟩))) hNS (by kernel_rfl) (by kernel_rfl) (by kernel_rfl) (by kernel_rfl) (by kernel_rfl) hHeld (Rg.y_move (x := (Operand.tmp 0)) (Or.inl (by kernel_rfl)) (by kernel_rfl)) ?_
  refine Rg.take (ops := (Rg.opsOf Tryz.f72 3)) 2 (some 8) ((.pointer (some ⟨b, 0, none⟩))) hNS (by kernel_rfl) (by kernel_rfl) (by kernel_rfl) (by kernel_rfl) (by kernel_rfl) hHeld (Rg.y_nil (x := (Operand.tmp 7)) (by kernel_rfl) (by kernel_rfl)) ?_
  refine Rg.take (ops := (Rg.opsOf Tryz.f72 3)) 3 (some 9) ((.pointer (some ⟨b, 0, none⟩))) hNS (by kernel_rfl) (by kernel_rfl) (by kernel_rfl) (by kernel_rfl) (by kernel_rfl) hHeld (Rg.y_field (T := 68) (k := 0) (x := (Operand.tmp 8)) (vx := (.pointer (some ⟨b, 0, none⟩))) (by kernel_rfl) (by kernel_rfl) ?_) ?_
  · (intro w hSw; obtain ⟨hS1, hS2, hS3⟩ := hSw; go_simp)
  refine Rg.take (ops := (Rg.opsOf Tryz.f72 3)) 4 (some 10) ((.slice (some ⟨g, 0, none⟩) n c)) hNS (by kernel_rfl) (by kernel_rfl) (by kernel_rfl) (by kernel_rfl) (by kernel_rfl) hHeld (Rg.y_load (T := 65) (x := (Operand.tmp 9)) (vx := (.pointer (some ⟨b, 0, none⟩))) (by kernel_rfl) (by kernel_rfl) ?_) ?_
  · (intro w hSw; obtain ⟨hS1, hS2, hS3⟩ := hSw; go_simp)
  refine Rg.take (ops := (Rg.opsOf Tryz.f72 3)) 5 (some 11) ((.int .i64 (n : Int))) hNS (by kernel_rfl) (by kernel_rfl) (by kernel_rfl) (by kernel_rfl) (by kernel_rfl) hHeld (Rg.y_len (x := (Operand.tmp 10)) (ats := #[65]) (vx := (.slice (some ⟨g, 0, none⟩) n c)) (n := n) (by kernel_rfl) (by kernel_rfl) ?_) ?_
  · (intro ty w hSw; go_simp)
  refine Rg.take (ops := (Rg.opsOf Tryz.f72 3)) 6 (some 12) ((.bool true)) hNS (by kernel_rfl) (by kernel_rfl) (by kernel_rfl) (by kernel_rfl) (by kernel_rfl) hHeld (Rg.y_bin (b := BinOp.lss) (T := 3) (R' := 3) (x := (Operand.tmp 6)) (y := (Operand.tmp 11)) (vx := (.int .i64 (k : Int))) (vy := (.int .i64 (n : Int))) (by kernel_rfl) (by kernel_rfl) (by kernel_rfl) ?_) ?_
  · (intro w hSw; go_simp <;> omega)
  refine Rg.take (ops := (Rg.opsOf Tryz.f72 3)) 7 (some 13) ((.bool true)) hNS (by kernel_rfl) (by kernel_rfl) (by kernel_rfl) (by kernel_rfl) (by kernel_rfl) hHeld (Rg.y_move (x := (Operand.tmp 12)) (Or.inl (by kernel_rfl)) (by kernel_rfl)) ?_
  refine Rg.take (ops := (Rg.opsOf Tryz.f72 3)) 8 (some 14) ((.pointer (some ⟨b, 0, none⟩))) hNS (by kernel_rfl) (by kernel_rfl) (by kernel_rfl) (by kernel_rfl) (by kernel_rfl) hHeld (Rg.y_move (x := (Operand.tmp 0)) (Or.inl (by kernel_rfl)) (by kernel_rfl)) ?_
  refine Rg.take (ops := (Rg.opsOf Tryz.f72 3)) 9 (some 15) ((.pointer (some ⟨b, 0, none⟩))) hNS (by kernel_rfl) (by kernel_rfl) (by kernel_rfl) (by kernel_rfl) (by kernel_rfl) hHeld (Rg.y_nil (x := (Operand.tmp 14)) (by kernel_rfl) (by kernel_rfl)) ?_
  refine Rg.take (ops := (Rg.opsOf Tryz.f72 3)) 10 (some 16) ((.pointer (some ⟨b, 0, none⟩))) hNS (by kernel_rfl) (by kernel_rfl) (by kernel_rfl) (by kernel_rfl) (by kernel_rfl) hHeld (Rg.y_field (T := 68) (k := 0) (x := (Operand.tmp 15)) (vx := (.pointer (some ⟨b, 0, none⟩))) (by kernel_rfl) (by kernel_rfl) ?_) ?_
  · (intro w hSw; obtain ⟨hS1, hS2, hS3⟩ := hSw; go_simp)
  refine Rg.take (ops := (Rg.opsOf Tryz.f72 3)) 11 (some 17) ((.slice (some ⟨g, 0, none⟩) n c)) hNS (by kernel_rfl) (by kernel_rfl) (by kernel_rfl) (by kernel_rfl) (by kernel_rfl) hHeld (Rg.y_load (T := 65) (x := (Operand.tmp 16)) (vx := (.pointer (some ⟨b, 0, none⟩))) (by kernel_rfl) (by kernel_rfl) ?_) ?_
  · (intro w hSw; obtain ⟨hS1, hS2, hS3⟩ := hSw; go_simp)
  refine Rg.take (ops := (Rg.opsOf Tryz.f72 3)) 12 (some 18) ((.int .i64 (k : Int))) hNS (by kernel_rfl) (by kernel_rfl) (by kernel_rfl) (by kernel_rfl) (by kernel_rfl) hHeld (Rg.y_move (x := (Operand.tmp 5)) (Or.inl (by kernel_rfl)) (by kernel_rfl)) ?_
  refine Rg.take (ops := (Rg.opsOf Tryz.f72 3)) 13 (some 19) ((.pointer (some ⟨g, k * 7, none⟩))) hNS (by kernel_rfl) (by kernel_rfl) (by kernel_rfl) (by kernel_rfl) (by kernel_rfl) hHeld (Rg.y_at (T := 65) (x := (Operand.tmp 17)) (y := (Operand.tmp 18)) (vx := (.slice (some ⟨g, 0, none⟩) n c)) (vy := (.int .i64 (k : Int))) (by kernel_rfl) (by kernel_rfl) (by kernel_rfl) ?_) ?_
  · (intro w hSw; go_simp <;> (intros; exfalso; omega))
  refine Rg.take (ops := (Rg.opsOf Tryz.f72 3)) 14 (some 20) ((.pointer (some ⟨g, k * 7, none⟩))) hNS (by kernel_rfl) (by kernel_rfl) (by kernel_rfl) (by kernel_rfl) (by kernel_rfl) hHeld (Rg.y_field (T := 76) (k := 0) (x := (Operand.tmp 19)) (vx := (.pointer (some ⟨g, k * 7, none⟩))) (by kernel_rfl) (by kernel_rfl) ?_) ?_
  · (intro w hSw; obtain ⟨hS1, hS2, hS3⟩ := hSw; go_simp)
  refine Rg.take (ops := (Rg.opsOf Tryz.f72 3)) 15 (some 21) ((.string YP)) hNS (by kernel_rfl) (by kernel_rfl) (by kernel_rfl) (by kernel_rfl) (by kernel_rfl) hHeld (Rg.y_load (T := 9) (x := (Operand.tmp 20)) (vx := (.pointer (some ⟨g, k * 7, none⟩))) (by kernel_rfl) (by kernel_rfl) ?_) ?_
  · (intro w hSw; obtain ⟨hS1, hS2, hS3⟩ := hSw; go_simp)
  refine Rg.take (ops := (Rg.opsOf Tryz.f72 3)) 16 (some 22) ((.pointer (some ⟨bx, 0, none⟩))) hNS (by kernel_rfl) (by kernel_rfl) (by kernel_rfl) (by kernel_rfl) (by kernel_rfl) hHeld (Rg.y_field (T := 76) (k := 0) (x := (Operand.tmp 3)) (vx := (.pointer (some ⟨bx, 0, none⟩))) (by kernel_rfl) (by kernel_rfl) ?_) ?_
  · (intro w hSw; obtain ⟨hS1, hS2, hS3⟩ := hSw; go_simp)
  refine Rg.take (ops := (Rg.opsOf Tryz.f72 3)) 17 (some 23) ((.string XP)) hNS (by kernel_rfl) (by kernel_rfl) (by kernel_rfl) (by kernel_rfl) (by kernel_rfl) hHeld (Rg.y_load (T := 9) (x := (Operand.tmp 22)) (vx := (.pointer (some ⟨bx, 0, none⟩))) (by kernel_rfl) (by kernel_rfl) ?_) ?_
  · (intro w hSw; obtain ⟨hS1, hS2, hS3⟩ := hSw; go_simp)
  refine Rg.take (ops := (Rg.opsOf Tryz.f72 3)) 18 (some 24) ((.bool true)) hNS (by kernel_rfl) (by kernel_rfl) (by kernel_rfl) (by kernel_rfl) (by kernel_rfl) hHeld (Rg.y_bin (b := BinOp.lss) (T := 9) (R' := 9) (x := (Operand.tmp 21)) (y := (Operand.tmp 23)) (vx := (.string YP)) (vy := (.string XP)) (by kernel_rfl) (by kernel_rfl) (by kernel_rfl) ?_) ?_
  · (intro w hSw; obtain ⟨hS1, hS2, hS3⟩ := hSw; go_simp)
  refine Rg.take (ops := (Rg.opsOf Tryz.f72 3)) 19 (some 25) ((.bool true)) hNS (by kernel_rfl) (by kernel_rfl) (by kernel_rfl) (by kernel_rfl) (by kernel_rfl) hHeld (Rg.y_pick (c := (Operand.tmp 13)) (x := (Operand.tmp 24)) (y := (Operand.const (Value.bool false))) (b := true) (by kernel_rfl) (by kernel_rfl) (by kernel_rfl)) ?_
  refine Rg.done (ops := (Rg.opsOf Tryz.f72 3)) (by kernel_rfl) ?_
  exact ⟨by kernel_rfl, rfl⟩
set_option maxRecDepth 100000 in
set_option maxHeartbeats 2000000 in
theorem putReg3_3 (ops : Array Oper) (hops : ops = (Rg.opsOf Tryz.f72 3)) (id : Nat) (A : Option Addr) (b bx g n c k : Nat) (YP XP : ByteArray) {u1 u2 u4 u6 u7 u8 u9 u10 u11 u12 u13 u14 u15 u16 u17 u18 u19 u20 u21 u22 u23 u24 u25 u26 u27 u28 u29 u30 u31 u32 u33 u34 u35 u36 u37 u38 u39 u40 u41 u42 u43 u44 u45 u46 u47 u48 u49 u50 u51 u52 u53 u54 u55 u56 u57 u58 u59 u60 u61 u62 u63 u64 u65 u66 u67 u68 u69 u70 u71 u72 u73 u74 u75 u76 u77 u78 u79 u80 u81 u82 u83 u84 u85 u86 : Value} (w : World)
    (hq : (fun W => W.cell? ⟨b, 0, none⟩ = some (.slice (some ⟨g, 0, none⟩) n c) ∧ W.cell? ⟨g, k * 7, none⟩ = some (.string YP) ∧ W.cell? ⟨bx, 0, none⟩ = some (.string XP)) w)
    (hlt : k < n) (hnm : n ≤ 1000000000000)
    (htest : Op.bytesLess YP.toList XP.toList = false) :
    (Code.region id ops true).wp Tryz.prog (Rg.Only fun a' w' => a' = ⟨#[(.pointer (some ⟨b, 0, none⟩)), u1, u2, (.pointer (some ⟨bx, 0, none⟩)), u4, (.int .i64 (k : Int)), (.int .i64 (k : Int)), (.pointer (some ⟨b, 0, none⟩)), (.pointer (some ⟨b, 0, none⟩)), (.pointer (some ⟨b, 0, none⟩)), (.slice (some ⟨g, 0, none⟩) n c), (.int .i64 (n : Int)), (.bool true), (.bool true), (.pointer (some ⟨b, 0, none⟩)), (.pointer (some ⟨b, 0, none⟩)), (.pointer (some ⟨b, 0, none⟩)), (.slice (some ⟨g, 0, none⟩) n c), (.int .i64 (k : Int)), (.pointer (some ⟨g, k * 7, none⟩)), (.pointer (some ⟨g, k * 7, none⟩)), (.string YP), (.pointer (some ⟨bx, 0, none⟩)), (.string XP), (.bool false), (.bool false), u26, u27, u28, u29, u30, u31, u32, u33, u34, u35, u36, u37, u38, u39, u40, u41, u42, u43, u44, u45, u46, u47, u48, u49, u50, u51, u52, u53, u54, u55, u56, u57, u58, u59, u60, u61, u62, u63, u64, u65, u66, u67, u68, u69, u70, u71, u72, u73, u74, u75, u76, u77, u78, u79, u80, u81, u82, u83, u84, u85, u86], []⟩ ∧ w' = w.drew) ⟨#[(.pointer (some ⟨b, 0, none⟩)), u1, u2, (.pointer (some ⟨bx, 0, none⟩)), u4, (.int .i64 (k : Int)), u6, u7, u8, u9, u10, u11, u12, u13, u14, u15, u16, u17, u18, u19, u20, u21, u22, u23, u24, u25, u26, u27, u28, u29, u30, u31, u32, u33, u34, u35, u36, u37, u38, u39, u40, u41, u42, u43, u44, u45, u46, u47, u48, u49, u50, u51, u52, u53, u54, u55, u56, u57, u58, u59, u60, u61, u62, u63, u64, u65, u66, u67, u68, u69, u70, u71, u72, u73, u74, u75, u76, u77, u78, u79, u80, u81, u82, u83, u84, u85, u86], []⟩ w := by
  subst hops
  have hNS : Region.noSelect (Rg.opsOf Tryz.f72 3) = true := by kernel_rfl
  refine wp_region_held_drew (S := fun W => W.cell? ⟨b, 0, none⟩ = some (.slice (some ⟨g, 0, none⟩) n c) ∧ W.cell? ⟨g, k * 7, none⟩ = some (.string YP) ∧ W.cell? ⟨bx, 0, none⟩ = some (.string XP)) (by kernel_rfl) hq (fun hHeld => ?_)
  rw [show (Rg.opsOf Tryz.f72 3).size = 20 by kernel_rfl]
  refine Rg.take (ops := (Rg.opsOf Tryz.f72 3)) 0 (some 6) ((.int .i64 (k : Int))) hNS (by kernel_rfl) (by kernel_rfl) (by kernel_rfl) (by kernel_rfl) (by kernel_rfl) hHeld (Rg.y_move (x := (Operand.tmp 5)) (Or.inl (by kernel_rfl)) (by kernel_rfl)) ?_
  refine Rg.take (ops := (Rg.opsOf Tryz.f72 3)) 1 (some 7) ((.pointer (some ⟨b, 0, none⟩))) hNS (by kernel_rfl) (by kernel_rfl) (by kernel_rfl) (by kernel_rfl) (by kernel_rfl) hHeld (Rg.y_move (x := (Operand.tmp 0)) (Or.inl (by kernel_rfl)) (by kernel_rfl)) ?_
  refine Rg.take (ops := (Rg.opsOf Tryz.f72 3)) 2 (some 8) ((.pointer (some ⟨b, 0, none⟩))) hNS (by kernel_rfl) (by kernel_rfl) (by kernel_rfl) (by kernel_rfl) (by kernel_rfl) hHeld (Rg.y_nil (x := (Operand.tmp 7)) (by kernel_rfl) (by kernel_rfl)) ?_
  refine Rg.take (ops := (Rg.opsOf Tryz.f72 3)) 3 (some 9) ((.pointer (some ⟨b, 0, none⟩))) hNS (by kernel_rfl) (by kernel_rfl) (by kernel_rfl) (by kernel_rfl) (by kernel_rfl) hHeld (Rg.y_field (T := 68) (k := 0) (x := (Operand.tmp 8)) (vx := (.pointer (some ⟨b, 0, none⟩))) (by kernel_rfl) (by kernel_rfl) ?_) ?_
  · (intro w hSw; obtain ⟨hS1, hS2, hS3⟩ := hSw; go_simp)
  refine Rg.take (ops := (Rg.opsOf Tryz.f72 3)) 4 (some 10) ((.slice (some ⟨g, 0, none⟩) n c)) hNS (by kernel_rfl) (by kernel_rfl) (by kernel_rfl) (by kernel_rfl) (by kernel_rfl) hHeld (Rg.y_load (T := 65) (x := (Operand.tmp 9)) (vx := (.pointer (some ⟨b, 0, none⟩))) (by kernel_rfl) (by kernel_rfl) ?_) ?_
  · (intro w hSw; obtain ⟨hS1, hS2, hS3⟩ := hSw; go_simp)
  refine Rg.take (ops := (Rg.opsOf Tryz.f72 3)) 5 (some 11) ((.int .i64 (n : Int))) hNS (by kernel_rfl) (by kernel_rfl) (by kernel_rfl) (by kernel_rfl) (by kernel_rfl) hHeld (Rg.y_len (x := (Operand.tmp 10)) (ats := #[65]) (vx := (.slice (some ⟨g, 0, none⟩) n c)) (n := n) (by kernel_rfl) (by kernel_rfl) ?_) ?_
  · (intro ty w hSw; go_simp)
  refine Rg.take (ops := (Rg.opsOf Tryz.f72 3)) 6 (some 12) ((.bool true)) hNS (by kernel_rfl) (by kernel_rfl) (by kernel_rfl) (by kernel_rfl) (by kernel_rfl) hHeld (Rg.y_bin (b := BinOp.lss) (T := 3) (R' := 3) (x := (Operand.tmp 6)) (y := (Operand.tmp 11)) (vx := (.int .i64 (k : Int))) (vy := (.int .i64 (n : Int))) (by kernel_rfl) (by kernel_rfl) (by kernel_rfl) ?_) ?_
  · (intro w hSw; go_simp <;> omega)
  refine Rg.take (ops := (Rg.opsOf Tryz.f72 3)) 7 (some 13) ((.bool true)) hNS (by kernel_rfl) (by kernel_rfl) (by kernel_rfl) (by kernel_rfl) (by kernel_rfl) hHeld (Rg.y_move (x := (Operand.tmp 12)) (Or.inl (by kernel_rfl)) (by kernel_rfl)) ?_
  refine Rg.take (ops := (Rg.opsOf Tryz.f72 3)) 8 (some 14) ((.pointer (some ⟨b, 0, none⟩))) hNS (by kernel_rfl) (by kernel_rfl) (by kernel_rfl) (by kernel_rfl) (by kernel_rfl) hHeld (Rg.y_move (x := (Operand.tmp 0)) (Or.inl (by kernel_rfl)) (by kernel_rfl)) ?_
  refine Rg.take (ops := (Rg.opsOf Tryz.f72 3)) 9 (some 15) ((.pointer (some ⟨b, 0, none⟩))) hNS (by kernel_rfl) (by kernel_rfl) (by kernel_rfl) (by kernel_rfl) (by kernel_rfl) hHeld (Rg.y_nil (x := (Operand.tmp 14)) (by kernel_rfl) (by kernel_rfl)) ?_
  refine Rg.take (ops := (Rg.opsOf Tryz.f72 3)) 10 (some 16) ((.pointer (some ⟨b, 0, none⟩))) hNS (by kernel_rfl) (by kernel_rfl) (by kernel_rfl) (by kernel_rfl) (by kernel_rfl) hHeld (Rg.y_field (T := 68) (k := 0) (x := (Operand.tmp 15)) (vx := (.pointer (some ⟨b, 0, none⟩))) (by kernel_rfl) (by kernel_rfl) ?_) ?_
  · (intro w hSw; obtain ⟨hS1, hS2, hS3⟩ := hSw; go_simp)
  refine Rg.take (ops := (Rg.opsOf Tryz.f72 3)) 11 (some 17) ((.slice (some ⟨g, 0, none⟩) n c)) hNS (by kernel_rfl) (by kernel_rfl) (by kernel_rfl) (by kernel_rfl) (by kernel_rfl) hHeld (Rg.y_load (T := 65) (x := (Operand.tmp 16)) (vx := (.pointer (some ⟨b, 0, none⟩))) (by kernel_rfl) (by kernel_rfl) ?_) ?_
  · (intro w hSw; obtain ⟨hS1, hS2, hS3⟩ := hSw; go_simp)
  refine Rg.take (ops := (Rg.opsOf Tryz.f72 3)) 12 (some 18) ((.int .i64 (k : Int))) hNS (by kernel_rfl) (by kernel_rfl) (by kernel_rfl) (by kernel_rfl) (by kernel_rfl) hHeld (Rg.y_move (x := (Operand.tmp 5)) (Or.inl (by kernel_rfl)) (by kernel_rfl)) ?_
  refine Rg.take (ops := (Rg.opsOf Tryz.f72 3)) 13 (some 19) ((.pointer (some ⟨g, k * 7, none⟩))) hNS (by kernel_rfl) (by kernel_rfl) (by kernel_rfl) (by kernel_rfl) (by kernel_rfl) hHeld (Rg.y_at (T := 65) (x := (Operand.tmp 17)) (y := (Operand.tmp 18)) (vx := (.slice (some ⟨g, 0, none⟩) n c)) (vy := (.int .i64 (k : Int))) (by kernel_rfl) (by kernel_rfl) (by kernel_rfl) ?_) ?_
  · (intro w hSw; go_simp <;> (intros; exfalso; omega))
  refine Rg.take (ops := (Rg.opsOf Tryz.f72 3)) 14 (some 20) ((.pointer (some ⟨g, k * 7, none⟩))) hNS (by kernel_rfl) (by kernel_rfl) (by kernel_rfl) (by kernel_rfl) (by kernel_rfl) hHeld (Rg.y_field (T := 76) (k := 0) (x := (Operand.tmp 19)) (vx := (.pointer (some ⟨g, k * 7, none⟩))) (by kernel_rfl) (by kernel_rfl) ?_) ?_
  · (intro w hSw; obtain ⟨hS1, hS2, hS3⟩ := hSw; go_simp)
  refine Rg.take (ops := (Rg.opsOf Tryz.f72 3)) 15 (some 21) ((.string YP)) hNS (by kernel_rfl) (by kernel_rfl) (by kernel_rfl) (by kernel_rfl) (by kernel_rfl) hHeld (Rg.y_load (T := 9) (x := (Operand.tmp 20)) (vx := (.pointer (some ⟨g, k * 7, none⟩))) (by kernel_rfl) (by kernel_rfl) ?_) ?_
  · (intro w hSw; obtain ⟨hS1, hS2, hS3⟩ := hSw; go_simp)
  refine Rg.take (ops := (Rg.opsOf Tryz.f72 3)) 16 (some 22) ((.pointer (some ⟨bx, 0, none⟩))) hNS (by kernel_rfl) (by kernel_rfl) (by kernel_rfl) (by kernel_rfl) (by kernel_rfl) hHeld (Rg.y_field (T := 76) (k := 0) (x := (Operand.tmp 3)) (vx := (.pointer (some ⟨bx, 0, none⟩))) (by kernel_rfl) (by kernel_rfl) ?_) ?_
  · (intro w hSw; obtain ⟨hS1, hS2, hS3⟩ := hSw; go_simp)
  refine Rg.take (ops := (Rg.opsOf Tryz.f72 3)) 17 (some 23) ((.string XP)) hNS (by kernel_rfl) (by kernel_rfl) (by kernel_rfl) (by kernel_rfl) (by kernel_rfl) hHeld (Rg.y_load (T := 9) (x := (Operand.tmp 22)) (vx := (.pointer (some ⟨bx, 0, none⟩))) (by kernel_rfl) (by kernel_rfl) ?_) ?_
  · (intro w hSw; obtain ⟨hS1, hS2, hS3⟩ := hSw; go_simp)
  refine Rg.take (ops := (Rg.opsOf Tryz.f72 3)) 18 (some 24) ((.bool false)) hNS (by kernel_rfl) (by kernel_rfl) (by kernel_rfl) (by kernel_rfl) (by kernel_rfl) hHeld (Rg.y_bin (b := BinOp.lss) (T := 9) (R' := 9) (x := (Operand.tmp 21)) (y := (Operand.tmp 23)) (vx := (.string YP)) (vy := (.string XP)) (by kernel_rfl) (by kernel_rfl) (by kernel_rfl) ?_) ?_
  · (intro w hSw; obtain ⟨hS1, hS2, hS3⟩ := hSw; go_simp)
  refine Rg.take (ops := (Rg.opsOf Tryz.f72 3)) 19 (some 25) ((.bool false)) hNS (by kernel_rfl) (by kernel_rfl) (by kernel_rfl) (by kernel_rfl) (by kernel_rfl) hHeld (Rg.y_pick (c := (Operand.tmp 13)) (x := (Operand.tmp 24)) (y := (Operand.const (Value.bool false))) (b := true) (by kernel_rfl) (by kernel_rfl) (by kernel_rfl)) ?_
  refine Rg.done (ops := (Rg.opsOf Tryz.f72 3)) (by kernel_rfl) ?_
  exact ⟨by kernel_rfl, rfl⟩
set_option maxRecDepth 100000 in
set_option maxHeartbeats 2000000 in
theorem putReg6_1 (ops : Array Oper) (hops : ops = (Rg.opsOf Tryz.f72 6)) (id : Nat) (A : Option Addr) (b bx g n c k : Nat) (YP XP : ByteArray) {u1 u2 u4 u6 u7 u8 u9 u10 u11 u12 u13 u14 u15 u16 u17 u18 u19 u20 u21 u22 u23 u24 u25 u26 u27 u28 u29 u30 u31 u32 u33 u34 u35 u36 u37 u38 u39 u40 u41 u42 u43 u44 u45 u46 u47 u48 u49 u50 u51 u52 u53 u54 u55 u56 u57 u58 u59 u60 u61 u62 u63 u64 u65 u66 u67 u68 u69 u70 u71 u72 u73 u74 u75 u76 u77 u78 u79 u80 u81 u82 u83 u84 u85 u86 : Value} (w : World)
    (hq : (fun W => W.cell? ⟨b, 0, none⟩ = some (.slice A n c)) w)
    (hlt : ¬ k < n) (hnm : n ≤ 1000000000000) :
    (Code.region id ops true).wp Tryz.prog (Rg.Only fun a' w' => a' = ⟨#[(.pointer (some ⟨b, 0, none⟩)), u1, u2, (.pointer (some ⟨bx, 0, none⟩)), u4, (.int .i64 (k : Int)), u6, u7, u8, u9, u10, u11, u12, u13, u14, u15, u16, u17, u18, u19, u20, u21, u22, u23, u24, u25, u26, u27, u28, u29, u30, u31, u32, u33, u34, u35, u36, u37, (.int .i64 (k : Int)), (.pointer (some ⟨b, 0, none⟩)), (.pointer (some ⟨b, 0, none⟩)), (.pointer (some ⟨b, 0, none⟩)), (.slice A n c), (.int .i64 (n : Int)), (.bool false), (.bool false), undef, undef, undef, undef, undef, undef, undef, undef, undef, undef, undef, (Value.bool false), u58, u59, u60, u61, u62, u63, u64, u65, u66, u67, u68, u69, u70, u71, u72, u73, u74, u75, u76, u77, u78, u79, u80, u81, u82, u83, u84, u85, u86], []⟩ ∧ w' = w.drew) ⟨#[(.pointer (some ⟨b, 0, none⟩)), u1, u2, (.pointer (some ⟨bx, 0, none⟩)), u4, (.int .i64 (k : Int)), u6, u7, u8, u9, u10, u11, u12, u13, u14, u15, u16, u17, u18, u19, u20, u21, u22, u23, u24, u25, u26, u27, u28, u29, u30, u31, u32, u33, u34, u35, u36, u37, u38, u39, u40, u41, u42, u43, u44, u45, u46, u47, u48, u49, u50, u51, u52, u53, u54, u55, u56, u57, u58, u59, u60, u61, u62, u63, u64, u65, u66, u67, u68, u69, u70, u71, u72, u73, u74, u75, u76, u77, u78, u79, u80, u81, u82, u83, u84, u85, u86], []⟩ w := by
  subst hops
  have hNS : Region.noSelect (Rg.opsOf Tryz.f72 6) = true := by kernel_rfl
  refine wp_region_held_drew (S := fun W => W.cell? ⟨b, 0, none⟩ = some (.slice A n c)) (by kernel_rfl) hq (fun hHeld => ?_)
  rw [show (Rg.opsOf Tryz.f72 6).size = 20 by kernel_rfl]
  refine Rg.take (ops := (Rg.opsOf Tryz.f72 6)) 0 (some 38) ((.int .i64 (k : Int))) hNS (by kernel_rfl) (by kernel_rfl) (by kernel_rfl) (by kernel_rfl) (by kernel_rfl) hHeld (Rg.y_move (x := (Operand.tmp 5)) (Or.inl (by kernel_rfl)) (by kernel_rfl)) ?_
  refine Rg.take (ops := (Rg.opsOf Tryz.f72 6)) 1 (some 39) ((.pointer (some ⟨b, 0, none⟩))) hNS (by kernel_rfl) (by kernel_rfl) (by kernel_rfl) (by kernel_rfl) (by kernel_rfl) hHeld (Rg.y_move (x := (Operand.tmp 0)) (Or.inl (by kernel_rfl)) (by kernel_rfl)) ?_
  refine Rg.take (ops := (Rg.opsOf Tryz.f72 6)) 2 (some 40) ((.pointer (some ⟨b, 0, none⟩))) hNS (by kernel_rfl) (by kernel_rfl) (by kernel_rfl) (by kernel_rfl) (by kernel_rfl) hHeld (Rg.y_nil (x := (Operand.tmp 39)) (by kernel_rfl) (by kernel_rfl)) ?_
  refine Rg.take (ops := (Rg.opsOf Tryz.f72 6)) 3 (some 41) ((.pointer (some ⟨b, 0, none⟩))) hNS (by kernel_rfl) (by kernel_rfl) (by kernel_rfl) (by kernel_rfl) (by kernel_rfl) hHeld (Rg.y_field (T := 68) (k := 0) (x := (Operand.tmp 40)) (vx := (.pointer (some ⟨b, 0, none⟩))) (by kernel_rfl) (by kernel_rfl) ?_) ?_
  · (intro w hSw; go_simp)
  refine Rg.take (ops := (Rg.opsOf Tryz.f72 6)) 4 (some 42) ((.slice A n c)) hNS (by kernel_rfl) (by kernel_rfl) (by kernel_rfl) (by kernel_rfl) (by kernel_rfl) hHeld (Rg.y_load (T := 65) (x := (Operand.tmp 41)) (vx := (.pointer (some ⟨b, 0, none⟩))) (by kernel_rfl) (by kernel_rfl) ?_) ?_
  · (intro w hSw; go_simp)
  refine Rg.take (ops := (Rg.opsOf Tryz.f72 6)) 5 (some 43) ((.int .i64 (n : Int))) hNS (by kernel_rfl) (by kernel_rfl) (by kernel_rfl) (by kernel_rfl) (by kernel_rfl) hHeld (Rg.y_len (x := (Operand.tmp 42)) (ats := #[65]) (vx := (.slice A n c)) (n := n) (by kernel_rfl) (by kernel_rfl) ?_) ?_
  · (intro ty w hSw; go_simp)
  refine Rg.take (ops := (Rg.opsOf Tryz.f72 6)) 6 (some 44) ((.bool false)) hNS (by kernel_rfl) (by kernel_rfl) (by kernel_rfl) (by kernel_rfl) (by kernel_rfl) hHeld (Rg.y_bin (b := BinOp.lss) (T := 3) (R' := 3) (x := (Operand.tmp 38)) (y := (Operand.tmp 43)) (vx := (.int .i64 (k : Int))) (vy := (.int .i64 (n : Int))) (by kernel_rfl) (by kernel_rfl) (by kernel_rfl) ?_) ?_
  · (intro w hSw; go_simp <;> omega)
  refine Rg.take (ops := (Rg.opsOf Tryz.f72 6)) 7 (some 45) ((.bool false)) hNS (by kernel_rfl) (by kernel_rfl) (by kernel_rfl) (by kernel_rfl) (by kernel_rfl) hHeld (Rg.y_move (x := (Operand.tmp 44)) (Or.inl (by kernel_rfl)) (by kernel_rfl)) ?_
  refine Rg.skip (ops := (Rg.opsOf Tryz.f72 6)) 8 (some 46) hNS (by kernel_rfl) (by kernel_rfl) (by kernel_rfl) (by kernel_rfl) (by kernel_rfl) hHeld ?_
  refine Rg.skip (ops := (Rg.opsOf Tryz.f72 6)) 9 (some 47) hNS (by kernel_rfl) (by kernel_rfl) (by kernel_rfl) (by kernel_rfl) (by kernel_rfl) hHeld ?_
  refine Rg.skip (ops := (Rg.opsOf Tryz.f72 6)) 10 (some 48) hNS (by kernel_rfl) (by kernel_rfl) (by kernel_rfl) (by kernel_rfl) (by kernel_rfl) hHeld ?_
  refine Rg.skip (ops := (Rg.opsOf Tryz.f72 6)) 11 (some 49) hNS (by kernel_rfl) (by kernel_rfl) (by kernel_rfl) (by kernel_rfl) (by kernel_rfl) hHeld ?_
  refine Rg.skip (ops := (Rg.opsOf Tryz.f72 6)) 12 (some 50) hNS (by kernel_rfl) (by kernel_rfl) (by kernel_rfl) (by kernel_rfl) (by kernel_rfl) hHeld ?_
  refine Rg.skip (ops := (Rg.opsOf Tryz.f72 6)) 13 (some 51) hNS (by kernel_rfl) (by kernel_rfl) (by kernel_rfl) (by kernel_rfl) (by kernel_rfl) hHeld ?_
  refine Rg.skip (ops := (Rg.opsOf Tryz.f72 6)) 14 (some 52) hNS (by kernel_rfl) (by kernel_rfl) (by kernel_rfl) (by kernel_rfl) (by kernel_rfl) hHeld ?_
  refine Rg.skip (ops := (Rg.opsOf Tryz.f72 6)) 15 (some 53) hNS (by kernel_rfl) (by kernel_rfl) (by kernel_rfl) (by kernel_rfl) (by kernel_rfl) hHeld ?_
  refine Rg.skip (ops := (Rg.opsOf Tryz.f72 6)) 16 (some 54) hNS (by kernel_rfl) (by kernel_rfl) (by kernel_rfl) (by kernel_rfl) (by kernel_rfl) hHeld ?_
  refine Rg.skip (ops := (Rg.opsOf Tryz.f72 6)) 17 (some 55) hNS (by kernel_rfl) (by kernel_rfl) (by kernel_rfl) (by kernel_rfl) (by kernel_rfl) hHeld ?_
  refine Rg.skip (ops := (Rg.opsOf Tryz.f72 6)) 18 (some 56) hNS (by kernel_rfl) (by kernel_rfl) (by kernel_rfl) (by kernel_rfl) (by kernel_rfl) hHeld ?_
  refine Rg.take (ops := (Rg.opsOf Tryz.f72 6)) 19 (some 57) ((Value.bool false)) hNS (by kernel_rfl) (by kernel_rfl) (by kernel_rfl) (by kernel_rfl) (by kernel_rfl) hHeld (Rg.y_pick (c := (Operand.tmp 45)) (x := (Operand.tmp 56)) (y := (Operand.const (Value.bool false))) (b := false) (by kernel_rfl) (by kernel_rfl) (by kernel_rfl)) ?_
  refine Rg.done (ops := (Rg.opsOf Tryz.f72 6)) (by kernel_rfl) ?_
  exact ⟨by kernel_rfl, rfl⟩
set_option maxRecDepth 100000 in
set_option maxHeartbeats 2000000 in
theorem putReg6_2 (ops : Array Oper) (hops : ops = (Rg.opsOf Tryz.f72 6)) (id : Nat) (A : Option Addr) (b bx g n c k : Nat) (YP XP : ByteArray) {u1 u2 u4 u6 u7 u8 u9 u10 u11 u12 u13 u14 u15 u16 u17 u18 u19 u20 u21 u22 u23 u24 u25 u26 u27 u28 u29 u30 u31 u32 u33 u34 u35 u36 u37 u38 u39 u40 u41 u42 u43 u44 u45 u46 u47 u48 u49 u50 u51 u52 u53 u54 u55 u56 u57 u58 u59 u60 u61 u62 u63 u64 u65 u66 u67 u68 u69 u70 u71 u72 u73 u74 u75 u76 u77 u78 u79 u80 u81 u82 u83 u84 u85 u86 : Value} (w : World)
    (hq : (fun W => W.cell? ⟨b, 0, none⟩ = some (.slice (some ⟨g, 0, none⟩) n c) ∧ W.cell? ⟨g, k * 7, none⟩ = some (.string YP) ∧ W.cell? ⟨bx, 0, none⟩ = some (.string XP)) w)
    (hlt : k < n) (hnm : n ≤ 1000000000000)
    (htest : (YP.toList == XP.toList) = true) :
    (Code.region id ops true).wp Tryz.prog (Rg.Only fun a' w' => a' = ⟨#[(.pointer (some ⟨b, 0, none⟩)), u1, u2, (.pointer (some ⟨bx, 0, none⟩)), u4, (.int .i64 (k : Int)), u6, u7, u8, u9, u10, u11, u12, u13, u14, u15, u16, u17, u18, u19, u20, u21, u22, u23, u24, u25, u26, u27, u28, u29, u30, u31, u32, u33, u34, u35, u36, u37, (.int .i64 (k : Int)), (.pointer (some ⟨b, 0, none⟩)), (.pointer (some ⟨b, 0, none⟩)), (.pointer (some ⟨b, 0, none⟩)), (.slice (some ⟨g, 0, none⟩) n c), (.int .i64 (n : Int)), (.bool true), (.bool true), (.pointer (some ⟨b, 0, none⟩)), (.pointer (some ⟨b, 0, none⟩)), (.pointer (some ⟨b, 0, none⟩)), (.slice (some ⟨g, 0, none⟩) n c), (.int .i64 (k : Int)), (.pointer (some ⟨g, k * 7, none⟩)), (.pointer (some ⟨g, k * 7, none⟩)), (.string YP), (.pointer (some ⟨bx, 0, none⟩)), (.string XP), (.bool true), (.bool true), u58, u59, u60, u61, u62, u63, u64, u65, u66, u67, u68, u69, u70, u71, u72, u73, u74, u75, u76, u77, u78, u79, u80, u81, u82, u83, u84, u85, u86], []⟩ ∧ w' = w.drew) ⟨#[(.pointer (some ⟨b, 0, none⟩)), u1, u2, (.pointer (some ⟨bx, 0, none⟩)), u4, (.int .i64 (k : Int)), u6, u7, u8, u9, u10, u11, u12, u13, u14, u15, u16, u17, u18, u19, u20, u21, u22, u23, u24, u25, u26, u27, u28, u29, u30, u31, u32, u33, u34, u35, u36, u37, u38, u39, u40, u41, u42, u43, u44, u45, u46, u47, u48, u49, u50, u51, u52, u53, u54, u55, u56, u57, u58, u59, u60, u61, u62, u63, u64, u65, u66, u67, u68, u69, u70, u71, u72, u73, u74, u75, u76, u77, u78, u79, u80, u81, u82, u83, u84, u85, u86], []⟩ w := by
  subst hops
  have hNS : Region.noSelect (Rg.opsOf Tryz.f72 6) = true := by kernel_rfl
  refine wp_region_held_drew (S := fun W => W.cell? ⟨b, 0, none⟩ = some (.slice (some ⟨g, 0, none⟩) n c) ∧ W.cell? ⟨g, k * 7, none⟩ = some (.string YP) ∧ W.cell? ⟨bx, 0, none⟩ = some (.string XP)) (by kernel_rfl) hq (fun hHeld => ?_)
  rw [show (Rg.opsOf Tryz.f72 6).size = 20 by kernel_rfl]
  refine Rg.take (ops := (Rg.opsOf Tryz.f72 6)) 0 (some 38) ((.int .i64 (k : Int))) hNS (by kernel_rfl) (by kernel_rfl) (by kernel_rfl) (by kernel_rfl) (by kernel_rfl) hHeld (Rg.y_move (x := (Operand.tmp 5)) (Or.inl (by kernel_rfl)) (by kernel_rfl)) ?_
  refine Rg.take (ops := (Rg.opsOf Tryz.f72 6)) 1 (some 39) ((.pointer (some ⟨b, 0, none⟩))) hNS (by kernel_rfl) (by kernel_rfl) (by kernel_rfl) (by kernel_rfl) (by kernel_rfl) hHeld (Rg.y_move (x := (Operand.tmp 0)) (Or.inl (by kernel_rfl)) (by kernel_rfl)) ?_
  refine Rg.take (ops := (Rg.opsOf Tryz.f72 6)) 2 (some 40) ((.pointer (some ⟨b, 0, none⟩))) hNS (by kernel_rfl) (by kernel_rfl) (by kernel_rfl) (by kernel_rfl) (by kernel_rfl) hHeld (Rg.y_nil (x := (Operand.tmp 39)) (by kernel_rfl) (by kernel_rfl)) ?_
  refine Rg.take (ops := (Rg.opsOf Tryz.f72 6)) 3 (some 41) ((.pointer (some ⟨b, 0, none⟩))) hNS (by kernel_rfl) (by kernel_rfl) (by kernel_rfl) (by kernel_rfl) (by kernel_rfl) hHeld (Rg.y_field (T := 68) (k := 0) (x := (Operand.tmp 40)) (vx := (.pointer (some ⟨b, 0, none⟩))) (by kernel_rfl) (by kernel_rfl) ?_) ?_
  · (intro w hSw; obtain ⟨hS1, hS2, hS3⟩ := hSw; go_simp)
  refine Rg.take (ops := (Rg.opsOf Tryz.f72 6)) 4 (some 42) ((.slice (some ⟨g, 0, none⟩) n c)) hNS (by kernel_rfl) (by kernel_rfl) (by kernel_rfl) (by kernel_rfl) (by kernel_rfl) hHeld (Rg.y_load (T := 65) (x := (Operand.tmp 41)) (vx := (.pointer (some ⟨b, 0, none⟩))) (by kernel_rfl) (by kernel_rfl) ?_) ?_
  · (intro w hSw; obtain ⟨hS1, hS2, hS3⟩ := hSw; go_simp)
  refine Rg.take (ops := (Rg.opsOf Tryz.f72 6)) 5 (some 43) ((.int .i64 (n : Int))) hNS (by kernel_rfl) (by kernel_rfl) (by kernel_rfl) (by kernel_rfl) (by kernel_rfl) hHeld (Rg.y_len (x := (Operand.tmp 42)) (ats := #[65]) (vx := (.slice (some ⟨g, 0, none⟩) n c)) (n := n) (by kernel_rfl) (by kernel_rfl) ?_) ?_
  · (intro ty w hSw; go_simp)
  refine Rg.take (ops := (Rg.opsOf Tryz.f72 6)) 6 (some 44) ((.bool true)) hNS (by kernel_rfl) (by kernel_rfl) (by kernel_rfl) (by kernel_rfl) (by kernel_rfl) hHeld (Rg.y_bin (b := BinOp.lss) (T := 3) (R' := 3) (x := (Operand.tmp 38)) (y := (Operand.tmp 43)) (vx := (.int .i64 (k : Int))) (vy := (.int .i64 (n : Int))) (by kernel_rfl) (by kernel_rfl) (by kernel_rfl) ?_) ?_
  · (intro w hSw; go_simp <;> omega)
  refine Rg.take (ops := (Rg.opsOf Tryz.f72 6)) 7 (some 45) ((.bool true)) hNS (by kernel_rfl) (by kernel_rfl) (by kernel_rfl) (by kernel_rfl) (by kernel_rfl) hHeld (Rg.y_move (x := (Operand.tmp 44)) (Or.inl (by kernel_rfl)) (by kernel_rfl)) ?_
  refine Rg.take (ops := (Rg.opsOf Tryz.f72 6)) 8 (some 46) ((.pointer (some ⟨b, 0, none⟩))) hNS (by kernel_rfl) (by kernel_rfl) (by kernel_rfl) (by kernel_rfl) (by kernel_rfl) hHeld (Rg.y_move (x := (Operand.tmp 0)) (Or.inl (by kernel_rfl)) (by kernel_rfl)) ?_
  refine Rg.take (ops := (Rg.opsOf Tryz.f72 6)) 9 (some 47) ((.pointer (some ⟨b, 0, none⟩))) hNS (by kernel_rfl) (by kernel_rfl) (by kernel_rfl) (by kernel_rfl) (by kernel_rfl) hHeld (Rg.y_nil (x := (Operand.tmp 46)) (by kernel_rfl) (by kernel_rfl)) ?_
  refine Rg.take (ops := (Rg.opsOf Tryz.f72 6)) 10 (some 48) ((.pointer (some ⟨b, 0, none⟩))) hNS (by kernel_rfl) (by kernel_rfl) (by kernel_rfl) (by kernel_rfl) (by kernel_rfl) hHeld (Rg.y_field (T := 68) (k := 0) (x := (Operand.tmp 47)) (vx := (.pointer (some ⟨b, 0, none⟩))) (by kernel_rfl) (by kernel_rfl) ?_) ?_
  · (intro w hSw; obtain ⟨hS1, hS2, hS3⟩ := hSw; go_simp)
  refine Rg.take (ops := (Rg.opsOf Tryz.f72 6)) 11 (some 49) ((.slice (some ⟨g, 0, none⟩) n c)) hNS (by kernel_rfl) (by kernel_rfl) (by kernel_rfl) (by kernel_rfl) (by kernel_rfl) hHeld (Rg.y_load (T := 65) (x := (Operand.tmp 48)) (vx := (.pointer (some ⟨b, 0, none⟩))) (by kernel_rfl) (by kernel_rfl) ?_) ?_
  · (intro w hSw; obtain ⟨hS1, hS2, hS3⟩ := hSw; go_simp)
  refine Rg.take (ops := (Rg.opsOf Tryz.f72 6)) 12 (some 50) ((.int .i64 (k : Int))) hNS (by kernel_rfl) (by kernel_rfl) (by kernel_rfl) (by kernel_rfl) (by kernel_rfl) hHeld (Rg.y_move (x := (Operand.tmp 5)) (Or.inl (by kernel_rfl)) (by kernel_rfl)) ?_
  refine Rg.take (ops := (Rg.opsOf Tryz.f72 6)) 13 (some 51) ((.pointer (some ⟨g, k * 7, none⟩))) hNS (by kernel_rfl) (by kernel_rfl) (by kernel_rfl) (by kernel_rfl) (by kernel_rfl) hHeld (Rg.y_at (T := 65) (x := (Operand.tmp 49)) (y := (Operand.tmp 50)) (vx := (.slice (some ⟨g, 0, none⟩) n c)) (vy := (.int .i64 (k : Int))) (by kernel_rfl) (by kernel_rfl) (by kernel_rfl) ?_) ?_
  · (intro w hSw; go_simp <;> (intros; exfalso; omega))
  refine Rg.take (ops := (Rg.opsOf Tryz.f72 6)) 14 (some 52) ((.pointer (some ⟨g, k * 7, none⟩))) hNS (by kernel_rfl) (by kernel_rfl) (by kernel_rfl) (by kernel_rfl) (by kernel_rfl) hHeld (Rg.y_field (T := 76) (k := 0) (x := (Operand.tmp 51)) (vx := (.pointer (some ⟨g, k * 7, none⟩))) (by kernel_rfl) (by kernel_rfl) ?_) ?_
  · (intro w hSw; obtain ⟨hS1, hS2, hS3⟩ := hSw; go_simp)
  refine Rg.take (ops := (Rg.opsOf Tryz.f72 6)) 15 (some 53) ((.string YP)) hNS (by kernel_rfl) (by kernel_rfl) (by kernel_rfl) (by kernel_rfl) (by kernel_rfl) hHeld (Rg.y_load (T := 9) (x := (Operand.tmp 52)) (vx := (.pointer (some ⟨g, k * 7, none⟩))) (by kernel_rfl) (by kernel_rfl) ?_) ?_
  · (intro w hSw; obtain ⟨hS1, hS2, hS3⟩ := hSw; go_simp)
  refine Rg.take (ops := (Rg.opsOf Tryz.f72 6)) 16 (some 54) ((.pointer (some ⟨bx, 0, none⟩))) hNS (by kernel_rfl) (by kernel_rfl) (by kernel_rfl) (by kernel_rfl) (by kernel_rfl) hHeld (Rg.y_field (T := 76) (k := 0) (x := (Operand.tmp 3)) (vx := (.pointer (some ⟨bx, 0, none⟩))) (by kernel_rfl) (by kernel_rfl) ?_) ?_
  · (intro w hSw; obtain ⟨hS1, hS2, hS3⟩ := hSw; go_simp)
  refine Rg.take (ops := (Rg.opsOf Tryz.f72 6)) 17 (some 55) ((.string XP)) hNS (by kernel_rfl) (by kernel_rfl) (by kernel_rfl) (by kernel_rfl) (by kernel_rfl) hHeld (Rg.y_load (T := 9) (x := (Operand.tmp 54)) (vx := (.pointer (some ⟨bx, 0, none⟩))) (by kernel_rfl) (by kernel_rfl) ?_) ?_
  · (intro w hSw; obtain ⟨hS1, hS2, hS3⟩ := hSw; go_simp)
  refine Rg.take (ops := (Rg.opsOf Tryz.f72 6)) 18 (some 56) ((.bool true)) hNS (by kernel_rfl) (by kernel_rfl) (by kernel_rfl) (by kernel_rfl) (by kernel_rfl) hHeld (Rg.y_bin (b := BinOp.eql) (T := 9) (R' := 9) (x := (Operand.tmp 53)) (y := (Operand.tmp 55)) (vx := (.string YP)) (vy := (.string XP)) (by kernel_rfl) (by kernel_rfl) (by kernel_rfl) ?_) ?_
  · (intro w hSw; obtain ⟨hS1, hS2, hS3⟩ := hSw; go_simp)
  refine Rg.take (ops := (Rg.opsOf Tryz.f72 6)) 19 (some 57) ((.bool true)) hNS (by kernel_rfl) (by kernel_rfl) (by kernel_rfl) (by kernel_rfl) (by kernel_rfl) hHeld (Rg.y_pick (c := (Operand.tmp 45)) (x := (Operand.tmp 56)) (y := (Operand.const (Value.bool false))) (b := true) (by kernel_rfl) (by kernel_rfl) (by kernel_rfl)) ?_
  refine Rg.done (ops := (Rg.opsOf Tryz.f72 6)) (by kernel_rfl) ?_
  exact ⟨by kernel_rfl, rfl⟩
set_option maxRecDepth 100000 in
set_option maxHeartbeats 2000000 in
theorem putReg6_3 (ops : Array Oper) (hops : ops = (Rg.opsOf Tryz.f72 6)) (id : Nat) (A : Option Addr) (b bx g n c k : Nat) (YP XP : ByteArray) {u1 u2 u4 u6 u7 u8 u9 u10 u11 u12 u13 u14 u15 u16 u17 u18 u19 u20 u21 u22 u23 u24 u25 u26 u27 u28 u29 u30 u31 u32 u33 u34 u35 u36 u37 u38 u39 u40 u41 u42 u43 u44 u45 u46 u47 u48 u49 u50 u51 u52 u53 u54 u55 u56 u57 u58 u59 u60 u61 u62 u63 u64 u65 u66 u67 u68 u69 u70 u71 u72 u73 u74 u75 u76 u77 u78 u79 u80 u81 u82 u83 u84 u85 u86 : Value} (w : World)
    (hq : (fun W => W.cell? ⟨b, 0, none⟩ = some (.slice (some ⟨g, 0, none⟩) n c) ∧ W.cell? ⟨g, k * 7, none⟩ = some (.string YP) ∧ W.cell? ⟨bx, 0, none⟩ = some (.string XP)) w)
    (hlt : k < n) (hnm : n ≤ 1000000000000)
    (htest : (YP.toList == XP.toList) = false) :
    (Code.region id ops true).wp Tryz.prog (Rg.Only fun a' w' => a' = ⟨#[(.pointer (some ⟨b, 0, none⟩)), u1, u2, (.pointer (some ⟨bx, 0, none⟩)), u4, (.int .i64 (k : Int)), u6, u7, u8, u9, u10, u11, u12, u13, u14, u15, u16, u17, u18, u19, u20, u21, u22, u23, u24, u25, u26, u27, u28, u29, u30, u31, u32, u33, u34, u35, u36, u37, (.int .i64 (k : Int)), (.pointer (some ⟨b, 0, none⟩)), (.pointer (some ⟨b, 0, none⟩)), (.pointer (some ⟨b, 0, none⟩)), (.slice (some ⟨g, 0, none⟩) n c), (.int .i64 (n : Int)), (.bool true), (.bool true), (.pointer (some ⟨b, 0, none⟩)), (.pointer (some ⟨b, 0, none⟩)), (.pointer (some ⟨b, 0, none⟩)), (.slice (some ⟨g, 0, none⟩) n c), (.int .i64 (k : Int)), (.pointer (some ⟨g, k * 7, none⟩)), (.pointer (some ⟨g, k * 7, none⟩)), (.string YP), (.pointer (some ⟨bx, 0, none⟩)), (.string XP), (.bool false), (.bool false), u58, u59, u60, u61, u62, u63, u64, u65, u66, u67, u68, u69, u70, u71, u72, u73, u74, u75, u76, u77, u78, u79, u80, u81, u82, u83, u84, u85, u86], []⟩ ∧ w' = w.drew) ⟨#[(.pointer (some ⟨b, 0, none⟩)), u1, u2, (.pointer (some ⟨bx, 0, none⟩)), u4, (.int .i64 (k : Int)), u6, u7, u8, u9, u10, u11, u12, u13, u14, u15, u16, u17, u18, u19, u20, u21, u22, u23, u24, u25, u26, u27, u28, u29, u30, u31, u32, u33, u34, u35, u36, u37, u38, u39, u40, u41, u42, u43, u44, u45, u46, u47, u48, u49, u50, u51, u52, u53, u54, u55, u56, u57, u58, u59, u60, u61, u62, u63, u64, u65, u66, u67, u68, u69, u70, u71, u72, u73, u74, u75, u76, u77, u78, u79, u80, u81, u82, u83, u84, u85, u86], []⟩ w := by
  subst hops
  have hNS : Region.noSelect (Rg.opsOf Tryz.f72 6) = true := by kernel_rfl
  refine wp_region_held_drew (S := fun W => W.cell? ⟨b, 0, none⟩ = some (.slice (some ⟨g, 0, none⟩) n c) ∧ W.cell? ⟨g, k * 7, none⟩ = some (.string YP) ∧ W.cell? ⟨bx, 0, none⟩ = some (.string XP)) (by kernel_rfl) hq (fun hHeld => ?_)
  rw [show (Rg.opsOf Tryz.f72 6).size = 20 by kernel_rfl]
  refine Rg.take (ops := (Rg.opsOf Tryz.f72 6)) 0 (some 38) ((.int .i64 (k : Int))) hNS (by kernel_rfl) (by kernel_rfl) (by kernel_rfl) (by kernel_rfl) (by kernel_rfl) hHeld (Rg.y_move (x := (Operand.tmp 5)) (Or.inl (by kernel_rfl)) (by kernel_rfl)) ?_
  refine Rg.take (ops := (Rg.opsOf Tryz.f72 6)) 1 (some 39) ((.pointer (some ⟨b, 0, none⟩))) hNS (by kernel_rfl) (by kernel_rfl) (by kernel_rfl) (by kernel_rfl) (by kernel_rfl) hHeld (Rg.y_move (x := (Operand.tmp 0)) (Or.inl (by kernel_rfl)) (by kernel_rfl)) ?_
  refine Rg.take (ops := (Rg.opsOf Tryz.f72 6)) 2 (some 40) ((.pointer (some ⟨b, 0, none⟩))) hNS (by kernel_rfl) (by kernel_rfl) (by kernel_rfl) (by kernel_rfl) (by kernel_rfl) hHeld (Rg.y_nil (x := (Operand.tmp 39)) (by kernel_rfl) (by kernel_rfl)) ?_
  refine Rg.take (ops := (Rg.opsOf Tryz.f72 6)) 3 (some 41) ((.pointer (some ⟨b, 0, none⟩))) hNS (by kernel_rfl) (by kernel_rfl) (by kernel_rfl) (by kernel_rfl) (by kernel_rfl) hHeld (Rg.y_field (T := 68) (k := 0) (x := (Operand.tmp 40)) (vx := (.pointer (some ⟨b, 0, none⟩))) (by kernel_rfl) (by kernel_rfl) ?_) ?_
  · (intro w hSw; obtain ⟨hS1, hS2, hS3⟩ := hSw; go_simp)
  refine Rg.take (ops := (Rg.opsOf Tryz.f72 6)) 4 (some 42) ((.slice (some ⟨g, 0, none⟩) n c)) hNS (by kernel_rfl) (by kernel_rfl) (by kernel_rfl) (by kernel_rfl) (by kernel_rfl) hHeld (Rg.y_load (T := 65) (x := (Operand.tmp 41)) (vx := (.pointer (some ⟨b, 0, none⟩))) (by kernel_rfl) (by kernel_rfl) ?_) ?_
  · (intro w hSw; obtain ⟨hS1, hS2, hS3⟩ := hSw; go_simp)
  refine Rg.take (ops := (Rg.opsOf Tryz.f72 6)) 5 (some 43) ((.int .i64 (n : Int))) hNS (by kernel_rfl) (by kernel_rfl) (by kernel_rfl) (by kernel_rfl) (by kernel_rfl) hHeld (Rg.y_len (x := (Operand.tmp 42)) (ats := #[65]) (vx := (.slice (some ⟨g, 0, none⟩) n c)) (n := n) (by kernel_rfl) (by kernel_rfl) ?_) ?_
  · (intro ty w hSw; go_simp)
  refine Rg.take (ops := (Rg.opsOf Tryz.f72 6)) 6 (some 44) ((.bool true)) hNS (by kernel_rfl) (by kernel_rfl) (by kernel_rfl) (by kernel_rfl) (by kernel_rfl) hHeld (Rg.y_bin (b := BinOp.lss) (T := 3) (R' := 3) (x := (Operand.tmp 38)) (y := (Operand.tmp 43)) (vx := (.int .i64 (k : Int))) (vy := (.int .i64 (n : Int))) (by kernel_rfl) (by kernel_rfl) (by kernel_rfl) ?_) ?_
  · (intro w hSw; go_simp <;> omega)
  refine Rg.take (ops := (Rg.opsOf Tryz.f72 6)) 7 (some 45) ((.bool true)) hNS (by kernel_rfl) (by kernel_rfl) (by kernel_rfl) (by kernel_rfl) (by kernel_rfl) hHeld (Rg.y_move (x := (Operand.tmp 44)) (Or.inl (by kernel_rfl)) (by kernel_rfl)) ?_
  refine Rg.take (ops := (Rg.opsOf Tryz.f72 6)) 8 (some 46) ((.pointer (some ⟨b, 0, none⟩))) hNS (by kernel_rfl) (by kernel_rfl) (by kernel_rfl) (by kernel_rfl) (by kernel_rfl) hHeld (Rg.y_move (x := (Operand.tmp 0)) (Or.inl (by kernel_rfl)) (by kernel_rfl)) ?_
  refine Rg.take (ops := (Rg.opsOf Tryz.f72 6)) 9 (some 47) ((.pointer (some ⟨b, 0, none⟩))) hNS (by kernel_rfl) (by kernel_rfl) (by kernel_rfl) (by kernel_rfl) (by kernel_rfl) hHeld (Rg.y_nil (x := (Operand.tmp 46)) (by kernel_rfl) (by kernel_rfl)) ?_
  refine Rg.take (ops := (Rg.opsOf Tryz.f72 6)) 10 (some 48) ((.pointer (some ⟨b, 0, none⟩))) hNS (by kernel_rfl) (by kernel_rfl) (by kernel_rfl) (by kernel_rfl) (by kernel_rfl) hHeld (Rg.y_field (T := 68) (k := 0) (x := (Operand.tmp 47)) (vx := (.pointer (some ⟨b, 0, none⟩))) (by kernel_rfl) (by kernel_rfl) ?_) ?_
  · (intro w hSw; obtain ⟨hS1, hS2, hS3⟩ := hSw; go_simp)
  refine Rg.take (ops := (Rg.opsOf Tryz.f72 6)) 11 (some 49) ((.slice (some ⟨g, 0, none⟩) n c)) hNS (by kernel_rfl) (by kernel_rfl) (by kernel_rfl) (by kernel_rfl) (by kernel_rfl) hHeld (Rg.y_load (T := 65) (x := (Operand.tmp 48)) (vx := (.pointer (some ⟨b, 0, none⟩))) (by kernel_rfl) (by kernel_rfl) ?_) ?_
  · (intro w hSw; obtain ⟨hS1, hS2, hS3⟩ := hSw; go_simp)
  refine Rg.take (ops := (Rg.opsOf Tryz.f72 6)) 12 (some 50) ((.int .i64 (k : Int))) hNS (by kernel_rfl) (by kernel_rfl) (by kernel_rfl) (by kernel_rfl) (by kernel_rfl) hHeld (Rg.y_move (x := (Operand.tmp 5)) (Or.inl (by kernel_rfl)) (by kernel_rfl)) ?_
  refine Rg.take (ops := (Rg.opsOf Tryz.f72 6)) 13 (some 51) ((.pointer (some ⟨g, k * 7, none⟩))) hNS (by kernel_rfl) (by kernel_rfl) (by kernel_rfl) (by kernel_rfl) (by kernel_rfl) hHeld (Rg.y_at (T := 65) (x := (Operand.tmp 49)) (y := (Operand.tmp 50)) (vx := (.slice (some ⟨g, 0, none⟩) n c)) (vy := (.int .i64 (k : Int))) (by kernel_rfl) (by kernel_rfl) (by kernel_rfl) ?_) ?_
  · (intro w hSw; go_simp <;> (intros; exfalso; omega))
  refine Rg.take (ops := (Rg.opsOf Tryz.f72 6)) 14 (some 52) ((.pointer (some ⟨g, k * 7, none⟩))) hNS (by kernel_rfl) (by kernel_rfl) (by kernel_rfl) (by kernel_rfl) (by kernel_rfl) hHeld (Rg.y_field (T := 76) (k := 0) (x := (Operand.tmp 51)) (vx := (.pointer (some ⟨g, k * 7, none⟩))) (by kernel_rfl) (by kernel_rfl) ?_) ?_
  · (intro w hSw; obtain ⟨hS1, hS2, hS3⟩ := hSw; go_simp)
  refine Rg.take (ops := (Rg.opsOf Tryz.f72 6)) 15 (some 53) ((.string YP)) hNS (by kernel_rfl) (by kernel_rfl) (by kernel_rfl) (by kernel_rfl) (by kernel_rfl) hHeld (Rg.y_load (T := 9) (x := (Operand.tmp 52)) (vx := (.pointer (some ⟨g, k * 7, none⟩))) (by kernel_rfl) (by kernel_rfl) ?_) ?_
  · (intro w hSw; obtain ⟨hS1, hS2, hS3⟩ := hSw; go_simp)
  refine Rg.take (ops := (Rg.opsOf Tryz.f72 6)) 16 (some 54) ((.pointer (some ⟨bx, 0, none⟩))) hNS (by kernel_rfl) (by kernel_rfl) (by kernel_rfl) (by kernel_rfl) (by kernel_rfl) hHeld (Rg.y_field (T := 76) (k := 0) (x := (Operand.tmp 3)) (vx := (.pointer (some ⟨bx, 0, none⟩))) (by kernel_rfl) (by kernel_rfl) ?_) ?_
  · (intro w hSw; obtain ⟨hS1, hS2, hS3⟩ := hSw; go_simp)
  refine Rg.take (ops := (Rg.opsOf Tryz.f72 6)) 17 (some 55) ((.string XP)) hNS (by kernel_rfl) (by kernel_rfl) (by kernel_rfl) (by kernel_rfl) (by kernel_rfl) hHeld (Rg.y_load (T := 9) (x := (Operand.tmp 54)) (vx := (.pointer (some ⟨bx, 0, none⟩))) (by kernel_rfl) (by kernel_rfl) ?_) ?_
  · (intro w hSw; obtain ⟨hS1, hS2, hS3⟩ := hSw; go_simp)
  refine Rg.take (ops := (Rg.opsOf Tryz.f72 6)) 18 (some 56) ((.bool false)) hNS (by kernel_rfl) (by kernel_rfl) (by kernel_rfl) (by kernel_rfl) (by kernel_rfl) hHeld (Rg.y_bin (b := BinOp.eql) (T := 9) (R' := 9) (x := (Operand.tmp 53)) (y := (Operand.tmp 55)) (vx := (.string YP)) (vy := (.string XP)) (by kernel_rfl) (by kernel_rfl) (by kernel_rfl) ?_) ?_
  · (intro w hSw; obtain ⟨hS1, hS2, hS3⟩ := hSw; go_simp)
  refine Rg.take (ops := (Rg.opsOf Tryz.f72 6)) 19 (some 57) ((.bool false)) hNS (by kernel_rfl) (by kernel_rfl) (by kernel_rfl) (by kernel_rfl) (by kernel_rfl) hHeld (Rg.y_pick (c := (Operand.tmp 45)) (x := (Operand.tmp 56)) (y := (Operand.const (Value.bool false))) (b := true) (by kernel_rfl) (by kernel_rfl) (by kernel_rfl)) ?_
  refine Rg.done (ops := (Rg.opsOf Tryz.f72 6)) (by kernel_rfl) ?_
  exact ⟨by kernel_rfl, rfl⟩
end Go.Proofs.YtdpnmdnfnplcfaaGreat.Dk

namespace Go.Proofs.YtdpnmdnfnplcfaaGreat.Dk
open Go.RowKit Tx Pm
set_option linter.unusedVariables false
theorem tw_at {α : Type} (f : α → Bool) : ∀ (l : List α) (k : Nat), k ≤ l.length → (∀ y ∈ l.take k, f y = true) → (∀ y, l[k]? = some y → f y = false) → l.takeWhile f = l.take k ∧ l.dropWhile f = l.drop k
  | [], k, hk, _, _ => by simp
  | y :: l, 0, _, _, h => by
    have := h y rfl
    simp [List.takeWhile, List.dropWhile, this]
  | y :: l, k + 1, hk, h1, h2 => by
    have hy := h1 y (by simp)
    obtain ⟨e1, e2⟩ := tw_at f l k (by simpa using hk) (fun z hz => h1 z (by simp [hz])) (fun z hz => h2 z (by simpa using hz))
    simp [List.takeWhile, List.dropWhile, hy, e1, e2]
theorem ins_at {l : List It} {x : It} {k : Nat} (hk : k ≤ l.length) (h1 : ∀ y ∈ l.take k, Op.bytesLess y.path.toList x.path.toList = true) (h2 : ∀ y, l[k]? = some y → Op.bytesLess y.path.toList x.path.toList = false) :
    ins l x = l.take k ++ x :: (match l[k]? with | some y => if y.path = x.path then l.drop (k + 1) else l.drop k | none => []) := by
  obtain ⟨e1, e2⟩ := tw_at (fun y => Op.bytesLess y.path.toList x.path.toList) l k hk h1 h2
  rw [ins, e1, e2]
  cases hx : l[k]? with
  | none =>
    have : l.length ≤ k := by simpa using hx
    rw [List.drop_of_length_le this]
  | some y =>
    obtain ⟨hlt, he⟩ := List.getElem?_eq_some_iff.1 hx
    rw [List.drop_eq_getElem_cons hlt, he]
theorem take_more {α : Type} {l : List α} {k : Nat} {x : α} (h : l[k]? = some x) : l.take (k + 1) = l.take k ++ [x] := by
  obtain ⟨hk, he⟩ := List.getElem?_eq_some_iff.1 h
  rw [List.take_succ_eq_append_getElem hk, he]
theorem cell_seven_new (w : World) (a b c d e f g : Value) (t : TypeId) : ∀ j u, [a, b, c, d, e, f, g][j]? = some u → (w.alloc (.cells #[a, b, c, d, e, f, g] t)).cell? ((⟨w.heap.size, 0, none⟩ : Addr).add j) = some u := by
  intro j u hj
  match j, hj with
  | 0, hj => simp at hj; subst hj; simp [Addr.add]
  | 1, hj => simp at hj; subst hj; simp [Addr.add]
  | 2, hj => simp at hj; subst hj; simp [Addr.add]
  | 3, hj => simp at hj; subst hj; simp [Addr.add]
  | 4, hj => simp at hj; subst hj; simp [Addr.add]
  | 5, hj => simp at hj; subst hj; simp [Addr.add]
  | 6, hj => simp at hj; subst hj; simp [Addr.add]
  | j + 7, hj => simp at hj
theorem cells_one (x : It) : ∀ u ∈ cells x, u.oneCell' = true := by
  intro u hu
  simp [cells] at hu
  rcases hu with rfl | rfl | rfl | rfl | rfl | rfl | rfl <;> rfl
theorem OwnI.more {w : World} {B n : Nat} {v : Value} {l : List It} {x : It} (h : w.ownsRow B 76 7 v (n + 1) (l.flatMap cells ++ cells x)) (hn : n = l.length) : OwnI w B v (l ++ [x]) := by
  subst hn
  unfold OwnI
  rw [List.length_append, List.flatMap_append]
  simpa using h
theorem OwnI.below {w w1 : World} {B : Nat} {v : Value} {l : List It} (h : OwnI w B v l) (hb : Below w.heap.size w w1) : OwnI w1 B v l :=
  own_kept h (fun g hg => hb.block g (h.lt g hg).2)
theorem OwnI.base {w : World} {B C : Nat} {v : Value} {l : List It} (h : OwnI w C v l) (hB : B ≤ C) : OwnI w B v l := by
  refine ⟨h.1, ?_⟩
  rcases h.2 with h0 | ⟨g', cap', cur, hv, hg, r⟩
  · exact .inl h0
  · exact .inr ⟨g', cap', cur, hv, Nat.le_trans hB hg, r⟩
theorem OwnI.drew {w : World} {B : Nat} {v : Value} {l : List It} (h : OwnI w B v l) : OwnI w.drew B v l := own_kept h (fun _ _ => rfl)
theorem below_at2 {w wr w1 : World} {B n : Nat} {v : Value} {xs : List Value} {o : Obj} (hb : Below w.heap.size w wr) (hown : wr.ownsRow B 76 7 v n xs) (hB : w.heap.size ≤ B) (hg : (wr.alloc o).grownBy w1 v.ownBlock) : Below w.heap.size w w1 :=
  (hb.alloc hb.size o).grown hg (by have := hb.size; simp; omega) (fun k hk => Nat.le_trans hB (hown.lt k hk).1)
structure Seen (w0 : World) (b : Nat) (s : St) (A : Option Addr) (n c : Nat) (W : World) : Prop where
  c0 : W.cell? ⟨b, 0, none⟩ = some (.slice A n c)
  it : ∀ k y, s.L[k]? = some y → ∃ g, A = some ⟨g, 0, none⟩ ∧
    W.cell? ⟨g, k * 7, none⟩ = some (.string y.path) ∧ W.cell? ⟨g, k * 7 + 1, none⟩ = some (.bool y.dir) ∧ W.cell? ⟨g, k * 7 + 2, none⟩ = some (.string y.data) ∧ W.cell? ⟨g, k * 7 + 3, none⟩ = some (.string y.kept) ∧
    W.cell? ⟨g, k * 7 + 4, none⟩ = some (.bool y.loose) ∧ W.cell? ⟨g, k * 7 + 5, none⟩ = some (.bool y.anew) ∧ W.cell? ⟨g, k * 7 + 6, none⟩ = some (.int .i64 y.stamp)
theorem At.seen {w : World} {b : Nat} {s : St} {A : Option Addr} {c : Nat} {vR : Value} (h : At w b s (.slice A s.L.length c) vR) {W : World} (hW : Below w.heap.size w W) : Seen w b s A s.L.length c W := by
  have h2 := h.below hW
  refine ⟨h2.cell.1, fun k y hy => ?_⟩
  obtain ⟨a', c', hv, hI, _, _⟩ := h2.rowL.form
  injection hv with ha _ hc
  subst ha
  have hk := (List.getElem?_eq_some_iff.1 hy).1
  obtain ⟨g, rfl, _, hc⟩ := hI.2.resolve_left (by omega)
  exact ⟨g, rfl, hc k y hy⟩
theorem At.relist {w w1 : World} {b : Nat} {s : St} {vL vR v : Value} {l : List It} (h : At w b s vL vR) (ho : OwnI w 0 v l)
    (hb : w1.heap[b]? = some (.cells #[v, vR, .int .i64 s.steps, .int .i64 s.stamps, .int .i64 s.armed, .bool s.down] 68 (0, 0)))
    (hk : ∀ i, i ≠ b → w1.heap[i]? = w.heap[i]?) : At w1 b { s with L := l } v vR := by
  refine ⟨hb, ?_, ?_⟩
  · refine own_kept ho (fun g hg => hk g (fun e => ?_))
    subst e
    rcases ho.2 with ⟨rfl, _⟩ | ⟨g', cap, cur, rfl, _, hh, _⟩
    · simp [Value.ownBlock] at hg
    · simp only [Value.ownBlock, Option.some.injEq] at hg
      subst hg
      rw [h.blk] at hh
      injection hh with hh
      injection hh with _ ht
      revert ht
      decide
  · exact own_kept h.rowR (fun g hg => hk g (fun e => h.offR (by rw [hg, e])))
theorem put_end {w wr : World} {b bx : Nat} {s : St} {vL vR v : Value} {l : List It} {Q : World → Prop} (h : At wr b s vL vR) (ho : OwnI wr (bx + 1) v l) (hB : Below w.heap.size w wr) (hbx : w.heap.size ≤ bx + 1) :
    ∃ vL', At (wr.setCell ⟨b, 0, none⟩ v) b { s with L := l } vL' vR ∧ (∀ g, vL'.ownBlock = some g → w.heap.size ≤ g) ∧ Chg (· = b) w (wr.setCell ⟨b, 0, none⟩ v) := by
  refine ⟨v, h.relist (ho.base (Nat.zero_le _)) ?_ (fun i hi => set_other _ hi), fun g hg => Nat.le_trans hbx (ho.lt g hg).1, (Chg.of_below hB).then (chg_set _)⟩
  rw [set_block h.blk _]
  rfl
set_option maxRecDepth 100000 in
set_option maxHeartbeats 4000000 in
theorem rPut_any (b : Nat) (s : St) (vL vR : Value) (x : It) (w : World) (h : At w b s vL vR) (hn : s.L.length ≤ 1000000000) :
    Calls Tryz.prog 72 #[.pointer (some ⟨b, 0, none⟩), iv x] w fun e w' => (∃ v, e = .returned v) ∧ ∃ vL', At w' b { s with L := ins s.L x } vL' vR ∧ (∀ g, vL'.ownBlock = some g → w.heap.size ≤ g) ∧ Chg (· = b) w w' := by
  obtain ⟨i0, hi, hz0, hz1, hz2⟩ := info_parts infoI
  obtain ⟨A, c, rfl, _, _, _⟩ := h.rowL.form
  have hbl := h.lt b (.inl rfl)
  obtain ⟨XP, XD, XX, XK, XL, XA, XS⟩ := x
  have hseen := fun W (hW : Below w.heap.size w W) => h.seen hW
  have HS := Lib.hid hseen
  have HA := Lib.hid h
  obtain ⟨n, hnn⟩ : ∃ n, n = s.L.length := ⟨_, rfl⟩
  have HN := Lib.hid hnn
  have hsn : ∀ W, Below w.heap.size w W → W.cell? ⟨b, 0, none⟩ = some (.slice A n c) := fun W hW => by rw [hnn]; exact (HS.out W hW).c0
  have HS0 := Lib.hid hsn
  unfold iv
  simp only
  obtain ⟨bx, hbx⟩ : ∃ bx, bx = w.heap.size := ⟨_, rfl⟩
  obtain ⟨w0, hw0⟩ : ∃ w0, w0 = w.alloc (.cells #[.string XP, .bool XD, .string XX, .string XK, .bool XL, .bool XA, .int .i64 XS] 76) := ⟨_, rfl⟩
  have hB0 : Below w.heap.size w w0 := by rw [hw0]; exact (Below.refl _ _).alloc (Nat.le_refl _) _
  have hz : w0.heap.size = bx + 1 := by rw [hw0, hbx]; simp
  have hx0 : ∀ W, Below w0.heap.size w0 W → W.cell? ⟨bx, 0, none⟩ = some (.string XP) := fun W hW => by
    rw [hW.cell (p := ⟨bx, 0, none⟩) (by rw [hz]; exact Nat.lt_succ_self _), hw0, hbx]
    simp
  have HX := Lib.hid hx0
  have hx7 : ∀ W, Below w0.heap.size w0 W → W.cell? ⟨bx, 0, none⟩ = some (.string XP) ∧ W.cell? ⟨bx, 1, none⟩ = some (.bool XD) ∧ W.cell? ⟨bx, 2, none⟩ = some (.string XX) ∧ W.cell? ⟨bx, 3, none⟩ = some (.string XK) ∧ W.cell? ⟨bx, 4, none⟩ = some (.bool XL) ∧ W.cell? ⟨bx, 5, none⟩ = some (.bool XA) ∧ W.cell? ⟨bx, 6, none⟩ = some (.int .i64 XS) := fun W hW => by
    have hlt : bx < w0.heap.size := by rw [hz]; exact Nat.lt_succ_self _
    refine ⟨(hW.cell (p := ⟨bx, _, none⟩) hlt).trans ?_, (hW.cell (p := ⟨bx, _, none⟩) hlt).trans ?_, (hW.cell (p := ⟨bx, _, none⟩) hlt).trans ?_, (hW.cell (p := ⟨bx, _, none⟩) hlt).trans ?_, (hW.cell (p := ⟨bx, _, none⟩) hlt).trans ?_, (hW.cell (p := ⟨bx, _, none⟩) hlt).trans ?_, (hW.cell (p := ⟨bx, _, none⟩) hlt).trans ?_⟩ <;> (rw [hw0, hbx]; simp)
  have HX7 := Lib.hid hx7
  clear h hseen hsn hx0 hx7
  go_enter Tryz.func72, Tryz.ntmps72
  go_upto_block 0 with fail
  rw [← hw0, ← hbx]
  have HBX := Lib.hid hbx
  have HZ := Lib.hid hz
  clear hw0 hbx hz
  go_cut [4, 5] from 6 to 86 (fun v i wq => ∃ k : Nat, k ≤ n ∧ i = .int .i64 k ∧ Hid ((∀ y ∈ s.L.take k, Op.bytesLess y.path.toList XP.toList = true) ∧ (∀ y, s.L[k]? = some y → Op.bytesLess y.path.toList XP.toList = false)) ∧ OwnI wq (bx + 1) v (s.L.take k) ∧ Below w0.heap.size w0 wq)
  case first =>
    go_wp2_with fail
    go_loopw [4, 5] (fun v i wr => ∃ k : Nat, k ≤ n ∧ i = .int .i64 k ∧ Hid (∀ y ∈ s.L.take k, Op.bytesLess y.path.toList XP.toList = true) ∧ OwnI wr (bx + 1) v (s.L.take k) ∧ Below w0.heap.size w0 wr) (fun _ i _ => n - (intOf i).toNat)
    case atStart => exact ⟨0, Nat.zero_le _, rfl, (fun y hy => by simp at hy), World.ownsRow_nil _ _ _ _, Below.refl _ _⟩
    case round =>
      obtain ⟨k, hk, rfl, hall, hown, hB⟩ := hrel
      have hBw := hB0.trans (hB.mono hB0.size)
      have e0 := HS0.out _ hBw
      by_cases hlt : k < n
      · obtain ⟨y, hy⟩ : ∃ y, s.L[k]? = some y := ⟨_, List.getElem?_eq_getElem (by rw [← HN.out]; exact hlt)⟩
        obtain ⟨g, rfl, d0, d1, d2, d3, d4, d5, d6⟩ := (HS.out _ hBw).it k y hy
        have ex := HX.out _ hB
        have htk := take_more hy
        have hlen : (s.L.take k).length = k := by rw [List.length_take, ← HN.out]; omega
        obtain ⟨YP, YD, YX, YK, YL, YA, YS⟩ := y
        simp only at d0 d1 d2 d3 d4 d5 d6
        cases hless : Op.bytesLess YP.toList XP.toList with
        | true =>
          have hall2 : Hid (∀ z ∈ s.L.take (k + 1), Op.bytesLess z.path.toList XP.toList = true) := by
            intro z hz
            rw [htk, List.mem_append, List.mem_singleton] at hz
            rcases hz with hz | rfl
            · exact hall.out z hz
            · exact hless
          have HTK := Lib.hid htk
          have HLEN := Lib.hid hlen
          have HY := Lib.hid hy
          clear htk hlen hall hy
          go_wp2_with fail
          refine Rg.wp_only ?_ (putReg3_2 _ (by kernel_rfl) _ (some ⟨g, 0, none⟩) b bx g n c k YP XP _ ⟨e0, d0, ex⟩ hlt (by omega) hless)
          rintro _ w9 ⟨rfl, hw9⟩
          have hB9 : Below w0.heap.size w0 w9 := by rw [hw9]; exact hB.drew
          have hown9 := hown.drew
          rw [← hw9] at hown9
          have hBw9 := hB0.trans (hB9.mono hB0.size)
          have f0 := HS0.out _ hBw9
          obtain ⟨g', hg', q0, q1, q2, q3, q4, q5, q6⟩ := (HS.out _ hBw9).it k _ HY.out
          injection hg' with hg'
          injection hg' with hg'
          subst hg'
          simp only at q0 q1 q2 q3 q4 q5 q6
          clear hw9 hown hB hBw d0 d1 d2 d3 d4 d5 d6 e0 ex hless
          have hown := hown9
          unfold OwnI at hown
          rw [HLEN.out] at hown
          clear hown9
          have hs9 := hB9.size
          rw [HZ.out] at hs9
          go_wp2_with (at_builtin; refine wpList_append_own _ rfl _ _ 65 rfl (bx + 1) 76 i0 (.agg #[.string ⟨#[]⟩, .bool false, .string ⟨#[]⟩, .string ⟨#[]⟩, .bool false, .bool false, .int .i64 0]) 7 72 Tryz.underlying65 hi hz0 hz1 hz2 rfl (by decide) _ _ _ rfl (hown.alloc _) ⟨w9.heap.size, 0, none⟩ 1 1 [.string YP, .bool YD, .string YX, .string YK, .bool YL, .bool YA, .int .i64 YS] rfl rfl ?c1_1 ?c2_1 ?c3_1 ?c4_1 ?c5_1 ?_)
          try (case c1_1 => exact cell_seven_new _ _ _ _ _ _ _ _ _)
          case c2_1 => first | exact cells_one ⟨YP, YD, YX, YK, YL, YA, YS⟩ | exact ⟨rfl, rfl, rfl, rfl, rfl, rfl, rfl⟩
          case c3_1 => unfold maxLen; omega
          case c4_1 => omega
          case c5_1 => first | (simp; omega) | omega
          intro v' w2 hown' hgrow _
          have hB3 := below_at2 hB9 hown (by rw [HZ.out]; exact Nat.le_refl _) hgrow
          have ho2 : OwnI w2 (bx + 1) v' (s.L.take (k + 1)) := by
            rw [HTK.out]
            exact OwnI.more (x := ⟨YP, YD, YX, YK, YL, YA, YS⟩) hown' HLEN.out.symm
          clear hs9 hown hown' hgrow hB9 hBw9 f0 q0 q1 q2 q3 q4 q5 q6
          go_wp2_with fail
          go_roundw
          case rel => exact ⟨k + 1, by omega, by go_num, hall2, ho2, hB3⟩
          case measure => simp [intOf]; omega
        | false =>
          have hstop : Hid ((∀ y ∈ s.L.take k, Op.bytesLess y.path.toList XP.toList = true) ∧ (∀ y, s.L[k]? = some y → Op.bytesLess y.path.toList XP.toList = false)) :=
            ⟨hall.out, fun z hz => by rw [hy] at hz; injection hz with hz; rw [← hz]; exact hless⟩
          clear htk hlen hall hy
          go_wp2_with fail
          refine Rg.wp_only ?_ (putReg3_3 _ (by kernel_rfl) _ (some ⟨g, 0, none⟩) b bx g n c k YP XP _ ⟨e0, d0, ex⟩ hlt (by omega) hless)
          rintro _ w9 ⟨rfl, rfl⟩
          go_wp2_with fail
          go_meet
          exact ⟨k, by omega, rfl, hstop, hown.drew, hB.drew⟩
      · obtain rfl : k = n := by omega
        have hstop : Hid ((∀ y ∈ s.L.take k, Op.bytesLess y.path.toList XP.toList = true) ∧ (∀ y, s.L[k]? = some y → Op.bytesLess y.path.toList XP.toList = false)) :=
          ⟨hall.out, fun z hz => by rw [List.getElem?_eq_none (by rw [← HN.out]; exact Nat.le_refl _)] at hz; cases hz⟩
        clear hall
        go_wp2_with fail
        refine Rg.wp_only ?_ (putReg3_1 _ (by kernel_rfl) _ A b bx 0 k c k ⟨#[]⟩ XP _ e0 (by omega) (by omega))
        rintro _ w9 ⟨rfl, rfl⟩
        go_wp2_with fail
        go_meet
        exact ⟨k, by omega, rfl, hstop, hown.drew, hB.drew⟩
  case rest =>
    obtain ⟨k, hk, rfl, hstop, hown, hB⟩ := hcut
    have hBw := hB0.trans (hB.mono hB0.size)
    have e0 := HS0.out _ hBw
    have ex := HX.out _ hB
    have hlen : (s.L.take k).length = k := by rw [List.length_take, ← HN.out]; omega
    obtain ⟨T, hT⟩ : ∃ T, T = s.L.take k ++ [(⟨XP, XD, XX, XK, XL, XA, XS⟩ : It)] := ⟨_, rfl⟩
    have HT := Lib.hid hT
    have HTL := Lib.hid (show T.length = k + 1 by rw [hT, List.length_append, hlen]; rfl)
    have hins := ins_at (l := s.L) (x := ⟨XP, XD, XX, XK, XL, XA, XS⟩) (k := k) (by rw [← HN.out]; exact hk) hstop.out.1 hstop.out.2
    clear hT
    by_cases hlt : k < n
    · obtain ⟨y, hy⟩ : ∃ y, s.L[k]? = some y := ⟨_, List.getElem?_eq_getElem (by rw [← HN.out]; exact hlt)⟩
      obtain ⟨g, rfl, d0, _⟩ := (HS.out _ hBw).it k y hy
      rw [hy] at hins
      simp only at hins
      obtain ⟨YP, hYP⟩ : ∃ YP, YP = y.path := ⟨_, rfl⟩
      rw [← hYP] at d0 hins
      by_cases hpp : YP = XP
      · rw [if_pos hpp] at hins
        have HI := Lib.hid (show ins s.L ⟨XP, XD, XX, XK, XL, XA, XS⟩ = T ++ s.L.drop (k + 1) by rw [hins, HT.out, List.append_assoc]; rfl)
        have htest : (YP.toList == XP.toList) = true := by rw [hpp]; exact beq_self_eq_true _
        clear hins hy hYP hpp hstop
        go_wp2_with fail
        refine Rg.wp_only ?_ (putReg6_2 _ (by kernel_rfl) _ (some ⟨g, 0, none⟩) b bx g n c k YP XP _ ⟨e0, d0, ex⟩ hlt (by omega) htest)
        rintro _ w8 ⟨rfl, rfl⟩
        clear e0 ex d0 htest hBw
        have hBc9 : Below w0.heap.size w0 wc.drew := hB.drew
        have hown9 := hown.drew
        obtain ⟨w9, hw9⟩ : ∃ w9, w9 = wc.drew := ⟨_, rfl⟩
        rw [← hw9] at hBc9 hown9
        rw [← hw9]
        clear hw9 hown hB
        obtain ⟨e0, e1, e2, e3, e4, e5, e6⟩ := HX7.out _ hBc9
        have hown := hown9
        unfold OwnI at hown
        rw [hlen] at hown
        clear hown9
        have hs9 := hBc9.size
        rw [HZ.out] at hs9
        go_wp2_with (at_builtin; refine wpList_append_own _ rfl _ _ 65 rfl (bx + 1) 76 i0 (.agg #[.string ⟨#[]⟩, .bool false, .string ⟨#[]⟩, .string ⟨#[]⟩, .bool false, .bool false, .int .i64 0]) 7 72 Tryz.underlying65 hi hz0 hz1 hz2 rfl (by decide) _ _ _ rfl (hown.alloc _) ⟨w9.heap.size, 0, none⟩ 1 1 [.string XP, .bool XD, .string XX, .string XK, .bool XL, .bool XA, .int .i64 XS] rfl rfl ?c1_2 ?c2_2 ?c3_2 ?c4_2 ?c5_2 ?_)
        try (case c1_2 => exact cell_seven_new _ _ _ _ _ _ _ _ _)
        case c2_2 => first | exact cells_one ⟨XP, XD, XX, XK, XL, XA, XS⟩ | exact ⟨rfl, rfl, rfl, rfl, rfl, rfl, rfl⟩
        case c3_2 => unfold maxLen; omega
        case c4_2 => omega
        case c5_2 => first | (simp; omega) | omega
        intro v' w2 hown' hgrow _
        have hB2 := below_at2 hBc9 hown (by rw [HZ.out]; exact Nat.le_refl _) hgrow
        have ho2 : OwnI w2 (bx + 1) v' (T ++ (s.L.drop (k + 1)).take 0) := by
          rw [List.take_zero, List.append_nil, HT.out]
          exact OwnI.more (x := ⟨XP, XD, XX, XK, XL, XA, XS⟩) hown' hlen.symm
        clear hs9 hown hown' hgrow hBc9 e0 e1 e2 e3 e4 e5 e6 hlen
        go_wp2_with fail
        go_loopw [4, 5] (fun v i wr => ∃ j : Nat, (k + 1) + j ≤ n ∧ i = .int .i64 (((k + 1) + j : Nat) : Int) ∧ OwnI wr (bx + 1) v (T ++ (s.L.drop (k + 1)).take j) ∧ Below w0.heap.size w0 wr) (fun _ i _ => n - (intOf i).toNat)
        case atStart => exact ⟨0, by omega, by first | rfl | go_num, ho2, hB2⟩
        case round =>
          obtain ⟨j, hj, rfl, hownj, hBj⟩ := hrel
          have hBwj := hB0.trans (hBj.mono hB0.size)
          have f0 := HS0.out _ hBwj
          have fw : ∀ q, wr.frozen? ⟨b, q, none⟩ = false := (HA.out.below hBwj).warm
          by_cases hlt : (k + 1) + j < n
          · obtain ⟨y, hy⟩ : ∃ y, s.L[(k + 1) + j]? = some y := ⟨_, List.getElem?_eq_getElem (by rw [← HN.out]; exact hlt)⟩
            obtain ⟨g2, hg2, d0, d1, d2, d3, d4, d5, d6⟩ := (HS.out _ hBwj).it _ y hy
            cases hg2
            have htk : (s.L.drop (k + 1)).take (j + 1) = (s.L.drop (k + 1)).take j ++ [y] := take_more (by rw [List.getElem?_drop]; exact hy)
            have hlj : (T ++ (s.L.drop (k + 1)).take j).length = k + 1 + j := by rw [List.length_append, HTL.out, List.length_take, List.length_drop, ← HN.out]; omega
            obtain ⟨YP, YD, YX, YK, YL, YA, YS⟩ := y
            simp only at d0 d1 d2 d3 d4 d5 d6
            obtain ⟨K, hK⟩ : ∃ K, K = (k + 1) + j := ⟨_, rfl⟩
            rw [← hK] at d0 d1 d2 d3 d4 d5 d6 hlt hj
            rw [← hK]
            have HK := Lib.hid hK
            have HTK := Lib.hid htk
            obtain ⟨LJ, hLJ⟩ : ∃ LJ, LJ = T ++ (s.L.drop (k + 1)).take j := ⟨_, rfl⟩
            rw [← hLJ] at hownj hlj
            unfold OwnI at hownj
            rw [hlj] at hownj
            have HLE := Lib.hid hlj
            have HLJJ := Lib.hid hLJ
            have hkj : k + 1 + j ≤ 1000000001 := by omega
            clear hLJ
            clear hy htk hK hlj
            have hs9 := hBj.size
            rw [HZ.out] at hs9
            go_wp2_with (at_builtin; refine wpList_append_own _ rfl _ _ 65 rfl (bx + 1) 76 i0 (.agg #[.string ⟨#[]⟩, .bool false, .string ⟨#[]⟩, .string ⟨#[]⟩, .bool false, .bool false, .int .i64 0]) 7 72 Tryz.underlying65 hi hz0 hz1 hz2 rfl (by decide) _ _ _ rfl (hownj.alloc _) ⟨wr.heap.size, 0, none⟩ 1 1 [.string YP, .bool YD, .string YX, .string YK, .bool YL, .bool YA, .int .i64 YS] rfl rfl ?c1_3 ?c2_3 ?c3_3 ?c4_3 ?c5_3 ?_)
            try (case c1_3 => exact cell_seven_new _ _ _ _ _ _ _ _ _)
            case c2_3 => first | exact cells_one ⟨YP, YD, YX, YK, YL, YA, YS⟩ | exact ⟨rfl, rfl, rfl, rfl, rfl, rfl, rfl⟩
            case c3_3 => unfold maxLen; omega
            case c4_3 => have := HK.out; omega
            case c5_3 => first | (simp; omega) | omega
            intro v2 w3 hown' hgrow _
            have hB3 := below_at2 hBj hownj (by rw [HZ.out]; exact Nat.le_refl _) hgrow
            have ho3 : OwnI w3 (bx + 1) v2 (T ++ (s.L.drop (k + 1)).take (j + 1)) := by
              rw [HTK.out, ← List.append_assoc, ← HLJJ.out]
              exact OwnI.more (x := ⟨YP, YD, YX, YK, YL, YA, YS⟩) hown' HLE.out.symm
            clear hs9 hkj hownj hown' hgrow hBj hBwj d0 d1 d2 d3 d4 d5 d6 f0 fw
            go_wp2_with fail
            go_roundw
            case rel => exact ⟨j + 1, by have := HK.out; omega, by rw [HK.out]; go_num, ho3, hB3⟩
            case measure => simp [intOf]; omega
          · have hj2 : (s.L.drop (k + 1)).take j = s.L.drop (k + 1) := List.take_of_length_le (by rw [List.length_drop, ← HN.out]; omega)
            rw [hj2, ← HI.out] at hownj
            obtain ⟨a9, c9, hv9, _, _, _⟩ := OwnI.form hownj
            subst hv9
            have hend := HA.out.below hBwj
            have HE := Lib.hid hend
            have HO := Lib.hid hownj
            have HBW := Lib.hid hBwj
            clear hj2 hownj hend
            go_wp2_with fail
            go_end0
            exact ⟨⟨_, rfl⟩, put_end (Q := fun _ => True) HE.out HO.out HBW.out (by rw [HBX.out]; exact Nat.le_succ _)⟩
      · rw [if_neg hpp] at hins
        have HI := Lib.hid (show ins s.L ⟨XP, XD, XX, XK, XL, XA, XS⟩ = T ++ s.L.drop (k) by rw [hins, HT.out, List.append_assoc]; rfl)
        have htest : (YP.toList == XP.toList) = false := bytes_ne hpp
        clear hins hy hYP hpp hstop
        go_wp2_with fail
        refine Rg.wp_only ?_ (putReg6_3 _ (by kernel_rfl) _ (some ⟨g, 0, none⟩) b bx g n c k YP XP _ ⟨e0, d0, ex⟩ hlt (by omega) htest)
        rintro _ w8 ⟨rfl, rfl⟩
        clear e0 ex d0 htest hBw
        have hBc9 : Below w0.heap.size w0 wc.drew := hB.drew
        have hown9 := hown.drew
        obtain ⟨w9, hw9⟩ : ∃ w9, w9 = wc.drew := ⟨_, rfl⟩
        rw [← hw9] at hBc9 hown9
        rw [← hw9]
        clear hw9 hown hB
        obtain ⟨e0, e1, e2, e3, e4, e5, e6⟩ := HX7.out _ hBc9
        have hown := hown9
        unfold OwnI at hown
        rw [hlen] at hown
        clear hown9
        have hs9 := hBc9.size
        rw [HZ.out] at hs9
        go_wp2_with (at_builtin; refine wpList_append_own _ rfl _ _ 65 rfl (bx + 1) 76 i0 (.agg #[.string ⟨#[]⟩, .bool false, .string ⟨#[]⟩, .string ⟨#[]⟩, .bool false, .bool false, .int .i64 0]) 7 72 Tryz.underlying65 hi hz0 hz1 hz2 rfl (by decide) _ _ _ rfl (hown.alloc _) ⟨w9.heap.size, 0, none⟩ 1 1 [.string XP, .bool XD, .string XX, .string XK, .bool XL, .bool XA, .int .i64 XS] rfl rfl ?c1_4 ?c2_4 ?c3_4 ?c4_4 ?c5_4 ?_)
        try (case c1_4 => exact cell_seven_new _ _ _ _ _ _ _ _ _)
        case c2_4 => first | exact cells_one ⟨XP, XD, XX, XK, XL, XA, XS⟩ | exact ⟨rfl, rfl, rfl, rfl, rfl, rfl, rfl⟩
        case c3_4 => unfold maxLen; omega
        case c4_4 => omega
        case c5_4 => first | (simp; omega) | omega
        intro v' w2 hown' hgrow _
        have hB2 := below_at2 hBc9 hown (by rw [HZ.out]; exact Nat.le_refl _) hgrow
        have ho2 : OwnI w2 (bx + 1) v' (T ++ (s.L.drop (k)).take 0) := by
          rw [List.take_zero, List.append_nil, HT.out]
          exact OwnI.more (x := ⟨XP, XD, XX, XK, XL, XA, XS⟩) hown' hlen.symm
        clear hs9 hown hown' hgrow hBc9 e0 e1 e2 e3 e4 e5 e6 hlen
        go_wp2_with fail
        go_loopw [4, 5] (fun v i wr => ∃ j : Nat, (k) + j ≤ n ∧ i = .int .i64 (((k) + j : Nat) : Int) ∧ OwnI wr (bx + 1) v (T ++ (s.L.drop (k)).take j) ∧ Below w0.heap.size w0 wr) (fun _ i _ => n - (intOf i).toNat)
        case atStart => exact ⟨0, by omega, by first | rfl | go_num, ho2, hB2⟩
        case round =>
          obtain ⟨j, hj, rfl, hownj, hBj⟩ := hrel
          have hBwj := hB0.trans (hBj.mono hB0.size)
          have f0 := HS0.out _ hBwj
          have fw : ∀ q, wr.frozen? ⟨b, q, none⟩ = false := (HA.out.below hBwj).warm
          by_cases hlt : (k) + j < n
          · obtain ⟨y, hy⟩ : ∃ y, s.L[(k) + j]? = some y := ⟨_, List.getElem?_eq_getElem (by rw [← HN.out]; exact hlt)⟩
            obtain ⟨g2, hg2, d0, d1, d2, d3, d4, d5, d6⟩ := (HS.out _ hBwj).it _ y hy
            cases hg2
            have htk : (s.L.drop (k)).take (j + 1) = (s.L.drop (k)).take j ++ [y] := take_more (by rw [List.getElem?_drop]; exact hy)
            have hlj : (T ++ (s.L.drop (k)).take j).length = k + 1 + j := by rw [List.length_append, HTL.out, List.length_take, List.length_drop, ← HN.out]; omega
            obtain ⟨YP, YD, YX, YK, YL, YA, YS⟩ := y
            simp only at d0 d1 d2 d3 d4 d5 d6
            obtain ⟨K, hK⟩ : ∃ K, K = (k) + j := ⟨_, rfl⟩
            rw [← hK] at d0 d1 d2 d3 d4 d5 d6 hlt hj
            rw [← hK]
            have HK := Lib.hid hK
            have HTK := Lib.hid htk
            obtain ⟨LJ, hLJ⟩ : ∃ LJ, LJ = T ++ (s.L.drop (k)).take j := ⟨_, rfl⟩
            rw [← hLJ] at hownj hlj
            unfold OwnI at hownj
            rw [hlj] at hownj
            have HLE := Lib.hid hlj
            have HLJJ := Lib.hid hLJ
            have hkj : k + 1 + j ≤ 1000000001 := by omega
            clear hLJ
            clear hy htk hK hlj
            have hs9 := hBj.size
            rw [HZ.out] at hs9
            go_wp2_with (at_builtin; refine wpList_append_own _ rfl _ _ 65 rfl (bx + 1) 76 i0 (.agg #[.string ⟨#[]⟩, .bool false, .string ⟨#[]⟩, .string ⟨#[]⟩, .bool false, .bool false, .int .i64 0]) 7 72 Tryz.underlying65 hi hz0 hz1 hz2 rfl (by decide) _ _ _ rfl (hownj.alloc _) ⟨wr.heap.size, 0, none⟩ 1 1 [.string YP, .bool YD, .string YX, .string YK, .bool YL, .bool YA, .int .i64 YS] rfl rfl ?c1_5 ?c2_5 ?c3_5 ?c4_5 ?c5_5 ?_)
            try (case c1_5 => exact cell_seven_new _ _ _ _ _ _ _ _ _)
            case c2_5 => first | exact cells_one ⟨YP, YD, YX, YK, YL, YA, YS⟩ | exact ⟨rfl, rfl, rfl, rfl, rfl, rfl, rfl⟩
            case c3_5 => unfold maxLen; omega
            case c4_5 => have := HK.out; omega
            case c5_5 => first | (simp; omega) | omega
            intro v2 w3 hown' hgrow _
            have hB3 := below_at2 hBj hownj (by rw [HZ.out]; exact Nat.le_refl _) hgrow
            have ho3 : OwnI w3 (bx + 1) v2 (T ++ (s.L.drop (k)).take (j + 1)) := by
              rw [HTK.out, ← List.append_assoc, ← HLJJ.out]
              exact OwnI.more (x := ⟨YP, YD, YX, YK, YL, YA, YS⟩) hown' HLE.out.symm
            clear hs9 hkj hownj hown' hgrow hBj hBwj d0 d1 d2 d3 d4 d5 d6 f0 fw
            go_wp2_with fail
            go_roundw
            case rel => exact ⟨j + 1, by have := HK.out; omega, by rw [HK.out]; go_num, ho3, hB3⟩
            case measure => simp [intOf]; omega
          · have hj2 : (s.L.drop (k)).take j = s.L.drop (k) := List.take_of_length_le (by rw [List.length_drop, ← HN.out]; omega)
            rw [hj2, ← HI.out] at hownj
            obtain ⟨a9, c9, hv9, _, _, _⟩ := OwnI.form hownj
            subst hv9
            have hend := HA.out.below hBwj
            have HE := Lib.hid hend
            have HO := Lib.hid hownj
            have HBW := Lib.hid hBwj
            clear hj2 hownj hend
            go_wp2_with fail
            go_end0
            exact ⟨⟨_, rfl⟩, put_end (Q := fun _ => True) HE.out HO.out HBW.out (by rw [HBX.out]; exact Nat.le_succ _)⟩
    · rw [List.getElem?_eq_none (by rw [← HN.out]; omega)] at hins
      simp only at hins
      have HI := Lib.hid (show ins s.L ⟨XP, XD, XX, XK, XL, XA, XS⟩ = T ++ s.L.drop (k) by rw [hins, HT.out, List.append_assoc, List.drop_of_length_le (by rw [← HN.out]; omega)]; rfl)
      clear hins hstop
      go_wp2_with fail
      refine Rg.wp_only ?_ (putReg6_1 _ (by kernel_rfl) _ A b bx 0 n c k ⟨#[]⟩ XP _ e0 hlt (by omega))
      rintro _ w8 ⟨rfl, rfl⟩
      clear e0 ex hBw
      have hBc9 : Below w0.heap.size w0 wc.drew := hB.drew
      have hown9 := hown.drew
      obtain ⟨w9, hw9⟩ : ∃ w9, w9 = wc.drew := ⟨_, rfl⟩
      rw [← hw9] at hBc9 hown9
      rw [← hw9]
      clear hw9 hown hB
      obtain ⟨e0, e1, e2, e3, e4, e5, e6⟩ := HX7.out _ hBc9
      have hown := hown9
      unfold OwnI at hown
      rw [hlen] at hown
      clear hown9
      have hs9 := hBc9.size
      rw [HZ.out] at hs9
      go_wp2_with (at_builtin; refine wpList_append_own _ rfl _ _ 65 rfl (bx + 1) 76 i0 (.agg #[.string ⟨#[]⟩, .bool false, .string ⟨#[]⟩, .string ⟨#[]⟩, .bool false, .bool false, .int .i64 0]) 7 72 Tryz.underlying65 hi hz0 hz1 hz2 rfl (by decide) _ _ _ rfl (hown.alloc _) ⟨w9.heap.size, 0, none⟩ 1 1 [.string XP, .bool XD, .string XX, .string XK, .bool XL, .bool XA, .int .i64 XS] rfl rfl ?c1_6 ?c2_6 ?c3_6 ?c4_6 ?c5_6 ?_)
      try (case c1_6 => exact cell_seven_new _ _ _ _ _ _ _ _ _)
      case c2_6 => first | exact cells_one ⟨XP, XD, XX, XK, XL, XA, XS⟩ | exact ⟨rfl, rfl, rfl, rfl, rfl, rfl, rfl⟩
      case c3_6 => unfold maxLen; omega
      case c4_6 => omega
      case c5_6 => first | (simp; omega) | omega
      intro v' w2 hown' hgrow _
      have hB2 := below_at2 hBc9 hown (by rw [HZ.out]; exact Nat.le_refl _) hgrow
      have ho2 : OwnI w2 (bx + 1) v' (T ++ (s.L.drop (k)).take 0) := by
        rw [List.take_zero, List.append_nil, HT.out]
        exact OwnI.more (x := ⟨XP, XD, XX, XK, XL, XA, XS⟩) hown' hlen.symm
      clear hs9 hown hown' hgrow hBc9 e0 e1 e2 e3 e4 e5 e6 hlen
      go_wp2_with fail
      go_loopw [4, 5] (fun v i wr => ∃ j : Nat, (k) + j ≤ n ∧ i = .int .i64 (((k) + j : Nat) : Int) ∧ OwnI wr (bx + 1) v (T ++ (s.L.drop (k)).take j) ∧ Below w0.heap.size w0 wr) (fun _ i _ => n - (intOf i).toNat)
      case atStart => exact ⟨0, by omega, by first | rfl | go_num, ho2, hB2⟩
      case round =>
        obtain ⟨j, hj, rfl, hownj, hBj⟩ := hrel
        have hBwj := hB0.trans (hBj.mono hB0.size)
        have f0 := HS0.out _ hBwj
        have fw : ∀ q, wr.frozen? ⟨b, q, none⟩ = false := (HA.out.below hBwj).warm
        by_cases hlt : (k) + j < n
        · obtain ⟨y, hy⟩ : ∃ y, s.L[(k) + j]? = some y := ⟨_, List.getElem?_eq_getElem (by rw [← HN.out]; exact hlt)⟩
          obtain ⟨g2, hg2, d0, d1, d2, d3, d4, d5, d6⟩ := (HS.out _ hBwj).it _ y hy
          cases hg2
          have htk : (s.L.drop (k)).take (j + 1) = (s.L.drop (k)).take j ++ [y] := take_more (by rw [List.getElem?_drop]; exact hy)
          have hlj : (T ++ (s.L.drop (k)).take j).length = k + 1 + j := by rw [List.length_append, HTL.out, List.length_take, List.length_drop, ← HN.out]; omega
          obtain ⟨YP, YD, YX, YK, YL, YA, YS⟩ := y
          simp only at d0 d1 d2 d3 d4 d5 d6
          obtain ⟨K, hK⟩ : ∃ K, K = (k) + j := ⟨_, rfl⟩
          rw [← hK] at d0 d1 d2 d3 d4 d5 d6 hlt hj
          rw [← hK]
          have HK := Lib.hid hK
          have HTK := Lib.hid htk
          obtain ⟨LJ, hLJ⟩ : ∃ LJ, LJ = T ++ (s.L.drop (k)).take j := ⟨_, rfl⟩
          rw [← hLJ] at hownj hlj
          unfold OwnI at hownj
          rw [hlj] at hownj
          have HLE := Lib.hid hlj
          have HLJJ := Lib.hid hLJ
          have hkj : k + 1 + j ≤ 1000000001 := by omega
          clear hLJ
          clear hy htk hK hlj
          have hs9 := hBj.size
          rw [HZ.out] at hs9
          go_wp2_with (at_builtin; refine wpList_append_own _ rfl _ _ 65 rfl (bx + 1) 76 i0 (.agg #[.string ⟨#[]⟩, .bool false, .string ⟨#[]⟩, .string ⟨#[]⟩, .bool false, .bool false, .int .i64 0]) 7 72 Tryz.underlying65 hi hz0 hz1 hz2 rfl (by decide) _ _ _ rfl (hownj.alloc _) ⟨wr.heap.size, 0, none⟩ 1 1 [.string YP, .bool YD, .string YX, .string YK, .bool YL, .bool YA, .int .i64 YS] rfl rfl ?c1_7 ?c2_7 ?c3_7 ?c4_7 ?c5_7 ?_)
          try (case c1_7 => exact cell_seven_new _ _ _ _ _ _ _ _ _)
          case c2_7 => first | exact cells_one ⟨YP, YD, YX, YK, YL, YA, YS⟩ | exact ⟨rfl, rfl, rfl, rfl, rfl, rfl, rfl⟩
          case c3_7 => unfold maxLen; omega
          case c4_7 => have := HK.out; omega
          case c5_7 => first | (simp; omega) | omega
          intro v2 w3 hown' hgrow _
          have hB3 := below_at2 hBj hownj (by rw [HZ.out]; exact Nat.le_refl _) hgrow
          have ho3 : OwnI w3 (bx + 1) v2 (T ++ (s.L.drop (k)).take (j + 1)) := by
            rw [HTK.out, ← List.append_assoc, ← HLJJ.out]
            exact OwnI.more (x := ⟨YP, YD, YX, YK, YL, YA, YS⟩) hown' HLE.out.symm
          clear hs9 hkj hownj hown' hgrow hBj hBwj d0 d1 d2 d3 d4 d5 d6 f0 fw
          go_wp2_with fail
          go_roundw
          case rel => exact ⟨j + 1, by have := HK.out; omega, by rw [HK.out]; go_num, ho3, hB3⟩
          case measure => simp [intOf]; omega
        · have hj2 : (s.L.drop (k)).take j = s.L.drop (k) := List.take_of_length_le (by rw [List.length_drop, ← HN.out]; omega)
          rw [hj2, ← HI.out] at hownj
          obtain ⟨a9, c9, hv9, _, _, _⟩ := OwnI.form hownj
          subst hv9
          have hend := HA.out.below hBwj
          have HE := Lib.hid hend
          have HO := Lib.hid hownj
          have HBW := Lib.hid hBwj
          clear hj2 hownj hend
          go_wp2_with fail
          go_end0
          exact ⟨⟨_, rfl⟩, put_end (Q := fun _ => True) HE.out HO.out HBW.out (by rw [HBX.out]; exact Nat.le_succ _)⟩
end Go.Proofs.YtdpnmdnfnplcfaaGreat.Dk

namespace Go.Proofs.YtdpnmdnfnplcfaaGreat.Dk
open Go.RowKit Tx Pm
set_option linter.unusedVariables false
theorem own_toI {w : World} {B T : Nat} {v : Value} {l : List It} (h : w.ownsRow B 76 7 v T (l.flatMap cells)) (hl : l.length = T) : OwnI w B v l := by
  subst hl
  exact h
theorem own_toT {w : World} {B T : Nat} {v : Value} {l : List ByteArray} (h : w.ownsRow B 9 1 v T (l.map sv)) (hl : l.length = T) : Texts w B v l := by
  subst hl
  exact h
theorem flat_single (x : It) : [x].flatMap cells = cells x := List.append_nil _
theorem drop_take (l : List It) (p : ByteArray) (k : Nat) (y : It) (h : l[k]? = some y) : drop (l.take (k + 1)) p = drop (l.take k) p ++ (if y.path = p then [] else [y]) := by
  rw [take_more h, drop, List.filter_append]
  congr 1
  by_cases hp : y.path = p <;> simp [hp]
theorem put_end0 {w wr : World} {b : Nat} {s : St} {vL vR v : Value} {l : List It} (h : At wr b s vL vR) (ho : OwnI wr w.heap.size v l) (hB : Below w.heap.size w wr) :
    ∃ vL', At (wr.setCell ⟨b, 0, none⟩ v) b { s with L := l } vL' vR ∧ (∀ g, vL'.ownBlock = some g → w.heap.size ≤ g) ∧ Chg (· = b) w (wr.setCell ⟨b, 0, none⟩ v) := by
  refine ⟨v, h.relist (ho.base (Nat.zero_le _)) ?_ (fun i hi => set_other _ hi), fun g hg => (ho.lt g hg).1, (Chg.of_below hB).then (chg_set _)⟩
  rw [set_block h.blk _]
  rfl
set_option maxRecDepth 100000 in
set_option maxHeartbeats 2000000 in
theorem rDrop_any (b : Nat) (s : St) (vL vR : Value) (p : ByteArray) (w : World) (h : At w b s vL vR) (hn : s.L.length ≤ 1000000000) :
    Calls Tryz.prog 79 #[.pointer (some ⟨b, 0, none⟩), .string p] w fun e w' => (∃ v, e = .returned v) ∧ ∃ vL', At w' b { s with L := drop s.L p } vL' vR ∧ (∀ g, vL'.ownBlock = some g → w.heap.size ≤ g) ∧ Chg (· = b) w w' := by
  obtain ⟨i0, hi, hz0, hz1, hz2⟩ := info_parts infoI
  obtain ⟨A, c, rfl, _, _, _⟩ := h.rowL.form
  have HS := Lib.hid (fun W (hW : Below w.heap.size w W) => h.seen hW)
  have HA := Lib.hid h
  obtain ⟨n, hnn⟩ : ∃ n, n = s.L.length := ⟨_, rfl⟩
  have HN := Lib.hid hnn
  have hsn : ∀ W, Below w.heap.size w W → W.cell? ⟨b, 0, none⟩ = some (.slice A n c) := fun W hW => by rw [hnn]; exact (HS.out W hW).c0
  have HS0 := Lib.hid hsn
  rw [← hnn] at hn
  clear h hsn hnn
  go_enter Tryz.func79, Tryz.ntmps79
  go_wp2_with fail
  go_loopw [4, 5] (fun v i wr => ∃ k T : Nat, ∃ out : List It, k ≤ n ∧ i = .int .i64 k ∧ Hid (out = drop (s.L.take k) p) ∧ out.length = T ∧ T ≤ k ∧ wr.ownsRow w.heap.size 76 7 v T (out.flatMap cells) ∧ Below w.heap.size w wr) (fun _ i _ => n - (intOf i).toNat)
  case atStart => exact ⟨0, 0, [], Nat.zero_le _, rfl, rfl, rfl, Nat.le_refl _, World.ownsRow_nil _ _ _ _, Below.refl _ _⟩
  case round =>
    obtain ⟨k, T, out, hk, rfl, hout, hlen, hT, hown, hB⟩ := hrel
    have e0 := HS0.out _ hB
    have HLEN := Lib.hid hlen
    clear hlen
    by_cases hlt : k < n
    · obtain ⟨y, hy⟩ : ∃ y, s.L[k]? = some y := ⟨_, List.getElem?_eq_getElem (by rw [← HN.out]; exact hlt)⟩
      obtain ⟨g2, hg2, d0, d1, d2, d3, d4, d5, d6⟩ := (HS.out _ hB).it _ y hy
      cases hg2
      have hdt := drop_take s.L p k y hy
      rw [← hout.out] at hdt
      obtain ⟨YP, YD, YX, YK, YL, YA, YS⟩ := y
      simp only at d0 d1 d2 d3 d4 d5 d6 hdt
      by_cases hp : YP = p
      · rw [if_pos hp, List.append_nil] at hdt
        have HD := Lib.hid hdt
        have e1 : (YP.toList == p.toList) = true := by rw [hp]; exact beq_self_eq_true _
        clear hdt hp hy
        go_wp2_with fail
        go_roundw
        case rel => exact ⟨k + 1, T, out, by omega, by go_num, HD.out.symm, HLEN.out, by omega, hown, hB⟩
        case measure => simp [intOf]; omega
      · rw [if_neg hp] at hdt
        have HD := Lib.hid hdt
        have e1 : (YP.toList == p.toList) = false := bytes_ne hp
        have hs9 := hB.size
        clear hdt hp hy
        go_wp2_with (at_builtin; refine wpList_append_own _ rfl _ _ 65 rfl w.heap.size 76 i0 (.agg #[.string ⟨#[]⟩, .bool false, .string ⟨#[]⟩, .string ⟨#[]⟩, .bool false, .bool false, .int .i64 0]) 7 72 Tryz.underlying65 hi hz0 hz1 hz2 rfl (by decide) _ _ _ rfl (hown.alloc _) ⟨wr.heap.size, 0, none⟩ 1 1 [.string YP, .bool YD, .string YX, .string YK, .bool YL, .bool YA, .int .i64 YS] rfl rfl ?c1_1 ?c2_1 ?c3_1 ?c4_1 ?c5_1 ?_)
        try (case c1_1 => exact cell_seven_new _ _ _ _ _ _ _ _ _)
        case c2_1 => first | exact cells_one ⟨YP, YD, YX, YK, YL, YA, YS⟩ | exact ⟨rfl, rfl, rfl, rfl, rfl, rfl, rfl⟩
        case c3_1 => unfold maxLen; omega
        case c4_1 => omega
        case c5_1 => first | (simp; omega) | omega
        intro v' w2 hown' hgrow _
        have hB3 := below_at2 hB hown (Nat.le_refl _) hgrow
        have ho2 : w2.ownsRow w.heap.size 76 7 v' (T + 1) ((out ++ [(⟨YP, YD, YX, YK, YL, YA, YS⟩ : It)]).flatMap cells) := by
          rw [List.flatMap_append, flat_single]
          exact hown'
        have HO2 := Lib.hid ho2
        clear hs9 hown hown' hgrow hB d0 d1 d2 d3 d4 d5 d6 e0 ho2
        go_wp2_with fail
        go_roundw
        case rel => exact ⟨k + 1, T + 1, _, by omega, by go_num, HD.out.symm, by rw [List.length_append, HLEN.out]; rfl, by omega, HO2.out, hB3⟩
        case measure => simp [intOf]; omega
    · obtain rfl : k = n := by omega
      have ho := hout.out
      rw [List.take_of_length_le (by rw [← HN.out]; exact Nat.le_refl _)] at ho
      have hO := own_toI hown HLEN.out
      rw [ho] at hO
      obtain ⟨a9, c9, hv9, _, _, _⟩ := OwnI.form hO
      subst hv9
      have fw : ∀ q, wr.frozen? ⟨b, q, none⟩ = false := (HA.out.below hB).warm
      have HO := Lib.hid hO
      have HBW := Lib.hid hB
      clear hO ho hown hout
      go_wp2_with fail
      go_end0
      exact ⟨⟨_, rfl⟩, put_end0 (HA.out.below HBW.out) HO.out HBW.out⟩
theorem list_take (l : List It) (p : ByteArray) (k : Nat) (y : It) (h : l[k]? = some y) : list (l.take (k + 1)) p = list (l.take k) p ++ (if tb (par y.path.data.toList) = p then [y.path] else []) := by
  rw [take_more h, list, List.filter_append, List.map_append]
  congr 1
  by_cases hp : tb (par y.path.data.toList) = p <;> simp [hp]
def ListTo (l : List ByteArray) (w : World) (e : Ending) (w' : World) : Prop := ∃ v, e = .returned v ∧ Texts w' w.heap.size v l ∧ Below w.heap.size w w'
set_option maxRecDepth 100000 in
set_option maxHeartbeats 2000000 in
theorem rList_any (b : Nat) (s : St) (vL vR : Value) (p : ByteArray) (w : World) (h : At w b s vL vR) (hf : Fit s) :
    Calls Tryz.prog 78 #[.pointer (some ⟨b, 0, none⟩), .string p] w (ListTo (list s.L p) w) := by
  obtain ⟨i0, hi, hz0, hz1, hz2⟩ := info_parts info9
  obtain ⟨A, c, rfl, _, _, _⟩ := h.rowL.form
  have HS := Lib.hid (fun W (hW : Below w.heap.size w W) => h.seen hW)
  obtain ⟨hn, hps, _⟩ := hf
  have HP := Lib.hid hps
  obtain ⟨n, hnn⟩ : ∃ n, n = s.L.length := ⟨_, rfl⟩
  have HN := Lib.hid hnn
  have hsn : ∀ W, Below w.heap.size w W → W.cell? ⟨b, 0, none⟩ = some (.slice A n c) := fun W hW => by rw [hnn]; exact (HS.out W hW).c0
  have HS0 := Lib.hid hsn
  rw [← hnn] at hn
  clear h hsn hnn hps
  go_enter Tryz.func78, Tryz.ntmps78
  go_wp2_with fail
  go_loopw [5, 6] (fun v i wr => ∃ k T : Nat, ∃ out : List ByteArray, k ≤ n ∧ i = .int .i64 k ∧ Hid (out = list (s.L.take k) p) ∧ out.length = T ∧ T ≤ k ∧ wr.ownsRow w.heap.size 9 1 v T (out.map sv) ∧ Below w.heap.size w wr) (fun _ i _ => n - (intOf i).toNat)
  case atStart => exact ⟨0, 0, [], Nat.zero_le _, rfl, rfl, rfl, Nat.le_refl _, World.ownsRow_nil _ _ _ _, Below.refl _ _⟩
  case round =>
    obtain ⟨k, T, out, hk, rfl, hout, hlen, hT, hown, hB⟩ := hrel
    have e0 := HS0.out _ hB
    have HLEN := Lib.hid hlen
    clear hlen
    by_cases hlt : k < n
    · obtain ⟨y, hy⟩ : ∃ y, s.L[k]? = some y := ⟨_, List.getElem?_eq_getElem (by rw [← HN.out]; exact hlt)⟩
      obtain ⟨g2, hg2, d0, _⟩ := (HS.out _ hB).it _ y hy
      cases hg2
      have hdt := list_take s.L p k y hy
      rw [← hout.out] at hdt
      have cpar := Pr.refParent_any y.path wr (by have := HP.out y (List.mem_of_getElem? hy); omega)
      obtain ⟨YP, YD, YX, YK, YL, YA, YS⟩ := y
      simp only at d0 hdt cpar
      obtain ⟨Q, hQ⟩ : ∃ Q, Q = tb (par YP.data.toList) := ⟨_, rfl⟩
      rw [← hQ] at hdt cpar
      by_cases hp : Q = p
      · rw [if_pos hp] at hdt
        have HD := Lib.hid hdt
        have e1 : (Q.toList == p.toList) = true := by rw [hp]; exact beq_self_eq_true _
        have hs9 := hB.size
        clear hdt hp hy hQ
        go_wp2_with (first | (go_at_call 51; refine cpar.mono ?_; rintro e w1 ⟨rfl, rfl⟩) | (at_builtin; refine wpList_append_own _ rfl _ _ 58 rfl w.heap.size 9 i0 (.string ⟨#[]⟩) 1 16 Tryz.underlying58 hi hz0 hz1 hz2 rfl (by decide) _ _ _ rfl (hown.alloc _) ⟨wr.heap.size, 0, none⟩ 1 1 [sv YP] rfl rfl ?c1_2 ?c2_2 ?c3_2 ?c4_2 ?c5_2 ?_))
        case c1_2 => exact cell_one_new _ _ _
        case c2_2 => exact sv_one [YP]
        case c3_2 => unfold maxLen; omega
        case c4_2 => omega
        case c5_2 => first | (simp; omega) | omega
        intro v' w2 hown' hgrow _
        have hB3 := below_step hB hown hgrow
        have ho2 : w2.ownsRow w.heap.size 9 1 v' (T + 1) ((out ++ [YP]).map sv) := by
          rw [List.map_append]
          exact hown'
        have HO2 := Lib.hid ho2
        clear hs9 hown hown' hgrow hB d0 e0 ho2
        go_wp2_with fail
        go_roundw
        case rel => exact ⟨k + 1, T + 1, _, by omega, by go_num, HD.out.symm, by rw [List.length_append, HLEN.out]; rfl, by omega, HO2.out, hB3⟩
        case measure => simp [intOf]; omega
      · rw [if_neg hp, List.append_nil] at hdt
        have HD := Lib.hid hdt
        have e1 : (Q.toList == p.toList) = false := bytes_ne hp
        clear hdt hp hy hQ
        go_wp2_with (go_at_call 51; refine cpar.mono ?_; rintro e w1 ⟨rfl, rfl⟩)
        go_roundw
        case rel => exact ⟨k + 1, T, out, by omega, by go_num, HD.out.symm, HLEN.out, by omega, hown, hB⟩
        case measure => simp [intOf]; omega
    · obtain rfl : k = n := by omega
      have ho := hout.out
      rw [List.take_of_length_le (by rw [← HN.out]; exact Nat.le_refl _)] at ho
      have hO := own_toT hown HLEN.out
      rw [ho] at hO
      have HO := Lib.hid hO
      have HBW := Lib.hid hB
      clear hO ho hown hout
      go_wp2_with fail
      go_ret
      exact ⟨_, rfl, HO.out, HBW.out⟩
end Go.Proofs.YtdpnmdnfnplcfaaGreat.Dk

namespace Go.Proofs.YtdpnmdnfnplcfaaGreat.Dk
open Go.RowKit Tx Pm
set_option linter.unusedVariables false
def To (w : World) (b : Nat) (vL vR : Value) (r : Nat × St) (e : Ending) (w' : World) : Prop :=
  e = .returned (.int .i64 (r.1 : Nat)) ∧ ∃ vL' vR', At w' b r.2 vL' vR' ∧ Chg (Foot b vL vR) w w' ∧ ∀ g, Foot b vL' vR' g → Foot b vL vR g ∨ w.heap.size ≤ g
theorem to_same {w w' : World} {b : Nat} {vL vR : Value} {s : St} {e : Ending} {k : Nat} (h : At w b s vL vR) (he : e = .returned (.int .i64 (k : Nat))) (hb : Below w.heap.size w w') : To w b vL vR (k, s) e w' :=
  ⟨he, vL, vR, h.below hb, Chg.of_below hb, fun g hg => .inl hg⟩
theorem foot_b {b : Nat} {vL vR : Value} : ∀ i, i = b → Foot b vL vR i := fun i hi => .inl hi
def readS (s : St) (p : ByteArray) : ByteArray × Nat := if s.down then (⟨#[]⟩, 14) else match find s.L p with
  | none => (⟨#[]⟩, 11)
  | some x => if x.dir then (⟨#[]⟩, 12) else (x.data, 0)
def stampS (s : St) (p : ByteArray) : Nat := match find s.L p with
  | none => 0
  | some x => x.stamp
set_option maxRecDepth 100000 in
set_option maxHeartbeats 2000000 in
theorem rStamp_any (b : Nat) (s : St) (vL vR : Value) (p : ByteArray) (w : World) (h : At w b s vL vR) (hn : s.L.length ≤ 1000000000) :
    Calls Tryz.prog 49 #[.pointer (some ⟨b, 0, none⟩), .string p] w fun e w' => e = .returned (.int .i64 (stampS s p : Nat)) ∧ Below w.heap.size w w' := by
  have ck := rKind_any b s vL vR p w h (by omega)
  have hB : Below w.heap.size w w.drew := (Below.refl _ _).drew
  have cp := rPlace_any b s vL vR p w.drew (h.below hB) (by omega)
  obtain ⟨a, c, rfl, hI, _, _⟩ := h.rowL.form
  obtain ⟨c0, c1, c2, c3, c4, c5⟩ := h.cell
  unfold stampS
  rcases find_cases s.L p with ⟨hf, hp⟩ | ⟨k, x, hk, hx, hf, hp, _⟩
  · rw [kind, hf] at ck
    rw [hf]
    clear cp hI hf hp h
    go_enter Tryz.func49, Tryz.ntmps49
    go_wp2_with (go_at_call 41; refine ck.mono ?_; rintro e w' ⟨rfl, rfl⟩)
    go_ret
    exact ⟨rfl, Below.refl _ _⟩
  · rw [hp] at cp
    rw [kind, hf, kindOf] at ck
    rw [hf]
    obtain ⟨n, hnn⟩ : ∃ n, n = s.L.length := ⟨_, rfl⟩
    rw [← hnn] at hI c0 hn hk
    obtain ⟨g, rfl, hg, hc⟩ := hI.2.resolve_left (by omega)
    obtain ⟨d0, d1, d2, d3, d4, d5, d6⟩ := hc k x hx
    simp only
    obtain ⟨XD, hXD⟩ : ∃ XD, XD = x.dir := ⟨_, rfl⟩
    obtain ⟨XS, hXS⟩ : ∃ XS, XS = x.stamp := ⟨_, rfl⟩
    rw [← hXD] at ck
    rw [← hXS] at d6 ⊢
    clear hI hf hp h hc hx hnn hXD hXS d0 d1 d2 d3 d4 d5
    have d6' : w.drew.cell? ⟨g, k * 7 + 6, none⟩ = some (.int .i64 XS) := d6
    have c0' : w.drew.cell? ⟨b, 0, none⟩ = _ := c0
    cases XD
    all_goals
      go_enter Tryz.func49, Tryz.ntmps49
      go_wp2_with (go_at_call 41; refine ck.mono ?_; rintro e w' ⟨rfl, rfl⟩)
      go_region_with (go_at_call 73; refine cp.mono ?_; rintro e w' ⟨rfl, rfl⟩)
      all_goals
        go_wp2_with fail
        go_ret
        exact ⟨rfl, hB⟩
structure Ok (s : St) : Prop where
  fit : Fit s
  rooms : s.rooms.length ≤ 1000000000
  steps : s.steps ≤ 1000000000000
  stamps : s.stamps ≤ 1000000000000
  armed : -1000000000000000000 ≤ s.armed ∧ s.armed ≤ 9223372036854775807
theorem done_L (s : St) : (done s).2.L = s.L := by unfold done; split <;> rfl
theorem done_rooms (s : St) : (done s).2.rooms = s.rooms := by unfold done; split <;> rfl
theorem done_code (s : St) : (done s).1 = 0 ∨ (done s).1 = 14 := by unfold done; split <;> simp
theorem done_stamps (s : St) : (done s).2.stamps = s.stamps := by unfold done; split <;> rfl
theorem to_put {w w1 w2 : World} {b : Nat} {s : St} {vL vR vL' : Value} {k : Nat} {e : Ending} (hb : Below w.heap.size w w1) {w1' : World} (hc : Chg (· = b) w1 w1') (he : e = .returned (.int .i64 (k : Nat)))
    (hat : At w2 b s vL' vR) (hnew : ∀ g, vL'.ownBlock = some g → w1'.heap.size ≤ g) (hc2 : Chg (· = b) w1' w2) : To w b vL vR (k, s) e w2 := by
  have hs1 := hb.size
  have hs2 := hc.size
  refine ⟨he, vL', vR, hat, ?_, ?_⟩
  · refine ((Chg.of_below hb).trans (G := (· = b)) (hc.then hc2) (fun i hi => .inl hi)).mono foot_b
  · rintro g (rfl | hg | hg)
    · exact .inl (.inl rfl)
    · have := hnew g hg
      exact .inr (by omega)
    · exact .inl (.inr (.inr hg))
def mkdirS (s : St) (p : ByteArray) : Nat × St :=
  if first s p 0 ≠ 0 then (first s p 0, s) else if home s.L p = false then (11, s) else if kind s.L p = 2 then (12, s) else
  if (done s).1 ≠ 0 then done s else (0, { (done s).2 with L := ins (done s).2.L ⟨p, true, ⟨#[]⟩, ⟨#[]⟩, false, false, 0⟩ })
set_option maxRecDepth 100000 in
set_option maxHeartbeats 2000000 in
theorem rMkdir_any (b : Nat) (s : St) (vL vR : Value) (p : ByteArray) (w : World) (h : At w b s vL vR) (ok : Ok s) (hp : p.size ≤ 8000000000000) :
    Calls Tryz.prog 29 #[.pointer (some ⟨b, 0, none⟩), .string p] w (To w b vL vR (mkdirS s p)) := by
  have c1 := rFirst_any b s vL vR p 0 w h hp (by omega)
  have c2 := fun W (hW : Below w.heap.size w W) => rHome_any b s vL vR p W (h.below hW) ok.fit hp
  have c3 := fun W (hW : Below w.heap.size w W) => rKind_any b s vL vR p W (h.below hW) (by have := ok.fit.1; omega)
  have c4 := fun W (hW : Below w.heap.size w W) => rDone_any b s vL vR W (h.below hW) ok.steps ok.armed
  have c5 := fun W (hW : At W b (done s).2 vL vR) => rPut_any b (done s).2 vL vR ⟨p, true, ⟨#[]⟩, ⟨#[]⟩, false, false, 0⟩ W hW (by rw [done_L]; exact ok.fit.1)
  have HSame := fun (e : Ending) (w' : World) (k : Nat) (he : e = .returned (.int .i64 (k : Nat))) (hb : Below w.heap.size w w') => to_same (vL := vL) (vR := vR) h he hb
  have HD := done_code s
  unfold mkdirS
  obtain ⟨E, hE⟩ : ∃ E, E = first s p 0 := ⟨_, rfl⟩
  obtain ⟨H, hH⟩ : ∃ H, H = home s.L p := ⟨_, rfl⟩
  obtain ⟨K, hK⟩ : ∃ K, K = kind s.L p := ⟨_, rfl⟩
  rw [← hE] at c1 ⊢
  rw [← hH] at c2 ⊢
  rw [← hK] at c3 ⊢
  obtain ⟨DE, DS⟩ : ∃ DE, DE = done s := ⟨_, rfl⟩
  rw [← DS] at c4 c5 HD ⊢
  have HSM := Lib.hid HSame
  clear hE hH hK DS h ok HSame
  obtain ⟨dE, dS⟩ := DE
  simp only at c4 c5 HD ⊢
  unfold iv at c5
  simp only at c5
  by_cases h1 : E = 0
  · subst h1
    rw [if_neg (by decide)]
    cases H with
    | false =>
      rw [if_pos rfl]
      go_enter Tryz.func29, Tryz.ntmps29
      go_wp2_with (first | (go_at_call 69; refine c1.mono ?_; rintro e w1 ⟨rfl, hb1⟩) | (go_at_call 70; refine (c2 _ hb1).mono ?_; rintro e w2 ⟨rfl, rfl⟩))
      go_ret
      exact HSM.out _ _ _ rfl hb1
    | true =>
      rw [if_neg (by decide)]
      by_cases h3 : K = 2
      · subst h3
        rw [if_pos rfl]
        go_enter Tryz.func29, Tryz.ntmps29
        go_wp2_with (first | (go_at_call 69; refine c1.mono ?_; rintro e w1 ⟨rfl, hb1⟩) | (go_at_call 70; refine (c2 _ hb1).mono ?_; rintro e w2 ⟨rfl, rfl⟩) | (go_at_call 41; refine (c3 _ hb1).mono ?_; rintro e w2 ⟨rfl, rfl⟩))
        go_ret
        exact HSM.out _ _ _ rfl hb1
      · rw [if_neg h3]
        have e3 : ((K : Int) == 2) = false := beq_eq_false_iff_ne.2 (by omega)
        rcases HD with rfl | rfl
        · rw [if_neg (by decide)]
          go_enter Tryz.func29, Tryz.ntmps29
          go_wp2_with (first | (go_at_call 69; refine c1.mono ?_; rintro e w1 ⟨rfl, hb1⟩) | (go_at_call 70; refine (c2 _ hb1).mono ?_; rintro e w2 ⟨rfl, rfl⟩) | (go_at_call 41; refine (c3 _ hb1).mono ?_; rintro e w2 ⟨rfl, rfl⟩) | (go_at_call 71; refine (c4 _ hb1).mono ?_; rintro e w3 ⟨rfl, hat3, hc3⟩) | (go_at_call 72; refine (c5 _ hat3).mono ?_; rintro e w4 ⟨⟨v4, rfl⟩, vL4, hat4, hn4, hc4⟩))
          go_ret
          exact to_put hb1 hc3 rfl hat4 hn4 hc4
        · rw [if_pos (by decide)]
          go_enter Tryz.func29, Tryz.ntmps29
          go_wp2_with (first | (go_at_call 69; refine c1.mono ?_; rintro e w1 ⟨rfl, hb1⟩) | (go_at_call 70; refine (c2 _ hb1).mono ?_; rintro e w2 ⟨rfl, rfl⟩) | (go_at_call 41; refine (c3 _ hb1).mono ?_; rintro e w2 ⟨rfl, rfl⟩) | (go_at_call 71; refine (c4 _ hb1).mono ?_; rintro e w3 ⟨rfl, hat3, hc3⟩))
          go_ret
          exact ⟨rfl, vL, vR, hat3, ((Chg.of_below hb1).trans (G := (· = b)) hc3 (fun i hi => .inl hi)).mono foot_b, fun g hg => .inl hg⟩
  · have e1 : ((E : Int) == 0) = false := beq_eq_false_iff_ne.2 (by omega)
    rw [if_pos h1]
    go_enter Tryz.func29, Tryz.ntmps29
    go_wp2_with (go_at_call 69; refine c1.mono ?_; rintro e w1 ⟨rfl, hb1⟩)
    go_ret
    exact HSM.out _ _ _ rfl hb1
end Go.Proofs.YtdpnmdnfnplcfaaGreat.Dk
