/- Texts of this seat, one behind the other. -/
import Derived.Test.YtdkgkomjbpggeaaGreatDoorRows
import Derived.WalkKit
import Derived.WalkLawsBesides
import Derived.WalkSpells
import Derived.LoopTactic
import Derived.Lib.Hide
import Derived.Deep.AppendLies
import Derived.Deep.QuietTactic
import Derived.BigQuiet
import Derived.Laws.Rows
import Derived.Laws.NewBlocks
import Derived.WalkSmall
import Derived.Laws.StructEq
import Derived.Laws.AppendOwnNone
import Derived.Deep.RegionLaw
import Derived.Laws.OwnMore
import Derived.Deep.CutBlock
import Derived.Deep.CutRange
import Derived.Deep.Cut
import Derived.Maps.AppendAt
import Derived.Test.YtdkgkomjbpggeaaGreatDoorProg
import Derived.Deep.RegionHeld3
import Derived.Laws.AppendOwn
import Derived.ProofKit
import Derived.OpenShut
import Derived.ShutString
import Derived.Deep.Slices
import Derived.Deep.Fields
import Derived.ChangeSame
import Derived.Laws.BytesArg
import Derived.Laws.IdiomStrings
import Derived.RegionTactic
import Derived.ChangeAlike
import Derived.Deep.RegionWith
import Derived.Shelf.Strings.Builder1
import Derived.Shelf.Strings.Builder2
import Derived.Shelf.Strings.OnBuilder
import Derived.Shelf.Small.Bits
import Derived.Shelf.Strconv.Itoa0
import Derived.Shelf.Strconv.Itoa1
import Derived.Shelf.LaysM
import Derived.Shelf.Strconv.Itoa2
import Derived.Shelf.Strconv.Itoa3
import Derived.Shelf.Strings.Search1
import Derived.Shelf.Strings.Search2
import Derived.Shelf.Strings.Search3
import Derived.Shelf.Strings.Cut
import Derived.Shelf.Strings.Count
import Derived.Shelf.Strings.Shaped
namespace Go.Proofs.YtdkgkomjbpggeaaGreatDoor.Tx
open Go.RowKit
set_option linter.unusedVariables false
theorem info9 : (Tryz.prog.info? 9).map (fun i => (i.zero, i.size, i.bytes)) = some (some (.string ⟨#[]⟩), 1, 16) := by kernel_rfl
theorem below_at {w w1 w2 : World} {b : Nat} (h : Below w.heap.size w w1) (hg : w1.grownBy w2 (some b)) (hb : w.heap.size ≤ b) : Below w.heap.size w w2 :=
  h.grown hg h.size (fun k hk => by injection hk with hk; omega)
theorem below_call {w w1 w2 : World} (h : Below w.heap.size w w1) (h2 : Below w1.heap.size w1 w2) : Below w.heap.size w w2 := h.trans (h2.mono h.size)
theorem below_step {w wr w1 : World} {e : TypeId} {size n : Nat} {v : Value} {xs : List Value} {o : Obj} (hb : Below w.heap.size w wr) (hown : wr.ownsRow w.heap.size e size v n xs) (hg : (wr.alloc o).grownBy w1 v.ownBlock) : Below w.heap.size w w1 :=
  (hb.alloc hb.size o).grown hg (by have := hb.size; simp; omega) (fun k hk => (hown.lt k hk).1)
theorem len_l (s : ByteArray) : s.data.toList.length = s.size := by rw [Array.length_toList]; rfl
theorem gd (s : ByteArray) (k : Nat) (h : k < s.size) : s.data.toList.getD k 0 = s[k] := by
  have h' : k < s.data.size := h
  rw [List.getD_eq_getElem?_getD, Array.getElem?_toList, Array.getElem?_eq_getElem h']
  rfl
theorem mk_len (l : List UInt8) : (⟨l.toArray⟩ : ByteArray).size = l.length := by rw [ByteArray.size, List.size_toArray]
def tb (l : List UInt8) : ByteArray := ⟨l.toArray⟩
theorem tb_list (l : List UInt8) : (tb l).data.toList = l := rfl
theorem tb_of (s : ByteArray) : tb s.data.toList = s := by
  apply ByteArray.ext
  rfl
theorem tb_size (l : List UInt8) : (tb l).size = l.length := mk_len l
theorem bytes_ne {a b : ByteArray} (h : a ≠ b) : (a.toList == b.toList) = false := by
  rw [ByteArray.toList_eq, ByteArray.toList_eq]
  apply Bool.eq_false_iff.2
  intro hc
  exact h (ByteArray.ext (Array.toList_inj.1 (eq_of_beq hc)))
def sv (s : ByteArray) : Value := .string s
theorem sv_one (l : List ByteArray) : ∀ u ∈ l.map sv, u.oneCell' = true := by
  intro u hu
  obtain ⟨s, _, rfl⟩ := List.mem_map.1 hu
  rfl
def Texts (w : World) (B : Nat) (v : Value) (l : List ByteArray) : Prop := w.ownsRow B 9 1 v l.length (l.map sv)
theorem Texts.below {w w1 : World} {B : Nat} {v : Value} {l : List ByteArray} (h : Texts w B v l) (hb : Below w.heap.size w w1) : Texts w1 B v l := by
  refine ⟨h.1, ?_⟩
  rcases h.2 with h0 | ⟨g', cap', cur, hv, hg, hh, r⟩
  · exact .inl h0
  · exact .inr ⟨g', cap', cur, hv, hg, (hb.block g' (Array.getElem?_eq_some_iff.1 hh).1).trans hh, r⟩
def Strs (w : World) (a : Option Addr) (n : Nat) (l : List ByteArray) : Prop := l.length = n ∧ (n = 0 ∨ ∃ b off, a = some ⟨b, off, none⟩ ∧ b < w.heap.size ∧ ∀ k x, l[k]? = some x → w.cell? ⟨b, off + k, none⟩ = some (.string x))
theorem Strs.below {w w1 : World} {a : Option Addr} {n : Nat} {l : List ByteArray} (h : Strs w a n l) (hb : Below w.heap.size w w1) : Strs w1 a n l := by
  refine ⟨h.1, ?_⟩
  rcases h.2 with h0 | ⟨b, off, ha, hlt, hc⟩
  · exact .inl h0
  · exact .inr ⟨b, off, ha, Nat.lt_of_lt_of_le hlt hb.size, fun k x hx => (hb.cell (p := ⟨b, off + k, none⟩) hlt).trans (hc k x hx)⟩
theorem Texts.form {w : World} {B : Nat} {v : Value} {l : List ByteArray} (h : Texts w B v l) : ∃ a c, v = .slice a l.length c ∧ Strs w a l.length l ∧ l.length ≤ c ∧ c ≤ maxLen := by
  have hh := h
  rcases h.2 with ⟨rfl, h0⟩ | ⟨g, cap, cur, rfl, hg, hh2, hn, hc, _⟩
  · exact ⟨none, 0, by rw [h0], ⟨rfl, .inl h0⟩, by omega, Nat.zero_le _⟩
  · refine ⟨some ⟨g, 0, none⟩, cap, rfl, ⟨rfl, .inr ⟨g, 0, rfl, (Array.getElem?_eq_some_iff.1 hh2).1, fun k x hx => ?_⟩⟩, hn, hc⟩
    have := hh.cells (g := g) rfl k (sv x) (by rw [List.getElem?_map, hx]; rfl)
    rw [← WideShapes.add_plain]
    exact this
end Go.Proofs.YtdkgkomjbpggeaaGreatDoor.Tx

namespace Go.Proofs.YtdkgkomjbpggeaaGreatDoor.En
open Go.RowKit Tx
set_option linter.unusedVariables false
structure Nd where
  kind : Int
  data : ByteArray
structure Et where
  path : ByteArray
  node : Nd
def nv (n : Nd) : Value := .agg #[.int .i64 n.kind, .string n.data]
def cells (x : Et) : List Value := [.string x.path, .int .i64 x.node.kind, .string x.node.data]
def ev (x : Et) : Value := .agg #[.string x.path, .int .i64 x.node.kind, .string x.node.data]
def isInt (k : Int) : Prop := -9223372036854775808 ≤ k ∧ k ≤ 9223372036854775807
def Ents (w : World) (a : Option Addr) (n : Nat) (l : List Et) : Prop := l.length = n ∧ (n = 0 ∨ ∃ b off, a = some ⟨b, off, none⟩ ∧ b < w.heap.size ∧ ∀ k x, l[k]? = some x → w.cell? ⟨b, off + k * 3, none⟩ = some (.string x.path) ∧ w.cell? ⟨b, off + k * 3 + 1, none⟩ = some (.int .i64 x.node.kind) ∧ w.cell? ⟨b, off + k * 3 + 1 + 1, none⟩ = some (.string x.node.data))
theorem Ents.below {w w1 : World} {a : Option Addr} {n : Nat} {l : List Et} (h : Ents w a n l) (hb : Below w.heap.size w w1) : Ents w1 a n l := by
  refine ⟨h.1, ?_⟩
  rcases h.2 with h0 | ⟨b, off, ha, hlt, hc⟩
  · exact .inl h0
  · exact .inr ⟨b, off, ha, Nat.lt_of_lt_of_le hlt hb.size, fun k x hx => ⟨(hb.cell (p := ⟨b, _, none⟩) hlt).trans (hc k x hx).1, (hb.cell (p := ⟨b, _, none⟩) hlt).trans (hc k x hx).2.1, (hb.cell (p := ⟨b, _, none⟩) hlt).trans (hc k x hx).2.2⟩⟩
theorem sz_zero (d : ByteArray) : ((d.size : Int) == 0) = decide (d.size = 0) := by
  by_cases h : d.size = 0
  · rw [decide_eq_true h, h]; rfl
  · rw [decide_eq_false h]
    exact beq_eq_false_iff_ne.2 (by omega)
def whole (n : Nd) : Bool := if n.kind = 2 then decide (n.data.size ≤ 4096) else (decide (n.kind = 0) || decide (n.kind = 1)) && decide (n.data.size = 0)
set_option maxRecDepth 100000 in
set_option maxHeartbeats 1000000 in
theorem refWhole_any (n : Nd) (w : World) (hs : n.data.size ≤ 9223372036854775807) :
    Calls Tryz.prog 56 #[nv n] w fun e w' => e = .returned (.bool (whole n)) ∧ Below w.heap.size w w' := by
  obtain ⟨k, d⟩ := n
  by_cases h2 : k = 2
  · have hw : whole ⟨k, d⟩ = decide (d.size ≤ 4096) := by unfold whole; rw [if_pos h2]
    have e2 : ((k : Int) == 2) = true := by simp [h2]
    rw [hw]
    unfold nv
    clear h2 hw
    go_enter Tryz.func56, Tryz.ntmps56
    go_wp2
    go_ret
    exact ⟨congrArg (fun b => Ending.returned (Value.bool b)) (decide_eq_decide.2 (by omega)), (Below.refl _ _).alloc (Nat.le_refl _) _⟩
  · have hw : whole ⟨k, d⟩ = ((decide (k = 0) || decide (k = 1)) && decide (d.size = 0)) := by unfold whole; rw [if_neg h2]
    have e2 : ((k : Int) == 2) = false := beq_eq_false_iff_ne.2 h2
    rw [hw]
    unfold nv
    clear hw
    by_cases h0 : k = 0
    · subst h0
      clear h2
      rw [show (decide ((0 : Int) = 0) || decide ((0 : Int) = 1)) = true from rfl, Bool.true_and, ← sz_zero d]
      go_enter Tryz.func56, Tryz.ntmps56
      go_wp2
      go_ret
      exact ⟨rfl, (Below.refl _ _).alloc (Nat.le_refl _) _⟩
    · have e0 : ((k : Int) == 0) = false := beq_eq_false_iff_ne.2 h0
      by_cases h1 : k = 1
      · subst h1
        clear h2 h0
        rw [show (decide ((1 : Int) = 0) || decide ((1 : Int) = 1)) = true from rfl, Bool.true_and, ← sz_zero d]
        go_enter Tryz.func56, Tryz.ntmps56
        go_wp2
        go_ret
        exact ⟨rfl, (Below.refl _ _).alloc (Nat.le_refl _) _⟩
      · have e1 : ((k : Int) == 1) = false := beq_eq_false_iff_ne.2 h1
        rw [decide_eq_false h0, decide_eq_false h1, Bool.or_false, Bool.false_and]
        clear h2 h0 h1
        go_enter Tryz.func56, Tryz.ntmps56
        go_wp2
        go_ret
        exact ⟨rfl, (Below.refl _ _).alloc (Nat.le_refl _) _⟩
theorem infoN : (Tryz.prog.info? 71).map (·.size) = some 2 := by kernel_rfl
def tget (l : List Et) (p : ByteArray) : Nd := match l.find? (fun x => decide (x.path = p)) with
  | some x => x.node
  | none => ⟨0, ⟨#[]⟩⟩
theorem tget_hit (l : List Et) (p : ByteArray) (k : Nat) (x : Et) (h : l[k]? = some x) (hp : x.path = p) (hn : ∀ y ∈ l.take k, y.path ≠ p) : tget l p = x.node := by
  induction l generalizing k with
  | nil => cases h
  | cons y l ih =>
    cases k with
    | zero =>
      injection h with h
      subst h
      rw [tget, List.find?_cons_of_pos (by exact decide_eq_true hp)]
    | succ k =>
      have hy : y.path ≠ p := hn y (by simp)
      have := ih k h (fun z hz => hn z (by rw [List.take_succ_cons]; exact List.mem_cons_of_mem _ hz))
      rw [tget] at this ⊢
      rw [List.find?_cons_of_neg (by simp [hy])]
      exact this
theorem tget_none (l : List Et) (p : ByteArray) (hn : ∀ y ∈ l, y.path ≠ p) : tget l p = ⟨0, ⟨#[]⟩⟩ := by
  rw [tget, List.find?_eq_none.2 (fun y hy => by simp [hn y hy])]
set_option maxRecDepth 100000 in
set_option maxHeartbeats 1000000 in
theorem refGet_any (a : Option Addr) (n c : Nat) (l : List Et) (p : ByteArray) (w : World) (hl : Ents w a n l) (hn : n ≤ 9223372036854775806) :
    Calls Tryz.prog 58 #[.slice a n c, .string p] w fun e w' => e = .returned (nv (tget l p)) ∧ Below w.heap.size w w' := by
  obtain ⟨hln, hc⟩ := hl
  by_cases h0 : n = 0
  · subst h0
    obtain rfl : l = [] := List.length_eq_zero_iff.1 hln
    clear hc
    go_enter Tryz.func58, Tryz.ntmps58
    go_wp2
    go_loop [5] (fun i => i = .int .i64 0) (fun _ => 0)
    case atStart => exact rfl
    case round =>
      obtain rfl := hrel
      go_wp2
      refine bodyPost_ret (results_cell_row rfl _ _ _ _ _ _ _ rfl (heap_alloc_new _ _) Tryz.underlying71 rfl infoN) rfl ?_
      exact ⟨rfl, (Below.refl _ _).alloc (Nat.le_refl _) _⟩
  · obtain ⟨b, off, rfl, hb, hc⟩ := hc.resolve_left h0
    have HC := Lib.hid hc
    have hB : ∀ o, Below w.heap.size w (w.alloc o) := fun o => (Below.refl _ _).alloc (Nat.le_refl _) _
    clear hc h0
    go_enter Tryz.func58, Tryz.ntmps58
    go_wp2
    go_loop [5] (fun i => ∃ k : Nat, k ≤ n ∧ i = .int .i64 k ∧ Hid (∀ y ∈ l.take k, y.path ≠ p)) (fun i => n - (intOf i).toNat)
    case atStart => exact ⟨0, Nat.zero_le _, rfl, fun y hy => by simp at hy⟩
    case round =>
      obtain ⟨k, hk, rfl, hT⟩ := hrel
      by_cases hlt : k < n
      · obtain ⟨x, hx⟩ : ∃ x, l[k]? = some x := ⟨_, List.getElem?_eq_getElem (by omega)⟩
        obtain ⟨c1, c2, c3⟩ := HC.out k x hx
        have d1 := ((hB (.cells #[.int .i64 0, .string ⟨#[]⟩] 71)).cell (p := ⟨b, _, none⟩) hb).trans c1
        have d2 := ((hB (.cells #[.int .i64 0, .string ⟨#[]⟩] 71)).cell (p := ⟨b, _, none⟩) hb).trans c2
        have d3 := ((hB (.cells #[.int .i64 0, .string ⟨#[]⟩] 71)).cell (p := ⟨b, _, none⟩) hb).trans c3
        have hhit := tget_hit l p k x hx
        have hmiss : x.path ≠ p → ∀ y ∈ l.take (k + 1), y.path ≠ p := by
          intro hne y hy
          have hk2 : k < l.length := by omega
          rw [List.take_succ_eq_append_getElem hk2] at hy
          rcases List.mem_append.1 hy with hy | hy
          · exact hT.out y hy
          · rw [List.getElem?_eq_getElem hk2] at hx
            injection hx with hx
            rw [List.mem_singleton.1 hy, hx]
            exact hne
        obtain ⟨P, N⟩ := x
        obtain ⟨K, D⟩ := N
        simp only at c1 c2 c3 d1 d2 d3 hhit hmiss
        by_cases hp : P = p
        · have HR := Lib.hid (hhit hp hT.out)
          have e : (P.toList == p.toList) = true := by rw [hp]; exact beq_self_eq_true _
          clear hhit hmiss hT c1 c2 c3 hx hp hln
          go_wp2
          refine bodyPost_ret (results_cell_row rfl _ _ _ _ _ _ _ rfl (heap_alloc_new _ _) Tryz.underlying71 rfl infoN) rfl ?_
          exact ⟨by rw [HR.out]; rfl, (Below.refl _ _).alloc (Nat.le_refl _) _⟩
        · have HM := Lib.hid (hmiss hp)
          have e := bytes_ne hp
          clear hhit hmiss hT c1 c2 c3 hx hp hln
          go_wp2
          go_round
          case rel => exact ⟨k + 1, by omega, by go_num, HM⟩
          case measure => simp [intOf]; omega
      · obtain rfl : k = n := by omega
        have h := hT.out
        rw [List.take_of_length_le (by omega)] at h
        have HR := Lib.hid (tget_none l p h)
        clear hT hln h
        go_wp2
        refine bodyPost_ret (results_cell_row rfl _ _ _ _ _ _ _ rfl (heap_alloc_new _ _) Tryz.underlying71 rfl infoN) rfl ?_
        exact ⟨by rw [HR.out]; rfl, (Below.refl _ _).alloc (Nat.le_refl _) _⟩
end Go.Proofs.YtdkgkomjbpggeaaGreatDoor.En

namespace Go.Proofs.YtdkgkomjbpggeaaGreatDoor.En
open Go.RowKit Tx
set_option linter.unusedVariables false
theorem guardE : Tryz.prog.eqGuardType Tryz.prog.depth 73 = false := by kernel_rfl
theorem guardN : Tryz.prog.eqGuardType Tryz.prog.depth 71 = false := by kernel_rfl
theorem to_list {a b : ByteArray} : a.toList = b.toList ↔ a = b := by
  rw [ByteArray.toList_eq, ByteArray.toList_eq]
  exact ⟨fun h => ByteArray.ext (Array.toList_inj.1 h), fun h => by rw [h]⟩
theorem at_next {la lb : List Et} {k : Nat} {x : Et} (hx : la[k]? = some x) (hy : lb[k]? = some x) (h : la.take k = lb.take k) : la.take (k + 1) = lb.take (k + 1) := by
  obtain ⟨ha, ea⟩ := List.getElem?_eq_some_iff.1 hx
  obtain ⟨hb, eb⟩ := List.getElem?_eq_some_iff.1 hy
  rw [List.take_succ_eq_append_getElem ha, List.take_succ_eq_append_getElem hb, h, ea, eb]
theorem not_same {la lb : List Et} {k : Nat} {x y : Et} (hx : la[k]? = some x) (hy : lb[k]? = some y) (h : x ≠ y) : la ≠ lb := by
  rintro rfl
  rw [hx] at hy
  injection hy with hy
  exact h hy
def SameTo (la lb : List Et) (w : World) (e : Ending) (w' : World) : Prop := ∃ B, (B = true ↔ la = lb) ∧ e = .returned (.bool B) ∧ Below w.heap.size w w'
set_option maxRecDepth 100000 in
set_option maxHeartbeats 1000000 in
theorem refSame_any (a b : Option Addr) (n m ca cb : Nat) (la lb : List Et) (w : World) (ha : Ents w a n la) (hb : Ents w b m lb) (hn : n ≤ 9223372036854775806) (hm : m ≤ 9223372036854775806) :
    Calls Tryz.prog 23 #[.slice a n ca, .slice b m cb] w (SameTo la lb w) := by
  obtain ⟨hla, hca⟩ := ha
  obtain ⟨hlb, hcb⟩ := hb
  by_cases hnm : n = m
  · subst hnm
    have e0 : ((n : Int) == n) = true := beq_self_eq_true _
    by_cases h0 : n = 0
    · subst h0
      obtain rfl : la = [] := List.length_eq_zero_iff.1 hla
      obtain rfl : lb = [] := List.length_eq_zero_iff.1 hlb
      clear hca hcb
      go_enter Tryz.func23, Tryz.ntmps23
      go_wp2
      go_loop [5] (fun i => i = .int .i64 0) (fun _ => 0)
      case atStart => exact rfl
      case round =>
        obtain rfl := hrel
        go_wp2
        go_ret
        exact ⟨true, Iff.intro (fun _ => rfl) (fun _ => rfl), rfl, Below.refl _ _⟩
    · obtain ⟨ba, oa, rfl, hba, hca⟩ := hca.resolve_left h0
      obtain ⟨bb, ob, rfl, hbb, hcb⟩ := hcb.resolve_left h0
      have HA := Lib.hid hca
      have HB := Lib.hid hcb
      clear hca hcb h0
      go_enter Tryz.func23, Tryz.ntmps23
      go_wp2_with fail
      go_loopw [5] (fun i wr => ∃ k : Nat, k ≤ n ∧ i = .int .i64 k ∧ Hid (la.take k = lb.take k) ∧ Below w.heap.size w wr) (fun i _ => n - (intOf i).toNat)
      case atStart => exact ⟨0, Nat.zero_le _, rfl, rfl, Below.refl _ _⟩
      case round =>
        obtain ⟨k, hk, rfl, hT, hW⟩ := hrel
        by_cases hlt : k < n
        · obtain ⟨x, hx⟩ : ∃ x, la[k]? = some x := ⟨_, List.getElem?_eq_getElem (by omega)⟩
          obtain ⟨y, hy⟩ : ∃ y, lb[k]? = some y := ⟨_, List.getElem?_eq_getElem (by omega)⟩
          obtain ⟨c1, c2, c3⟩ := HA.out k x hx
          obtain ⟨d1, d2, d3⟩ := HB.out k y hy
          have f1 := (hW.cell (p := ⟨ba, _, none⟩) hba).trans c1
          have f2 := (hW.cell (p := ⟨ba, _, none⟩) hba).trans c2
          have f3 := (hW.cell (p := ⟨ba, _, none⟩) hba).trans c3
          have g1 := (hW.cell (p := ⟨bb, _, none⟩) hbb).trans d1
          have g2 := (hW.cell (p := ⟨bb, _, none⟩) hbb).trans d2
          have g3 := (hW.cell (p := ⟨bb, _, none⟩) hbb).trans d3
          have hlt1 : (k : Int) < (n : Int) := by omega
          have hgE := guardE
          clear c1 c2 c3 d1 d2 d3
          obtain ⟨P, K, D⟩ := x
          obtain ⟨P', K', D'⟩ := y
          simp only at f1 f2 f3 g1 g2 g3
          by_cases e1 : P.toList = P'.toList
          · by_cases e2 : K = K'
            · by_cases e3 : D.toList = D'.toList
              · obtain rfl := to_list.1 e1
                obtain rfl := to_list.1 e3
                subst e2
                have HN := Lib.hid (at_next hx hy hT.out)
                clear hx hy hT hla hlb e1 e3
                go_wp2_with fail
                go_quiet (fail)
                go_wp2_with fail
                go_roundw
                case rel => exact ⟨k + 1, by omega, by go_num, HN, below_drewN hW _⟩
                case measure => simp [intOf]; omega
              · have HE := Lib.hid (not_same hx hy (fun h => by injection h with h1 h2; injection h2 with h2 h3; exact e3 (to_list.2 h3)))
                clear hx hy hT hla hlb
                go_wp2_with fail
                go_quiet (fail)
                go_wp2_with fail
                go_ret
                exact ⟨false, Iff.intro (fun h => by cases h) (fun h => absurd h HE.out), rfl, below_drewN hW _⟩
            · have HE := Lib.hid (not_same hx hy (fun h => by injection h with h1 h2; injection h2 with h2 h3; exact e2 h2))
              clear hx hy hT hla hlb
              go_wp2_with fail
              go_quiet (fail)
              go_wp2_with fail
              go_ret
              exact ⟨false, Iff.intro (fun h => by cases h) (fun h => absurd h HE.out), rfl, below_drewN hW _⟩
          · have HE := Lib.hid (not_same hx hy (fun h => by injection h with h1 h2; exact e1 (to_list.2 h1)))
            clear hx hy hT hla hlb
            go_wp2_with fail
            go_quiet (fail)
            go_wp2_with fail
            go_ret
            exact ⟨false, Iff.intro (fun h => by cases h) (fun h => absurd h HE.out), rfl, below_drewN hW _⟩
        · obtain rfl : k = n := by omega
          have h := hT.out
          rw [List.take_of_length_le (by omega), List.take_of_length_le (by omega)] at h
          have HE := Lib.hid h
          clear hT h hla hlb
          go_wp2_with fail
          go_ret
          exact ⟨true, Iff.intro (fun _ => HE.out) (fun _ => rfl), rfl, hW⟩
  · have e0 : ((n : Int) == m) = false := beq_eq_false_iff_ne.2 (by omega)
    have HE : Hid (la ≠ lb) := fun h => hnm (by rw [← hla, ← hlb, h])
    clear hnm hca hcb hla hlb
    go_enter Tryz.func23, Tryz.ntmps23
    go_wp2
    go_ret
    exact ⟨false, Iff.intro (fun h => by cases h) (fun h => absurd h HE.out), rfl, Below.refl _ _⟩
end Go.Proofs.YtdkgkomjbpggeaaGreatDoor.En

namespace Go.Proofs.YtdkgkomjbpggeaaGreatDoor.Pm
set_option linter.unusedVariables false
def spl : List UInt8 → List (List UInt8)
  | [] => [[]]
  | c :: r => if c = 47 then [] :: spl r else
    match spl r with
    | [] => [[c]]
    | x :: xs => (c :: x) :: xs
theorem spl_ne (l : List UInt8) : spl l ≠ [] := by
  cases l with
  | nil => simp [spl]
  | cons c r =>
    rw [spl]
    split
    · simp
    · split <;> simp
def glue (one : List UInt8) : List (List UInt8) → List (List UInt8)
  | [] => [one]
  | x :: xs => (one ++ x) :: xs
theorem glue_nil {l : List (List UInt8)} (h : l ≠ []) : glue [] l = l := by
  cases l with
  | nil => exact absurd rfl h
  | cons x xs => rfl
theorem glue_step (one : List UInt8) (c : UInt8) (r : List UInt8) (h : c ≠ 47) : glue one (spl (c :: r)) = glue (one ++ [c]) (spl r) := by
  rw [spl, if_neg h]
  cases hs : spl r with
  | nil => exact absurd hs (spl_ne r)
  | cons x xs => simp [glue]
theorem glue_cut (one : List UInt8) (r : List UInt8) : glue one (spl (47 :: r)) = one :: spl r := by
  rw [spl, if_pos rfl]
  simp [glue]
theorem spl_len (l : List UInt8) : (spl l).length ≤ l.length + 1 := by
  induction l with
  | nil => simp [spl]
  | cons c r ih =>
    rw [spl]
    split
    · simp; omega
    · split
      · simp
      · rename_i x xs h
        rw [h] at ih
        simp at ih ⊢
        omega
def okC (c : UInt8) : Bool := (97 ≤ c.toNat && c.toNat ≤ 122) || (48 ≤ c.toNat && c.toNat ≤ 57) || c.toNat == 95
def isName (l : List UInt8) : Bool := decide (1 ≤ l.length) && decide (l.length ≤ 12) && l.all okC
def isPath (l : List UInt8) (deep : Int) : Bool := decide (((spl l).length : Int) ≤ deep) && (spl l).all isName
def chk (l : List UInt8) (deep : Int) : Nat := if isPath l deep then 0 else 10
def lastN : List UInt8 → Nat
  | [] => 0
  | c :: r => if lastN r = 0 then (if c = 47 then 1 else 0) else lastN r + 1
theorem lastN_le (l : List UInt8) : lastN l ≤ l.length := by
  induction l with
  | nil => exact Nat.le_refl _
  | cons c r ih =>
    rw [lastN]
    split
    · split <;> simp
    · simp; omega
theorem lastN_snoc (l : List UInt8) (c : UInt8) : lastN (l ++ [c]) = if c = 47 then l.length + 1 else lastN l := by
  induction l with
  | nil => simp [lastN]
  | cons d r ih =>
    rw [List.cons_append, lastN, ih, lastN]
    by_cases h : c = 47
    · simp [h]
    · simp [h]
def par (l : List UInt8) : List UInt8 := l.take (lastN l - 1)
def bas (l : List UInt8) : List UInt8 := l.drop (lastN l)
def joi (a b : List UInt8) : List UInt8 := if a ≠ [] ∧ b ≠ [] then a ++ 47 :: b else a ++ b
def dep (p : List UInt8) : Nat := if p = [] then 0 else (spl p).length
end Go.Proofs.YtdkgkomjbpggeaaGreatDoor.Pm

namespace Go.Proofs.YtdkgkomjbpggeaaGreatDoor.Pr
open Go.RowKit Pm Tx
set_option linter.unusedVariables false
def SplitTo (p : ByteArray) (w : World) (e : Ending) (w' : World) : Prop := ∃ v, e = .returned v ∧ Texts w' w.heap.size v ((spl p.data.toList).map tb) ∧ Below w.heap.size w w'
def At (p : ByteArray) (k : Nat) (out : List ByteArray) (one : ByteArray) : Prop := (spl p.data.toList).map tb = out ++ (glue one.data.toList (spl (p.data.toList.drop k))).map tb ∧ out.length + one.size ≤ k
theorem at_start (p : ByteArray) : At p 0 [] ⟨#[]⟩ := by
  refine ⟨?_, Nat.le_refl _⟩
  rw [List.drop_zero, List.nil_append]
  congr 1
  exact (glue_nil (spl_ne _)).symm
theorem drop_at (p : ByteArray) (k : Nat) (h : k < p.size) : p.data.toList.drop k = p[k] :: p.data.toList.drop (k + 1) := by
  have h' : k < p.data.toList.length := by rw [len_l]; exact h
  rw [List.drop_eq_getElem_cons h']
  rfl
theorem at_cut {p one : ByteArray} {k : Nat} {out : List ByteArray} (h : At p k out one) (hk : k < p.size) (hc : p[k].toNat = 47) : At p (k + 1) (out ++ [one]) ⟨#[]⟩ := by
  have e : p[k] = 47 := UInt8.toNat_inj.1 hc
  obtain ⟨h1, h2⟩ := h
  refine ⟨?_, by rw [List.length_append]; show _ + 1 + 0 ≤ _; omega⟩
  rw [h1, drop_at p k hk, e, glue_cut]
  have e2 : (glue (ByteArray.mk #[]).data.toList (spl (p.data.toList.drop (k + 1)))) = spl (p.data.toList.drop (k + 1)) := glue_nil (spl_ne _)
  rw [e2, List.map_cons, tb_of, List.append_assoc]
  rfl
theorem at_more {p one : ByteArray} {k : Nat} {out : List ByteArray} (h : At p k out one) (hk : k < p.size) (hc : p[k].toNat ≠ 47) : At p (k + 1) out (one ++ p.extract k (k + 1)) := by
  have e : p[k] ≠ 47 := fun e => hc (by rw [e]; rfl)
  obtain ⟨h1, h2⟩ := h
  have e2 : (p.extract k (k + 1)).data.toList = [p[k]] := by
    rw [ByteArray.data_extract, Array.toList_extract, List.extract_eq_take_drop, drop_at p k hk]
    simp
  refine ⟨?_, ?_⟩
  · rw [h1, drop_at p k hk, glue_step _ _ _ e, ByteArray.data_append, Array.toList_append, e2]
  · rw [ByteArray.size_append, ← len_l (p.extract k (k + 1)), e2]
    show _ + (_ + 1) ≤ _
    omega
theorem at_end {p one : ByteArray} {k : Nat} {out : List ByteArray} (h : At p k out one) (hk : ¬ k < p.size) : (spl p.data.toList).map tb = out ++ [one] := by
  rw [h.1, List.drop_of_length_le (by rw [len_l]; omega)]
  simp [spl, glue, tb_of]
set_option maxRecDepth 100000 in
set_option maxHeartbeats 1000000 in
theorem refSplit_any (p : ByteArray) (w : World) (hs : p.size ≤ 8796093022207) :
    Calls Tryz.prog 90 #[.string p] w (SplitTo p w) := by
  obtain ⟨i0, hi, hz0, hz1, hz2⟩ := info_parts info9
  go_enter Tryz.func90, Tryz.ntmps90
  go_wp2_with fail
  go_loopw [3, 4, 5] (fun v o i wr => ∃ (k : Nat) (out : List ByteArray) (one : ByteArray), k ≤ p.size ∧ i = .int .i64 k ∧ o = .string one ∧ Hid (At p k out one) ∧ Texts wr w.heap.size v out ∧ Below w.heap.size w wr) (fun _ _ i _ => p.size - (intOf i).toNat)
  case atStart => exact ⟨0, [], ⟨#[]⟩, Nat.zero_le _, rfl, rfl, at_start p, World.ownsRow_nil _ _ _ _, Below.refl _ _⟩
  case round =>
    obtain ⟨k, out, one, hk, rfl, rfl, hat, htx, hb⟩ := hrel
    have hlen := hat.out.2
    have hsz := hb.size
    have hown := htx
    unfold Texts at hown
    by_cases hlt : k < p.size
    · by_cases hc : p[k].toNat = 47
      · have hat' := Lib.hid (at_cut hat.out hlt hc)
        have hc' : ((p[k].toNat : Int) == 47) = true := by simp [hc]
        clear hc htx
        go_wp2_with (at_builtin; refine wpList_append_own _ rfl _ _ 52 rfl w.heap.size 9 i0 (.string ⟨#[]⟩) 1 16 Tryz.underlying52 hi hz0 hz1 hz2 rfl (by decide) _ _ _ rfl (hown.alloc _) ⟨wr.heap.size, 0, none⟩ 1 1 [sv one] rfl rfl ?c1 ?c2 ?c3 ?c4 ?c5 ?_)
        case c1 => exact cell_one_new _ _ _
        case c2 => exact sv_one [one]
        case c3 => unfold maxLen; omega
        case c4 => omega
        case c5 => simp; omega
        intro v' w2 hown' hgrow _
        have hb3 := below_step hb hown hgrow
        have htx2 : Texts w2 w.heap.size v' (out ++ [one]) := by
          unfold Texts
          rw [List.length_append, List.map_append]
          exact hown'
        clear hown hown' hgrow hb
        go_wp2_with fail
        go_roundw
        case rel => exact ⟨k + 1, out ++ [one], ⟨#[]⟩, by omega, by go_num, rfl, hat', htx2, hb3⟩
        case measure => simp [intOf]; omega
      · have hat' := Lib.hid (at_more hat.out hlt hc)
        have hc' : ((p[k].toNat : Int) == 47) = false := beq_eq_false_iff_ne.2 (by omega)
        have hes : (p.extract k (k + 1)).size ≤ 1 := by simp; omega
        clear hc hown
        go_wp2_with fail
        go_roundw
        case rel => exact ⟨k + 1, out, _, by omega, by go_num, rfl, hat', htx, hb⟩
        case measure => simp [intOf]; omega
    · have hend := Lib.hid (at_end hat.out hlt)
      clear htx
      go_wp2_with (at_builtin; refine wpList_append_own _ rfl _ _ 52 rfl w.heap.size 9 i0 (.string ⟨#[]⟩) 1 16 Tryz.underlying52 hi hz0 hz1 hz2 rfl (by decide) _ _ _ rfl (hown.alloc _) ⟨wr.heap.size, 0, none⟩ 1 1 [sv one] rfl rfl ?c1 ?c2 ?c3 ?c4 ?c5 ?_)
      case c1 => exact cell_one_new _ _ _
      case c2 => exact sv_one [one]
      case c3 => unfold maxLen; omega
      case c4 => omega
      case c5 => simp; omega
      intro v' w2 hown' hgrow _
      have hb3 := below_step hb hown hgrow
      have htx2 : Texts w2 w.heap.size v' (out ++ [one]) := by
        unfold Texts
        rw [List.length_append, List.map_append]
        exact hown'
      clear hown hown' hgrow hb
      go_wp2_with fail
      go_ret
      unfold SplitTo
      rw [hend.out]
      exact ⟨_, rfl, htx2, hb3⟩
end Go.Proofs.YtdkgkomjbpggeaaGreatDoor.Pr

namespace Go.Proofs.YtdkgkomjbpggeaaGreatDoor.Pr
open Go.RowKit Pm Tx
set_option linter.unusedVariables false
theorem take_at (p : ByteArray) (k : Nat) (h : k < p.size) : p.data.toList.take (k + 1) = p.data.toList.take k ++ [p[k]] := by
  have h' : k < p.data.toList.length := by rw [len_l]; exact h
  rw [List.take_succ_eq_append_getElem h']
  rfl
theorem take_all (p : ByteArray) : p.data.toList.take p.size = p.data.toList := List.take_of_length_le (by rw [len_l]; omega)
theorem all_at (p : ByteArray) (k : Nat) (h : k < p.size) (ha : (p.data.toList.take k).all okC = true) (hb : okC p[k] = true) : (p.data.toList.take (k + 1)).all okC = true := by
  rw [take_at p k h, List.all_append, ha]
  simp [hb]
theorem all_not (p : ByteArray) (k : Nat) (h : k < p.size) (hb : okC p[k] = false) : isName p.data.toList = false := by
  have h' : k < p.data.toList.length := by rw [len_l]; exact h
  have : p.data.toList.all okC = false := by
    rw [← Bool.not_eq_true, List.all_eq_true]
    intro hall
    have := hall _ (List.getElem_mem h')
    have e : p.data.toList[k] = p[k] := rfl
    rw [e, hb] at this
    cases this
  rw [isName, this, Bool.and_false]
set_option maxRecDepth 100000 in
set_option maxHeartbeats 1000000 in
theorem refName_any (s : ByteArray) (w : World) (hs : s.size ≤ 9223372036854775807) :
    Calls Tryz.prog 91 #[.string s] w fun e w' => e = .returned (.bool (isName s.data.toList)) ∧ w = w' := by
  by_cases h0 : 1 ≤ s.size ∧ s.size ≤ 12
  · obtain ⟨h1, h2⟩ := h0
    go_enter Tryz.func91, Tryz.ntmps91
    go_wp2
    go_loop [3] (fun i => ∃ k : Nat, k ≤ s.size ∧ i = .int .i64 k ∧ Hid ((s.data.toList.take k).all okC = true)) (fun i => s.size - (intOf i).toNat)
    case atStart => exact ⟨0, Nat.zero_le _, rfl, rfl⟩
    case round =>
      obtain ⟨k, hk, rfl, hall⟩ := hrel
      by_cases hlt : k < s.size
      · have hX := s[k].toNat_lt
        have hgood := fun h => Lib.hid (all_at s k hlt hall.out h)
        have hbad := fun h => Lib.hid (all_not s k hlt h)
        obtain ⟨X, hXe⟩ : ∃ X, X = s[k].toNat := ⟨_, rfl⟩
        have hok : okC s[k] = ((97 ≤ X && X ≤ 122) || (48 ≤ X && X ≤ 57) || X == 95) := by rw [hXe]; rfl
        rw [hok] at hgood hbad
        rw [← hXe] at hX
        have hXe' := hXe.symm
        clear hok hXe hall
        rcases show (X < 48) ∨ (57 < X ∧ X < 95) ∨ X = 96 ∨ 122 < X ∨ (48 ≤ X ∧ X ≤ 57) ∨ X = 95 ∨ (97 ≤ X ∧ X ≤ 122) by omega with h | h | h | h | h | h | h
        · have hb := hbad (by simp; omega)
          have e : ((X : Int) == 95) = false := beq_eq_false_iff_ne.2 (by omega)
          clear hgood hbad
          go_wp2
          go_ret
          exact ⟨by rw [hb.out]; rfl, rfl⟩
        · have hb := hbad (by simp; omega)
          have e : ((X : Int) == 95) = false := beq_eq_false_iff_ne.2 (by omega)
          have d57 : decide ((X : Int) ≤ 57) = false := decide_eq_false (by omega)
          clear hgood hbad
          go_wp2
          go_ret
          exact ⟨by rw [hb.out]; rfl, rfl⟩
        · have hb := hbad (by simp; omega)
          have e : ((X : Int) == 95) = false := beq_eq_false_iff_ne.2 (by omega)
          have d57 : decide ((X : Int) ≤ 57) = false := decide_eq_false (by omega)
          clear hgood hbad
          go_wp2
          go_ret
          exact ⟨by rw [hb.out]; rfl, rfl⟩
        · have hb := hbad (by simp; omega)
          have e : ((X : Int) == 95) = false := beq_eq_false_iff_ne.2 (by omega)
          have d57 : decide ((X : Int) ≤ 57) = false := decide_eq_false (by omega)
          have d122 : decide ((X : Int) ≤ 122) = false := decide_eq_false (by omega)
          clear hgood hbad
          go_wp2
          go_ret
          exact ⟨by rw [hb.out]; rfl, rfl⟩
        · have hb := hgood (by simp; omega)
          have e : ((X : Int) == 95) = false := beq_eq_false_iff_ne.2 (by omega)
          clear hgood hbad
          go_wp2
          go_round
          case rel => exact ⟨k + 1, by omega, by go_num, hb.out⟩
          case measure => simp [intOf]; omega
        · have hb := hgood (by simp; omega)
          have e : ((X : Int) == 95) = true := by simp [h]
          clear hgood hbad
          go_wp2
          go_round
          case rel => exact ⟨k + 1, by omega, by go_num, hb.out⟩
          case measure => simp [intOf]; omega
        · have hb := hgood (by simp; omega)
          have e : ((X : Int) == 95) = false := beq_eq_false_iff_ne.2 (by omega)
          clear hgood hbad
          go_wp2
          go_round
          case rel => exact ⟨k + 1, by omega, by go_num, hb.out⟩
          case measure => simp [intOf]; omega
      · obtain rfl : k = s.size := by omega
        have hn : isName s.data.toList = true := by
          have h := hall.out
          rw [take_all] at h
          rw [isName, h, len_l]
          simp [h1, h2]
        have HN := Lib.hid hn
        clear hn hall
        go_wp2
        go_ret
        exact ⟨by rw [HN.out]; rfl, rfl⟩
  · have hn : isName s.data.toList = false := by
      rw [isName, len_l]
      by_cases h1 : 1 ≤ s.size
      · have h2 : ¬ s.size ≤ 12 := fun h2 => h0 ⟨h1, h2⟩
        simp [h2]
      · simp [h1]
    rw [hn]
    rcases show s.size < 1 ∨ 12 < s.size by omega with h | h
    all_goals
      clear h0 hn
      go_enter Tryz.func91, Tryz.ntmps91
      go_wp2
      go_ret
      exact ⟨rfl, rfl⟩
set_option maxRecDepth 100000 in
set_option maxHeartbeats 1000000 in
theorem reflast_any (s : ByteArray) (w : World) (hs : s.size ≤ 9223372036854775807) :
    Calls Tryz.prog 92 #[.string s] w fun e w' => e = .returned (.int .i64 ((lastN s.data.toList : Nat) - 1)) ∧ w = w' := by
  go_enter Tryz.func92, Tryz.ntmps92
  go_wp2
  go_loop [3, 4] (fun a i => ∃ k L : Nat, k ≤ s.size ∧ i = .int .i64 k ∧ a = .int .i64 ((L : Int) - 1) ∧ Hid (L = lastN (s.data.toList.take k))) (fun _ i => s.size - (intOf i).toNat)
  case atStart => exact ⟨0, 0, Nat.zero_le _, rfl, rfl, rfl⟩
  case round =>
    obtain ⟨k, L, hk, rfl, rfl, hL⟩ := hrel
    by_cases hlt : k < s.size
    · have hX := s[k].toNat_lt
      have hn := lastN_snoc (s.data.toList.take k) s[k]
      rw [← take_at s k hlt, List.length_take, len_l, Nat.min_eq_left hk] at hn
      by_cases hc : s[k].toNat = 47
      · rw [if_pos (UInt8.toNat_inj.1 hc)] at hn
        have HN := Lib.hid hn
        have e : ((s[k].toNat : Int) == 47) = true := by simp [hc]
        clear hn hc hL
        go_wp2
        go_round
        case rel => exact ⟨k + 1, k + 1, by omega, by go_num, by go_num, HN.out.symm⟩
        case measure => simp [intOf]; omega
      · rw [if_neg (fun e => hc (by rw [e]; rfl)), ← hL.out] at hn
        have HN := Lib.hid hn
        have e : ((s[k].toNat : Int) == 47) = false := beq_eq_false_iff_ne.2 (by omega)
        clear hn hc hL
        go_wp2
        go_round
        case rel => exact ⟨k + 1, L, by omega, by go_num, rfl, HN.out.symm⟩
        case measure => simp [intOf]; omega
    · obtain rfl : k = s.size := by omega
      have h := hL.out
      rw [take_all] at h
      subst h
      clear hL
      go_wp2
      go_ret
      exact ⟨rfl, rfl⟩
end Go.Proofs.YtdkgkomjbpggeaaGreatDoor.Pr

namespace Go.Proofs.YtdkgkomjbpggeaaGreatDoor.Pr
open Go.RowKit Pm Tx
set_option linter.unusedVariables false
theorem par_ext (s : ByteArray) : s.extract 0 (lastN s.data.toList - 1) = tb (par s.data.toList) := by
  apply ByteArray.ext
  apply Array.toList_inj.1
  rw [ByteArray.data_extract, Array.toList_extract, List.extract_eq_take_drop]
  simp [tb, par]
set_option maxRecDepth 100000 in
set_option maxHeartbeats 1000000 in
theorem refParent_any (s : ByteArray) (w : World) (hs : s.size ≤ 9223372036854775807) :
    Calls Tryz.prog 57 #[.string s] w fun e w' => e = .returned (.string (tb (par s.data.toList))) ∧ w = w' := by
  have cl := fun W => reflast_any s W hs
  have hL := lastN_le s.data.toList
  rw [len_l] at hL
  rw [← par_ext]
  obtain ⟨L, hLe⟩ : ∃ L, L = lastN s.data.toList := ⟨_, rfl⟩
  rw [← hLe] at cl hL ⊢
  clear hLe
  by_cases h0 : L = 0
  · subst h0
    go_enter Tryz.func57, Tryz.ntmps57
    go_wp2_with (go_at_call 92; refine (cl _).mono ?_; rintro e w1 ⟨rfl, rfl⟩)
    go_ret
    exact ⟨by simp; rfl, rfl⟩
  · obtain ⟨K, rfl⟩ : ∃ K, L = K + 1 := ⟨L - 1, by omega⟩
    have e1 : ((K + 1 : Nat) : Int) - 1 = K := by omega
    rw [e1] at cl
    rw [Nat.add_sub_cancel]
    clear h0
    go_enter Tryz.func57, Tryz.ntmps57
    go_wp2_with (go_at_call 92; refine (cl _).mono ?_; rintro e w1 ⟨rfl, rfl⟩)
    go_ret
    exact ⟨rfl, rfl⟩
theorem size_zero {s : ByteArray} : s.size = 0 ↔ s = ⟨#[]⟩ := by
  refine ⟨fun h => ?_, fun h => by rw [h]; rfl⟩
  apply ByteArray.ext
  exact Array.eq_empty_of_size_eq_zero h
theorem list_nil {s : ByteArray} (h : s = ⟨#[]⟩) : s.data.toList = [] := by rw [h]
theorem list_ne {s : ByteArray} (h : s ≠ ⟨#[]⟩) : s.data.toList ≠ [] := fun e => h (ByteArray.ext (Array.toList_inj.1 e))
theorem is_empty {s : ByteArray} (h : s = ⟨#[]⟩) : s.toList.isEmpty = true := by rw [h, ByteArray.toList_eq]; rfl
theorem not_empty {s : ByteArray} (h : s ≠ ⟨#[]⟩) : s.toList.isEmpty = false := by
  rw [ByteArray.toList_eq]
  cases e : s.data.toList with
  | nil => exact absurd e (list_ne h)
  | cons c r => rfl
theorem all_step (l : List (List UInt8)) (k : Nat) (x : List UInt8) (h : l[k]? = some x) (ha : (l.take k).all isName = true) (hb : isName x = true) : (l.take (k + 1)).all isName = true := by
  obtain ⟨hk, he⟩ := List.getElem?_eq_some_iff.1 h
  rw [List.take_succ_eq_append_getElem hk, List.all_append, ha, he]
  simp [hb]
theorem all_fail (l : List (List UInt8)) (k : Nat) (x : List UInt8) (h : l[k]? = some x) (hb : isName x = false) : l.all isName = false := by
  obtain ⟨hk, he⟩ := List.getElem?_eq_some_iff.1 h
  rw [← Bool.not_eq_true, List.all_eq_true]
  intro hall
  have := hall _ (List.getElem_mem hk)
  rw [he, hb] at this
  cases this
theorem chk_far {l : List UInt8} {d : Int} (h : d < (spl l).length) : chk l d = 10 := by
  rw [chk, isPath, decide_eq_false (by omega), Bool.false_and, if_neg (by simp)]
theorem chk_bad {l : List UInt8} {d : Int} (h : (spl l).all isName = false) : chk l d = 10 := by
  rw [chk, isPath, h, Bool.and_false, if_neg (by simp)]
theorem chk_good {l : List UInt8} {d : Int} (hd : ((spl l).length : Int) ≤ d) (h : (spl l).all isName = true) : chk l d = 0 := by
  rw [chk, isPath, h, decide_eq_true hd, Bool.and_true, if_pos rfl]
theorem spl_sizes (l : List UInt8) : ∀ x ∈ spl l, x.length ≤ l.length := by
  induction l with
  | nil => simp [spl]
  | cons c r ih =>
    rw [spl]
    split
    · intro x hx
      rcases List.mem_cons.1 hx with rfl | hx
      · simp
      · have := ih x hx; simp; omega
    · cases hs : spl r with
      | nil => exact absurd hs (spl_ne r)
      | cons y ys =>
        rw [hs] at ih
        intro x hx
        rcases List.mem_cons.1 hx with rfl | hx
        · have := ih y (List.mem_cons_self ..); simp; omega
        · have := ih x (List.mem_cons_of_mem _ hx); simp; omega
set_option maxRecDepth 100000 in
set_option maxHeartbeats 1000000 in
theorem refCheck_any (p : ByteArray) (d : Int) (w : World) (hs : p.size ≤ 8796093022207) (h1 : -9223372036854775808 ≤ d) (h2 : d ≤ 9223372036854775807) :
    Calls Tryz.prog 55 #[.string p, .int .i64 d] w fun e w' => e = .returned (.int .i64 (chk p.data.toList d : Nat)) ∧ Below w.heap.size w w' := by
  have hl := spl_len p.data.toList
  rw [len_l] at hl
  have hsz := spl_sizes p.data.toList
  rw [len_l] at hsz
  have hfar := @chk_far p.data.toList d
  have hbad := @chk_bad p.data.toList d
  have hgood := @chk_good p.data.toList d
  have cs := fun W => refSplit_any p W hs
  unfold SplitTo at cs
  obtain ⟨S, hS⟩ : ∃ S, S = spl p.data.toList := ⟨_, rfl⟩
  obtain ⟨R, hR⟩ : ∃ R, R = chk p.data.toList d := ⟨_, rfl⟩
  rw [← hS] at hl hsz hfar hbad hgood cs
  rw [← hR] at hfar hbad hgood
  rw [← hR]
  have hne : S ≠ [] := by rw [hS]; exact spl_ne _
  have hpos : 0 < S.length := List.length_pos_iff.2 hne
  clear hS hR hne
  by_cases hd : d < (S.length : Int)
  · have e := hfar hd
    subst e
    clear hfar hbad hgood
    go_enter Tryz.func55, Tryz.ntmps55
    go_wp2_with (go_at_call 90; refine (cs _).mono ?_; rintro e w1 ⟨v, rfl, ht, hb⟩; obtain ⟨a, c, rfl, hst, _, _⟩ := ht.form)
    go_ret
    exact ⟨rfl, hb⟩
  · have HB := Lib.hid hbad
    have HG := Lib.hid (hgood (by omega))
    have HZ := Lib.hid hsz
    have hd' : (S.length : Int) ≤ d := by omega
    clear hfar hbad hgood hsz
    go_enter Tryz.func55, Tryz.ntmps55
    go_wp2_with (go_at_call 90; refine (cs _).mono ?_; rintro e w1 ⟨v, rfl, ht, hb⟩; obtain ⟨a, c, rfl, hst, _, _⟩ := ht.form)
    obtain ⟨hln, hst⟩ := hst
    obtain ⟨b, off, rfl, hlt, hc⟩ := hst.resolve_left (by rw [List.length_map]; omega)
    have hsz1 := hb.size
    have HC : Hid (∀ k x, S[k]? = some x → w1.cell? ⟨b, off + k, none⟩ = some (.string (tb x))) := fun k x hx => hc k (tb x) (by rw [List.getElem?_map, hx]; rfl)
    clear hst hln hc ht
    go_loop [6] (fun i => ∃ k : Nat, k ≤ S.length ∧ i = .int .i64 k ∧ Hid ((S.take k).all isName = true)) (fun i => S.length - (intOf i).toNat)
    case atStart => exact ⟨0, Nat.zero_le _, rfl, rfl⟩
    case round =>
      obtain ⟨k, hk, rfl, hall⟩ := hrel
      by_cases hlk : k < S.length
      · obtain ⟨x, hx⟩ : ∃ x, S[k]? = some x := ⟨_, List.getElem?_eq_getElem hlk⟩
        have hcell := HC.out k x hx
        have hxl := HZ.out x (List.mem_of_getElem? hx)
        have cn := fun W => refName_any (tb x) W (by rw [tb_size]; omega)
        rw [tb_list] at cn
        have hnext := fun h => Lib.hid (all_step S k x hx hall.out h)
        have hfail := fun h => HB.out (all_fail S k x hx h)
        obtain ⟨T, hT⟩ : ∃ T, T = tb x := ⟨_, rfl⟩
        rw [← hT] at hcell cn
        clear hx hxl hT hall
        by_cases hn : isName x = true
        · have HN := hnext hn
          rw [hn] at cn
          clear hnext hfail hn
          go_wp2_with (go_at_call 91; refine (cn _).mono ?_; rintro e w2 ⟨rfl, rfl⟩)
          go_round
          case rel => exact ⟨k + 1, by omega, by go_num, HN⟩
          case measure => simp [intOf]; omega
        · rw [Bool.eq_false_iff.2 hn] at cn
          have HF := hfail (Bool.eq_false_iff.2 hn)
          subst HF
          clear hnext hfail hn
          go_wp2_with (go_at_call 91; refine (cn _).mono ?_; rintro e w2 ⟨rfl, rfl⟩)
          go_ret
          exact ⟨rfl, hb⟩
      · obtain rfl : k = S.length := by omega
        have h := hall.out
        rw [List.take_of_length_le (Nat.le_refl _)] at h
        have HF := HG.out h
        subst HF
        clear hall h
        go_wp2
        go_ret
        exact ⟨rfl, hb⟩
end Go.Proofs.YtdkgkomjbpggeaaGreatDoor.Pr

namespace Go.Proofs.YtdkgkomjbpggeaaGreatDoor.En
open Go.RowKit Tx Pm Pr
set_option linter.unusedVariables false
def Own (w : World) (B : Nat) (v : Value) (l : List Et) : Prop := w.ownsRow B 73 3 v l.length (l.flatMap cells)
theorem Own.below {w w1 : World} {B : Nat} {v : Value} {l : List Et} (h : Own w B v l) (hb : Below w.heap.size w w1) : Own w1 B v l := by
  refine ⟨h.1, ?_⟩
  rcases h.2 with h0 | ⟨g', cap', cur, hv, hg, hh, r⟩
  · exact .inl h0
  · exact .inr ⟨g', cap', cur, hv, hg, (hb.block g' (Array.getElem?_eq_some_iff.1 hh).1).trans hh, r⟩
theorem cell_three_new (w : World) (a b c : Value) (t : TypeId) : ∀ j u, [a, b, c][j]? = some u → (w.alloc (.cells #[a, b, c] t)).cell? ((⟨w.heap.size, 0, none⟩ : Addr).add j) = some u := by
  intro j u hj
  match j, hj with
  | 0, hj => simp at hj; subst hj; simp [Addr.add]
  | 1, hj => simp at hj; subst hj; simp [Addr.add]
  | 2, hj => simp at hj; subst hj; simp [Addr.add]
  | j + 3, hj => simp at hj
theorem cells_one (x : Et) : ∀ u ∈ cells x, u.oneCell' = true := by
  intro u hu
  simp [cells] at hu
  rcases hu with rfl | rfl | rfl <;> rfl
theorem flat_at : ∀ (l : List Et) (k : Nat) (x : Et) (j : Nat), l[k]? = some x → j < 3 → (l.flatMap cells)[k * 3 + j]? = (cells x)[j]?
  | [], k, x, j, h, _ => by cases h
  | y :: l, 0, x, j, h, hj => by
    injection h with h
    subst h
    rw [List.flatMap_cons, List.getElem?_append_left (by rw [Nat.zero_mul, Nat.zero_add]; exact hj), Nat.zero_mul, Nat.zero_add]
  | y :: l, k + 1, x, j, h, hj => by
    have e : (k + 1) * 3 + j = (cells y).length + (k * 3 + j) := by
      show _ = 3 + _
      omega
    rw [List.flatMap_cons, e, List.getElem?_append_right (by omega), Nat.add_sub_cancel_left]
    exact flat_at l k x j h hj
theorem Own.form {w : World} {B : Nat} {v : Value} {l : List Et} (h : Own w B v l) : ∃ a c, v = .slice a l.length c ∧ Ents w a l.length l ∧ l.length ≤ c ∧ c ≤ maxLen := by
  have hh := h
  rcases h.2 with ⟨rfl, h0⟩ | ⟨g, cap, cur, rfl, hg, hh2, hn, hc, _⟩
  · exact ⟨none, 0, by rw [h0], ⟨rfl, .inl h0⟩, by omega, Nat.zero_le _⟩
  · refine ⟨some ⟨g, 0, none⟩, cap, rfl, ⟨rfl, .inr ⟨g, 0, rfl, (Array.getElem?_eq_some_iff.1 hh2).1, fun k x hx => ?_⟩⟩, hn, hc⟩
    have h1 := hh.cells (g := g) rfl (k * 3 + 0) (.string x.path) (flat_at l k x 0 hx (by omega))
    have h2 := hh.cells (g := g) rfl (k * 3 + 1) (.int .i64 x.node.kind) (flat_at l k x 1 hx (by omega))
    have h3 := hh.cells (g := g) rfl (k * 3 + 2) (.string x.node.data) (flat_at l k x 2 hx (by omega))
    rw [WideShapes.add_plain] at h1 h2 h3
    exact ⟨h1, h2, h3⟩
end Go.Proofs.YtdkgkomjbpggeaaGreatDoor.En

namespace Go.Proofs.YtdkgkomjbpggeaaGreatDoor.Pm
set_option linter.unusedVariables false
theorem cut_last {l : List UInt8} {k : Nat} (h : lastN l = k + 1) : l = l.take k ++ 47 :: l.drop (k + 1) := by
  induction l generalizing k with
  | nil => cases h
  | cons c r ih =>
    rw [lastN] at h
    split at h
    · split at h
      · rename_i hc
        obtain rfl : k = 0 := by omega
        rw [hc]
        rfl
      · cases h
    · rename_i h0
      obtain ⟨k', rfl⟩ : ∃ k', k = k' + 1 := ⟨k - 1, by omega⟩
      have := ih (k := k') (by omega)
      rw [List.take_succ_cons, List.drop_succ_cons, List.cons_append, ← this]
theorem par_bas (l : List UInt8) : (lastN l = 0 ∧ par l = [] ∧ bas l = l) ∨ (l = par l ++ 47 :: bas l) := by
  by_cases h : lastN l = 0
  · left
    rw [par, bas, h]
    exact ⟨rfl, rfl, rfl⟩
  · right
    obtain ⟨k, hk⟩ : ∃ k, lastN l = k + 1 := ⟨lastN l - 1, by omega⟩
    have := cut_last hk
    rw [par, bas, hk, Nat.add_sub_cancel]
    exact this
def good (l : List UInt8) : Prop := (spl l).all isName = true
theorem chk_two (l : List UInt8) (d : Int) : chk l d = 0 ∨ chk l d = 10 := by
  rw [chk]
  split
  · exact .inl rfl
  · exact .inr rfl
theorem par_len (l : List UInt8) : (par l).length ≤ l.length := by rw [par, List.length_take]; omega
theorem less_app (a b : List UInt8) (c : UInt8) : Op.bytesLess a (a ++ c :: b) = true := by
  induction a with
  | nil => rfl
  | cons x a ih => rw [List.cons_append, Op.bytesLess, ih]; simp
theorem less_irr (a : List UInt8) : Op.bytesLess a a = false := by
  induction a with
  | nil => rfl
  | cons x a ih => rw [Op.bytesLess, ih]; simp
theorem less_asymm : ∀ (a b : List UInt8), Op.bytesLess a b = true → Op.bytesLess b a = false
  | [], [], _ => rfl
  | [], _ :: _, _ => by rw [Op.bytesLess]
  | _ :: _, [], h => by rw [Op.bytesLess] at h; cases h
  | x :: a, y :: b, h => by
    have ih := less_asymm a b
    rw [Op.bytesLess] at h ⊢
    by_cases h1 : x < y
    · have h2 : ¬ y < x := by rw [UInt8.lt_iff_toNat_lt] at h1 ⊢; omega
      have h3 : ¬ y = x := by rintro rfl; rw [UInt8.lt_iff_toNat_lt] at h1; omega
      simp [h2, h3]
    · by_cases h2 : x = y
      · subst h2
        simp at h ⊢
        exact ih h
      · simp [h1, h2] at h
end Go.Proofs.YtdkgkomjbpggeaaGreatDoor.Pm

namespace Go.Proofs.YtdkgkomjbpggeaaGreatDoor.En
open Go.RowKit Tx Pm Pr
set_option linter.unusedVariables false
def okAt (l : List Et) (i : Nat) : Bool := match l[i]? with
  | none => true
  | some x => decide (chk x.path.data.toList 5 = 0) && whole x.node && !decide (x.node.kind = 0) && (decide (i = 0) || (match l[i - 1]? with | some y => Op.bytesLess y.path.toList x.path.toList | none => true)) && (decide (par x.path.data.toList = []) || decide ((tget l (tb (par x.path.data.toList))).kind = 1))
def tcheck (l : List Et) : Nat := if 200 < l.length then 4 else if (List.range l.length).all (okAt l) then 0 else 3
theorem tcheck_bad {l : List Et} {i : Nat} (hi : i < l.length) (h : okAt l i = false) (hn : l.length ≤ 200) : tcheck l = 3 := by
  rw [tcheck, if_neg (by omega), if_neg]
  intro hall
  have := List.all_eq_true.1 hall i (List.mem_range.2 hi)
  rw [h] at this
  cases this
theorem tcheck_good {l : List Et} (h : ∀ i, i < l.length → okAt l i = true) (hn : l.length ≤ 200) : tcheck l = 0 := by
  rw [tcheck, if_neg (by omega), if_pos (List.all_eq_true.2 (fun i hi => h i (List.mem_range.1 hi)))]
theorem okAt_eq {l : List Et} {i : Nat} {x : Et} (h : l[i]? = some x) : okAt l i = (decide (chk x.path.data.toList 5 = 0) && whole x.node && !decide (x.node.kind = 0) && (decide (i = 0) || (match l[i - 1]? with | some y => Op.bytesLess y.path.toList x.path.toList | none => true)) && (decide (par x.path.data.toList = []) || decide ((tget l (tb (par x.path.data.toList))).kind = 1))) := by
  rw [okAt, h]
def Small (l : List Et) : Prop := ∀ x ∈ l, x.path.size ≤ 8000000000000 ∧ x.node.data.size ≤ 8000000000000
theorem tb_ne {l : List UInt8} (h : l ≠ []) : (tb l).toList.isEmpty = false := not_empty (fun e => h (by rw [← tb_list l, e]))
theorem tb_nil {l : List UInt8} (h : l = []) : (tb l).toList.isEmpty = true := is_empty (by rw [h]; rfl)
set_option maxRecDepth 100000 in
set_option maxHeartbeats 2000000 in
theorem refCheckT_any (a : Option Addr) (n c : Nat) (l : List Et) (w : World) (hl : Ents w a n l) (hn : n ≤ 9223372036854775806) (hs : Small l) :
    Calls Tryz.prog 21 #[.slice a n c] w fun e w' => e = .returned (.int .i64 (tcheck l : Nat)) ∧ Below w.heap.size w w' := by
  obtain ⟨hln, hc⟩ := hl
  by_cases hbig : 200 < n
  · have e : tcheck l = 4 := by rw [tcheck, if_pos (by omega)]
    rw [e]
    clear hc e hln
    go_enter Tryz.func21, Tryz.ntmps21
    go_wp2
    go_ret
    exact ⟨rfl, Below.refl _ _⟩
  have hn2 : n ≤ 200 := by omega
  by_cases h0 : n = 0
  · subst h0
    obtain rfl : l = [] := List.length_eq_zero_iff.1 hln
    have e : tcheck [] = 0 := rfl
    rw [e]
    clear hc hs e hbig
    go_enter Tryz.func21, Tryz.ntmps21
    go_wp2
    go_loop [3] (fun i => i = .int .i64 0) (fun _ => 0)
    case atStart => exact rfl
    case round =>
      obtain rfl := hrel
      go_wp2
      go_ret
      exact ⟨rfl, Below.refl _ _⟩
  have hE : Hid (Ents w a n l) := ⟨hln, hc⟩
  obtain ⟨b, off, rfl, hb, hc⟩ := hc.resolve_left h0
  have HC := Lib.hid hc
  have HS := Lib.hid hs
  have HB := fun i => Lib.hid (fun (hi : i < l.length) (h : okAt l i = false) => tcheck_bad hi h (by omega))
  have HG := Lib.hid (fun (h : ∀ i, i < l.length → okAt l i = true) => tcheck_good h (by omega))
  obtain ⟨T, hT⟩ : ∃ T, T = tcheck l := ⟨_, rfl⟩
  rw [← hT] at HB HG
  rw [← hT]
  clear hc h0 hs hT hbig
  go_enter Tryz.func21, Tryz.ntmps21
  go_wp2_with fail
  go_loopw [3] (fun i wr => ∃ k : Nat, k ≤ n ∧ i = .int .i64 k ∧ Hid (∀ i, i < k → okAt l i = true) ∧ Below w.heap.size w wr) (fun i _ => n - (intOf i).toNat)
  case atStart => exact ⟨0, Nat.zero_le _, rfl, (fun i hi => absurd hi (Nat.not_lt_zero _)), Below.refl _ _⟩
  case round =>
    obtain ⟨k, hk, rfl, hgood, hB⟩ := hrel
    by_cases hlt : k < n
    · obtain ⟨x, hx⟩ : ∃ x, l[k]? = some x := ⟨_, List.getElem?_eq_getElem (by omega)⟩
      obtain ⟨c1, c2, c3⟩ := HC.out k x hx
      obtain ⟨hps, hds⟩ := HS.out x (List.mem_of_getElem? hx)
      have hok := okAt_eq hx
      have HO := Lib.hid hok
      have HX := Lib.hid hx
      have hkl : k < l.length := by omega
      have HK := Lib.hid hkl
      clear hok hx hkl
      obtain ⟨P, K, D⟩ := x
      simp only at c1 c2 c3 hps hds
      have d1 := (hB.cell (p := ⟨b, _, none⟩) hb).trans c1
      have cc := fun W => refCheck_any P 5 W (by omega) (by omega) (by omega)
      have htwo := chk_two P.data.toList 5
      obtain ⟨C, hC⟩ : ∃ C, C = chk P.data.toList 5 := ⟨_, rfl⟩
      rw [← hC] at cc htwo
      have HCC := Lib.hid hC
      clear hC
      go_wp2_with fail
      go_at_call 55
      refine (cc _).mono ?_
      rintro e w1 ⟨rfl, hb1⟩
      have hB1 := below_call hB hb1
      clear d1 cc hb1
      have d1 := (hB1.cell (p := ⟨b, _, none⟩) hb).trans c1
      have d2 := (hB1.cell (p := ⟨b, _, none⟩) hb).trans c2
      have d3 := (hB1.cell (p := ⟨b, _, none⟩) hb).trans c3
      rcases htwo with h | h
      case inr =>
        have hf : okAt l k = false := by rw [HO.out, ← HCC.out, h]; rfl
        have hT := (HB k).out HK.out hf
        subst h hT
        clear hf
        go_wp2_with fail
        go_ret
        exact ⟨rfl, hB1⟩
      have cw := fun W => refWhole_any ⟨K, D⟩ W (by show D.size ≤ _; omega)
      unfold nv at cw
      obtain ⟨V, hV⟩ : ∃ V, V = whole ⟨K, D⟩ := ⟨_, rfl⟩
      rw [← hV] at cw
      have HV := Lib.hid hV
      have HH := Lib.hid h
      subst h
      clear hV
      go_wp2_with fail
      go_at_call 56
      refine (cw _).mono ?_
      rintro e w2 ⟨rfl, hb2⟩
      have hB2 := below_call hB1 hb2
      clear d1 d2 d3 cw hb2 hB1 hB
      have d1 := (hB2.cell (p := ⟨b, _, none⟩) hb).trans c1
      have d2 := (hB2.cell (p := ⟨b, _, none⟩) hb).trans c2
      have d3 := (hB2.cell (p := ⟨b, _, none⟩) hb).trans c3
      by_cases hv : V = true
      case neg =>
        obtain rfl := Bool.eq_false_iff.2 hv
        have hf : okAt l k = false := by rw [HO.out, ← HCC.out, ← HV.out]; rfl
        have hT := (HB k).out HK.out hf
        subst hT
        clear hf hv
        go_wp2_with fail
        go_ret
        exact ⟨rfl, hB2⟩
      subst hv
      by_cases hK : K = 0
      · have hf : okAt l k = false := by rw [HO.out, ← HCC.out, ← HV.out, hK]; rfl
        have hT := (HB k).out HK.out hf
        subst hT
        subst hK
        clear hf
        go_wp2_with fail
        go_ret
        exact ⟨rfl, hB2⟩
      have eK : ((K : Int) == 0) = false := beq_eq_false_iff_ne.2 hK
      have HN0 := Lib.hid hK
      clear hK
      have cp := fun W => refParent_any P W (by omega)
      have cg := fun W hB => refGet_any (some ⟨b, off, none⟩) n c l (tb (par P.data.toList)) W (Ents.below hE.out hB) (by omega)
      unfold nv at cg
      by_cases hprev : k = 0 ∨ ∃ y, l[k - 1]? = some y ∧ Op.bytesLess y.path.toList P.toList = true
      case neg =>
        have hk0 : k ≠ 0 := fun h => hprev (.inl h)
        obtain ⟨y, hy⟩ : ∃ y, l[k - 1]? = some y := ⟨_, List.getElem?_eq_getElem (by omega)⟩
        have hless : Op.bytesLess y.path.toList P.toList = false := Bool.eq_false_iff.2 (fun h => hprev (.inr ⟨y, hy, h⟩))
        have hf : okAt l k = false := by rw [HO.out, hy, decide_eq_false hk0, Bool.false_or]; simp only [hless]; simp
        have hT := (HB k).out HK.out hf
        subst hT
        obtain ⟨j, rfl⟩ : ∃ j, k = j + 1 := ⟨k - 1, by omega⟩
        rw [Nat.add_sub_cancel] at hy
        have g1 := (hB2.cell (p := ⟨b, _, none⟩) hb).trans (HC.out j y hy).1
        have hsub : ((j + 1 : Nat) : Int) - 1 = j := by omega
        obtain ⟨Y, hY⟩ : ∃ Y, Y = y.path := ⟨_, rfl⟩
        rw [← hY] at g1 hless
        clear hf hprev hk0 hy hY
        go_wp2_with fail
        go_ret
        exact ⟨rfl, hB2⟩
      have hpb : (decide (k = 0) || (match l[k - 1]? with | some y => Op.bytesLess y.path.toList P.toList | none => true)) = true := by
        rcases hprev with h | ⟨y, hy, hless⟩
        · rw [decide_eq_true h]; rfl
        · rw [hy]; simp only [hless]; simp
      have hmain : ((par P.data.toList = []) ∨ (tget l (tb (par P.data.toList))).kind = 1) → okAt l k = true := by
        intro h
        rw [HO.out]
        rw [hpb, ← HCC.out, ← HV.out, decide_eq_false HN0.out]
        rcases h with h | h
        · rw [decide_eq_true h]; rfl
        · rw [decide_eq_true h, Bool.or_true]; rfl
      have hmainf : (par P.data.toList ≠ []) → (tget l (tb (par P.data.toList))).kind ≠ 1 → okAt l k = false := by
        intro h1 h2
        rw [HO.out]
        rw [decide_eq_false h1, decide_eq_false h2, Bool.or_false, Bool.and_false]
      have HM := Lib.hid hmain
      have HMF := Lib.hid hmainf
      clear hmain hmainf hpb
      have hp1 := @tb_nil (par P.data.toList)
      have hp2 := @tb_ne (par P.data.toList)
      obtain ⟨R, hR⟩ : ∃ R, R = tb (par P.data.toList) := ⟨_, rfl⟩
      rw [← hR] at cp cg HM HMF hp1 hp2
      have hnext : okAt l k = true → ∀ i, i < k + 1 → okAt l i = true := by
        intro h i hi
        rcases Nat.lt_or_ge i k with h2 | h2
        · exact hgood.out i h2
        · obtain rfl : i = k := by omega
          exact h
      have HNX := Lib.hid hnext
      clear hR hnext
      rcases hprev with rfl | ⟨y, hy, hless⟩
      · by_cases hpar : par P.data.toList = []
        · have e := hp1 hpar
          have HT := Lib.hid (HNX.out (HM.out (.inl hpar)))
          clear hp1 hp2 hpar
          go_wp2_with (first | (go_at_call 57; refine (cp _).mono ?_; rintro e w3 ⟨rfl, rfl⟩) | (go_at_call 58; refine (cg _ hB2).mono ?_; rintro e w4 ⟨rfl, hb4⟩))
          go_roundw
          case rel => exact ⟨1, by omega, by go_num, HT.out, hB2⟩
          case measure => simp [intOf]; omega
        · have e := hp2 hpar
          have hkind := HMF.out hpar
          have hkind2 := fun h => HM.out (.inr h)
          obtain ⟨N, hN⟩ : ∃ N, N = (tget l R).kind := ⟨_, rfl⟩
          rw [← hN] at cg hkind hkind2
          have hfd : ∀ (a : Int) (d : ByteArray) (w : World), (Instr.field 71 (.agg #[.int .i64 a, .string d]) 0).run Tryz.prog w = .ok (.int .i64 a) w := fun _ _ _ => by kernel_rfl
          clear hp1 hp2 hpar hN
          by_cases h1 : N = 1
          · have HT := Lib.hid (HNX.out (hkind2 h1))
            have e1 : ((N : Int) == 1) = true := by simp [h1]
            clear hkind hkind2 h1
            go_wp2_with (first | (go_at_call 57; refine (cp _).mono ?_; rintro e w3 ⟨rfl, rfl⟩) | (go_at_call 58; refine (cg _ hB2).mono ?_; rintro e w4 ⟨rfl, hb4⟩))
            go_roundw
            case rel => exact ⟨1, by omega, by go_num, HT.out, below_call hB2 hb4⟩
            case measure => simp [intOf]; omega
          · have hT := (HB _).out HK.out (hkind h1)
            have e1 : ((N : Int) == 1) = false := beq_eq_false_iff_ne.2 h1
            subst hT
            clear hkind hkind2 h1
            go_wp2_with (first | (go_at_call 57; refine (cp _).mono ?_; rintro e w3 ⟨rfl, rfl⟩) | (go_at_call 58; refine (cg _ hB2).mono ?_; rintro e w4 ⟨rfl, hb4⟩))
            go_ret
            exact ⟨rfl, below_call hB2 hb4⟩
      · by_cases hk0 : k = 0
        · subst hk0
          by_cases hpar : par P.data.toList = []
          · have e := hp1 hpar
            have HT := Lib.hid (HNX.out (HM.out (.inl hpar)))
            clear hp1 hp2 hpar
            go_wp2_with (first | (go_at_call 57; refine (cp _).mono ?_; rintro e w3 ⟨rfl, rfl⟩) | (go_at_call 58; refine (cg _ hB2).mono ?_; rintro e w4 ⟨rfl, hb4⟩))
            go_roundw
            case rel => exact ⟨1, by omega, by go_num, HT.out, hB2⟩
            case measure => simp [intOf]; omega
          · have e := hp2 hpar
            have hkind := HMF.out hpar
            have hkind2 := fun h => HM.out (.inr h)
            obtain ⟨N, hN⟩ : ∃ N, N = (tget l R).kind := ⟨_, rfl⟩
            rw [← hN] at cg hkind hkind2
            have hfd : ∀ (a : Int) (d : ByteArray) (w : World), (Instr.field 71 (.agg #[.int .i64 a, .string d]) 0).run Tryz.prog w = .ok (.int .i64 a) w := fun _ _ _ => by kernel_rfl
            clear hp1 hp2 hpar hN
            by_cases h1 : N = 1
            · have HT := Lib.hid (HNX.out (hkind2 h1))
              have e1 : ((N : Int) == 1) = true := by simp [h1]
              clear hkind hkind2 h1
              go_wp2_with (first | (go_at_call 57; refine (cp _).mono ?_; rintro e w3 ⟨rfl, rfl⟩) | (go_at_call 58; refine (cg _ hB2).mono ?_; rintro e w4 ⟨rfl, hb4⟩))
              go_roundw
              case rel => exact ⟨1, by omega, by go_num, HT.out, below_call hB2 hb4⟩
              case measure => simp [intOf]; omega
            · have hT := (HB _).out HK.out (hkind h1)
              have e1 : ((N : Int) == 1) = false := beq_eq_false_iff_ne.2 h1
              subst hT
              clear hkind hkind2 h1
              go_wp2_with (first | (go_at_call 57; refine (cp _).mono ?_; rintro e w3 ⟨rfl, rfl⟩) | (go_at_call 58; refine (cg _ hB2).mono ?_; rintro e w4 ⟨rfl, hb4⟩))
              go_ret
              exact ⟨rfl, below_call hB2 hb4⟩
        obtain ⟨j, rfl⟩ : ∃ j, k = j + 1 := ⟨k - 1, by omega⟩
        rw [Nat.add_sub_cancel] at hy
        have g1 := (hB2.cell (p := ⟨b, _, none⟩) hb).trans (HC.out j y hy).1
        have hsub : ((j + 1 : Nat) : Int) - 1 = j := by omega
        obtain ⟨Y, hY⟩ : ∃ Y, Y = y.path := ⟨_, rfl⟩
        rw [← hY] at g1 hless
        clear hk0 hy hY
        by_cases hpar : par P.data.toList = []
        · have e := hp1 hpar
          have HT := Lib.hid (HNX.out (HM.out (.inl hpar)))
          clear hp1 hp2 hpar
          go_wp2_with (first | (go_at_call 57; refine (cp _).mono ?_; rintro e w3 ⟨rfl, rfl⟩) | (go_at_call 58; refine (cg _ hB2).mono ?_; rintro e w4 ⟨rfl, hb4⟩))
          go_roundw
          case rel => exact ⟨j + 1 + 1, by omega, by go_num, HT.out, hB2⟩
          case measure => simp [intOf]; omega
        · have e := hp2 hpar
          have hkind := HMF.out hpar
          have hkind2 := fun h => HM.out (.inr h)
          obtain ⟨N, hN⟩ : ∃ N, N = (tget l R).kind := ⟨_, rfl⟩
          rw [← hN] at cg hkind hkind2
          have hfd : ∀ (a : Int) (d : ByteArray) (w : World), (Instr.field 71 (.agg #[.int .i64 a, .string d]) 0).run Tryz.prog w = .ok (.int .i64 a) w := fun _ _ _ => by kernel_rfl
          clear hp1 hp2 hpar hN
          by_cases h1 : N = 1
          · have HT := Lib.hid (HNX.out (hkind2 h1))
            have e1 : ((N : Int) == 1) = true := by simp [h1]
            clear hkind hkind2 h1
            go_wp2_with (first | (go_at_call 57; refine (cp _).mono ?_; rintro e w3 ⟨rfl, rfl⟩) | (go_at_call 58; refine (cg _ hB2).mono ?_; rintro e w4 ⟨rfl, hb4⟩))
            go_roundw
            case rel => exact ⟨j + 1 + 1, by omega, by go_num, HT.out, below_call hB2 hb4⟩
            case measure => simp [intOf]; omega
          · have hT := (HB _).out HK.out (hkind h1)
            have e1 : ((N : Int) == 1) = false := beq_eq_false_iff_ne.2 h1
            subst hT
            clear hkind hkind2 h1
            go_wp2_with (first | (go_at_call 57; refine (cp _).mono ?_; rintro e w3 ⟨rfl, rfl⟩) | (go_at_call 58; refine (cg _ hB2).mono ?_; rintro e w4 ⟨rfl, hb4⟩))
            go_ret
            exact ⟨rfl, below_call hB2 hb4⟩
    · obtain rfl : k = n := by omega
      have hT := HG.out (fun i hi => hgood.out i (by omega))
      subst hT
      clear hgood hln
      go_wp2_with fail
      go_ret
      exact ⟨rfl, hB⟩
end Go.Proofs.YtdkgkomjbpggeaaGreatDoor.En

namespace Go.Proofs.YtdkgkomjbpggeaaGreatDoor.Ac
open Go.RowKit
open En (Et tcheck)
set_option linter.unusedVariables false
structure Ar where
  tr : Nat → Option (List Et)
  tu : Nat → Option Int
  cl : Bool
  wh : Bool
def bk (l : List Et) : Nat := (l.map fun e => e.path.size + e.node.data.size + 5).sum
theorem bk_cons (x : Et) (l : List Et) : bk (x :: l) = x.path.size + x.node.data.size + 5 + bk l := by unfold bk; rw [List.map_cons, List.sum_cons]
theorem bk_len : ∀ l : List Et, l.length ≤ bk l
  | [] => Nat.zero_le _
  | x :: l => by
    rw [bk_cons, List.length_cons]
    have := bk_len l
    omega
theorem bk_mem : ∀ {l : List Et} {x : Et}, x ∈ l → x.path.size ≤ bk l ∧ x.node.data.size ≤ bk l
  | y :: l, x, h => by
    rw [bk_cons]
    rcases List.mem_cons.1 h with rfl | h
    · omega
    · have := bk_mem h
      omega
theorem bk_small {l : List Et} (h : bk l ≤ 8000000000000) : En.Small l := fun x hx => by
  have := bk_mem hx
  omega
def upd {α : Type} (f : Nat → α) (i : Nat) (x : α) : Nat → α := fun j => if j = i then x else f j
theorem upd_same {α : Type} (f : Nat → α) (i : Nat) (x : α) : upd f i x i = x := by unfold upd; rw [if_pos rfl]
theorem upd_other {α : Type} (f : Nat → α) {i j : Nat} (x : α) (h : j ≠ i) : upd f i x j = f j := by unfold upd; rw [if_neg h]
def a0 : Ar := ⟨fun _ => none, fun _ => none, true, true⟩
def may (i : Int) : Bool := decide (1 ≤ i) && decide (i ≤ 6)
theorem may_yes {i : Int} (h1 : 1 ≤ i) (h2 : i ≤ 6) : may i = true := by unfold may; rw [decide_eq_true h1, decide_eq_true h2]; rfl
theorem may_of {i : Int} (h : may i = true) : 1 ≤ i ∧ i ≤ 6 := by
  unfold may at h
  rw [Bool.and_eq_true] at h
  exact ⟨of_decide_eq_true h.1, of_decide_eq_true h.2⟩
theorem may_nat {i : Int} (h : may i = true) : ∃ k : Nat, i = (k : Int) ∧ 1 ≤ k ∧ k ≤ 6 := by
  obtain ⟨h1, h2⟩ := may_of h
  exact ⟨i.toNat, by omega, by omega, by omega⟩
def saveA (A : Ar) (i : Nat) (t : List Et) : Ar := ⟨upd A.tr i (some t), upd A.tu i none, A.cl && (A.tu i).isNone, A.wh⟩
def turnA (A : Ar) (i : Nat) (b : Int) : Ar := ⟨A.tr, upd A.tu i (some b), A.cl, A.wh⟩
def backA (A : Ar) (i : Nat) : Ar := ⟨A.tr, upd A.tu i none, A.cl, A.wh⟩
def calm (tu : Nat → Option Int) : Bool := (List.range 7).all fun j => (tu j).isNone
def forgetA (A : Ar) (i : Nat) : Ar := ⟨upd A.tr i none, upd A.tu i none, true, calm (upd A.tu i none)⟩
def loadA (A : Ar) (i : Nat) : List Et × Nat := match A.tr i with
  | none => ([], 11)
  | some t => if (A.tu i).isSome then ([], 6) else (t, 0)
def loadI (A : Ar) (i : Int) : List Et × Nat := if may i then loadA A i.toNat else ([], 1)
def saveE (i : Int) (t : List Et) : Nat := if may i then tcheck t else 1
def saveI (A : Ar) (i : Int) (t : List Et) : Ar := if saveE i t = 0 then saveA A i.toNat t else A
def forgetE (i : Int) : Nat := if may i then 0 else 1
def forgetI (A : Ar) (i : Int) : Ar := if may i then forgetA A i.toNat else A
def files (t : List Et) : List ByteArray := (t.filter fun x => decide (x.node.kind = 2)).map fun x => x.node.data
def allC (A : Ar) : List ByteArray := (List.range 7).flatMap fun i => match A.tr i with
  | some t => files t
  | none => []
open Classical in
noncomputable def uniq : List ByteArray → List ByteArray
  | [] => []
  | x :: l => if x ∈ l then uniq l else x :: uniq l
theorem mem_uniq {x : ByteArray} : ∀ {l : List ByteArray}, x ∈ uniq l ↔ x ∈ l
  | [] => Iff.rfl
  | y :: l => by
    rw [uniq]
    split
    · rename_i hy
      rw [mem_uniq (l := l), List.mem_cons]
      exact ⟨.inr, fun h => h.elim (fun e => e ▸ hy) id⟩
    · rw [List.mem_cons, List.mem_cons, mem_uniq (l := l)]
theorem nodup_uniq : ∀ l : List ByteArray, (uniq l).Nodup
  | [] => List.nodup_nil
  | y :: l => by
    rw [uniq]
    split
    · exact nodup_uniq l
    · rename_i hy
      exact List.nodup_cons.2 ⟨fun h => hy (mem_uniq.1 h), nodup_uniq l⟩
noncomputable def kept (A : Ar) : Nat := (uniq (allC A)).length
def well (A : Ar) : Prop := A.cl = true ∧ ∀ j, A.tu j = none
structure Good (A : Ar) : Prop where
  trees : ∀ i t, A.tr i = some t → tcheck t = 0 ∧ 1 ≤ i ∧ i ≤ 6
  there : ∀ i, A.tr i = none → A.tu i = none
theorem good0 : Good a0 := ⟨(fun i t h => by cases h), fun i _ => rfl⟩
theorem well0 : well a0 := ⟨rfl, fun _ => rfl⟩
theorem good_save {A : Ar} {i : Nat} {t : List Et} (h : Good A) (h1 : 1 ≤ i) (h2 : i ≤ 6) (ht : tcheck t = 0) : Good (saveA A i t) := by
  refine ⟨fun j u hj => ?_, fun j hj => ?_⟩
  · by_cases e : j = i
    · subst e
      have : some t = some u := by rw [← hj]; exact (upd_same _ _ _).symm
      injection this with this
      subst this
      exact ⟨ht, h1, h2⟩
    · exact h.trees j u (by rw [← hj]; exact (upd_other A.tr _ e).symm)
  · by_cases e : j = i
    · subst e; exact upd_same _ _ _
    · have h3 : A.tr j = none := by rw [← hj]; exact (upd_other A.tr _ e).symm
      exact (upd_other A.tu _ e).trans (h.there j h3)
theorem good_turn {A : Ar} {i : Nat} {b : Int} (h : Good A) (hi : (A.tr i).isSome = true) : Good (turnA A i b) := by
  refine ⟨h.trees, fun j hj => ?_⟩
  by_cases e : j = i
  · subst e
    rw [show A.tr j = none from hj] at hi
    cases hi
  · exact (upd_other A.tu _ e).trans (h.there j hj)
theorem good_forget {A : Ar} {i : Nat} (h : Good A) : Good (forgetA A i) := by
  refine ⟨fun j u hj => ?_, fun j hj => ?_⟩
  · by_cases e : j = i
    · subst e
      have : none = some u := by rw [← hj]; exact (upd_same A.tr _ _).symm
      cases this
    · exact h.trees j u (by rw [← hj]; exact (upd_other A.tr _ e).symm)
  · by_cases e : j = i
    · subst e; exact upd_same _ _ _
    · have h3 : A.tr j = none := by rw [← hj]; exact (upd_other A.tr _ e).symm
      exact (upd_other A.tu _ e).trans (h.there j h3)
theorem allC_save (A : Ar) {i : Nat} {t : List Et} (hi : i < 7) : ∀ x, x ∈ allC (saveA A i t) ↔ x ∈ files t ∨ ∃ j, j < 7 ∧ j ≠ i ∧ ∃ u, A.tr j = some u ∧ x ∈ files u := by
  intro x
  unfold allC
  rw [List.mem_flatMap]
  constructor
  · rintro ⟨j, hj, hx⟩
    have hj7 := List.mem_range.1 hj
    by_cases e : j = i
    · subst e
      rw [show (saveA A j t).tr j = some t from upd_same _ _ _] at hx
      exact .inl hx
    · rw [show (saveA A i t).tr j = A.tr j from upd_other _ _ e] at hx
      cases hu : A.tr j with
      | none => rw [hu] at hx; cases hx
      | some u => rw [hu] at hx; exact .inr ⟨j, hj7, e, u, hu, hx⟩
  · rintro (hx | ⟨j, hj, e, u, hu, hx⟩)
    · exact ⟨i, List.mem_range.2 hi, by rw [show (saveA A i t).tr i = some t from upd_same _ _ _]; exact hx⟩
    · refine ⟨j, List.mem_range.2 hj, ?_⟩
      rw [show (saveA A i t).tr j = A.tr j from upd_other _ _ e, hu]
      exact hx
theorem nodup_len {l m : List ByteArray} (hl : l.Nodup) (h : ∀ x ∈ l, x ∈ m) : l.length ≤ m.length := by
  induction l generalizing m with
  | nil => exact Nat.zero_le _
  | cons x l ih =>
    have h1 := List.nodup_cons.1 hl
    obtain ⟨s, t, rfl⟩ := List.append_of_mem (h x (List.mem_cons_self ..))
    have := ih (m := s ++ t) h1.2 (fun y hy => by
      have hm := h y (List.mem_cons_of_mem x hy)
      have hne : y ≠ x := fun e => h1.1 (e ▸ hy)
      rw [List.mem_append, List.mem_cons] at hm
      rw [List.mem_append]
      exact hm.elim .inl (fun h => h.elim (fun e => absurd e hne) .inr))
    simp only [List.length_append, List.length_cons] at this ⊢
    omega
theorem kept_same {A B : Ar} (h : ∀ x, x ∈ allC A ↔ x ∈ allC B) : kept A = kept B := by
  unfold kept
  refine Nat.le_antisymm ?_ ?_
  · exact nodup_len (nodup_uniq _) (fun x hx => mem_uniq.2 ((h x).1 (mem_uniq.1 hx)))
  · exact nodup_len (nodup_uniq _) (fun x hx => mem_uniq.2 ((h x).2 (mem_uniq.1 hx)))
theorem kept_le {A : Ar} {l : List ByteArray} (h : ∀ x ∈ allC A, x ∈ l) : kept A ≤ l.length :=
  nodup_len (nodup_uniq _) (fun x hx => h x (mem_uniq.1 hx))
theorem files_len (t : List Et) : (files t).length ≤ t.length := by
  unfold files
  rw [List.length_map]
  exact List.length_filter_le _ _
theorem well_save {A : Ar} {i : Nat} {t : List Et} (h : well A) : well (saveA A i t) := by
  refine ⟨?_, fun j => ?_⟩
  · show (A.cl && (A.tu i).isNone) = true
    rw [h.1, h.2 i]; rfl
  · show upd A.tu i none j = none
    unfold upd
    split
    · rfl
    · exact h.2 j
end Go.Proofs.YtdkgkomjbpggeaaGreatDoor.Ac

namespace Go.Proofs.YtdkgkomjbpggeaaGreatDoor.Dk
open Go.RowKit Tx Pm
set_option linter.unusedVariables false
structure It where
  path : ByteArray
  dir : Bool
  data : ByteArray
  kept : ByteArray
  loose : Bool
  anew : Bool
  stamp : Nat
structure Rm where
  vol : ByteArray
  n : Int
structure St where
  L : List It
  rooms : List Rm
  steps : Nat
  stamps : Nat
  armed : Int
  down : Bool
def find (l : List It) (p : ByteArray) : Option It := l.find? (fun x => decide (x.path = p))
def place (l : List It) (p : ByteArray) : Nat := l.findIdx (fun x => decide (x.path = p))
def kindOf : Option It → Nat
  | none => 0
  | some x => if x.dir then 1 else 2
def kind (l : List It) (p : ByteArray) : Nat := kindOf (find l p)
def vol (p : ByteArray) : ByteArray := tb ((spl p.data.toList).headD [])
def used (l : List It) (v : ByteArray) : Nat := (l.map fun x => if vol x.path = v then x.data.size else 0).sum
def whole (l : List It) : Nat := (l.map fun x => x.data.size).sum
theorem used_le (l : List It) (v : ByteArray) : used l v ≤ whole l := by
  unfold used whole
  induction l with
  | nil => exact Nat.le_refl _
  | cons x l ih =>
    simp only [List.map_cons, List.sum_cons]
    split <;> omega
def fits (s : St) (p : ByteArray) (more : Int) : Bool := decide (more ≤ 0) || s.rooms.all (fun r => !(decide (r.vol = vol p) && decide ((used s.L (vol p) : Int) + more > r.n)))
def first (s : St) (p : ByteArray) (names : Nat) : Nat := if s.down then 14 else if chk p.data.toList 6 ≠ 0 ∨ (spl p.data.toList).length ≤ names then 10 else 0
def home (l : List It) (p : ByteArray) : Bool := decide (par p.data.toList = []) || decide (kind l (tb (par p.data.toList)) = 1)
def there (s : St) (p : ByteArray) : Nat := if first s p 1 ≠ 0 then first s p 1 else if kind s.L p = 0 then 11 else if kind s.L p = 1 then 12 else 0
def done (s : St) : Nat × St := if s.armed = 0 then (14, { s with down := true, armed := -1 }) else (0, { s with armed := if s.armed > 0 then s.armed - 1 else s.armed, steps := s.steps + 1 })
def ins (l : List It) (x : It) : List It := l.takeWhile (fun y => Op.bytesLess y.path.toList x.path.toList) ++ x :: (match l.dropWhile (fun y => Op.bytesLess y.path.toList x.path.toList) with | [] => [] | y :: r => if y.path = x.path then r else y :: r)
def drop (l : List It) (p : ByteArray) : List It := l.filter (fun x => !decide (x.path = p))
def stamped (s : St) (x : It) : It := { x with stamp := s.stamps + 1 }
def putS (s : St) (x : It) : St := { s with L := ins s.L (stamped s x), stamps := s.stamps + 1 }
def list (l : List It) (p : ByteArray) : List ByteArray := (l.filter fun x => decide (tb (par x.path.data.toList) = p)).map (·.path)
def cells (x : It) : List Value := [.string x.path, .bool x.dir, .string x.data, .string x.kept, .bool x.loose, .bool x.anew, .int .i64 x.stamp]
def cellsR (x : Rm) : List Value := [.string x.vol, .int .i64 x.n]
theorem flat_at {α : Type} (f : α → List Value) (m : Nat) (hf : ∀ x, (f x).length = m) : ∀ (l : List α) (k : Nat) (x : α) (j : Nat), l[k]? = some x → j < m → (l.flatMap f)[k * m + j]? = (f x)[j]?
  | [], k, x, j, h, _ => by cases h
  | y :: l, 0, x, j, h, hj => by
    injection h with h
    subst h
    rw [List.flatMap_cons, List.getElem?_append_left (by rw [Nat.zero_mul, Nat.zero_add, hf]; exact hj), Nat.zero_mul, Nat.zero_add]
  | y :: l, k + 1, x, j, h, hj => by
    have e : (k + 1) * m + j = (f y).length + (k * m + j) := by rw [hf, Nat.succ_mul]; omega
    rw [List.flatMap_cons, e, List.getElem?_append_right (by omega), Nat.add_sub_cancel_left]
    exact flat_at f m hf l k x j h hj
theorem own_kept {w w1 : World} {B size n : Nat} {e : TypeId} {v : Value} {xs : List Value} (h : w.ownsRow B e size v n xs) (hk : ∀ g, v.ownBlock = some g → w1.heap[g]? = w.heap[g]?) : w1.ownsRow B e size v n xs := by
  refine ⟨h.1, ?_⟩
  rcases h.2 with h0 | ⟨g, cap, cur, hv, hg, hh, r⟩
  · exact .inl h0
  · exact .inr ⟨g, cap, cur, hv, hg, (hk g (by rw [hv]; rfl)).trans hh, r⟩
structure Chg (F : Nat → Prop) (w w1 : World) : Prop where
  os : w1.os = w.os
  tape : w1.tape = w.tape
  output : w1.output = w.output
  size : w.heap.size ≤ w1.heap.size
  block : ∀ i, i < w.heap.size → ¬ F i → w1.heap[i]? = w.heap[i]?
theorem Chg.of_below {F : Nat → Prop} {w w1 : World} (h : Below w.heap.size w w1) : Chg F w w1 := ⟨h.os, h.tape, h.output, h.size, fun i hi _ => h.block i hi⟩
theorem Chg.trans {F G : Nat → Prop} {w w1 w2 : World} (h : Chg F w w1) (h2 : Chg G w1 w2) (hG : ∀ i, G i → F i ∨ w.heap.size ≤ i) : Chg F w w2 :=
  ⟨h2.os.trans h.os, h2.tape.trans h.tape, h2.output.trans h.output, Nat.le_trans h.size h2.size, fun i hi hn => (h2.block i (Nat.lt_of_lt_of_le hi h.size) (fun hg => by rcases hG i hg with h | h <;> first | exact hn h | omega)).trans (h.block i hi hn)⟩
theorem Chg.mono {F G : Nat → Prop} {w w1 : World} (h : Chg F w w1) (hG : ∀ i, F i → G i) : Chg G w w1 := ⟨h.os, h.tape, h.output, h.size, fun i hi hn => h.block i hi (fun hf => hn (hG i hf))⟩
theorem Chg.below {F : Nat → Prop} {w w1 : World} {B : Nat} (h : Chg F w w1) (hB : B ≤ w.heap.size) (hF : ∀ i, F i → B ≤ i) : Below B w w1 :=
  ⟨h.os, h.tape, h.output, h.size, fun i hi => h.block i (Nat.lt_of_lt_of_le hi hB) (fun hf => by have := hF i hf; omega)⟩
end Go.Proofs.YtdkgkomjbpggeaaGreatDoor.Dk

namespace Go.Proofs.YtdkgkomjbpggeaaGreatDoor.En
open Go.RowKit Tx Pm Pr
set_option linter.unusedVariables false
def spare : Et := ⟨⟨#[115, 112, 97, 114, 101]⟩, ⟨0, ⟨#[]⟩⟩⟩
theorem Ents.take {w : World} {a : Option Addr} {n m : Nat} {l : List Et} (h : Ents w a n l) (hm : m ≤ n) : Ents w a m (l.take m) := by
  refine ⟨by rw [List.length_take, h.1]; omega, ?_⟩
  rcases h.2 with h0 | ⟨b, off, ha, hlt, hc⟩
  · exact .inl (by omega)
  · refine .inr ⟨b, off, ha, hlt, fun k x hx => hc k x ?_⟩
    rw [List.getElem?_take] at hx
    split at hx
    · exact hx
    · cases hx
end Go.Proofs.YtdkgkomjbpggeaaGreatDoor.En

namespace Go.Proofs.YtdkgkomjbpggeaaGreatDoor.En
open Go.RowKit Tx
set_option linter.unusedVariables false
section
variable {P : Program} (w : World)
end
def less (a b : ByteArray) : Bool := Op.bytesLess a.toList b.toList
theorem below_drewN {B : Nat} {a w : World} (h : Below B a w) (n : Nat) : Below B a (w.drewN n) := ⟨h.os, h.tape, h.output, h.size, h.block⟩
theorem row_below {w w1 : World} {B n : Nat} {v : Value} {xs : List Value} (h : w.ownsRow B 73 3 v n xs) (hb : Below w.heap.size w w1) : w1.ownsRow B 73 3 v n xs := by
  refine ⟨h.1, ?_⟩
  rcases h.2 with h0 | ⟨g', cap', cur, hv, hg, hh, r⟩
  · exact .inl h0
  · exact .inr ⟨g', cap', cur, hv, hg, (hb.block g' (Array.getElem?_eq_some_iff.1 hh).1).trans hh, r⟩
theorem grow_below {w0 w w1 : World} {B n : Nat} {v : Value} {xs : List Value} (hb : Below B w0 w) (hs : B ≤ w.heap.size) (h : w.ownsRow B 73 3 v n xs) (hg : w.grownBy w1 v.ownBlock) : Below B w0 w1 :=
  hb.grown hg hs (fun k hk => (h.lt k hk).1)
end Go.Proofs.YtdkgkomjbpggeaaGreatDoor.En

namespace Go.Proofs.YtdkgkomjbpggeaaGreatDoor.En
open Go.RowKit Tx Pm Pr
set_option linter.unusedVariables false
end Go.Proofs.YtdkgkomjbpggeaaGreatDoor.En

namespace Go.Proofs.YtdkgkomjbpggeaaGreatDoor.En
open Go.RowKit Tx Pm Pr
set_option linter.unusedVariables false
end Go.Proofs.YtdkgkomjbpggeaaGreatDoor.En

namespace Go.Proofs.YtdkgkomjbpggeaaGreatDoor.Ap
open Go.RowKit Tx
set_option linter.unusedVariables false
section
variable {P : Program}
theorem append_two (w : World) (base : Nat) (t ty e : TypeId) (i : TypeInfo) (z : Value) (size bytes : Nat) (ht : P.underlying t = some (.slice e)) (hi : P.info? e = some i) (hz : i.zero = some z)
    (hsize : i.size = size) (hby : i.bytes = bytes) (hzs : z.cells.size = size) (hsp : 0 < size) (hs16 : size ≤ 16)
    (v : Value) (n : Nat) (xs : List Value) (hown : w.ownsRow base e size v n xs)
    (a : Addr) (c : Nat) (us : List Value) (hul : us.length = size) (hnews : ∀ j x, us[j]? = some x → w.cell? (a.add j) = some x) (hone : ∀ x ∈ us, x.oneCell' = true)
    (hn : n + 1 ≤ 57646075230342348) (hbytes : (n + 1) * bytes ≤ 140737488355328) (hbase : base ≤ w.heap.size) :
    ∃ v' w', (Builtin.append_ #[t, t] ty #[v, .slice (some a) 1 c]).run P w = .ok v' w' ∧ w'.ownsRow base e size v' (n + 1) (xs ++ us) ∧
      ((v'.ownBlock = v.ownBlock ∧ w.grownBy w' v.ownBlock) ∨ (v'.ownBlock = some w.heap.size ∧ w.grownBy w' none)) := by
  have hlen : (xs ++ us).length = (n + 1) * size := by rw [List.length_append, hown.1, hul, Nat.add_mul, Nat.one_mul]
  have made : ∀ old, old < n + 1 → (w.drew.alloc (.cells (xs.toArray ++ us.toArray ++ Builtin.zeroCells z.cells (grownCap w (n + 1) old e - (n + 1))) e)).ownsRow base e size (.slice (some ⟨w.heap.size, 0, none⟩) (n + 1) (grownCap w (n + 1) old e)) (n + 1) (xs ++ us) ∧
      w.grownBy (w.drew.alloc (.cells (xs.toArray ++ us.toArray ++ Builtin.zeroCells z.cells (grownCap w (n + 1) old e - (n + 1))) e)) none := by
    intro old _
    have hge := grownCap_ge w (n + 1) old e
    have hcm := grownCap_le_maxLen w (n + 1) old e (by unfold maxLen; omega)
    refine ⟨⟨hlen, .inr ⟨w.heap.size, _, _, rfl, hbase, heap_alloc_new w.drew _, hge, hcm, ?_, ?_⟩⟩, ⟨rfl, rfl, rfl, by simp, fun k hk _ => Below.heap_alloc w.drew _ k hk⟩⟩
    · have h0 := hown.1
      simp only [Array.size_append, List.size_toArray, size_zeroCells, hzs, hul]
      obtain ⟨d, hd⟩ : ∃ d, grownCap w (n + 1) old e = n + 1 + d := ⟨grownCap w (n + 1) old e - (n + 1), by omega⟩
      rw [hd, h0, show n + 1 + d - (n + 1) = d by omega, Nat.add_mul, Nat.add_mul, Nat.one_mul]
    · simp only [Array.toList_append, List.append_assoc]
      rw [← List.append_assoc]
      exact List.take_left' hlen
  rcases hown.2 with ⟨rfl, rfl⟩ | ⟨g, cap, cur, rfl, hbg, hg, hnc, hcm, hcs, htake⟩
  · have hx : xs = [] := List.eq_nil_of_length_eq_zero (by simpa using hown.1)
    subst hx
    have hr := run_append_nil (P := P) w t ty e i z ht hi hz a 1 c us (by rw [hsize, hul, Nat.one_mul]) hnews (by omega) (by omega) (by rw [hby]; have h2 := hbytes; simp only [Nat.zero_add] at h2; omega)
    have hm := made 0 (by omega)
    simp only [Nat.zero_add, List.nil_append, Array.empty_append] at hm ⊢
    exact ⟨_, _, hr, hm.1, .inr ⟨rfl, hm.2⟩⟩
  · by_cases hroom : n + 1 ≤ cap
    · have hle : (n + 1) * size ≤ cap * size := Nat.mul_le_mul_right _ hroom
      have hfit : n * i.size + us.length ≤ cur.size := by rw [hsize, hcs, hul]; rw [Nat.add_mul, Nat.one_mul] at hle; exact hle
      have hr := run_append_room (P := P) w t ty e i ht hi g n cap cur hg a 1 c us (by rw [hsize, hul, Nat.one_mul]) hnews hone hroom hfit
      refine ⟨_, _, hr, ⟨hlen, .inr ⟨g, cap, _, rfl, hbg, setRow_heap w g cur _ e _ hg, hroom, hcm, ?_, ?_⟩⟩, .inl ⟨rfl, ⟨rfl, rfl, rfl, by simp, fun k _ hk => setRow_other w g k _ (fun e => hk (by simp [Value.ownBlock, e]))⟩⟩⟩
      · simp only [List.size_toArray, List.length_append, List.length_take, List.length_drop, Array.length_toList]
        omega
      · rw [hsize, htake]
        exact List.take_left' hlen
    · have hr := run_append_grow (P := P) w t ty e i z ht hi hz ⟨g, 0, none⟩ n cap xs (by rw [hsize]; exact hown.1) (hown.cells (g := g) rfl) a 1 c us (by rw [hsize, hul, Nat.one_mul]) hnews (by omega) (by omega) (growslice_fits (by omega) (by rw [hby]; exact hbytes))
      have hm := made cap (by omega)
      exact ⟨_, _, hr, hm.1, .inr ⟨rfl, hm.2⟩⟩
end
theorem wpList_append_two {P : Program} (w : World) {ops : Array Oper} {rest : List Oper} {o : Oper} {a : Act} {Q : Exit → Act → World → Prop} (hgd : o.guard = none) (s x : Operand) (t : TypeId)
    (ho : o.op = .call { callee := .builtin .append, args := #[s, x], argTypes := #[t, t] })
    (base : Nat) (e : TypeId) (i : TypeInfo) (z : Value) (size bytes : Nat) (ht : P.underlying t = some (.slice e)) (hi : P.info? e = some i) (hz : i.zero = some z)
    (hsize : i.size = size) (hby : i.bytes = bytes) (hzs : z.cells.size = size) (hsp : 0 < size) (hs16 : size ≤ 16)
    (v : Value) (n : Nat) (xs : List Value) (hs : a.eval s = v) (hown : w.ownsRow base e size v n xs)
    (ad : Addr) (c : Nat) (us : List Value) (hx : a.eval x = .slice (some ad) 1 c) (hul : us.length = size) (hnews : ∀ j x, us[j]? = some x → w.cell? (ad.add j) = some x) (hone : ∀ x ∈ us, x.oneCell' = true)
    (hn : n + 1 ≤ 57646075230342348) (hbytes : (n + 1) * bytes ≤ 140737488355328) (hbase : base ≤ w.heap.size)
    (h : ∀ v' w', w'.ownsRow base e size v' (n + 1) (xs ++ us) → ((v'.ownBlock = v.ownBlock ∧ w.grownBy w' v.ownBlock) ∨ (v'.ownBlock = some w.heap.size ∧ w.grownBy w' none)) → wpList P ops Q rest (a.put o.dst v') w') :
    wpList P ops Q (o :: rest) a w := by
  refine wpList_plain hgd fun K hK => ?_
  obtain ⟨v', w', hr, h2, h3⟩ := append_two (P := P) w base t o.type e i z size bytes ht hi hz hsize hby hzs hsp hs16 v n xs hown ad c us hul hnews hone hn hbytes hbase
  unfold Oper.wp execOp
  simp only [ho, resolve, invoke, builtin, Sem.run_bind, Sem.run_pure, Result.andThen_ok, List.map_toArray, List.map_cons, List.map_nil, hs, hx, hr]
  exact hK _ _ (h v' w' h2 h3)
end Go.Proofs.YtdkgkomjbpggeaaGreatDoor.Ap

namespace Go.Proofs.YtdkgkomjbpggeaaGreatDoor.Ea
open Go.RowKit Tx En Ap
set_option linter.unusedVariables false
theorem flat_set : ∀ (l : List Et) (k : Nat) (x : Et), k < l.length → (((l.flatMap cells).set (k * 3) (.string x.path)).set (k * 3 + 1) (.int .i64 x.node.kind)).set (k * 3 + 1 + 1) (.string x.node.data) = (l.set k x).flatMap cells
  | [], k, x, h => by simp at h
  | y :: l, 0, x, h => by
    simp [cells]
  | y :: l, k + 1, x, h => by
    have ih := flat_set l k x (by simpa using h)
    have e1 : (k + 1) * 3 = (cells y).length + k * 3 := by show _ = 3 + _; omega
    rw [List.set_cons_succ, List.flatMap_cons, List.flatMap_cons, ← ih, e1]
    have hle : ∀ (q : Nat) (u : Value) (m : List Value), (cells y ++ m).set ((cells y).length + q) u = cells y ++ m.set q u := by
      intro q u m
      rw [List.set_append_right _ _ (by omega), Nat.add_sub_cancel_left]
    rw [hle, Nat.add_assoc, hle, Nat.add_assoc, hle]
end Go.Proofs.YtdkgkomjbpggeaaGreatDoor.Ea

namespace Go.Proofs.YtdkgkomjbpggeaaGreatDoor.Ac
open Go.RowKit Tx Pm Pr Dk
open En (Et tcheck Ents Small)
set_option linter.unusedVariables false
structure Kd {α : Type} (O : World → (Nat → Prop) → α → Prop) : Prop where
  lt : ∀ {w F s}, O w F s → ∀ i, F i → i < w.heap.size
  kept : ∀ {w w1 F s}, O w F s → (∀ i, F i → w1.heap[i]? = w.heap[i]?) → O w1 F s
def Lf {α : Type} (O : World → (Nat → Prop) → α → Prop) (W : World) (F : Nat → Prop) (y : α) (w' : World) : Prop := ∃ F', O w' F' y ∧ Chg F W w' ∧ ∀ g, F' g → F g ∨ W.heap.size ≤ g
abbrev Ob := World → (Nat → Prop) → Ar × Nat → Prop
def pB : ByteArray := ⟨#[98, 47]⟩
def KeysTo (w : World) (n : Nat) (P : Prop) (e : Ending) (w' : World) : Prop := ∃ v l, e = .returned v ∧ Texts w' w.heap.size v l ∧ (P → l.length = n) ∧ Below w.heap.size w w'
structure Impl (T : World → Prop) (O : Nat → Nat → Ob) (Cm : Nat → Ob) (Op : Nat → Nat → Ob) : Prop where
  kO : ∀ d u, Kd (O d u)
  kC : ∀ d, Kd (Cm d)
  kP : ∀ d t, Kd (Op d t)
  tk : ∀ {w w' : World}, T w → Below w.heap.size w w' → T w'
  new : ∀ {W}, T W → Calls Tryz.prog 6 #[] W fun e w' => ∃ d F, e = .returned (.pointer (some ⟨d, 0, none⟩)) ∧ Cm d w' F (a0, 0) ∧ (∀ i, F i → W.heap.size ≤ i) ∧ Below W.heap.size W w'
  open_ : ∀ {d W F A k}, T W → Cm d W F (A, k) → k ≤ 2000000 → Calls Tryz.prog 7 #[.pointer (some ⟨d, 0, none⟩), .string ⟨#[115, 121, 115]⟩] W fun e w' => ∃ t, e = .returned (.tuple #[.pointer (some ⟨t, 0, none⟩), .int .i64 0]) ∧ Lf (Op d t) W F (A, k) w'
  begin : ∀ {d t W F A k}, T W → Op d t W F (A, k) → k ≤ 10000000 → Calls Tryz.prog 9 #[.pointer (some ⟨t, 0, none⟩)] W fun e w' => ∃ u, e = .returned (.pointer (some ⟨u, 0, none⟩)) ∧ Lf (O d u) W F (A, k) w'
  save : ∀ {d u W F A k} (i : Int) (a : Option Addr) (n c : Nat) (l : List Et), T W → O d u W F (A, k) → k + bk l ≤ 10000000 → -9223372036854775808 ≤ i ∧ i ≤ 9223372036854775807 → Ents W a n l → n ≤ c → c ≤ 9223372036854775807 → (n = 0 ∨ ∀ x, a = some x → ¬ F x.block) →
    Calls Tryz.prog 11 #[.pointer (some ⟨u, 0, none⟩), .int .i64 i, .slice a n c] W fun e w' => e = .returned (.int .i64 (saveE i l : Nat)) ∧ Lf (O d u) W F (saveI A i l, k + 10000 + bk l) w'
  load : ∀ {d u W F A k} (i : Int), T W → O d u W F (A, k) → k ≤ 10000000 → -9223372036854775808 ≤ i ∧ i ≤ 9223372036854775807 →
    Calls Tryz.prog 22 #[.pointer (some ⟨u, 0, none⟩), .int .i64 i] W fun e w' => ∃ v, e = .returned (.tuple #[v, .int .i64 ((loadI A i).2 : Nat)]) ∧ En.Own w' W.heap.size v (loadI A i).1 ∧ Below W.heap.size W w'
  turn : ∀ {d u W F A k} (i : Nat) (b : Int) (t : List Et), T W → O d u W F (A, k) → k ≤ 10000000 → 1 ≤ i → i ≤ 6 → A.tr i = some t → A.tu i = none → -9223372036854775808 ≤ b ∧ b ≤ 9223372036854775807 →
    Calls Tryz.prog 15 #[.pointer (some ⟨u, 0, none⟩), .int .i64 (i : Int), .int .i64 b] W fun e w' => e = .returned (.int .i64 0) ∧ Lf (O d u) W F (turnA A i b, k + 10000) w'
  back : ∀ {d u W F A k} (i : Nat) (b : Int) (t : List Et), T W → O d u W F (A, k) → k ≤ 10000000 → 1 ≤ i → i ≤ 6 → A.tr i = some t → A.tu i = some b → A.wh = true → -9223372036854775808 ≤ b ∧ b ≤ 9223372036854775807 →
    Calls Tryz.prog 15 #[.pointer (some ⟨u, 0, none⟩), .int .i64 (i : Int), .int .i64 b] W fun e w' => e = .returned (.int .i64 0) ∧ Lf (O d u) W F (backA A i, k + 10000) w'
  turnE : ∀ {d u W F A k} (i b : Int), T W → O d u W F (A, k) → k ≤ 10000000 → -9223372036854775808 ≤ i ∧ i ≤ 9223372036854775807 → -9223372036854775808 ≤ b ∧ b ≤ 9223372036854775807 → (loadI A i).2 = 1 ∨ (loadI A i).2 = 11 →
    Calls Tryz.prog 15 #[.pointer (some ⟨u, 0, none⟩), .int .i64 i, .int .i64 b] W fun e w' => e = .returned (.int .i64 ((loadI A i).2 : Nat)) ∧ Lf (O d u) W F (A, k + 10000) w'
  forget : ∀ {d u W F A k} (i : Int), T W → O d u W F (A, k) → k ≤ 2000000 → -9223372036854775808 ≤ i ∧ i ≤ 9223372036854775807 →
    Calls Tryz.prog 16 #[.pointer (some ⟨u, 0, none⟩), .int .i64 i] W fun e w' => e = .returned (.int .i64 (forgetE i : Nat)) ∧ Lf (O d u) W F (forgetI A i, k + 10000) w'
  commit : ∀ {d u W F A k}, T W → O d u W F (A, k) → k ≤ 2000000 → Calls Tryz.prog 18 #[.pointer (some ⟨u, 0, none⟩)] W fun e w' => e = .returned (.int .i64 0) ∧ Lf (Cm d) W F (A, k + 10000) w'
  keysB : ∀ {d u W F A k}, T W → O d u W F (A, k) → k ≤ 10000000 → Calls Tryz.prog 20 #[.pointer (some ⟨u, 0, none⟩), .string ⟨#[98, 47]⟩] W (KeysTo W (kept A) (well A))
  keysA : ∀ {d u W F A k}, T W → O d u W F (A, k) → k ≤ 10000000 → Calls Tryz.prog 20 #[.pointer (some ⟨u, 0, none⟩), .string ⟨#[97, 47]⟩] W (KeysTo W 0 (∀ j, A.tr j = none))
section
variable {α β : Type} {O : World → (Nat → Prop) → α → Prop} {O' : World → (Nat → Prop) → β → Prop}
theorem lf_below (k : Kd O) {W w' : World} {F : Nat → Prop} {y : α} (h : O W F y) (hb : Below W.heap.size W w') : O w' F y := k.kept h (fun i hi => hb.block i (k.lt h i hi))
def Mine (O : World → (Nat → Prop) → α → Prop) (w0 : World) (y : α) (W : World) : Prop := ∃ F, O W F y ∧ (∀ i, F i → w0.heap.size ≤ i) ∧ Below w0.heap.size w0 W
theorem Mine.bel {w0 W : World} {y : α} (h : Mine O w0 y W) : Below w0.heap.size w0 W := by
  obtain ⟨F, _, _, h⟩ := h
  exact h
theorem Mine.below (k : Kd O) {w0 W w' : World} {y : α} (h : Mine O w0 y W) (hb : Below W.heap.size W w') : Mine O w0 y w' := by
  obtain ⟨F, h1, h2, h3⟩ := h
  exact ⟨F, lf_below k h1 hb, h2, below_call h3 hb⟩
theorem chg_bel {w w1 : World} {F : Nat → Prop} {B : Nat} (hc : Chg F w w1) (hF : ∀ i, F i → B ≤ i) (hB : B ≤ w.heap.size) : Below B w w1 := hc.below hB hF
theorem Mine.left {w0 W w' : World} {F : Nat → Prop} {y : β} (hF : ∀ i, F i → w0.heap.size ≤ i) (hb : Below w0.heap.size w0 W) (h : Lf O' W F y w') : Mine O' w0 y w' := by
  obtain ⟨F', h1, h2, h3⟩ := h
  have hs := hb.size
  refine ⟨F', h1, fun i hi => ?_, hb.trans (chg_bel h2 hF hs)⟩
  rcases h3 i hi with hh | hh
  · exact hF i hh
  · omega
theorem Mine.call {w0 W : World} {y : α} {z : β} {f : FuncId} {args : Array Value} {P : Ending → Prop} (h : Mine O w0 y W) (hc : ∀ F, O W F y → (∀ i, F i → w0.heap.size ≤ i) → Calls Tryz.prog f args W fun e w' => P e ∧ Lf O' W F z w') : Calls Tryz.prog f args W fun e w' => P e ∧ Mine O' w0 z w' := by
  obtain ⟨F, h1, h2, h3⟩ := h
  exact (hc F h1 h2).mono fun e w' hh => ⟨hh.1, Mine.left h2 h3 hh.2⟩
end
end Go.Proofs.YtdkgkomjbpggeaaGreatDoor.Ac

namespace Go.Proofs.YtdkgkomjbpggeaaGreatDoor.Ac
open Go.RowKit Tx Pm Pr Dk
open En (Et tcheck Ents Small)
set_option linter.unusedVariables false
set_option linter.unusedSimpArgs false
set_option linter.unnecessarySimpa false
section
variable {T : World → Prop} {O : Nat → Nat → Ob} {Cm : Nat → Ob} {Op : Nat → Nat → Ob} {w0 W : World} {d t u : Nat} {A : Ar} {k : Nat}
theorem tk0 (hI : Impl T O Cm Op) (hT : T w0) {w : World} (h : Below w0.heap.size w0 w) : T w := hI.tk hT h
theorem mine_new (hI : Impl T O Cm Op) (hT : T w0) (hb : Below w0.heap.size w0 W) : Calls Tryz.prog 6 #[] W fun e w' => ∃ d, e = .returned (.pointer (some ⟨d, 0, none⟩)) ∧ Mine (Cm d) w0 (a0, 0) w' :=
  (hI.new (tk0 hI hT hb)).mono fun e w' ⟨d, F, he, h1, h2, h3⟩ => ⟨d, he, F, h1, (fun i hi => Nat.le_trans hb.size (h2 i hi)), below_call hb h3⟩
theorem mine_open (hI : Impl T O Cm Op) (hT : T w0) (h : Mine (Cm d) w0 (A, k) W) (hk : k ≤ 2000000) : Calls Tryz.prog 7 #[.pointer (some ⟨d, 0, none⟩), .string ⟨#[115, 121, 115]⟩] W fun e w' => ∃ t, e = .returned (.tuple #[.pointer (some ⟨t, 0, none⟩), .int .i64 0]) ∧ Mine (Op d t) w0 (A, k) w' := by
  obtain ⟨F, h1, h2, h3⟩ := h
  exact (hI.open_ (tk0 hI hT h3) h1 hk).mono fun e w' ⟨t, he, hl⟩ => ⟨t, he, Mine.left h2 h3 hl⟩
theorem mine_begin (hI : Impl T O Cm Op) (hT : T w0) (h : Mine (Op d t) w0 (A, k) W) (hk : k ≤ 10000000) : Calls Tryz.prog 9 #[.pointer (some ⟨t, 0, none⟩)] W fun e w' => ∃ u, e = .returned (.pointer (some ⟨u, 0, none⟩)) ∧ Mine (O d u) w0 (A, k) w' := by
  obtain ⟨F, h1, h2, h3⟩ := h
  exact (hI.begin (tk0 hI hT h3) h1 hk).mono fun e w' ⟨t, he, hl⟩ => ⟨t, he, Mine.left h2 h3 hl⟩
theorem mine_save (hI : Impl T O Cm Op) (hT : T w0) (h : Mine (O d u) w0 (A, k) W) (i : Int) (a : Option Addr) (n c : Nat) (l : List Et) (hk : k + bk l ≤ 10000000) (hi : -9223372036854775808 ≤ i ∧ i ≤ 9223372036854775807) (hl : Ents w0 a n l) (hnc : n ≤ c ∧ c ≤ 9223372036854775807) :
    Calls Tryz.prog 11 #[.pointer (some ⟨u, 0, none⟩), .int .i64 i, .slice a n c] W fun e w' => e = .returned (.int .i64 (saveE i l : Nat)) ∧ Mine (O d u) w0 (saveI A i l, k + 10000 + bk l) w' := by
  obtain ⟨F, h1, h2, h3⟩ := h
  refine (hI.save i a n c l (tk0 hI hT h3) h1 hk hi (hl.below h3) hnc.1 hnc.2 ?_).mono fun e w' ⟨he, hl⟩ => ⟨he, Mine.left h2 h3 hl⟩
  rcases hl.2 with h0 | ⟨b, off, rfl, hb, _⟩
  · exact .inl h0
  · refine .inr fun x hx hf => ?_
    injection hx with hx
    subst hx
    have := h2 _ hf
    exact absurd hb (Nat.not_lt.2 this)
theorem mine_load (hI : Impl T O Cm Op) (hT : T w0) (h : Mine (O d u) w0 (A, k) W) (hk : k ≤ 10000000) (i : Int) (hi : -9223372036854775808 ≤ i ∧ i ≤ 9223372036854775807) :
    Calls Tryz.prog 22 #[.pointer (some ⟨u, 0, none⟩), .int .i64 i] W fun e w' => ∃ a c, e = .returned (.tuple #[.slice a (loadI A i).1.length c, .int .i64 ((loadI A i).2 : Nat)]) ∧ Ents w' a (loadI A i).1.length (loadI A i).1 ∧ (loadI A i).1.length ≤ c ∧ Mine (O d u) w0 (A, k) w' ∧ Below W.heap.size W w' := by
  obtain ⟨F, h1, h2, h3⟩ := h
  refine (hI.load i (tk0 hI hT h3) h1 hk hi).mono fun e w' ⟨v, he, ho, hb⟩ => ?_
  obtain ⟨a, c, rfl, g1, g2, _⟩ := ho.form
  exact ⟨a, c, he, g1, g2, ⟨F, lf_below (hI.kO d u) h1 hb, h2, below_call h3 hb⟩, hb⟩
theorem mine_keys (hI : Impl T O Cm Op) (hT : T w0) (h : Mine (O d u) w0 (A, k) W) (hk : k ≤ 10000000) (hw : well A) :
    Calls Tryz.prog 20 #[.pointer (some ⟨u, 0, none⟩), .string ⟨#[98, 47]⟩] W fun e w' => ∃ a c, e = .returned (.slice a (kept A) c) ∧ Mine (O d u) w0 (A, k) w' := by
  obtain ⟨F, h1, h2, h3⟩ := h
  refine (hI.keysB (tk0 hI hT h3) h1 hk).mono fun e w' ⟨v, l, he, ho, hl, hb⟩ => ?_
  have hl := hl hw
  obtain ⟨a, c, rfl⟩ : ∃ a c, v = .slice a l.length c := by
    rcases ho.2 with ⟨hv, h0⟩ | ⟨g, cap, cur, hv, _⟩
    · exact ⟨none, 0, by rw [hv, h0]⟩
    · exact ⟨_, _, hv⟩
  rw [hl] at he
  exact ⟨a, c, he, F, lf_below (hI.kO d u) h1 hb, h2, below_call h3 hb⟩
theorem mine_turn (hI : Impl T O Cm Op) (hT : T w0) (h : Mine (O d u) w0 (A, k) W) (hk : k ≤ 10000000) (i : Nat) (b : Int) {l : List Et} (h1 : 1 ≤ i) (h6 : i ≤ 6) (hl : A.tr i = some l) (ht : A.tu i = none) (hb : -9223372036854775808 ≤ b ∧ b ≤ 9223372036854775807) :
    Calls Tryz.prog 15 #[.pointer (some ⟨u, 0, none⟩), .int .i64 (i : Int), .int .i64 b] W fun e w' => e = .returned (.int .i64 0) ∧ Mine (O d u) w0 (turnA A i b, k + 10000) w' :=
  h.call fun F o hF => hI.turn i b l (tk0 hI hT h.bel) o hk h1 h6 hl ht hb
theorem mine_back (hI : Impl T O Cm Op) (hT : T w0) (h : Mine (O d u) w0 (A, k) W) (hk : k ≤ 10000000) (i : Nat) (b : Int) {l : List Et} (h1 : 1 ≤ i) (h6 : i ≤ 6) (hl : A.tr i = some l) (ht : A.tu i = some b) (hw : A.wh = true) (hb : -9223372036854775808 ≤ b ∧ b ≤ 9223372036854775807) :
    Calls Tryz.prog 15 #[.pointer (some ⟨u, 0, none⟩), .int .i64 (i : Int), .int .i64 b] W fun e w' => e = .returned (.int .i64 0) ∧ Mine (O d u) w0 (backA A i, k + 10000) w' :=
  h.call fun F o hF => hI.back i b l (tk0 hI hT h.bel) o hk h1 h6 hl ht hw hb
end
end Go.Proofs.YtdkgkomjbpggeaaGreatDoor.Ac

namespace Go.Proofs.YtdkgkomjbpggeaaGreatDoor.Ac
open Go.RowKit Tx Pm Pr Dk
set_option linter.unusedVariables false
section
variable {α β γ : Type} {OA : World → (Nat → Prop) → α → Prop} {OB : World → (Nat → Prop) → β → Prop} {OC : World → (Nat → Prop) → γ → Prop} {w0 W : World} {x : α} {y : β} {z : γ} {q : List (Nat × Obj)}
def Tw (OA : World → (Nat → Prop) → α → Prop) (OB : World → (Nat → Prop) → β → Prop) (w0 : World) (q : List (Nat × Obj)) (x : α) (y : β) (W : World) : Prop :=
  ∃ F G, OA W F x ∧ OB W G y ∧ (∀ i, F i → ¬ G i) ∧ (∀ i, F i ∨ G i → w0.heap.size ≤ i) ∧ Below w0.heap.size w0 W ∧ ∀ p ∈ q, W.heap[p.1]? = some p.2 ∧ ¬ F p.1 ∧ ¬ G p.1
theorem Tw.bel (h : Tw OA OB w0 q x y W) : Below w0.heap.size w0 W := by
  obtain ⟨_, _, _, _, _, _, h, _⟩ := h
  exact h
theorem Tw.turn (h : Tw OA OB w0 q x y W) : Tw OB OA w0 q y x W := by
  obtain ⟨F, G, h1, h2, h3, h4, h5, h6⟩ := h
  exact ⟨G, F, h2, h1, fun i hi hj => h3 i hj hi, fun i hi => h4 i hi.symm, h5, fun p hp => ⟨(h6 p hp).1, (h6 p hp).2.2, (h6 p hp).2.1⟩⟩
theorem Tw.drop {q' : List (Nat × Obj)} (h : Tw OA OB w0 q x y W) (hq : ∀ p ∈ q', p ∈ q) : Tw OA OB w0 q' x y W := by
  obtain ⟨F, G, h1, h2, h3, h4, h5, h6⟩ := h
  exact ⟨F, G, h1, h2, h3, h4, h5, fun p hp => h6 p (hq p hp)⟩
theorem Tw.below (kA : Kd OA) (kB : Kd OB) {w' : World} (h : Tw OA OB w0 q x y W) (hb : Below W.heap.size W w') : Tw OA OB w0 q x y w' := by
  obtain ⟨F, G, h1, h2, h3, h4, h5, h6⟩ := h
  exact ⟨F, G, kA.kept h1 (fun i hi => hb.block i (kA.lt h1 i hi)), kB.kept h2 (fun i hi => hb.block i (kB.lt h2 i hi)), h3, h4, below_call h5 hb, fun p hp => ⟨(hb.block p.1 (Array.getElem?_eq_some_iff.1 (h6 p hp).1).1).trans (h6 p hp).1, (h6 p hp).2⟩⟩
theorem Tw.row (kA : Kd OA) (kB : Kd OB) {w' : World} {g : Nat} {o : Obj} (h : Tw OA OB w0 q x y W) (hb : Below W.heap.size W w') (hg : W.heap.size ≤ g) (ho : w'.heap[g]? = some o) : Tw OA OB w0 ((g, o) :: q) x y w' := by
  obtain ⟨F, G, h1, h2, h3, h4, h5, h6⟩ := h
  refine ⟨F, G, kA.kept h1 (fun i hi => hb.block i (kA.lt h1 i hi)), kB.kept h2 (fun i hi => hb.block i (kB.lt h2 i hi)), h3, h4, below_call h5 hb, fun p hp => ?_⟩
  rcases List.mem_cons.1 hp with rfl | hp
  · exact ⟨ho, fun hf => by have := kA.lt h1 _ hf; exact absurd hg (Nat.not_le.2 this), fun hf => by have := kB.lt h2 _ hf; exact absurd hg (Nat.not_le.2 this)⟩
  · exact ⟨(hb.block p.1 (Array.getElem?_eq_some_iff.1 (h6 p hp).1).1).trans (h6 p hp).1, (h6 p hp).2⟩
theorem Tw.at {p : Nat × Obj} (h : Tw OA OB w0 q x y W) (hp : p ∈ q) : W.heap[p.1]? = some p.2 := by
  obtain ⟨_, _, _, _, _, _, _, h6⟩ := h
  exact (h6 _ hp).1
end
end Go.Proofs.YtdkgkomjbpggeaaGreatDoor.Ac

namespace Go.Proofs.YtdkgkomjbpggeaaGreatDoor.Ac
open Go.RowKit Tx Pm Pr Dk
open En (Et tcheck Ents Small)
set_option linter.unusedVariables false
structure RefX (ba : Nat) (w : World) (G : Nat → Prop) (A : Ar) : Prop where
  cells : ∃ v : Nat → Value, (∀ i, i < 7 → w.cell? ⟨ba, i, none⟩ = some (v i) ∧ w.cell? ⟨ba, 7 + i, none⟩ = some (.bool (A.tr i).isSome) ∧ w.cell? ⟨ba, 14 + i, none⟩ = some (.bool (A.tu i).isSome)) ∧
    ∀ i t, i < 7 → A.tr i = some t → ∃ a c, v i = .slice a t.length c ∧ Ents w a t.length t ∧ t.length ≤ c ∧ (t.length = 0 ∨ ∀ x, a = some x → G x.block ∧ x.block ≠ ba)
  warm : ∀ k, w.frozen? ⟨ba, k, none⟩ = false
  self : G ba
  low : ∀ i, G i → i < w.heap.size
end Go.Proofs.YtdkgkomjbpggeaaGreatDoor.Ac

namespace Go.Proofs.YtdkgkomjbpggeaaGreatDoor.Ac
open Go.RowKit Tx Pm Pr Dk
open En (Et tcheck Ents Small)
set_option linter.unusedVariables false
set_option linter.unusedSimpArgs false
set_option linter.unnecessarySimpa false
end Go.Proofs.YtdkgkomjbpggeaaGreatDoor.Ac

namespace Go.Proofs.YtdkgkomjbpggeaaGreatDoor.Ac
open Go.RowKit Tx Pm Pr Dk
open En (Et tcheck Ents Small)
set_option linter.unusedVariables false
set_option linter.unusedSimpArgs false
set_option linter.unnecessarySimpa false
def Cf (ba : Nat) (w : World) (f : Nat → Value) : Prop := ∀ o, o < 21 → w.cell? ⟨ba, o, none⟩ = some (f o)
theorem Cf.set {ba : Nat} {w : World} {f : Nat → Value} (h : Cf ba w f) (k : Nat) (u : Value) : Cf ba (w.setCell ⟨ba, k, none⟩ u) (fun o => if o = k then u else f o) := by
  intro o ho
  by_cases e : o = k
  · subst e
    show _ = some (if o = o then u else f o)
    rw [if_pos rfl]
    exact World.cell?_setCell_same _ _ _ (h o ho)
  · show _ = some (if o = k then u else f o)
    rw [if_neg e, ← h o ho]
    exact World.cell?_setCell_other _ _ _ _ (fun hh => by injection hh with _ hh _; exact e hh.symm)
theorem RefX.fn {ba : Nat} {w : World} {G : Nat → Prop} {A : Ar} (h : RefX ba w G A) : ∃ f, Cf ba w f ∧ (∀ i, i < 7 → f (7 + i) = .bool (A.tr i).isSome ∧ f (14 + i) = .bool (A.tu i).isSome) ∧
    ∀ i t, i < 7 → A.tr i = some t → ∃ a c, f i = .slice a t.length c ∧ Ents w a t.length t ∧ t.length ≤ c ∧ (t.length = 0 ∨ ∀ x, a = some x → G x.block ∧ x.block ≠ ba) := by
  obtain ⟨v, h1, h2⟩ := h.cells
  refine ⟨fun o => if o < 7 then v o else if o < 14 then .bool (A.tr (o - 7)).isSome else .bool (A.tu (o - 14)).isSome, fun o ho => ?_, fun i hi => ⟨?_, ?_⟩, fun i t hi ht => ?_⟩
  · show _ = some (if o < 7 then v o else if o < 14 then .bool (A.tr (o - 7)).isSome else .bool (A.tu (o - 14)).isSome)
    by_cases e1 : o < 7
    · rw [if_pos e1]
      exact (h1 o e1).1
    · by_cases e2 : o < 14
      · rw [if_neg e1, if_pos e2]
        have := (h1 (o - 7) (by omega)).2.1
        rwa [show 7 + (o - 7) = o by omega] at this
      · rw [if_neg e1, if_neg e2]
        have := (h1 (o - 14) (by omega)).2.2
        rwa [show 14 + (o - 14) = o by omega] at this
  · show (if 7 + i < 7 then v (7 + i) else if 7 + i < 14 then .bool (A.tr (7 + i - 7)).isSome else .bool (A.tu (7 + i - 14)).isSome) = _
    rw [if_neg (by omega), if_pos (by omega), show 7 + i - 7 = i by omega]
  · show (if 14 + i < 7 then v (14 + i) else if 14 + i < 14 then .bool (A.tr (14 + i - 7)).isSome else .bool (A.tu (14 + i - 14)).isSome) = _
    rw [if_neg (by omega), if_neg (by omega), show 14 + i - 14 = i by omega]
  · obtain ⟨a, c, e, hh⟩ := h2 i t hi ht
    exact ⟨a, c, by show (if i < 7 then v i else _) = _; rw [if_pos hi, e], hh⟩
theorem RefX.of {ba : Nat} {w : World} {G : Nat → Prop} {A : Ar} {f : Nat → Value} (h : Cf ba w f) (hb : ∀ i, i < 7 → f (7 + i) = .bool (A.tr i).isSome ∧ f (14 + i) = .bool (A.tu i).isSome)
    (ht : ∀ i t, i < 7 → A.tr i = some t → ∃ a c, f i = .slice a t.length c ∧ Ents w a t.length t ∧ t.length ≤ c ∧ (t.length = 0 ∨ ∀ x, a = some x → G x.block ∧ x.block ≠ ba)) (hw : ∀ k, w.frozen? ⟨ba, k, none⟩ = false) (hs : G ba) (hl : ∀ i, G i → i < w.heap.size) : RefX ba w G A :=
  ⟨⟨f, fun i hi => ⟨h i (by omega), by rw [h (7 + i) (by omega), (hb i hi).1], by rw [h (14 + i) (by omega), (hb i hi).2]⟩, ht⟩, hw, hs, hl⟩
end Go.Proofs.YtdkgkomjbpggeaaGreatDoor.Ac

namespace Go.Proofs.YtdkgkomjbpggeaaGreatDoor.Rg
open Go.RowKit
set_option linter.unusedVariables false
def Only (R : Act → World → Prop) : Exit → Act → World → Prop
  | .normal, a, w => R a w
  | _, _, _ => False
theorem wp_only {P : Program} {c : Code} {Q : Exit → Act → World → Prop} {R : Act → World → Prop} {a : Act} {w : World} (hR : ∀ a w, R a w → Q .normal a w) (h : c.wp P (Only R) a w) : c.wp P Q a w :=
  Code.wp_mono (fun e a w h => by cases e <;> first | exact hR _ _ h | exact (h : False).elim) h
def regOps (n : Nat) : Code → Option (Array Oper)
  | .region id ops _ => if id = n then some ops else none
  | .seq a b => (match regOps n a with | some x => some x | none => regOps n b)
  | .cond _ a b => (match regOps n a with | some x => some x | none => regOps n b)
  | .block _ a => regOps n a
  | .loop a => regOps n a
  | .scope a => regOps n a
  | .rangeFunc _ _ a b => (match regOps n a with | some x => some x | none => regOps n b)
  | _ => none
def opsOf (f : Func) (n : Nat) : Array Oper := match f.body with | some c => (regOps n c).getD #[] | none => #[]
def opOf (ops : Array Oper) (i : Nat) : Oper := (ops[i]?).getD default
section
variable {P : Program} {ops : Array Oper} {R : Act → World → Prop} {S : World → Prop}
theorem opOf_some {i : Nat} (h : decide (i < ops.size) = true) : ops[i]? = some (opOf ops i) := by
  have h := of_decide_eq_true h
  rw [opOf, Array.getElem?_eq_getElem h]
  rfl
theorem take (i : Nat) (d : Option Tmp) (v : Value) {fuel : Nat} {listed : Array Bool} {a : Act} {w : World} (hs : Region.noSelect ops = true)
    (hi : decide (i < ops.size) = true) (hd : (opOf ops i).dst = d) (hf : Region.free .any ops listed i = true) (hr : (Region.ready .any ops listed).contains i = true)
    (hw : Region.wanted (opOf ops i) (yielded ops a.tmps) = true) (hS : S w)
    (hy : ∀ w, S w → (execOp a.eval (opOf ops i)).run P w = .ok (.value v) w)
    (h : wpAnyH P .any ops (Only R) S fuel (listed.setIfInBounds i true) (a.put d v) w) : wpAnyH P .any ops (Only R) S (fuel + 1) listed a w := by
  subst hd
  exact wpAnyH_take (opOf_some hi) hs hf hr (fun _ _ _ h => h) (Or.inl ⟨hw, hy⟩) hS h
theorem skip (i : Nat) (d : Option Tmp) {fuel : Nat} {listed : Array Bool} {a : Act} {w : World} (hs : Region.noSelect ops = true)
    (hi : decide (i < ops.size) = true) (hd : (opOf ops i).dst = d) (hf : Region.free .any ops listed i = true) (hr : (Region.ready .any ops listed).contains i = true)
    (hw : Region.wanted (opOf ops i) (yielded ops a.tmps) = false) (hS : S w)
    (h : wpAnyH P .any ops (Only R) S fuel (listed.setIfInBounds i true) (a.put d undef) w) : wpAnyH P .any ops (Only R) S (fuel + 1) listed a w := by
  subst hd
  exact wpAnyH_take (opOf_some hi) hs hf hr (fun _ _ _ h => h) (Or.inr ⟨hw, rfl⟩) hS h
theorem enters {f : FuncId} {fn : Func} (hf : P.funcs[f]? = some fn) (hn : (fn.name == "runtime.NumGoroutine") = false) (hb : fn.body.isNone = false) (args : Array Value) (w : World) : (callFunc f args).run P w = .ok (.enter f args) w := by
  have h1 : fn.name ≠ "runtime.NumGoroutine" := by simpa using hn
  have h2 : fn.body ≠ none := fun h => by rw [h] at hb; cases hb
  simp [callFunc, hf, h1, h2]
theorem call (i : Nat) (d : Option Tmp) (f : FuncId) (args : Array Value) {fn : Func} {xs : Array Operand} {ats : Array TypeId} {fuel : Nat} {listed : Array Bool} {a : Act} {w : World}
    (hi : decide (i < ops.size) = true) (hd : (opOf ops i).dst = d) (hr : Region.ready .any ops listed = [i])
    (hw : Region.wanted (opOf ops i) (yielded ops a.tmps) = true) (ho : (opOf ops i).op = .call { callee := .value (.func f), args := xs, argTypes := ats })
    (hf : P.funcs[f]? = some fn) (hn : (fn.name == "runtime.NumGoroutine") = false) (hb : fn.body.isNone = false) (hx : xs.map a.eval = args)
    (h : Calls P f args w fun e w' => ∃ v, e = .returned v ∧ S w' ∧ (S w' → wpAnyH P .any ops (Only R) S fuel (listed.setIfInBounds i true) (a.put d v) w')) :
    wpAnyH P .any ops (Only R) S (fuel + 1) listed a w := by
  subst hd
  refine wpAnyH_all hr (by simp) fun j hj => ?_
  obtain rfl : j = i := by simpa using hj
  unfold wpOp
  rw [opOf_some hi]
  simp only [hw, if_true]
  refine .inl ?_
  have he : execOp a.eval (opOf ops j) = callFunc f args := by
    rw [← hx]
    generalize opOf ops j = o at ho
    obtain ⟨dst, op, ty, pos, after, guard⟩ := o
    subst ho
    have := execOp_call_go a dst f xs ats ty pos after guard
    simpa using this
  unfold Oper.wp
  rw [he, enters hf hn hb]
  refine Calls.mono h fun e w' hh => ?_
  obtain ⟨v, rfl, hS, hh⟩ := hh
  exact ⟨hS, hh hS⟩
theorem done {fuel : Nat} {listed : Array Bool} {a : Act} {w : World} (hr : Region.ready .any ops listed = []) (h : R a w) : wpAnyH P .any ops (Only R) S fuel listed a w :=
  wpAnyH_done hr h fuel
theorem y_move {o : Oper} {a : Act} {x : Operand} {v : Value} (ho : o.op = .move x ∨ o.op = .assign x) (hv : a.eval x = v) : ∀ w, S w → (execOp a.eval o).run P w = .ok (.value v) w := by
  intro w _
  obtain ⟨dst, op, ty, pos, after, guard⟩ := o
  rcases ho with ho | ho <;> (simp only at ho; subst ho; rw [← hv]; rfl)
theorem y_bin {o : Oper} {a : Act} {b : BinOp} {T R' : TypeId} {x y : Operand} {vx vy v : Value} (ho : o.op = .binOp b T x y R') (hx : a.eval x = vx) (hy : a.eval y = vy)
    (hv : ∀ w, S w → (do eqGuard b T x y vx vy; binOp b T vx vy : Sem Value).run P w = .ok v w) : ∀ w, S w → (execOp a.eval o).run P w = .ok (.value v) w := by
  intro w hw
  obtain ⟨dst, op, ty, pos, after, guard⟩ := o
  simp only at ho
  subst ho
  have := hv w hw
  simp only [execOp, hx, hy]
  simp only [Sem.run_bind] at this ⊢
  rw [this]
  rfl
theorem y_load {o : Oper} {a : Act} {T : TypeId} {x : Operand} {vx v : Value} (ho : o.op = .load T x) (hx : a.eval x = vx)
    (hv : ∀ w, S w → (Instr.loadAt T vx).run P w = .ok v w) : ∀ w, S w → (execOp a.eval o).run P w = .ok (.value v) w := by
  intro w hw
  obtain ⟨dst, op, ty, pos, after, guard⟩ := o
  simp only at ho
  subst ho
  have := hv w hw
  simp only [execOp, hx, Sem.run_bind]
  rw [this]
  rfl
theorem y_pick {o : Oper} {a : Act} {c x y : Operand} {b : Bool} {v : Value} (ho : o.op = .pick c x y) (hc : a.eval c = .bool b) (hv : (if b then a.eval x else a.eval y) = v) :
    ∀ w, S w → (execOp a.eval o).run P w = .ok (.value v) w := by
  intro w hw
  obtain ⟨dst, op, ty, pos, after, guard⟩ := o
  simp only at ho
  subst ho
  rw [← hv]
  simp only [execOp, hc]
  rfl
theorem y_nil {o : Oper} {a : Act} {x : Operand} {p : Addr} (ho : o.op = .nilCheck x) (hx : a.eval x = .pointer (some p)) : ∀ w, S w → (execOp a.eval o).run P w = .ok (.value (.pointer (some p))) w := by
  intro w hw
  obtain ⟨dst, op, ty, pos, after, guard⟩ := o
  simp only at ho
  subst ho
  simp only [execOp, hx]
  rfl
theorem y_field {o : Oper} {a : Act} {T k : Nat} {x : Operand} {vx v : Value} (ho : o.op = .fieldAddr T x k) (hx : a.eval x = vx)
    (hv : ∀ w, S w → (Instr.fieldAt T vx k).run P w = .ok v w) : ∀ w, S w → (execOp a.eval o).run P w = .ok (.value v) w := by
  intro w hw
  obtain ⟨dst, op, ty, pos, after, guard⟩ := o
  simp only at ho
  subst ho
  have := hv w hw
  simp only [execOp, hx, Sem.run_bind]
  rw [this]
  rfl
theorem y_len {o : Oper} {a : Act} {x : Operand} {ats : Array TypeId} {vx : Value} {n : Nat} (ho : o.op = .call { callee := .builtin .len, args := #[x], argTypes := ats }) (hx : a.eval x = vx)
    (hv : ∀ ty w, S w → (Builtin.len_ ats ty #[vx]).run P w = .ok (.int .i64 n) w) : ∀ w, S w → (execOp a.eval o).run P w = .ok (.value (.int .i64 n)) w := by
  intro w hw
  obtain ⟨dst, op, ty, pos, after, guard⟩ := o
  simp only at ho
  subst ho
  have h2 := hv ty w hw
  rw [← hx] at h2
  generalize a.eval = ρ at h2 ⊢
  simp [go_sem, h2]
theorem store (i : Nat) {T : TypeId} {x y : Operand} {vx vy : Value} {w1 : World} {fuel : Nat} {listed : Array Bool} {a : Act} {w : World}
    (hi : decide (i < ops.size) = true) (hd : (opOf ops i).dst = none) (hr : Region.ready .any ops listed = [i])
    (hw : Region.wanted (opOf ops i) (yielded ops a.tmps) = true) (ho : (opOf ops i).op = .store T x y) (hx : a.eval x = vx) (hy : a.eval y = vy)
    (hv : (Instr.storeAt T vx vy).run P w = .ok () w1) (hS : S w1)
    (h : S w1 → wpAnyH P .any ops (Only R) S fuel (listed.setIfInBounds i true) a w1) :
    wpAnyH P .any ops (Only R) S (fuel + 1) listed a w := by
  refine wpAnyH_all hr (by simp) fun j hj => ?_
  obtain rfl : j = i := by simpa using hj
  unfold wpOp
  rw [opOf_some hi]
  simp only [hw, if_true]
  refine .inl ?_
  have he : (execOp a.eval (opOf ops j)).run P w = .ok .skip w1 := by
    generalize opOf ops j = o at ho
    obtain ⟨dst, op, ty, pos, after, guard⟩ := o
    simp only at ho
    subst ho
    simp only [execOp, hx, hy, Sem.run_bind]
    rw [hv]
    rfl
  unfold Oper.wp
  rw [he, Oper.upon_skip, hd]
  exact ⟨hS, h hS⟩
theorem op_call (i : Nat) (d : Option Tmp) (f : FuncId) (args : Array Value) {fn : Func} {xs : Array Operand} {ats : Array TypeId} {fuel : Nat} {listed : Array Bool} {a : Act} {w : World}
    (hi : decide (i < ops.size) = true) (hd : (opOf ops i).dst = d)
    (hw : Region.wanted (opOf ops i) (yielded ops a.tmps) = true) (ho : (opOf ops i).op = .call { callee := .value (.func f), args := xs, argTypes := ats })
    (hf : P.funcs[f]? = some fn) (hn : (fn.name == "runtime.NumGoroutine") = false) (hb : fn.body.isNone = false) (hx : xs.map a.eval = args)
    (h : Calls P f args w fun e w' => ∃ v, e = .returned v ∧ S w' ∧ (S w' → wpAnyH P .any ops (Only R) S fuel (listed.setIfInBounds i true) (a.put d v) w')) :
    wpOp P ops (Only R) i (fun a' w' => S w' ∧ wpAnyH P .any ops (Only R) S fuel (listed.setIfInBounds i true) a' w') a w := by
  subst hd
  unfold wpOp
  rw [opOf_some hi]
  simp only [hw, if_true]
  refine .inl ?_
  have he : execOp a.eval (opOf ops i) = callFunc f args := by
    rw [← hx]
    generalize opOf ops i = o at ho
    obtain ⟨dst, op, ty, pos, after, guard⟩ := o
    subst ho
    have := execOp_call_go a dst f xs ats ty pos after guard
    simpa using this
  unfold Oper.wp
  rw [he, enters hf hn hb]
  refine Calls.mono h fun e w' hh => ?_
  obtain ⟨v, rfl, hS, hh⟩ := hh
  exact ⟨hS, hh hS⟩
theorem op_load (i : Nat) (d : Option Tmp) {T : TypeId} {x : Operand} {vx v : Value} {fuel : Nat} {listed : Array Bool} {a : Act} {w : World}
    (hi : decide (i < ops.size) = true) (hd : (opOf ops i).dst = d)
    (hw : Region.wanted (opOf ops i) (yielded ops a.tmps) = true) (ho : (opOf ops i).op = .load T x) (hx : a.eval x = vx)
    (hv : (Instr.loadAt T vx).run P w = .ok v w) (hS : S w)
    (h : wpAnyH P .any ops (Only R) S fuel (listed.setIfInBounds i true) (a.put d v) w) :
    wpOp P ops (Only R) i (fun a' w' => S w' ∧ wpAnyH P .any ops (Only R) S fuel (listed.setIfInBounds i true) a' w') a w := by
  subst hd
  unfold wpOp
  rw [opOf_some hi]
  simp only [hw, if_true]
  refine .inl ?_
  have he : (execOp a.eval (opOf ops i)).run P w = .ok (.value v) w := y_load (S := fun W => W = w) ho hx (fun W hW => by rw [hW]; exact hv) w rfl
  unfold Oper.wp
  rw [he, Oper.upon_value]
  exact ⟨hS, h⟩
theorem one {i : Nat} {fuel : Nat} {listed : Array Bool} {a : Act} {w : World} (hr : Region.ready .any ops listed = [i])
    (h : wpOp P ops (Only R) i (fun a' w' => S w' ∧ wpAnyH P .any ops (Only R) S fuel (listed.setIfInBounds i true) a' w') a w) : wpAnyH P .any ops (Only R) S (fuel + 1) listed a w :=
  wpAnyH_all hr (by simp) fun j hj => by obtain rfl : j = i := by simpa using hj
                                         exact h
theorem two {i j : Nat} {fuel : Nat} {listed : Array Bool} {a : Act} {w : World} (hr : Region.ready .any ops listed = [i, j])
    (h1 : wpOp P ops (Only R) i (fun a' w' => S w' ∧ wpAnyH P .any ops (Only R) S fuel (listed.setIfInBounds i true) a' w') a w)
    (h2 : wpOp P ops (Only R) j (fun a' w' => S w' ∧ wpAnyH P .any ops (Only R) S fuel (listed.setIfInBounds j true) a' w') a w) : wpAnyH P .any ops (Only R) S (fuel + 1) listed a w :=
  wpAnyH_all hr (by simp) fun k hk => by
    rcases (by simpa using hk : k = i ∨ k = j) with rfl | rfl
    · exact h1
    · exact h2
end
end Go.Proofs.YtdkgkomjbpggeaaGreatDoor.Rg

namespace Go.Proofs.YtdkgkomjbpggeaaGreatDoor.Rg
open Go.RowKit
set_option linter.unusedVariables false
section
variable {P : Program} {S : World → Prop}
end
section
variable {P : Program} {ops : Array Oper} {R : Act → World → Prop} {S : World → Prop}
theorem bld (i : Nat) (d : Option Tmp) {T : TypeId} {len : Nat} {parts : Array (Nat × Operand)} {vs : Array (Nat × Value)} {v : Value} {w1 : World} {fuel : Nat} {listed : Array Bool} {a : Act} {w : World}
    (hi : decide (i < ops.size) = true) (hd : (opOf ops i).dst = d) (hr : Region.ready .any ops listed = [i])
    (hw : Region.wanted (opOf ops i) (yielded ops a.tmps) = true) (ho : (opOf ops i).op = .buildSlice T len parts) (hx : (parts.map fun (i, x) => (i, a.eval x)) = vs)
    (hv : (Instr.buildSlice T len vs).run P w = .ok v w1) (hS : S w1)
    (h : S w1 → wpAnyH P .any ops (Only R) S fuel (listed.setIfInBounds i true) (a.put d v) w1) : wpAnyH P .any ops (Only R) S (fuel + 1) listed a w := by
  refine one hr ?_
  subst hd
  unfold wpOp
  rw [opOf_some hi]
  simp only [hw, if_true]
  refine .inl ?_
  have he : (execOp a.eval (opOf ops i)).run P w = .ok (.value v) w1 := by
    generalize opOf ops i = o at ho
    obtain ⟨dst, op, ty, pos, after, guard⟩ := o
    simp only at ho
    subst ho
    simp only [execOp, Sem.run_bind]
    rw [hx, hv]
    rfl
  unfold Oper.wp
  rw [he, Oper.upon_value]
  exact ⟨hS, h hS⟩
end
end Go.Proofs.YtdkgkomjbpggeaaGreatDoor.Rg

namespace Go.Proofs.YtdkgkomjbpggeaaGreatDoor.Rg
open Go.RowKit
set_option linter.unusedVariables false
set_option linter.unusedSimpArgs false
set_option linter.unnecessarySimpa false
section
variable {P : Program} {ops : Array Oper} {R : Act → World → Prop} {S : World → Prop}
theorem app1 (i : Nat) (d : Option Tmp) {T : TypeId} {x y : Operand} {vx vy : Value} {fuel : Nat} {listed : Array Bool} {a : Act} {w : World}
    (hi : decide (i < ops.size) = true) (hd : (opOf ops i).dst = d) (hr : Region.ready .any ops listed = [i])
    (hw : Region.wanted (opOf ops i) (yielded ops a.tmps) = true) (ho : (opOf ops i).op = .call { callee := .builtin .append, args := #[x, y], argTypes := #[T, T] }) (hx : a.eval x = vx) (hy : a.eval y = vy)
    (h : ∀ ty, ∃ v w1, (Builtin.append_ #[T, T] ty #[vx, vy]).run P w = .ok v w1 ∧ S w1 ∧ (S w1 → wpAnyH P .any ops (Only R) S fuel (listed.setIfInBounds i true) (a.put d v) w1)) :
    wpAnyH P .any ops (Only R) S (fuel + 1) listed a w := by
  refine one hr ?_
  subst hd
  unfold wpOp
  rw [opOf_some hi]
  simp only [hw, if_true]
  refine .inl ?_
  obtain ⟨v, w1, hrun, hS, hk⟩ := h (opOf ops i).type
  generalize opOf ops i = o at ho hrun hk ⊢
  obtain ⟨dst, op, ty, pos, after, guard⟩ := o
  simp only at ho hrun hk ⊢
  subst ho
  unfold Oper.wp
  simp only [execOp, resolve, invoke, builtin, Sem.run_bind, Sem.run_pure, Result.andThen_ok, List.map_toArray, List.map_cons, List.map_nil, hx, hy, hrun]
  exact ⟨hS, hk hS⟩
theorem op_bld (i : Nat) (d : Option Tmp) {T : TypeId} {len : Nat} {parts : Array (Nat × Operand)} {vs : Array (Nat × Value)} {v : Value} {w1 : World} {fuel : Nat} {listed : Array Bool} {a : Act} {w : World}
    (hi : decide (i < ops.size) = true) (hd : (opOf ops i).dst = d)
    (hw : Region.wanted (opOf ops i) (yielded ops a.tmps) = true) (ho : (opOf ops i).op = .buildSlice T len parts) (hx : (parts.map fun (i, x) => (i, a.eval x)) = vs)
    (hv : (Instr.buildSlice T len vs).run P w = .ok v w1) (hS : S w1)
    (h : S w1 → wpAnyH P .any ops (Only R) S fuel (listed.setIfInBounds i true) (a.put d v) w1) :
    wpOp P ops (Only R) i (fun a' w' => S w' ∧ wpAnyH P .any ops (Only R) S fuel (listed.setIfInBounds i true) a' w') a w := by
  subst hd
  unfold wpOp
  rw [opOf_some hi]
  simp only [hw, if_true]
  refine .inl ?_
  have he : (execOp a.eval (opOf ops i)).run P w = .ok (.value v) w1 := by
    generalize opOf ops i = o at ho
    obtain ⟨dst, op, ty, pos, after, guard⟩ := o
    simp only at ho
    subst ho
    simp only [execOp, Sem.run_bind]
    rw [hx, hv]
    rfl
  unfold Oper.wp
  rw [he, Oper.upon_value]
  exact ⟨hS, h hS⟩
end
end Go.Proofs.YtdkgkomjbpggeaaGreatDoor.Rg

namespace Go.Proofs.YtdkgkomjbpggeaaGreatDoor.Ac
open Go.RowKit
set_option linter.unusedVariables false
set_option linter.unusedSimpArgs false
set_option linter.unnecessarySimpa false
end Go.Proofs.YtdkgkomjbpggeaaGreatDoor.Ac

namespace Go.Proofs.YtdkgkomjbpggeaaGreatDoor.Ac
open Go.RowKit Tx Pm Pr Dk
open En (Et tcheck Ents Small)
set_option linter.unusedVariables false
set_option linter.unusedSimpArgs false
set_option linter.unnecessarySimpa false
end Go.Proofs.YtdkgkomjbpggeaaGreatDoor.Ac

namespace Go.Proofs.YtdkgkomjbpggeaaGreatDoor.Ac
open Go.RowKit Tx Pm Pr Dk
open En (Et tcheck Ents Small)
set_option linter.unusedVariables false
set_option linter.unusedSimpArgs false
set_option linter.unnecessarySimpa false
def hiE : Et := ⟨⟨#[97]⟩, ⟨2, ⟨#[104, 105]⟩⟩⟩
theorem hi_ok : tcheck [hiE] = 0 := by decide +kernel
theorem hi_ents {W : World} {b : Nat} (h : W.heap[b]? = some (.cells #[.string ⟨#[97]⟩, .int .i64 2, .string ⟨#[104, 105]⟩] 73)) : Ents W (some ⟨b, 0, none⟩) 1 [hiE] := by
  refine ⟨rfl, .inr ⟨b, 0, rfl, (Array.getElem?_eq_some_iff.1 h).1, fun k x hx => ?_⟩⟩
  match k, hx with
  | 0, hx =>
    injection hx with hx
    subst hx
    refine ⟨?_, ?_, ?_⟩ <;> (unfold World.cell?; rw [h]; rfl)
  | k + 1, hx => simp at hx
def hiO : Obj := .cells #[.string ⟨#[97]⟩, .int .i64 2, .string ⟨#[104, 105]⟩] 73
theorem hi_save {T : World → Prop} {O : Nat → Nat → Ob} {Cm : Nat → Ob} {Op : Nat → Nat → Ob} (hI : Impl T O Cm Op) {w0 W : World} (hT : T w0) {d u k : Nat} {A : Ar} {F : Nat → Prop} (o : O d u W F (A, k)) (hF : ∀ i, F i → w0.heap.size ≤ i) (hb : Below w0.heap.size w0 W) (hk : k ≤ 1000000) :
    Calls Tryz.prog 11 #[.pointer (some ⟨u, 0, none⟩), .int .i64 1, .slice (some ⟨W.heap.size, 0, none⟩) 1 1] (W.alloc hiO) fun e w' => e = .returned (.int .i64 0) ∧ Mine (O d u) w0 (saveA A 1 [hiE], k + 10008) w' ∧ w'.heap[W.heap.size]? = some hiO := by
  have hB1 : Below W.heap.size W (W.alloc hiO) := (Below.refl _ _).alloc (Nat.le_refl _) _
  have hb1 := below_call hb hB1
  have o1 := lf_below (hI.kO d u) o hB1
  have hat : (W.alloc hiO).heap[W.heap.size]? = some hiO := heap_alloc_new _ _
  have hnF : ¬ F W.heap.size := fun h => by have := (hI.kO d u).lt o _ h; omega
  have e1 : saveE 1 [hiE] = 0 := by unfold saveE; rw [if_pos (by decide), hi_ok]
  have e2 : saveI A 1 [hiE] = saveA A 1 [hiE] := by unfold saveI; rw [if_pos e1]; rfl
  have c := hI.save (1 : Int) (some ⟨W.heap.size, 0, none⟩) 1 1 [hiE] (tk0 hI hT hb1) o1 (by rw [show bk [hiE] = 8 from rfl]; omega) (by omega) (hi_ents hat) (by omega) (by omega) (.inr (fun x hx => by injection hx with hx; subst hx; exact hnF))
  rw [e1, e2, show k + 10000 + bk [hiE] = k + 10008 from rfl] at c
  refine c.mono fun e w' ⟨he, hl⟩ => ⟨he, Mine.left hF hb1 hl, ?_⟩
  obtain ⟨F', l1, l2, l3⟩ := hl
  exact (l2.block _ (Array.getElem?_eq_some_iff.1 hat).1 hnF).trans hat
theorem hi_load (A : Ar) : loadI (saveA A 1 [hiE]) 1 = ([hiE], 0) := by
  unfold loadI
  rw [if_pos (by decide)]
  rfl
set_option maxRecDepth 100000 in
set_option maxHeartbeats 4000000 in
theorem awake_any {T : World → Prop} {O : Nat → Nat → Ob} {Cm : Nat → Ob} {Op : Nat → Nat → Ob} (hI : Impl T O Cm Op) (w0 : World) (hT : T w0) :
    Calls Tryz.prog 8 #[] w0 fun e w' => e = .returned (.bool true) ∧ Below w0.heap.size w0 w' := by
  have c1 := mine_new hI hT (Below.refl _ _)
  go_enter Tryz.func8, Tryz.ntmps8
  go_wp2_with fail
  go_at_call 6
  refine c1.mono ?_
  rintro e w1 ⟨d, rfl, m1⟩
  have c2 := mine_open hI hT m1 (by omega)
  clear c1 m1
  go_wp2_with fail
  go_at_call 7
  refine c2.mono ?_
  rintro e w2 ⟨t, rfl, m2⟩
  have c3 := mine_begin hI hT m2 (by omega)
  clear c2 m2
  go_wp2_with fail
  go_at_call 9
  refine c3.mono ?_
  rintro e w3 ⟨u, rfl, m3⟩
  clear c3
  obtain ⟨F, o3, hF, hb3⟩ := m3
  have c4 := hi_save hI hT o3 hF hb3 (by omega)
  unfold hiO at c4
  clear o3 hF hb3
  go_wp2_with fail
  refine c4.mono ?_
  rintro e w4 ⟨rfl, m4, h4⟩
  have c5 := mine_load hI hT m4 (by omega) 1 (by omega)
  rw [hi_load] at c5
  have HB4 := Lib.hid (And.intro m4.bel h4)
  clear c4 m4 h4
  obtain ⟨bk, hbk⟩ : ∃ bk, bk = w3.heap.size := ⟨_, rfl⟩
  rw [← hbk] at HB4 ⊢
  clear hbk
  go_wp2_with fail
  go_at_call 22
  refine c5.mono ?_
  rintro e w5 ⟨a5, n5, rfl, e5, _, m5, b5⟩
  have h5 := (b5.block _ (Array.getElem?_eq_some_iff.1 HB4.out.2).1).trans HB4.out.2
  have c6 := En.refSame_any a5 (some ⟨bk, 0, none⟩) 1 1 n5 1 [hiE] [hiE] w5 e5 (hi_ents h5) (by omega) (by omega)
  have HB5 := Lib.hid m5.bel
  clear c5 e5 m5 b5 h5
  go_wp2_with fail
  go_at_call 23
  refine c6.mono ?_
  rintro e w6 ⟨B, hB, rfl, b6⟩
  obtain rfl : B = true := hB.2 rfl
  go_wp2_with fail
  go_ret
  exact ⟨rfl, below_call HB5.out b6⟩
end Go.Proofs.YtdkgkomjbpggeaaGreatDoor.Ac

namespace Go.Proofs.YtdkgkomjbpggeaaGreatDoor.Ac
open Go.RowKit
open En (Et tcheck Ents Small)
set_option linter.unusedVariables false
theorem saveE_ok {i : Int} {t : List Et} (hi : may i = true) (ht : tcheck t = 0) : saveE i t = 0 := by unfold saveE; rw [if_pos hi, ht]
theorem saveI_ok {A : Ar} {i : Int} {t : List Et} (hi : may i = true) (ht : tcheck t = 0) : saveI A i t = saveA A i.toNat t := by unfold saveI; rw [if_pos (saveE_ok hi ht)]
def r1 (t : List Et) : Ar := saveA a0 1 t
def r2 (t : List Et) : Ar := saveA (r1 t) 2 t
def r3 (t u : List Et) : Ar := saveA (r2 t) 1 u
def r4 (t u : List Et) : Ar := saveA (r3 t u) 2 u
def r5 (t u : List Et) : Ar := saveA (r4 t u) 1 t
def r6 (t u : List Et) : Ar := saveA (r5 t u) 2 t
section
variable (t u : List Et)
theorem well1 : well (r1 t) := well_save well0
theorem well2 : well (r2 t) := well_save (well1 t)
theorem well6 : well (r6 t u) := well_save (well_save (well_save (well_save (well2 t))))
theorem all1 : ∀ x, x ∈ allC (r1 t) ↔ x ∈ files t := fun x => by
  rw [r1, allC_save _ (by omega)]
  exact ⟨fun h => h.elim id (fun ⟨j, _, _, u, h, _⟩ => by cases h), .inl⟩
theorem all2 : ∀ x, x ∈ allC (r2 t) ↔ x ∈ files t := fun x => by
  rw [r2, allC_save _ (by omega)]
  refine ⟨fun h => h.elim id (fun ⟨j, _, _, v, h, hx⟩ => ?_), .inl⟩
  by_cases e : j = 1
  · subst e
    have h : some t = some v := h
    injection h with h
    rw [h]; exact hx
  · rw [show (r1 t).tr j = none from upd_other _ _ e] at h
    cases h
theorem all6 : ∀ x, x ∈ allC (r6 t u) ↔ x ∈ files t := fun x => by
  rw [r6, allC_save _ (by omega)]
  refine ⟨fun h => h.elim id (fun ⟨j, _, hj, v, h, hx⟩ => ?_), .inl⟩
  by_cases e : j = 1
  · subst e
    have h : some t = some v := h
    injection h with h
    rw [h]; exact hx
  · have : (r5 t u).tr j = none := by
      unfold r5 r4 r3 r2 r1 saveA
      simp only [upd_other _ _ e, upd_other _ _ hj]
      rfl
    rw [this] at h
    cases h
theorem kept2 : kept (r2 t) = kept (r1 t) := kept_same (fun x => (all2 t x).trans (all1 t x).symm)
theorem kept6 : kept (r6 t u) = kept (r1 t) := kept_same (fun x => (all6 t u x).trans (all1 t x).symm)
theorem kept1 : kept (r1 t) ≤ t.length := Nat.le_trans (kept_le (fun x hx => (all1 t x).1 hx)) (files_len t)
theorem load6 : loadI (r6 t u) 2 = (t, 0) := by
  unfold loadI
  rw [if_pos (by decide)]
  rfl
end
end Go.Proofs.YtdkgkomjbpggeaaGreatDoor.Ac

namespace Go.Proofs.YtdkgkomjbpggeaaGreatDoor.En
open Go.ChangeMaps (open_string shut_string)
open Go.ChangeShapes Go.WideShapes Go.ChangeAt Go.RowKit Tx
set_option linter.unusedVariables false
def dN {H : Type} (n : Nd) : DataW H := .agg [.lit (.int .i64 n.kind), .lit (.string n.data.data.toList)]
def dE {H : Type} (x : Et) : DataW H := .agg [.lit (.string x.path.data.toList), dN x.node]
theorem cells9 : Tryz.prog.cellsOf 9 = 1 := by kernel_rfl
theorem cells3 : Tryz.prog.cellsOf 3 = 1 := by kernel_rfl
theorem cellsN : Tryz.prog.cellsOf 71 = 2 := by kernel_rfl
theorem cellsE : Tryz.prog.cellsOf 73 = 3 := by kernel_rfl
theorem wf_int {k : Int} (h : (Lit.int .i64 k).wf = true) : isInt k := by
  unfold isInt
  simpa [Lit.wf, IntKind.min, IntKind.max, IntKind.signed, IntKind.bits] using h
theorem node_open {H : Type} {enc : TypeId × Value → H} {w : World} {base : Nat} {spare : Nat → Bool} {held : Bool} {m : Nat} {c1 c2 : Value} {y : DataW H × List MemPlace} (h : DataW.trod enc Tryz.prog w base spare held m 71 [c1, c2] = some y) :
    ∃ n : Nd, c1 = .int .i64 n.kind ∧ c2 = .string n.data ∧ y = (dN n, []) ∧ isInt n.kind ∧ n.data.size ≤ maxLen := by
  obtain ⟨ys, m2, _, hy, _, hyl, hf⟩ := DataW.trod_struct Tryz.underlying71 h
  have h0 := hf 0 _ rfl
  have h1 := hf 1 _ rfl
  match ys, hyl with
  | [y0, y1], _ =>
    have h0 : DataW.trod enc Tryz.prog w base spare held m2 3 (([c1, c2].drop 0).take (Tryz.prog.cellsOf 3)) = some y0 := h0
    have h1 : DataW.trod enc Tryz.prog w base spare held m2 9 (([c1, c2].drop 1).take (Tryz.prog.cellsOf 9)) = some y1 := h1
    rw [cells3] at h0
    rw [cells9] at h1
    obtain ⟨k, hk, hx0, hw⟩ := DataW.trod_int Tryz.underlying3 h0
    obtain ⟨s, hs, hx1, hl⟩ := DataW.trod_string Tryz.underlying9 h1
    simp at hk hs
    refine ⟨⟨k, s⟩, hk, hs, ?_, wf_int hw, hl⟩
    rw [hy, hx0, hx1]
    rfl
theorem ent_open {H : Type} {enc : TypeId × Value → H} {w : World} {base : Nat} {spare : Nat → Bool} {held : Bool} {m : Nat} {a : Addr} {cs' : List Value} {y : DataW H × List MemPlace} (hc : w.cells? base a 3 = some cs') (h : DataW.trod enc Tryz.prog w base spare held m 73 cs' = some y) :
    ∃ x : Et, w.cell? a = some (.string x.path) ∧ w.cell? (a.add 1) = some (.int .i64 x.node.kind) ∧ w.cell? (a.add 2) = some (.string x.node.data) ∧ y = (dE x, []) ∧ isInt x.node.kind ∧ x.path.size ≤ maxLen ∧ x.node.data.size ≤ maxLen := by
  obtain ⟨_, hcl, hat⟩ := World.cells?_some hc
  match cs', hcl with
  | [c0, c1, c2], _ =>
    obtain ⟨ys, m2, _, hy, _, hyl, hf⟩ := DataW.trod_struct Tryz.underlying73 h
    have h0 := hf 0 _ rfl
    have h1 := hf 1 _ rfl
    match ys, hyl with
    | [y0, y1], _ =>
      have h0 : DataW.trod enc Tryz.prog w base spare held m2 9 (([c0, c1, c2].drop 0).take (Tryz.prog.cellsOf 9)) = some y0 := h0
      have h1 : DataW.trod enc Tryz.prog w base spare held m2 71 (([c0, c1, c2].drop 1).take (Tryz.prog.cellsOf 71)) = some y1 := h1
      rw [cells9] at h0
      rw [cellsN] at h1
      obtain ⟨s, hs, hx0, hl⟩ := DataW.trod_string Tryz.underlying9 h0
      obtain ⟨n, hn1, hn2, hx1, hi, hl2⟩ := node_open h1
      simp at hs
      have a0 := hat 0 (by omega)
      have a1 := hat 1 (by omega)
      have a2 := hat 2 (by omega)
      refine ⟨⟨s, n⟩, ?_, ?_, ?_, ?_, hi, hl, hl2⟩
      · have e : a.add 0 = a := by simp [Addr.add]
        rw [e] at a0
        rw [a0, hs]
        rfl
      · rw [a1, hn1]
        rfl
      · rw [a2, hn2]
        rfl
      · rw [hy, hx0, hx1]
        rfl
theorem open_ents {H : Type} {enc : TypeId × Value → H} {w : World} {base : Nat} {spare : Nat → Bool} {held : Bool} {fuel : Nat} {cs : List Value} {x : DataW H × List MemPlace} (h : DataW.trod enc Tryz.prog w base spare held fuel 33 cs = some x) :
    (cs = [.slice none 0 0] ∧ x = (.nil, [])) ∨ ∃ (a : Addr) (len cap : Nat) (l : List Et) (rest : List (DataW H)) (pl : List MemPlace), cs = [.slice (some a) len cap] ∧ len ≤ cap ∧ cap ≤ maxLen ∧ x = (.slice (l.map dE) rest, pl) ∧ Ents w (some a) len l ∧ ∀ e ∈ l, isInt e.node.kind ∧ e.path.size ≤ maxLen ∧ e.node.data.size ≤ maxLen := by
  rcases Go.Deep.open_slice Tryz.underlying33 h with h0 | ⟨a, len, cap, m, n, D, Pl, rfl, hb, hl, hm, hmm, hx, hi⟩
  · exact .inl h0
  · right
    have hlm : len ≤ m := by
      rw [hmm]
      split
      · exact hl
      · exact Nat.le_refl _
    have hex : ∀ i, i < len → ∃ e : Et, w.cell? (a.add (i * 3)) = some (.string e.path) ∧ w.cell? ((a.add (i * 3)).add 1) = some (.int .i64 e.node.kind) ∧ w.cell? ((a.add (i * 3)).add 2) = some (.string e.node.data) ∧ D i = dE e ∧ isInt e.node.kind ∧ e.path.size ≤ maxLen ∧ e.node.data.size ≤ maxLen := by
      intro i him
      obtain ⟨cs', hc, ht⟩ := hi i (by omega)
      rw [cellsE] at hc
      obtain ⟨e, h1, h2, h3, h4, h5, h6, h7⟩ := ent_open hc ht
      exact ⟨e, h1, h2, h3, congrArg Prod.fst h4, h5, h6, h7⟩
    have : Inhabited Et := ⟨⟨⟨#[]⟩, ⟨0, ⟨#[]⟩⟩⟩⟩
    obtain ⟨X, hX⟩ := Go.Deep.choose_lt hex
    have hget : ∀ k y, ((List.range len).map X)[k]? = some y → k < len ∧ y = X k := by
      intro k y hk
      have hk2 := (List.getElem?_eq_some_iff.1 hk).1
      simp at hk2
      rw [List.getElem?_map, List.getElem?_range hk2] at hk
      injection hk with hk
      exact ⟨hk2, hk.symm⟩
    refine ⟨a, len, cap, (List.range len).map X, (List.range (m - len)).map fun j => D (len + j), x.2, rfl, hl, hm, ?_, ⟨by simp, ?_⟩, ?_⟩
    · rw [hx]
      refine Prod.ext ?_ rfl
      show DataW.slice _ _ = DataW.slice _ _
      congr 1
      rw [List.map_map]
      refine List.map_congr_left (fun i hi' => ?_)
      exact (hX i (List.mem_range.1 hi')).2.2.2.1
    · by_cases h0 : len = 0
      · exact .inl h0
      · right
        obtain ⟨b, off, spot⟩ := a
        have hc0 := (hX 0 (by omega)).1
        rw [Nat.zero_mul] at hc0
        have hspot : spot = none := by simpa [Addr.add] using World.cell?_spot hc0
        subst hspot
        refine ⟨b, off, rfl, ?_, fun k y hk => ?_⟩
        · have := World.block_lt_of_cell? w _ hc0
          simpa [Addr.add] using this
        · obtain ⟨hk2, rfl⟩ := hget k y hk
          obtain ⟨h1, h2, h3, _⟩ := hX k hk2
          rw [add_plain] at h1 h2 h3
          rw [add_plain] at h2 h3
          exact ⟨h1, h2, h3⟩
    · intro e he
      obtain ⟨k, hk⟩ := List.getElem?_of_mem he
      obtain ⟨hk2, rfl⟩ := hget k e hk
      exact (hX k hk2).2.2.2.2
end Go.Proofs.YtdkgkomjbpggeaaGreatDoor.En

namespace Go.Proofs.YtdkgkomjbpggeaaGreatDoor.En
open Go.ChangeShapes Go.WideShapes Go.ChangeAt Go.RowKit Tx
set_option linter.unusedVariables false
theorem bulk_node {H : Type} (n : Nd) : Rows.uptoBulk (dN (H := H) n) = n.data.size + 3 := by
  have e : Rows.uptoBulk (dN (H := H) n) = 1 + (n.data.data.toList.length + 1 + 0) + 1 := rfl
  rw [e, len_l]
  omega
theorem bulk_ent {H : Type} (x : Et) : Rows.uptoBulk (dE (H := H) x) = x.path.size + x.node.data.size + 5 := by
  have e : Rows.uptoBulk (dE (H := H) x) = (x.path.data.toList.length + 1) + (Rows.uptoBulk (dN (H := H) x.node) + 0) + 1 := rfl
  rw [e, len_l, bulk_node]
  omega
theorem arg_cap {H : Type} {enc : TypeId × Value → H} {w : World} {base : Nat} {spare : Nat → Bool} {held : Bool} {a : Option Addr} {n c : Nat} {d : DataW H} {p : List MemPlace} (h : DataW.Trod enc Tryz.prog w base spare held 33 (.slice a n c) d p) : n ≤ c ∧ c ≤ 9223372036854775807 := by
  obtain ⟨fuel, hf⟩ := h
  rcases open_ents hf with ⟨hcs, _⟩ | ⟨x, len, cap, l, rest, pl, hcs, hc, hm, _⟩
  · simp [Value.cells] at hcs
    obtain ⟨rfl, rfl, rfl⟩ := hcs
    omega
  · simp [Value.cells] at hcs
    obtain ⟨rfl, rfl, rfl⟩ := hcs
    unfold maxLen at hm
    omega
end Go.Proofs.YtdkgkomjbpggeaaGreatDoor.En

namespace Go.Proofs.YtdkgkomjbpggeaaGreatDoor.Ac
open Go.ChangeMaps (open_string shut_string)
open Go.ChangeShapes Go.WideShapes Go.ChangeAt Go.RowKit Tx
open En (Et tcheck Ents Small)
set_option linter.unusedVariables false
set_option linter.unusedSimpArgs false
set_option linter.unnecessarySimpa false
structure Sp where
  k : Int
  i : Int
  n : Int
  t : List Et
def int64 (k : Int) : Prop := -9223372036854775808 ≤ k ∧ k ≤ 9223372036854775807
theorem bulk_bk {H : Type} : ∀ l : List Et, bk l = Rows.uptoBulkAll (l.map (En.dE (H := H)))
  | [] => rfl
  | x :: l => by
    have e : Rows.uptoBulkAll ((x :: l).map (En.dE (H := H))) = Rows.uptoBulk (En.dE (H := H) x) + Rows.uptoBulkAll (l.map (En.dE (H := H))) := rfl
    rw [e, En.bulk_ent, bk_cons, bulk_bk (H := H) l]
theorem arg_entsB {H : Type} {enc : TypeId × Value → H} {w : World} {base : Nat} {spare : Nat → Bool} {held : Bool} {a : Option Addr} {n c : Nat} {d : DataW H} {p : List MemPlace} (h : DataW.Trod enc Tryz.prog w base spare held 33 (.slice a n c) d p) :
    ∃ l : List Et, Ents w a n l ∧ (a = none → c = 0) ∧ bk l ≤ Rows.uptoBulk d := by
  obtain ⟨fuel, hf⟩ := h
  rcases En.open_ents hf with ⟨hcs, _⟩ | ⟨x, len, cap, l, rest, pl, hcs, _, _, hx, he, hall⟩
  · simp [Value.cells] at hcs
    obtain ⟨rfl, rfl, rfl⟩ := hcs
    exact ⟨[], ⟨rfl, .inl rfl⟩, fun _ => rfl, Nat.zero_le _⟩
  · simp [Value.cells] at hcs
    obtain ⟨rfl, rfl, rfl⟩ := hcs
    have hd : d = .slice (l.map En.dE) rest := congrArg Prod.fst hx
    have e : Rows.uptoBulk d = Rows.uptoBulkAll (l.map (En.dE (H := H))) + Rows.uptoBulkAll rest + 1 := by rw [hd]; rfl
    refine ⟨l, he, (fun h => by cases h), ?_⟩
    rw [bulk_bk (H := H) l]
    omega
end Go.Proofs.YtdkgkomjbpggeaaGreatDoor.Ac

namespace Go.Proofs.YtdkgkomjbpggeaaGreatDoor.Wm
def vb (x : Nat) : List UInt8 := if x < 128 then [UInt8.ofNat x] else UInt8.ofNat (128 + x % 128) :: vb (x / 128)
termination_by x
decreasing_by omega
theorem vb_lo {x : Nat} (h : x < 128) : vb x = [UInt8.ofNat x] := by rw [vb, if_pos h]
theorem vb_hi {x : Nat} (h : 128 ≤ x) : vb x = UInt8.ofNat (128 + x % 128) :: vb (x / 128) := by rw [vb, if_neg (by omega)]
theorem vb_len_le : ∀ (k x : Nat), x < 128 ^ (k + 1) → (vb x).length ≤ k + 1
  | 0, x, h => by rw [vb_lo (by omega)]; simp
  | k + 1, x, h => by
    by_cases hx : x < 128
    · rw [vb_lo hx]; simp
    · rw [vb_hi (by omega), List.length_cons]
      have : x / 128 < 128 ^ (k + 1) := by
        rw [Nat.div_lt_iff_lt_mul (by omega)]
        rw [Nat.pow_succ] at h
        exact h
      have := vb_len_le k (x / 128) this
      omega
theorem vb_len {x : Nat} (h : x < 18446744073709551616) : (vb x).length ≤ 10 := vb_len_le 9 x (by omega)
theorem vb_pos (x : Nat) : 0 < (vb x).length := by
  by_cases h : x < 128
  · rw [vb_lo h]; simp
  · rw [vb_hi (by omega)]; simp
def vs (x : Nat) : ByteArray := ⟨(vb x).toArray⟩
theorem vs_list (x : Nat) : (vs x).data.toList = vb x := by simp [vs]
theorem vs_size (x : Nat) : (vs x).size = (vb x).length := by simp [vs, ByteArray.size]
def lead : List UInt8 → Nat → Nat
  | b :: r, k + 1 => if 128 ≤ b.toNat then lead r k + 1 else 0
  | _, _ => 0
def pv : List UInt8 → Nat → Nat
  | b :: r, n + 1 => b.toNat % 128 + 128 * pv r n
  | _, _ => 0
def rd (l : List UInt8) : Nat × Nat × Nat :=
  let n := lead l 9
  if n = l.length then (0, 0, 2)
  else if n = 9 ∧ 1 < (l.getD 9 0).toNat ∨ 0 < n ∧ (l.getD n 0).toNat = 0 then (0, 0, 3)
  else (pv l (n + 1), n + 1, 0)
theorem pv_zero (l : List UInt8) : pv l 0 = 0 := by cases l <;> rfl
theorem lead_le_fuel : ∀ (l : List UInt8) (k : Nat), lead l k ≤ k
  | [], k => by cases k <;> simp [lead]
  | b :: r, 0 => by simp [lead]
  | b :: r, k + 1 => by
    rw [lead]
    split
    · have := lead_le_fuel r k; omega
    · omega
theorem lead_le_len : ∀ (l : List UInt8) (k : Nat), lead l k ≤ l.length
  | [], k => by cases k <;> simp [lead]
  | b :: r, 0 => by simp [lead]
  | b :: r, k + 1 => by
    rw [lead]
    split
    · have := lead_le_len r k; simp; omega
    · omega
theorem pv_succ : ∀ (l : List UInt8) (n : Nat), n < l.length → pv l (n + 1) = pv l n + (l.getD n 0).toNat % 128 * 128 ^ n
  | [], n, h => by simp at h
  | b :: r, 0, _ => by simp [pv]
  | b :: r, n + 1, h => by
    have := pv_succ r n (by simpa using h)
    rw [pv, this, pv]
    simp only [List.getD_cons_succ]
    rw [Nat.mul_add, Nat.pow_succ, ← Nat.add_assoc]
    congr 1
    rw [← Nat.mul_assoc, Nat.mul_comm 128, Nat.mul_assoc, Nat.mul_comm 128]
theorem pv_lt : ∀ (l : List UInt8) (n : Nat), pv l n < 128 ^ n
  | [], n => by
    have := Nat.pow_pos (n := n) (show 0 < 128 by omega)
    cases n <;> simp [pv] <;> omega
  | b :: r, 0 => by simp [pv]
  | b :: r, n + 1 => by
    have := pv_lt r n
    rw [pv, Nat.pow_succ]
    omega
theorem lead_step : ∀ (l : List UInt8) (f k : Nat), k ≤ lead l f → k < f → k < l.length → 128 ≤ (l.getD k 0).toNat → k + 1 ≤ lead l f
  | [], _, _, _, _, h, _ => by simp at h
  | _ :: _, 0, k, _, h, _, _ => by omega
  | b :: r, f + 1, 0, _, _, _, hb => by
    rw [lead, if_pos (by simpa using hb)]; omega
  | b :: r, f + 1, k + 1, h, hf, hl, hb => by
    rw [lead] at h ⊢
    split at h
    · have := lead_step r f k (by omega) (by omega) (by simpa using hl) (by simpa using hb)
      rw [if_pos (by assumption)]; omega
    · omega
theorem lead_stop : ∀ (l : List UInt8) (f k : Nat), k ≤ lead l f → k < l.length → (l.getD k 0).toNat < 128 → lead l f = k
  | [], _, _, _, h, _ => by simp at h
  | _ :: _, 0, k, h, _, _ => by simp [lead] at h ⊢; omega
  | b :: r, f + 1, 0, _, _, hb => by
    rw [lead, if_neg (by simp at hb; omega)]
  | b :: r, f + 1, k + 1, h, hl, hb => by
    rw [lead] at h ⊢
    split at h
    · have := lead_stop r f k (by omega) (by simpa using hl) (by simpa using hb)
      rw [if_pos (by assumption)]; omega
    · omega
theorem lead_vb : ∀ (f x : Nat) (r : List UInt8), x < 128 ^ (f + 1) → lead (vb x ++ r) f = (vb x).length - 1
  | 0, x, r, h => by rw [vb_lo (by omega)]; simp [lead]
  | f + 1, x, r, h => by
    by_cases hx : x < 128
    · rw [vb_lo hx]
      have : (UInt8.ofNat x).toNat = x := by simp; omega
      simp [lead, this]; omega
    · rw [vb_hi (by omega)]
      have e : (UInt8.ofNat (128 + x % 128)).toNat = 128 + x % 128 := by simp; omega
      have h2 : x / 128 < 128 ^ (f + 1) := by
        rw [Nat.div_lt_iff_lt_mul (by omega)]
        rw [Nat.pow_succ] at h
        exact h
      have := lead_vb f (x / 128) r h2
      have hp := vb_pos (x / 128)
      rw [List.cons_append, lead, if_pos (by omega), this]
      simp; omega
theorem pv_vb : ∀ (f x : Nat) (r : List UInt8), x < 128 ^ (f + 1) → pv (vb x ++ r) (vb x).length = x
  | 0, x, r, h => by
    rw [vb_lo (by omega)]
    have : (UInt8.ofNat x).toNat = x := by simp; omega
    simp only [List.cons_append, List.nil_append, List.length_singleton, pv, this]; omega
  | f + 1, x, r, h => by
    by_cases hx : x < 128
    · rw [vb_lo hx]
      have : (UInt8.ofNat x).toNat = x := by simp; omega
      simp only [List.cons_append, List.nil_append, List.length_singleton, pv, this]; omega
    · rw [vb_hi (by omega)]
      have e : (UInt8.ofNat (128 + x % 128)).toNat = 128 + x % 128 := by simp; omega
      have h2 : x / 128 < 128 ^ (f + 1) := by
        rw [Nat.div_lt_iff_lt_mul (by omega)]
        rw [Nat.pow_succ] at h
        exact h
      have := pv_vb f (x / 128) r h2
      rw [List.cons_append, List.length_cons, pv, this, e]
      omega
theorem vb_last : ∀ (f x : Nat) (r : List UInt8), x < 128 ^ (f + 1) → 128 ≤ x → ((vb x ++ r).getD ((vb x).length - 1) 0).toNat ≠ 0
  | 0, x, r, h, h2 => by omega
  | f + 1, x, r, h, h2 => by
    rw [vb_hi (by omega)]
    have hp := vb_pos (x / 128)
    rw [List.cons_append, List.length_cons, Nat.add_sub_cancel]
    obtain ⟨n, hn⟩ : ∃ n, (vb (x / 128)).length = n + 1 := ⟨(vb (x / 128)).length - 1, by omega⟩
    rw [hn, List.getD_cons_succ]
    have h3 : x / 128 < 128 ^ (f + 1) := by
      rw [Nat.div_lt_iff_lt_mul (by omega)]
      rw [Nat.pow_succ] at h
      exact h
    by_cases hx : x / 128 < 128
    · rw [vb_lo hx] at hn ⊢
      simp at hn
      subst hn
      have : (UInt8.ofNat (x / 128)).toNat = x / 128 := by simp; omega
      simp [this]; omega
    · have := vb_last f (x / 128) r h3 (by omega)
      rw [hn, Nat.add_sub_cancel] at this
      exact this
theorem vb_tenth : ∀ (f x : Nat) (r : List UInt8), x < 2 * 128 ^ (f + 1) → (vb x).length = f + 2 → ((vb x ++ r).getD (f + 1) 0).toNat ≤ 1
  | 0, x, r, h, h2 => by
    by_cases hx : x < 128
    · rw [vb_lo hx] at h2; simp at h2
    · rw [vb_hi (by omega)]
      rw [List.cons_append, List.getD_cons_succ, vb_lo (by omega)]
      have : (UInt8.ofNat (x / 128)).toNat = x / 128 := by simp; omega
      simp [this]; omega
  | f + 1, x, r, h, h2 => by
    by_cases hx : x < 128
    · rw [vb_lo hx] at h2; simp at h2
    · rw [vb_hi (by omega)] at h2 ⊢
      rw [List.cons_append, List.getD_cons_succ]
      refine vb_tenth f (x / 128) r ?_ (by simpa using h2)
      rw [Nat.div_lt_iff_lt_mul (by omega)]
      rw [Nat.pow_succ] at h
      omega
theorem rd_vb (x : Nat) (r : List UInt8) (h : x < 18446744073709551616) : rd (vb x ++ r) = (x, (vb x).length, 0) := by
  have h10 : x < 128 ^ (9 + 1) := by omega
  have hl := lead_vb 9 x r h10
  have hp := vb_pos x
  have hlen := vb_len h
  have e1 : (vb x).length - 1 + 1 = (vb x).length := by omega
  unfold rd
  simp only [hl]
  rw [if_neg (by simp; omega), if_neg, e1, pv_vb 9 x r h10]
  rintro (⟨h9, h1⟩ | ⟨h0, h1⟩)
  · have : ((vb x ++ r).getD 9 0).toNat ≤ 1 := vb_tenth 8 x r (by omega) (by omega)
    omega
  · refine vb_last 9 x r h10 ?_ h1
    apply Decidable.byContradiction
    intro hx
    rw [vb_lo (by omega)] at h0
    simp at h0
theorem vb_rd : ∀ (n : Nat) (l : List UInt8) (f : Nat), lead l f = n → n < l.length → (l.getD n 0).toNat < 128 → (0 < n → (l.getD n 0).toNat ≠ 0) → vb (pv l (n + 1)) = l.take (n + 1)
  | _, [], _, _, h, _, _ => by simp at h
  | 0, b :: r, f, _, _, hb, _ => by
    have hb' : b.toNat < 128 := by simpa using hb
    rw [vb_lo (by simp [pv]; omega)]
    simp only [pv, List.take_succ_cons, List.take_zero, Nat.mul_zero, Nat.add_zero]
    rw [Nat.mod_eq_of_lt hb']
    simp
  | n + 1, b :: r, 0, h, _, _, _ => by simp [lead] at h
  | n + 1, b :: r, f + 1, h, hl, hb, h0 => by
    rw [lead] at h
    split at h
    · have hb128 : 128 ≤ b.toNat := by assumption
      have hbl := b.toNat_lt
      have ih := vb_rd n r f (by omega) (by simpa using hl) (by simpa using hb) (fun hn => by simpa using h0 (by omega))
      have hne : pv r (n + 1) ≠ 0 := by
        by_cases hn : n = 0
        · subst hn
          cases r with
          | nil => simp at hl
          | cons c r =>
            have hc : c.toNat < 128 := by simpa using hb
            have := h0 (by omega)
            simp [pv] at this ⊢
            omega
        · intro hz
          rw [hz, vb_lo (by omega)] at ih
          have := congrArg List.length ih
          simp at this
          have hl' : n < r.length := by simpa using hl
          omega
      have e : pv (b :: r) (n + 1 + 1) = b.toNat % 128 + 128 * pv r (n + 1) := by rw [pv]
      rw [e, vb_hi (by omega)]
      have e1 : (b.toNat % 128 + 128 * pv r (n + 1)) / 128 = pv r (n + 1) := by omega
      have e2 : 128 + (b.toNat % 128 + 128 * pv r (n + 1)) % 128 = b.toNat := by omega
      rw [e1, e2, ih]
      simp
    · omega
theorem getD_lt (l : List UInt8) (n : Nat) : (l.getD n 0).toNat < 256 := (l.getD n 0).toNat_lt
theorem rd_ok {l : List UInt8} {x n : Nat} (h : rd l = (x, n, 0)) : n ≤ l.length ∧ vb x = l.take n ∧ 0 < n ∧ x < 18446744073709551616 := by
  unfold rd at h
  simp only at h
  split at h
  · simp at h
  · rename_i h1
    split at h
    · simp at h
    · rename_i h2
      simp only [Prod.mk.injEq] at h
      obtain ⟨rfl, rfl, _⟩ := h
      have hf := lead_le_fuel l 9
      have hl := lead_le_len l 9
      have hlt : (l.getD (lead l 9) 0).toNat < 128 := by
        apply Decidable.byContradiction
        intro hc
        by_cases h9 : lead l 9 = 9
        · refine h2 (.inl ⟨h9, ?_⟩)
          rw [h9] at hc
          omega
        · have := lead_step l 9 (lead l 9) (Nat.le_refl _) (by omega) (by omega) (by omega)
          omega
      refine ⟨by omega, vb_rd _ l 9 rfl (by omega) hlt (fun h0 hz => h2 (.inr ⟨h0, hz⟩)), by omega, ?_⟩
      have hp := pv_succ l (lead l 9) (by omega)
      have hq := pv_lt l (lead l 9)
      rw [hp]
      by_cases h9 : lead l 9 = 9
      · have : ¬ 1 < (l.getD 9 0).toNat := fun hc => h2 (.inl ⟨h9, hc⟩)
        rw [h9] at hq ⊢
        have : (l.getD 9 0).toNat % 128 ≤ 1 := by omega
        have := Nat.mul_le_mul_right (128 ^ 9) this
        omega
      · have h8 : lead l 9 ≤ 8 := by omega
        have e1 := Nat.pow_le_pow_right (show 0 < 128 by omega) h8
        have : (l.getD (lead l 9) 0).toNat % 128 ≤ 127 := by omega
        have := Nat.mul_le_mul_right (128 ^ lead l 9) this
        have e8 : 128 ^ 8 = 72057594037927936 := by decide
        omega
theorem rd_cases (l : List UInt8) : (rd l = (0, 0, 2)) ∨ (rd l = (0, 0, 3)) ∨ ∃ x n, rd l = (x, n, 0) := by
  unfold rd
  simp only
  split
  · exact .inl rfl
  · split
    · exact .inr (.inl rfl)
    · exact .inr (.inr ⟨_, _, rfl⟩)
theorem len_l (s : ByteArray) : s.data.toList.length = s.size := by rw [Array.length_toList]; rfl
theorem gd (s : ByteArray) (k : Nat) (h : k < s.size) : s.data.toList.getD k 0 = s[k] := by
  have h' : k < s.data.size := h
  rw [List.getD_eq_getElem?_getD, Array.getElem?_toList, Array.getElem?_eq_getElem h']
  rfl
theorem or_step (l : List UInt8) (k c : Nat) (hl : k < l.length) (hc : c = (l.getD k 0).toNat) (h : k < 9 ∨ k = 9 ∧ c ≤ 1) :
    bits .or .u64 (pv l k : Nat) (IntKind.u64.wrap (IntKind.u64.wrap (bits .andNot .u8 (c : Int) 128) * 2 ^ (7 * k))) = ((pv l (k + 1) : Nat) : Int) := by
  have hcl : c < 256 := by rw [hc]; exact getD_lt l k
  have e1 : bits .andNot .u8 (c : Int) 128 = ((c % 128 : Nat) : Int) := by
    have := u8_andNot_nat c 128 hcl (by omega)
    rw [show 255 - 128 = 127 from rfl, nat_mask7] at this
    exact this
  have hp := pv_lt l k
  have hs := pv_succ l k hl
  rw [← hc] at hs
  have e128 : (128 : Nat) ^ k = 2 ^ (7 * k) := by rw [Nat.pow_mul]
  have hb : pv l (k + 1) < 18446744073709551616 := by
    have h1 := pv_lt l (k + 1)
    rcases h with h | ⟨rfl, h⟩
    · have := Nat.pow_le_pow_right (show 0 < 128 by omega) (show k + 1 ≤ 9 by omega)
      omega
    · have : c % 128 ≤ 1 := by omega
      have := Nat.mul_le_mul_right (128 ^ 9) this
      omega
  have e2 : IntKind.u64.wrap ((c % 128 : Nat) : Int) = ((c % 128 : Nat) : Int) := by rw [IntKind.wrap_u64]; omega
  have e3 : ((c % 128 : Nat) : Int) * 2 ^ (7 * k) = ((c % 128 * 128 ^ k : Nat) : Int) := by rw [e128]; simp
  have e4 : IntKind.u64.wrap ((c % 128 * 128 ^ k : Nat) : Int) = ((c % 128 * 128 ^ k : Nat) : Int) := by rw [IntKind.wrap_u64]; omega
  rw [e1, e2, e3, e4, u64_or_nat _ _ (by omega) (by omega), Nat.or_comm, nat_join (7 * k) _ _ ?_ ?_, hs, Nat.add_comm]
  · rw [← e128]; exact Nat.mul_mod_left _ _
  · rw [← e128]; exact hp
theorem rd_tenth (s : ByteArray) (h : 9 < s.size) (hl : 9 ≤ lead s.data.toList 9) (h1 : 1 < (s[9].toNat : Int)) : rd s.data.toList = (0, 0, 3) := by
  have hf := lead_le_fuel s.data.toList 9
  have e : lead s.data.toList 9 = 9 := by omega
  unfold rd
  simp only [e]
  rw [len_l, if_neg (by omega), if_pos]
  left
  rw [gd s 9 h]
  exact ⟨trivial, by omega⟩
theorem rd_zero (s : ByteArray) (k : Nat) (h : k < s.size) (hl : k ≤ lead s.data.toList 9) (h1 : s[k].toNat = 0) (h0 : 0 < k) : rd s.data.toList = (0, 0, 3) := by
  have e := lead_stop s.data.toList 9 k hl (by rw [len_l]; exact h) (by rw [gd s k h]; omega)
  unfold rd
  simp only [e]
  rw [len_l, if_neg (by omega), if_pos]
  right
  rw [gd s k h]
  exact ⟨h0, h1⟩
theorem rd_stop (s : ByteArray) (k : Nat) (h : k < s.size) (hl : k ≤ lead s.data.toList 9) (h1 : s[k].toNat < 128) (h9 : k = 9 → s[k].toNat ≤ 1) (h0 : k = 0 ∨ s[k].toNat ≠ 0) : rd s.data.toList = (pv s.data.toList (k + 1), k + 1, 0) := by
  have e := lead_stop s.data.toList 9 k hl (by rw [len_l]; exact h) (by rw [gd s k h]; omega)
  unfold rd
  simp only [e]
  rw [len_l, if_neg (by omega), if_neg]
  rintro (⟨h2, h3⟩ | ⟨h2, h3⟩)
  · subst h2
    rw [gd s 9 h] at h3
    have := h9 rfl
    omega
  · rw [gd s k h] at h3
    omega
theorem rd_short (s : ByteArray) (k : Nat) (h : ¬ k < s.size) (hl : k ≤ lead s.data.toList 9) : rd s.data.toList = (0, 0, 2) := by
  have := lead_le_len s.data.toList 9
  rw [len_l] at this
  unfold rd
  simp only
  rw [len_l, if_pos (by omega)]
theorem lead_more (s : ByteArray) (k : Nat) (h : k < s.size) (h9 : k < 9) (hl : k ≤ lead s.data.toList 9) (hb : 128 ≤ (s[k].toNat : Int)) : k + 1 ≤ lead s.data.toList 9 :=
  lead_step s.data.toList 9 k hl h9 (by rw [len_l]; exact h) (by rw [gd s k h]; omega)
def rdU (l : List UInt8) : Nat × Nat × Nat := if (rd l).2.2 = 0 ∧ 9223372036854775807 < (rd l).1 then (0, 0, 3) else rd l
theorem rdU_cases (l : List UInt8) : (rdU l = (0, 0, 2) ∧ rd l = (0, 0, 2)) ∨ (rdU l = (0, 0, 3) ∧ rd l = (0, 0, 3)) ∨ (∃ x n, rd l = (x, n, 0) ∧ 9223372036854775807 < x ∧ rdU l = (0, 0, 3)) ∨ ∃ x n, rd l = (x, n, 0) ∧ x ≤ 9223372036854775807 ∧ rdU l = (x, n, 0) := by
  unfold rdU
  rcases rd_cases l with h | h | ⟨x, n, h⟩
  · rw [h]; simp
  · rw [h]; simp
  · by_cases hx : 9223372036854775807 < x
    · right; right; left
      exact ⟨x, n, h, hx, by rw [h]; simp [hx]⟩
    · right; right; right
      exact ⟨x, n, h, by omega, by rw [h]; simp; omega⟩
def zz (n : Int) : Nat := if n < 0 then (-2 * n - 1).toNat else (2 * n).toNat
def rdT (s : ByteArray) : ByteArray × Nat × Nat :=
  if (rdU s.data.toList).2.2 ≠ 0 then (ByteArray.empty, 0, (rdU s.data.toList).2.2)
  else if s.size < (rdU s.data.toList).2.1 + (rdU s.data.toList).1 then (ByteArray.empty, 0, 2)
  else (s.extract (rdU s.data.toList).2.1 ((rdU s.data.toList).2.1 + (rdU s.data.toList).1), (rdU s.data.toList).2.1 + (rdU s.data.toList).1, 0)
theorem extract_all (s : ByteArray) : s.extract 0 s.size = s := by
  apply ByteArray.ext
  rw [ByteArray.data_extract]
  exact Array.extract_size
end Go.Proofs.YtdkgkomjbpggeaaGreatDoor.Wm

namespace Go.Proofs.YtdkgkomjbpggeaaGreatDoor.Wr
open Go.RowKit Wm
set_option linter.unusedVariables false
theorem ret3 {x y z x' y' z' : Int} {k : IntKind} (h : x = x') (h2 : y = y') (h3 : z = z') :
    Ending.returned (.tuple #[.int k x, .int .i64 y, .int .i64 z]) = .returned (.tuple #[.int k x', .int .i64 y', .int .i64 z']) := by rw [h, h2, h3]
set_option maxRecDepth 100000 in
set_option maxHeartbeats 400000 in
theorem whole_any (s : ByteArray) (w : World) (hs : s.size ≤ maxLen) :
    Calls Tryz.prog 159 #[.string s] w fun e w' => e = .returned (.tuple #[.int .u64 ((rd s.data.toList).1 : Int), .int .i64 ((rd s.data.toList).2.1 : Int), .int .i64 ((rd s.data.toList).2.2 : Int)]) ∧ w = w' := by
  unfold maxLen at hs
  go_enter Tryz.func159, Tryz.ntmps159
  go_wp2
  go_loop [2, 5] (fun x i => ∃ k : Nat, k ≤ s.size ∧ k ≤ 9 ∧ Hid (k ≤ lead s.data.toList 9) ∧ i = .int .i64 k ∧ x = .int .u64 (pv s.data.toList k : Nat)) (fun _ i => s.size - (intOf i).toNat)
  case atStart => exact ⟨0, Nat.zero_le _, by omega, Nat.zero_le _, rfl, by rw [pv_zero]; rfl⟩
  case round =>
    obtain ⟨k, hk, hk9, hl, rfl, rfl⟩ := hrel
    by_cases hlt : k < s.size
    · by_cases h9 : k = 9
      · subst h9
        go_wp2
        · have h1 : 1 < (s[9].toNat : Int) := by assumption
          go_ret3
          exact ⟨by rw [rd_tenth s hlt hl.out h1]; rfl, rfl⟩
        · have h0 : s[9].toNat = 0 := by assumption
          go_ret3
          exact ⟨by rw [rd_zero s 9 hlt hl.out h0 (by omega)]; rfl, rfl⟩
        · have h0 : ¬ s[9].toNat = 0 := by assumption
          have h1 : (s[9].toNat : Int) ≤ 1 := by assumption
          go_ret3
          refine ⟨?_, rfl⟩
          rw [rd_stop s 9 hlt hl.out (by omega) (fun _ => by omega) (.inr h0)]
          exact ret3 (or_step s.data.toList 9 _ (by rw [len_l]; exact hlt) (by rw [gd s 9 hlt]) (.inr ⟨rfl, by omega⟩)) rfl rfl
      · have h9' : ((k : Int) == 9) = false := by simp; omega
        go_wp2
        · have h1 : 128 ≤ (s[k].toNat : Int) := by assumption
          go_round
          case rel => exact ⟨k + 1, by omega, by omega, lead_more s k hlt (by omega) hl.out h1, by go_num, by rw [or_step s.data.toList k _ (by rw [len_l]; exact hlt) (by rw [gd s k hlt]) (.inl (by omega))]⟩
          case measure => simp [intOf]; omega
        · have h0 : s[k].toNat = 0 := by assumption
          have hp : 0 < k := by assumption
          go_ret3
          exact ⟨by rw [rd_zero s k hlt hl.out h0 hp]; rfl, rfl⟩
        · have h0 : s[k].toNat = 0 := by assumption
          have hp : ¬ 0 < k := by assumption
          go_ret3
          refine ⟨?_, rfl⟩
          rw [rd_stop s k hlt hl.out (by omega) (fun _ => by omega) (.inl (by omega))]
          exact ret3 (or_step s.data.toList k 0 (by rw [len_l]; exact hlt) (by rw [gd s k hlt]; exact h0.symm) (.inl (by omega))) (by simp) rfl
        · have h0 : ¬ s[k].toNat = 0 := by assumption
          have h1 : (s[k].toNat : Int) < 128 := by assumption
          go_ret3
          refine ⟨?_, rfl⟩
          rw [rd_stop s k hlt hl.out (by omega) (fun _ => by omega) (.inr h0)]
          exact ret3 (or_step s.data.toList k _ (by rw [len_l]; exact hlt) (by rw [gd s k hlt]) (.inl (by omega))) (by simp) rfl
    · go_wp2
      go_ret3
      exact ⟨by rw [rd_short s k hlt hl.out]; rfl, rfl⟩
set_option maxRecDepth 100000 in
theorem number_any (s : ByteArray) (w : World) (hs : s.size ≤ maxLen) :
    Calls Tryz.prog 133 #[.string s] w fun e w' => e = .returned (.tuple #[.int .i64 ((rdU s.data.toList).1 : Int), .int .i64 ((rdU s.data.toList).2.1 : Int), .int .i64 ((rdU s.data.toList).2.2 : Int)]) ∧ w = w' := by
  have c := whole_any s w hs
  rcases rdU_cases s.data.toList with ⟨h, h2⟩ | ⟨h, h2⟩ | ⟨x, n, h2, hx, h⟩ | ⟨x, n, h2, hx, h⟩
  all_goals
    rw [h2] at c
    rw [h]
    clear h h2
    go_enter Tryz.func133, Tryz.ntmps133
    go_wp2_with (go_at_call 159; refine c.mono ?_; rintro e w' ⟨rfl, rfl⟩)
    go_ret3
    exact ⟨rfl, rfl⟩
theorem ret1 {x x' : Int} {k : IntKind} (h : x = x') : Ending.returned (.int k x) = .returned (.int k x') := by rw [h]
end Go.Proofs.YtdkgkomjbpggeaaGreatDoor.Wr

namespace Go.Proofs.YtdkgkomjbpggeaaGreatDoor.Wr
open Go.RowKit Wm
set_option linter.unusedVariables false
theorem rdU_ok {l : List UInt8} {x n : Nat} (h : rdU l = (x, n, 0)) : n ≤ l.length ∧ vb x = l.take n ∧ 0 < n ∧ x ≤ 9223372036854775807 ∧ rd l = (x, n, 0) := by
  rcases rdU_cases l with ⟨h1, _⟩ | ⟨h1, _⟩ | ⟨_, _, _, _, h1⟩ | ⟨x', n', h2, hx, h1⟩
  · rw [h1] at h; simp at h
  · rw [h1] at h; simp at h
  · rw [h1] at h; simp at h
  · rw [h1] at h
    simp only [Prod.mk.injEq] at h
    obtain ⟨rfl, rfl, _⟩ := h
    have := rd_ok h2
    exact ⟨this.1, this.2.1, this.2.2.1, hx, h2⟩
theorem rdT_cases (s : ByteArray) : (∃ e, e ≠ 0 ∧ e ≤ 3 ∧ rdU s.data.toList = (0, 0, e) ∧ rdT s = (ByteArray.empty, 0, e)) ∨
    (∃ x n, rdU s.data.toList = (x, n, 0) ∧ n ≤ s.size ∧ s.size - n < x ∧ x ≤ 9223372036854775807 ∧ rdT s = (ByteArray.empty, 0, 2)) ∨
    ∃ x n, rdU s.data.toList = (x, n, 0) ∧ n ≤ s.size ∧ x ≤ s.size - n ∧ rdT s = (s.extract n (n + x), n + x, 0) := by
  unfold rdT
  rcases rdU_cases s.data.toList with ⟨h, _⟩ | ⟨h, _⟩ | ⟨_, _, _, _, h⟩ | ⟨x, n, _, _, h⟩
  · left; exact ⟨2, by omega, by omega, h, by rw [h]; rfl⟩
  · left; exact ⟨3, by omega, by omega, h, by rw [h]; rfl⟩
  · left; exact ⟨3, by omega, by omega, h, by rw [h]; rfl⟩
  · right
    have hk := rdU_ok h
    have hn := hk.1
    rw [len_l] at hn
    by_cases hx : x ≤ s.size - n
    · right
      exact ⟨x, n, h, hn, hx, by rw [h]; simp; omega⟩
    · left
      exact ⟨x, n, h, hn, by omega, hk.2.2.2.1, by rw [h]; simp; omega⟩
theorem ret3s {x x' : ByteArray} {y z y' z' : Int} (h : x = x') (h2 : y = y') (h3 : z = z') :
    Ending.returned (.tuple #[.string x, .int .i64 y, .int .i64 z]) = .returned (.tuple #[.string x', .int .i64 y', .int .i64 z']) := by rw [h, h2, h3]
def Rat (w : World) (b : Nat) (s : ByteArray) : Prop := w.cell? ⟨b, 0, none⟩ = some (.string s) ∧ w.frozen? ⟨b, 0, none⟩ = false
theorem grown_refl (w : World) (r : Option Nat) : w.grownBy w r := ⟨rfl, rfl, rfl, Nat.le_refl _, fun _ _ _ => rfl⟩
theorem grown_set (w : World) (b : Nat) (u : Value) : w.grownBy (w.setCell ⟨b, 0, none⟩ u) (some b) :=
  ⟨rfl, rfl, rfl, by simp [World.setCell], fun k _ hne => Below.heap_setCell w ⟨b, 0, none⟩ u k (fun e => hne (by rw [e]))⟩
theorem rat_set {w : World} {b : Nat} {s : ByteArray} (h : Rat w b s) (t : ByteArray) : Rat (w.setCell ⟨b, 0, none⟩ (.string t)) b t := by
  obtain ⟨h1, h2⟩ := h
  exact ⟨World.cell?_setCell_same _ _ _ h1, (World.frozen?_setCell _ _ _ _).trans h2⟩
set_option maxRecDepth 100000 in
theorem uint_any (b : Nat) (s : ByteArray) (w : World) (h : Rat w b s) (hs : s.size ≤ maxLen) :
    Calls Tryz.prog 111 #[.pointer (some ⟨b, 0, none⟩)] w fun e w' => e = .returned (.tuple #[.int .i64 ((rdU s.data.toList).1 : Int), .int .i64 ((rdU s.data.toList).2.2 : Int)]) ∧ Rat w' b (s.extract (rdU s.data.toList).2.1 s.size) ∧ w.grownBy w' (some b) := by
  have c := number_any s w hs
  have hall := rat_set h
  have hsame : Rat w b (s.extract 0 s.size) := by rw [extract_all]; exact h
  obtain ⟨h1, h2⟩ := h
  unfold maxLen at hs
  rcases rdU_cases s.data.toList with ⟨hr, _⟩ | ⟨hr, _⟩ | ⟨_, _, _, _, hr⟩ | ⟨x, n, _, _, hr⟩
  rotate_right
  · obtain ⟨hn, _, _, hx, _⟩ := rdU_ok hr
    rw [len_l] at hn
    rw [hr] at c ⊢
    have hn' : (n : Int) ≤ s.size := by omega
    clear hr
    go_enter Tryz.func111, Tryz.ntmps111
    go_wp2_with (go_at_call 133; refine c.mono ?_; rintro e w' ⟨rfl, rfl⟩)
    go_ret2
    exact ⟨rfl, hall _, grown_set _ _ _⟩
  all_goals
    rw [hr] at c ⊢
    clear hr
    go_enter Tryz.func111, Tryz.ntmps111
    go_wp2_with (go_at_call 133; refine c.mono ?_; rintro e w' ⟨rfl, rfl⟩)
    go_ret2
    exact ⟨rfl, hsame, grown_refl _ _⟩
theorem ret2s {x x' : ByteArray} {y y' : Int} (h : x = x') (h2 : y = y') : Ending.returned (.tuple #[.string x, .int .i64 y]) = .returned (.tuple #[.string x', .int .i64 y']) := by rw [h, h2]
theorem behind (s : ByteArray) (n x : Nat) (h : n ≤ s.size) (hx : x ≤ s.size - n) : (s.extract n s.size).extract x (s.size - n) = s.extract (n + x) s.size := by
  rw [ByteArray.extract_extract]
  congr 1
  omega
theorem front (s : ByteArray) (n x : Nat) (h : n ≤ s.size) (hx : x ≤ s.size - n) : (s.extract n s.size).extract 0 x = s.extract n (n + x) := by
  rw [ByteArray.extract_extract]
  congr 1
  omega
set_option maxRecDepth 100000 in
theorem text_any (b : Nat) (s : ByteArray) (w : World) (h : Rat w b s) (hs : s.size ≤ maxLen) :
    Calls Tryz.prog 97 #[.pointer (some ⟨b, 0, none⟩)] w fun e w' => e = .returned (.tuple #[.string (rdT s).1, .int .i64 ((rdT s).2.2 : Int)]) ∧ Rat w' b (s.extract (rdT s).2.1 s.size) ∧ w.grownBy w' (some b) := by
  have c := number_any s w hs
  have hall := rat_set h
  have hsame : Rat w b (s.extract 0 s.size) := by rw [extract_all]; exact h
  obtain ⟨h1, h2⟩ := h
  unfold maxLen at hs
  rcases rdT_cases s with ⟨e, h0, h4, h, h3⟩ | ⟨x, n, h, hn, hx, hxm, h3⟩ | ⟨x, n, h, hn, hx, h3⟩
  · rw [h] at c
    rw [h3]
    have hne : ((e : Int) == 0) = false := by simp; omega
    have hne' : (!((e : Int) == 0)) = true := by simp; omega
    clear h h3 h0
    go_enter Tryz.func97, Tryz.ntmps97
    go_wp2_with (go_at_call 133; refine c.mono ?_; rintro e w' ⟨rfl, rfl⟩)
    go_ret2
    exact ⟨rfl, hsame, grown_refl _ _⟩
  · rw [h] at c
    rw [h3]
    have hlt : (s.size : Int) - n < x := by omega
    have hn' : (n : Int) ≤ s.size := by omega
    clear h h3
    go_enter Tryz.func97, Tryz.ntmps97
    go_wp2_with (go_at_call 133; refine c.mono ?_; rintro e w' ⟨rfl, rfl⟩)
    go_ret2
    exact ⟨rfl, hsame, grown_refl _ _⟩
  · rw [h] at c
    rw [h3]
    have hlt : (x : Int) ≤ (s.size : Int) - n := by omega
    have hn' : (n : Int) ≤ s.size := by omega
    clear h h3
    go_enter Tryz.func97, Tryz.ntmps97
    go_wp2_with (go_at_call 133; refine c.mono ?_; rintro e w' ⟨rfl, rfl⟩)
    go_ret2
    exact ⟨ret2s (front s n x hn hx) rfl, by rw [behind s n x hn hx]; exact hall _, grown_set _ _ _⟩
set_option maxRecDepth 100000 in
theorem left_any (b : Nat) (s : ByteArray) (w : World) (h : Rat w b s) (hs : s.size ≤ maxLen) :
    Calls Tryz.prog 98 #[.pointer (some ⟨b, 0, none⟩)] w fun e w' => e = .returned (.int .i64 (s.size : Int)) ∧ w = w' := by
  obtain ⟨h1, h2⟩ := h
  unfold maxLen at hs
  go_enter Tryz.func98, Tryz.ntmps98
  go_wp2
  go_ret
  exact ⟨rfl, rfl⟩
def dn (n : Nat) : Int := if n = 0 then 0 else 5
set_option maxRecDepth 100000 in
theorem done_any (b : Nat) (s : ByteArray) (w : World) (h : Rat w b s) (hs : s.size ≤ maxLen) :
    Calls Tryz.prog 135 #[.pointer (some ⟨b, 0, none⟩)] w fun e w' => e = .returned (.int .i64 (dn s.size)) ∧ w = w' := by
  obtain ⟨h1, h2⟩ := h
  unfold maxLen at hs
  by_cases h : s.size = 0
  · have e : s.toList = [] := by
      rw [ByteArray.toList_eq]
      apply List.eq_nil_of_length_eq_zero
      rw [len_l]
      exact h
    have e2 : (!s.toList.isEmpty) = false := by simp [e]
    have hd : dn s.size = 0 := by rw [dn, if_pos h]
    rw [hd]
    clear hd h
    go_enter Tryz.func135, Tryz.ntmps135
    go_wp2
    go_ret
    exact ⟨rfl, rfl⟩
  · have hd : dn s.size = 5 := by rw [dn, if_neg h]
    rw [hd]
    have e2 : s.toList.isEmpty = false := by
      apply Bool.eq_false_iff.2
      intro hc
      apply h
      have := List.isEmpty_iff.1 hc
      have := congrArg List.length this
      rw [ByteArray.toList_eq, len_l] at this
      exact this
    clear hd h
    go_enter Tryz.func135, Tryz.ntmps135
    go_wp2
    go_ret
    exact ⟨rfl, rfl⟩
set_option maxRecDepth 100000 in
theorem new_any (s : ByteArray) (w : World) :
    Calls Tryz.prog 96 #[.string s] w fun e w' => e = .returned (.pointer (some ⟨w.heap.size, 0, none⟩)) ∧ w.alloc (.cells #[.string s] 172) = w' := by
  go_enter Tryz.func96, Tryz.ntmps96
  go_wp2
  go_ret
  exact ⟨rfl, rfl⟩
theorem rat_new (w : World) (s : ByteArray) : Rat (w.alloc (.cells #[.string s] 172)) w.heap.size s := by
  constructor
  · go_simp
  · go_simp
end Go.Proofs.YtdkgkomjbpggeaaGreatDoor.Wr

namespace Go.Proofs.YtdkgkomjbpggeaaGreatDoor.Wr
open Go.RowKit Wm
set_option linter.unusedVariables false
def bv (b : UInt8) : Value := .int .u8 (b.toNat : Int)
theorem info5 : (Tryz.prog.info? 5).map (fun i => (i.zero, i.size, i.bytes)) = some (some (.int .u8 0), 1, 1) := by kernel_rfl
theorem own_str {w : World} {base : Nat} {v : Value} {n : Nat} {l : List UInt8} (h : w.ownsRow base 5 1 v n (l.map bv)) (hl : l.length = n) (hn : 0 < n) :
    ∃ g cap, v = .slice (some ⟨g, 0, none⟩) n cap ∧ (convert 87 9 (.slice (some ⟨g, 0, none⟩) n cap)).run Tryz.prog w = .ok (.string ⟨l.toArray⟩) w := by
  rcases h.2 with ⟨_, h0⟩ | ⟨g, cap, cur, hv, _⟩
  · omega
  · refine ⟨g, cap, hv, ?_⟩
    subst hl
    refine run_convert_bytes_back w 87 9 5 ⟨g, 0, none⟩ cap l Tryz.underlying87 Tryz.underlying5 Tryz.underlying9 ?_
    intro j hj
    refine h.cells (g := g) (by rw [hv]; rfl) j _ ?_
    rw [List.getElem?_map, List.getElem?_eq_getElem hj]
    rfl
theorem below_step {w wr w1 : World} {e : TypeId} {size n : Nat} {v : Value} {xs : List Value} {o : Obj} (hb : Below w.heap.size w wr) (hown : wr.ownsRow w.heap.size e size v n xs) (hg : (wr.alloc o).grownBy w1 v.ownBlock) : Below w.heap.size w w1 :=
  (hb.alloc hb.size o).grown hg (by have := hb.size; simp; omega) (fun k hk => (hown.lt k hk).1)
theorem or128 (y : Nat) : Value.int .u8 (bits .or .u8 ((y : Int) % 256) 128) = bv (UInt8.ofNat (128 + y % 128)) := by
  have e : ((y : Int) % 256) = ((y % 256 : Nat) : Int) := by omega
  have h := u8_or_nat (y % 256) 128 (by omega) (by omega)
  have e1 : y % 256 = y % 128 + 128 * (y / 128 % 2) := by omega
  have e2 : y % 256 ||| 128 = 128 + y % 128 := by
    rw [e1]
    rcases Nat.mod_two_eq_zero_or_one (y / 128) with h0 | h0
    · rw [h0, Nat.mul_zero, Nat.add_zero, Nat.or_comm, nat_join 7 128 _ (by decide) (by omega)]
    · rw [h0, Nat.mul_one, Nat.add_comm, ← nat_join 7 128 (y % 128) (by decide) (by omega), Nat.or_comm, ← Nat.or_assoc, Nat.or_self]
  rw [e, show (128 : Int) = ((128 : Nat) : Int) from rfl, h, e2, bv]
  congr 1
  simp
  omega
theorem low_byte (y : Nat) (h : y < 128) : Value.int .u8 (y : Int) = bv (UInt8.ofNat y) := by
  rw [bv]
  congr 1
  simp
  omega
set_option maxRecDepth 100000 in
set_option maxHeartbeats 400000 in
theorem varint_any (X : Nat) (w : World) (hX : X < 18446744073709551616) :
    Calls Tryz.prog 107 #[.int .u64 (X : Int)] w fun e w' => e = .returned (.string (vs X)) ∧ Below w.heap.size w w' := by
  obtain ⟨i0, hi, hz0, hz1, hz2⟩ := info_parts info5
  have hlen := vb_len hX
  go_enter Tryz.func107, Tryz.ntmps107
  go_wp2
  go_loopw [0, 3] (fun x v wr => ∃ (pre : List UInt8) (y : Nat), x = .int .u64 y ∧ Hid (vb X = pre ++ vb y) ∧ y < 18446744073709551616 ∧ wr.ownsRow w.heap.size 5 1 v pre.length (pre.map bv) ∧ Below w.heap.size w wr) (fun x _ _ => (intOf x).toNat)
  case atStart => exact ⟨[], X, rfl, rfl, hX, World.ownsRow_nil _ _ _ _, Below.refl _ _⟩
  case round =>
    obtain ⟨pre, y, rfl, hv, hy, hown, hb⟩ := hrel
    have hpl : pre.length + 1 ≤ 10 := by
      have h1 := congrArg List.length hv.out
      have h2 := vb_pos y
      rw [List.length_append] at h1
      omega
    have hsz := hb.size
    by_cases hlt : y < 128
    · go_wp2_with (at_builtin; refine wpList_append_own _ rfl _ _ 87 rfl w.heap.size 5 i0 (.int .u8 0) 1 1 Tryz.underlying87 hi hz0 hz1 hz2 rfl (by decide) _ _ _ rfl (hown.alloc _) ⟨wr.heap.size, 0, none⟩ 1 1 [.int .u8 (y : Int)] rfl rfl ?c1 ?c2 ?c3 ?c4 ?c5 ?_)
      case c1 => exact cell_one_new _ _ _
      case c2 => intro u hu; simp at hu; subst hu; rfl
      case c3 => unfold maxLen; omega
      case c4 => omega
      case c5 => simp; omega
      intro v' w1 hown' hgrow _
      have hb' := below_step hb hown hgrow
      rw [low_byte y hlt, show [bv (UInt8.ofNat y)] = [UInt8.ofNat y].map bv from rfl, ← List.map_append] at hown'
      obtain ⟨g, cap, hv', hc⟩ := own_str hown' (by simp) (by omega)
      have hres : (⟨(pre ++ [UInt8.ofNat y]).toArray⟩ : ByteArray) = vs X := by rw [vs, hv.out, vb_lo hlt]
      rw [hres] at hc
      clear hown hown' hgrow hres hv hb
      rw [hv']
      clear hv'
      go_wp2
      go_ret
      exact ⟨rfl, hb'⟩
    · go_wp2_with (at_builtin; refine wpList_append_own _ rfl _ _ 87 rfl w.heap.size 5 i0 (.int .u8 0) 1 1 Tryz.underlying87 hi hz0 hz1 hz2 rfl (by decide) _ _ _ rfl (hown.alloc _) ⟨wr.heap.size, 0, none⟩ 1 1 [.int .u8 (bits .or .u8 ((y : Int) % 256) 128)] rfl rfl ?c1 ?c2 ?c3 ?c4 ?c5 ?_)
      case c1 => exact cell_one_new _ _ _
      case c2 => intro u hu; simp at hu; subst hu; rfl
      case c3 => unfold maxLen; omega
      case c4 => omega
      case c5 => simp; omega
      intro v' w1 hown' hgrow _
      have hb' := below_step hb hown hgrow
      rw [or128 y, show [bv (UInt8.ofNat (128 + y % 128))] = [UInt8.ofNat (128 + y % 128)].map bv from rfl, ← List.map_append] at hown'
      have hv2 : Hid (vb X = (pre ++ [UInt8.ofNat (128 + y % 128)]) ++ vb (y / 128)) := by
        show vb X = _
        rw [hv.out, vb_hi (by omega), List.append_assoc]; rfl
      clear hown hgrow hv hb
      go_wp2
      go_roundw
      case rel => exact ⟨_, y / 128, by go_num, hv2, by omega, by simpa using hown', hb'⟩
      case measure => simp [intOf]; omega
end Go.Proofs.YtdkgkomjbpggeaaGreatDoor.Wr

namespace Go.Proofs.YtdkgkomjbpggeaaGreatDoor.Wr
open Go.RowKit Wm
set_option linter.unusedVariables false
def b1 (b : UInt8) : ByteArray := ⟨#[b]⟩
theorem vs_le {x : Nat} (h : x < 18446744073709551616) : (vs x).size ≤ 10 := by rw [vs_size]; exact vb_len h
theorem conv_one (b : UInt8) (W : World) (g : Nat) (h : W.cell? ⟨g, 0, none⟩ = some (bv b)) : (convert 87 9 (.slice (some ⟨g, 0, none⟩) 1 1)).run Tryz.prog W = .ok (.string (b1 b)) W :=
  run_convert_bytes_back W 87 9 5 ⟨g, 0, none⟩ 1 [b] Tryz.underlying87 Tryz.underlying5 Tryz.underlying9 (fun j hj => by
    match j, hj with
    | 0, _ => exact h)
end Go.Proofs.YtdkgkomjbpggeaaGreatDoor.Wr

namespace Go.Proofs.YtdkgkomjbpggeaaGreatDoor.Wr
open Go.RowKit Wm
set_option linter.unusedVariables false
theorem below_at {w w1 w2 : World} {b : Nat} (h : Below w.heap.size w w1) (hg : w1.grownBy w2 (some b)) (hb : w.heap.size ≤ b) : Below w.heap.size w w2 :=
  h.grown hg h.size (fun k hk => by injection hk with hk; omega)
theorem below_call {w w1 w2 : World} (h : Below w.heap.size w w1) (h2 : Below w1.heap.size w1 w2) : Below w.heap.size w w2 := h.trans (h2.mono h.size)
def us (n : Int) : ByteArray := if n < 0 then ⟨#[]⟩ else vs n.toNat
def ue (n : Int) : Int := if n < 0 then 1 else 0
def ts (s : ByteArray) : ByteArray := vs s.size ++ s
set_option maxRecDepth 100000 in
theorem putUint_any (n : Int) (w : World) (h1 : -9223372036854775808 ≤ n) (h2 : n ≤ 9223372036854775807) :
    Calls Tryz.prog 72 #[.int .i64 n] w fun e w' => e = .returned (.tuple #[.string (us n), .int .i64 (ue n)]) ∧ Below w.heap.size w w' := by
  by_cases h : n < 0
  · rw [us, ue, if_pos h, if_pos h]
    go_enter Tryz.func72, Tryz.ntmps72
    go_wp2_with fail
    go_ret2
    exact ⟨rfl, Below.refl _ _⟩
  · have c := fun W => varint_any n.toNat W (by omega)
    rw [us, ue, if_neg h, if_neg h]
    have e : ((n.toNat : Nat) : Int) = n := by omega
    rw [e] at c
    clear e
    go_enter Tryz.func72, Tryz.ntmps72
    go_wp2_with (go_at_call 107; refine (c _).mono ?_; rintro e w1 ⟨rfl, hb⟩)
    go_ret2
    exact ⟨rfl, hb⟩
set_option maxRecDepth 100000 in
theorem putText_any (s : ByteArray) (w : World) (hs : s.size ≤ 9223372036854775797) :
    Calls Tryz.prog 70 #[.string s] w fun e w' => e = .returned (.string (ts s)) ∧ Below w.heap.size w w' := by
  have c := fun W => varint_any s.size W (by omega)
  have hv : (vs s.size).size ≤ 10 := vs_le (by omega)
  rw [ts]
  obtain ⟨V, hV⟩ : ∃ V, V = vs s.size := ⟨_, rfl⟩
  rw [← hV] at c hv ⊢
  clear hV
  have hsum : V.size + s.size ≤ 9223372036854775807 := by omega
  go_enter Tryz.func70, Tryz.ntmps70
  go_wp2_with (go_at_call 107; refine (c _).mono ?_; rintro e w1 ⟨rfl, hb⟩)
  go_ret
  exact ⟨rfl, hb⟩
end Go.Proofs.YtdkgkomjbpggeaaGreatDoor.Wr

namespace Go.Proofs.YtdkgkomjbpggeaaGreatDoor.Fm
open Wm Wr
set_option linter.unusedVariables false
def cstep (c b : Nat) : Nat := if c % 2 = b then c / 2 else (c / 2) ^^^ 3988292384
def cbits : Nat → Nat → Nat → Nat
  | 0, c, _ => c
  | k + 1, c, x => cbits k (cstep c (x % 2)) (x / 2)
def csum (c : Nat) (l : List UInt8) : Nat := l.foldl (fun c b => cbits 8 c b.toNat) c
def fsum (l : List UInt8) : Nat := 4294967295 - csum 4294967295 l
theorem xor_lt {a b : Nat} (ha : a < 4294967296) (hb : b < 4294967296) : a ^^^ b < 4294967296 := Nat.xor_lt_two_pow (n := 32) ha hb
theorem cstep_lt {c : Nat} (b : Nat) (h : c < 4294967296) : cstep c b < 4294967296 := by
  unfold cstep
  split
  · omega
  · exact xor_lt (by omega) (by decide)
theorem cbits_lt : ∀ (k : Nat) {c : Nat} (x : Nat), c < 4294967296 → cbits k c x < 4294967296
  | 0, _, _, h => h
  | k + 1, _, x, h => cbits_lt k (x / 2) (cstep_lt (x % 2) h)
theorem csum_lt : ∀ (l : List UInt8) {c : Nat}, c < 4294967296 → csum c l < 4294967296
  | [], _, h => h
  | b :: l, _, h => csum_lt l (cbits_lt 8 b.toNat h)
theorem fsum_lt (l : List UInt8) : fsum l < 4294967296 := by unfold fsum; omega
theorem csum_snoc (c : Nat) (l : List UInt8) (b : UInt8) : csum c (l ++ [b]) = cbits 8 (csum c l) b.toNat := by simp [csum]
theorem csum_append (c : Nat) (l m : List UInt8) : csum c (l ++ m) = csum (csum c l) m := by simp [csum]
theorem csum_take (s : ByteArray) (i : Nat) (h : i < s.size) : csum 4294967295 (s.data.toList.take (i + 1)) = cbits 8 (csum 4294967295 (s.data.toList.take i)) s[i].toNat := by
  have h' : i < s.data.toList.length := by rw [len_l]; exact h
  rw [List.take_succ_eq_append_getElem h', csum_snoc]
  congr 2
theorem csum_all (s : ByteArray) : 4294967295 - csum 4294967295 (s.data.toList.take s.size) = fsum s.data.toList := by
  rw [← len_l, List.take_length]
  rfl
theorem top_of (a : Nat) (h : a < 2147483648) : 2147483648 ≤ a ^^^ 3988292384 := by
  have h1 : (a ^^^ 3988292384).testBit 31 = true := by
    rw [Nat.testBit_xor, Nat.testBit_lt_two_pow (i := 31) h]
    decide
  exact Nat.ge_two_pow_of_testBit h1
theorem cstep_inj {c d b : Nat} (hc : c < 4294967296) (hd : d < 4294967296) (hb : b < 2) (h : cstep c b = cstep d b) : c = d := by
  unfold cstep at h
  have hc2 : c / 2 < 2147483648 := by omega
  have hd2 : d / 2 < 2147483648 := by omega
  have tc := top_of (c / 2) hc2
  have td := top_of (d / 2) hd2
  by_cases h1 : c % 2 = b
  · by_cases h2 : d % 2 = b
    · rw [if_pos h1, if_pos h2] at h; omega
    · rw [if_pos h1, if_neg h2] at h; omega
  · by_cases h2 : d % 2 = b
    · rw [if_neg h1, if_pos h2] at h; omega
    · rw [if_neg h1, if_neg h2] at h
      have e := congrArg (· ^^^ 3988292384) h
      simp only [Nat.xor_assoc, Nat.xor_self, Nat.xor_zero] at e
      omega
theorem cstep_ne {c b d : Nat} (hc : c < 4294967296) (hb : b < 2) (hd : d < 2) (hne : b ≠ d) : cstep c b ≠ cstep c d := by
  unfold cstep
  have t := top_of (c / 2) (by omega)
  by_cases h1 : c % 2 = b
  · rw [if_pos h1, if_neg (by omega)]; omega
  · rw [if_neg h1, if_pos (by omega)]; omega
theorem cbits_inj : ∀ (k : Nat) {c d : Nat} (x : Nat), c < 4294967296 → d < 4294967296 → cbits k c x = cbits k d x → c = d
  | 0, _, _, _, _, _, h => h
  | k + 1, _, _, x, hc, hd, h => cstep_inj hc hd (Nat.mod_lt _ (by omega)) (cbits_inj k (x / 2) (cstep_lt _ hc) (cstep_lt _ hd) h)
theorem csum_inj : ∀ (l : List UInt8) {c d : Nat}, c < 4294967296 → d < 4294967296 → csum c l = csum d l → c = d
  | [], _, _, _, _, h => h
  | b :: l, _, _, hc, hd, h => cbits_inj 8 b.toNat hc hd (csum_inj l (cbits_lt 8 _ hc) (cbits_lt 8 _ hd) h)
theorem cbits_ne : ∀ (k i : Nat) {c : Nat} (x y : Nat), c < 4294967296 → i < k → (∀ j, j < k → j ≠ i → x / 2 ^ j % 2 = y / 2 ^ j % 2) → x / 2 ^ i % 2 ≠ y / 2 ^ i % 2 → cbits k c x ≠ cbits k c y
  | 0, _, _, _, _, _, h, _, _ => absurd h (by omega)
  | k + 1, 0, c, x, y, hc, _, hs, hd => by
    have hd' : x % 2 ≠ y % 2 := by simpa using hd
    have hr : ∀ (k : Nat) (x y d : Nat), (∀ j, j < k → x / 2 ^ j % 2 = y / 2 ^ j % 2) → cbits k d x = cbits k d y := by
      intro k
      induction k with
      | zero => intro x y d _; rfl
      | succ k ih =>
        intro x y d h
        have h0 : x % 2 = y % 2 := by simpa using h 0 (by omega)
        rw [cbits, cbits, h0]
        refine ih (x / 2) (y / 2) _ (fun j hj => ?_)
        have := h (j + 1) (by omega)
        rwa [Nat.pow_succ, Nat.mul_comm, ← Nat.div_div_eq_div_mul, ← Nat.div_div_eq_div_mul] at this
    rw [cbits, cbits]
    have e := hr k (y / 2) (x / 2) (cstep c (y % 2)) (fun j hj => by
      have := hs (j + 1) (by omega) (by omega)
      rw [Nat.pow_succ, Nat.mul_comm, ← Nat.div_div_eq_div_mul, ← Nat.div_div_eq_div_mul] at this
      exact this.symm)
    rw [e]
    intro hh
    exact cstep_ne hc (Nat.mod_lt _ (by omega)) (Nat.mod_lt _ (by omega)) hd' (cbits_inj k (x / 2) (cstep_lt _ hc) (cstep_lt _ hc) hh)
  | k + 1, i + 1, c, x, y, hc, hi, hs, hd => by
    have h0 : x % 2 = y % 2 := by simpa using hs 0 (by omega) (by omega)
    rw [cbits, cbits, h0]
    refine cbits_ne k i (x / 2) (y / 2) (cstep_lt _ hc) (by omega) (fun j hj hne => ?_) ?_
    · have := hs (j + 1) (by omega) (by omega)
      rwa [Nat.pow_succ, Nat.mul_comm, ← Nat.div_div_eq_div_mul, ← Nat.div_div_eq_div_mul] at this
    · rwa [Nat.pow_succ, Nat.mul_comm, ← Nat.div_div_eq_div_mul, ← Nat.div_div_eq_div_mul] at hd
theorem flip_all : ∀ c, c < 256 → ∀ i, i < 8 → (if c / 2 ^ i % 2 = 1 then c - 2 ^ i else c + 2 ^ i) = c ^^^ 2 ^ i ∧ c ^^^ 2 ^ i < 256 ∧ (∀ j, j < 8 → j ≠ i → (c ^^^ 2 ^ i) / 2 ^ j % 2 = c / 2 ^ j % 2) ∧ (c ^^^ 2 ^ i) / 2 ^ i % 2 ≠ c / 2 ^ i % 2 ∧ (c ^^^ 2 ^ i) ^^^ 2 ^ i = c := by
  decide +kernel
def le4 (c : Nat) : List UInt8 := [UInt8.ofNat (c % 256), UInt8.ofNat (c / 256 % 256), UInt8.ofNat (c / 256 / 256 % 256), UInt8.ofNat (c / 256 / 256 / 256 % 256)]
def sum4 (l : List UInt8) : ByteArray := ⟨(le4 (fsum l)).toArray⟩
def pk (s : ByteArray) : ByteArray := ts s ++ sum4 s.data.toList
theorem sum4_size (l : List UInt8) : (sum4 l).size = 4 := rfl
theorem pk_list (s : ByteArray) : (pk s).data.toList = vb s.size ++ (s.data.toList ++ le4 (fsum s.data.toList)) := by
  rw [pk, ByteArray.data_append, Array.toList_append, ts, ByteArray.data_append, Array.toList_append, vs_list, List.append_assoc]
  rfl
theorem pk_size (s : ByteArray) : (pk s).size = (vb s.size).length + s.size + 4 := by
  rw [← len_l, pk_list, List.length_append, List.length_append, len_l]
  have : (le4 (fsum s.data.toList)).length = 4 := rfl
  omega
theorem le4_inj {c d : Nat} (hc : c < 4294967296) (hd : d < 4294967296) (h : le4 c = le4 d) : c = d := by
  simp only [le4, List.cons.injEq, and_true] at h
  have e : ∀ a b, a < 256 → b < 256 → UInt8.ofNat a = UInt8.ofNat b → a = b := fun a b ha hb h => by
    have := congrArg UInt8.toNat h
    simp at this
    omega
  obtain ⟨h1, h2, h3, h4⟩ := h
  have h1 := e _ _ (Nat.mod_lt _ (by omega)) (Nat.mod_lt _ (by omega)) h1
  have h2 := e _ _ (Nat.mod_lt _ (by omega)) (Nat.mod_lt _ (by omega)) h2
  have h3 := e _ _ (Nat.mod_lt _ (by omega)) (Nat.mod_lt _ (by omega)) h3
  have h4 := e _ _ (Nat.mod_lt _ (by omega)) (Nat.mod_lt _ (by omega)) h4
  omega
def fr (s : ByteArray) : ByteArray × Nat × Nat :=
  if (rdT s).2.2 ≠ 0 then (⟨#[]⟩, 0, (rdT s).2.2)
  else if s.size - (rdT s).2.1 < 4 then (⟨#[]⟩, 0, 2)
  else if s.extract 0 ((rdT s).2.1 + 4) ≠ pk (rdT s).1 then (⟨#[]⟩, 0, 6)
  else ((rdT s).1, (rdT s).2.1 + 4, 0)
theorem fr_le (s : ByteArray) : (fr s).2.1 ≤ s.size := by
  unfold fr
  split
  · exact Nat.zero_le _
  · split
    · exact Nat.zero_le _
    · split
      · exact Nat.zero_le _
      · rename_i h1 h2 h3
        show (rdT s).2.1 + 4 ≤ s.size
        omega
theorem fr_ok {s t : ByteArray} {n : Nat} (h : fr s = (t, n, 0)) : rdT s = (t, n - 4, 0) ∧ 4 < n ∧ n ≤ s.size ∧ s.extract 0 n = pk t := by
  have hle := fr_le s
  rw [h] at hle
  unfold fr at h
  rcases rdT_cases s with ⟨e, h0, _, _, h3⟩ | ⟨x, m, _, _, _, _, h3⟩ | ⟨x, m, hu, hn, hx, h3⟩
  · rw [h3, if_pos h0] at h
    simp only [Prod.mk.injEq] at h
    exact absurd h.2.2 h0
  · rw [h3, if_pos (by simp)] at h
    simp at h
  · have hm := (rdU_ok hu).2.2.1
    rw [h3, if_neg (fun h => h rfl)] at h
    simp only at h
    split at h
    · simp at h
    · split at h
      · simp at h
      · rename_i h5 h6
        simp only [Prod.mk.injEq] at h
        obtain ⟨rfl, rfl, _⟩ := h
        refine ⟨by rw [h3, Nat.add_sub_cancel], by omega, hle, ?_⟩
        exact Decidable.byContradiction h6
theorem trip {α β γ : Type} (p : α × β × γ) : ∃ a b c, p = (a, b, c) := ⟨p.1, p.2.1, p.2.2, rfl⟩
def scf (s : ByteArray) : Nat → Nat → List ByteArray × Nat × Nat
  | 0, a => ([], a, 0)
  | f + 1, a => if a < s.size then
      match fr (s.extract a s.size) with
      | (t, n, e) => if e = 0 then (t :: (scf s f (a + n)).1, (scf s f (a + n)).2.1, (scf s f (a + n)).2.2) else ([], a, e)
    else ([], a, 0)
theorem scf_end {s : ByteArray} (f : Nat) {a : Nat} (h : ¬ a < s.size) : scf s f a = ([], a, 0) := by
  cases f with
  | zero => rfl
  | succ f => rw [scf, if_neg h]
theorem scf_bad {s t : ByteArray} (f : Nat) {a n e : Nat} (h : a < s.size) (h2 : fr (s.extract a s.size) = (t, n, e)) (he : e ≠ 0) : scf s (f + 1) a = ([], a, e) := by
  rw [scf, if_pos h, h2]
  exact if_neg he
theorem scf_one {s t : ByteArray} (f : Nat) {a n : Nat} (h : a < s.size) (h2 : fr (s.extract a s.size) = (t, n, 0)) : scf s (f + 1) a = (t :: (scf s f (a + n)).1, (scf s f (a + n)).2.1, (scf s f (a + n)).2.2) := by
  rw [scf, if_pos h, h2]
  exact if_pos rfl
theorem scf_fuel (s : ByteArray) : ∀ (f g a : Nat), s.size - a < f → s.size - a < g → scf s f a = scf s g a
  | 0, _, _, h, _ => absurd h (by omega)
  | _ + 1, 0, _, _, h => absurd h (by omega)
  | f + 1, g + 1, a, hf, hg => by
    by_cases h : a < s.size
    · obtain ⟨t, n, e, h2⟩ := trip (fr (s.extract a s.size))
      by_cases he : e = 0
      · subst he
        have hn := (fr_ok h2).2.1
        rw [scf_one f h h2, scf_one g h h2, scf_fuel s f g (a + n) (by omega) (by omega)]
      · rw [scf_bad f h h2 he, scf_bad g h h2 he]
    · rw [scf_end _ h, scf_end _ h]
def sc (s : ByteArray) (a : Nat) : List ByteArray × Nat × Nat := scf s (s.size + 1) a
theorem sc_end {s : ByteArray} {a : Nat} (h : ¬ a < s.size) : sc s a = ([], a, 0) := scf_end _ h
theorem sc_bad {s t : ByteArray} {a n e : Nat} (h : a < s.size) (h2 : fr (s.extract a s.size) = (t, n, e)) (he : e ≠ 0) : sc s a = ([], a, e) := scf_bad _ h h2 he
theorem sc_one {s t : ByteArray} {a n : Nat} (h : a < s.size) (h2 : fr (s.extract a s.size) = (t, n, 0)) : sc s a = (t :: (sc s (a + n)).1, (sc s (a + n)).2.1, (sc s (a + n)).2.2) := by
  have hn := (fr_ok h2).2.1
  rw [sc, scf_one _ h h2, sc, scf_fuel s s.size (s.size + 1) (a + n) (by omega) (by omega)]
end Go.Proofs.YtdkgkomjbpggeaaGreatDoor.Fm

namespace Go.Proofs.YtdkgkomjbpggeaaGreatDoor.Fr
open Go.RowKit Wm Wr Fm
set_option linter.unusedVariables false
theorem cstep_eq {c b : Nat} (h : c % 2 = b) : cstep c b = c / 2 := by rw [cstep, if_pos h]
theorem cstep_other {c b : Nat} (h : c % 2 ≠ b) : cstep c b = (c / 2) ^^^ 3988292384 := by rw [cstep, if_neg h]
theorem xor32 (a : Nat) (h : a < 4294967296) : bits .xor .u32 (a : Int) 3988292384 = ((a ^^^ 3988292384 : Nat) : Int) := u32_xor_nat a 3988292384 h (by decide)
theorem mod_byte (D : Nat) : Value.int .u8 ((D : Int) % 256) = bv (UInt8.ofNat (D % 256)) := by
  rw [bv]
  congr 1
  simp
theorem fr_e (s : ByteArray) : (∃ e, e ≠ 0 ∧ e ≤ 3 ∧ (rdT s).2.2 = e ∧ fr s = (⟨#[]⟩, 0, e)) ∨
    (∃ t n, rdT s = (t, n, 0) ∧ n ≤ s.size ∧ t.size ≤ s.size ∧ s.size - n < 4 ∧ fr s = (⟨#[]⟩, 0, 2)) ∨
    (∃ t n, rdT s = (t, n, 0) ∧ n + 4 ≤ s.size ∧ t.size ≤ s.size ∧ s.extract 0 (n + 4) ≠ pk t ∧ fr s = (⟨#[]⟩, 0, 6)) ∨
    (∃ t n, rdT s = (t, n, 0) ∧ n + 4 ≤ s.size ∧ t.size ≤ s.size ∧ s.extract 0 (n + 4) = pk t ∧ fr s = (t, n + 4, 0)) := by
  have key : ∀ t n, rdT s = (t, n, 0) → n ≤ s.size → t.size ≤ s.size →
      (s.size - n < 4 ∧ fr s = (⟨#[]⟩, 0, 2)) ∨ (n + 4 ≤ s.size ∧ s.extract 0 (n + 4) ≠ pk t ∧ fr s = (⟨#[]⟩, 0, 6)) ∨ (n + 4 ≤ s.size ∧ s.extract 0 (n + 4) = pk t ∧ fr s = (t, n + 4, 0)) := by
    intro t n h hn ht
    unfold fr
    rw [h, if_neg (fun h => h rfl)]
    simp only
    by_cases h1 : s.size - n < 4
    · rw [if_pos h1]; exact .inl ⟨h1, rfl⟩
    · rw [if_neg h1]
      by_cases h2 : s.extract 0 (n + 4) = pk t
      · rw [if_neg (fun h => h h2)]; exact .inr (.inr ⟨by omega, h2, rfl⟩)
      · rw [if_pos h2]; exact .inr (.inl ⟨by omega, h2, rfl⟩)
  rcases rdT_cases s with ⟨e, h0, h1, _, h3⟩ | ⟨x, m, _, _, _, _, h3⟩ | ⟨x, m, hu, hn, hx, h3⟩
  · left
    exact ⟨e, h0, h1, by rw [h3], by unfold fr; rw [h3, if_pos h0]⟩
  · left
    exact ⟨2, by omega, by omega, by rw [h3], by unfold fr; rw [h3, if_pos (by simp)]⟩
  · right
    have hs : (s.extract m (m + x)).size ≤ s.size := by simp; omega
    rcases key _ _ h3 (by omega) hs with ⟨a, b⟩ | ⟨a, b, c⟩ | ⟨a, b, c⟩
    · exact .inl ⟨_, _, h3, by omega, hs, a, b⟩
    · exact .inr (.inl ⟨_, _, h3, a, hs, b, c⟩)
    · exact .inr (.inr ⟨_, _, h3, a, hs, b, c⟩)
theorem bytes_ne {a b : ByteArray} (h : a ≠ b) : (a.toList == b.toList) = false := by
  rw [ByteArray.toList_eq, ByteArray.toList_eq]
  apply Bool.eq_false_iff.2
  intro hc
  exact h (ByteArray.ext (Array.toList_inj.1 (eq_of_beq hc)))
end Go.Proofs.YtdkgkomjbpggeaaGreatDoor.Fr

namespace Go.Proofs.YtdkgkomjbpggeaaGreatDoor.Fr
open Go.RowKit Wm Wr Fm
set_option linter.unusedVariables false
theorem info9 : (Tryz.prog.info? 9).map (fun i => (i.zero, i.size, i.bytes)) = some (some (.string ⟨#[]⟩), 1, 16) := by kernel_rfl
def sv (s : ByteArray) : Value := .string s
theorem sv_one (l : List ByteArray) : ∀ u ∈ l.map sv, u.oneCell' = true := by
  intro u hu
  obtain ⟨s, _, rfl⟩ := List.mem_map.1 hu
  rfl
def Texts (w : World) (B : Nat) (v : Value) (l : List ByteArray) : Prop := w.ownsRow B 9 1 v l.length (l.map sv)
theorem Texts.below {w w1 : World} {B : Nat} {v : Value} {l : List ByteArray} (h : Texts w B v l) (hb : Below w.heap.size w w1) : Texts w1 B v l := by
  refine ⟨h.1, ?_⟩
  rcases h.2 with h0 | ⟨g', cap', cur, hv, hg, hh, r⟩
  · exact .inl h0
  · exact .inr ⟨g', cap', cur, hv, hg, (hb.block g' (Array.getElem?_eq_some_iff.1 hh).1).trans hh, r⟩
def ScanTo (s : ByteArray) (w : World) (e : Ending) (w' : World) : Prop := ∃ v, e = .returned (.tuple #[v, .int .i64 ((sc s 0).2.1 : Int), .int .i64 ((sc s 0).2.2 : Int)]) ∧ Texts w' w.heap.size v (sc s 0).1 ∧ Below w.heap.size w w'
def Far (s : ByteArray) (pre : List ByteArray) (a : Nat) : Prop := sc s 0 = (pre ++ (sc s a).1, (sc s a).2.1, (sc s a).2.2) ∧ a ≤ s.size ∧ pre.length ≤ a
theorem far_start (s : ByteArray) : Far s [] 0 := ⟨rfl, Nat.zero_le _, Nat.le_refl _⟩
theorem far_step {s t : ByteArray} {pre : List ByteArray} {a n : Nat} (h : Far s pre a) (ha : a < s.size) (h2 : fr (s.extract a s.size) = (t, n, 0)) : Far s (pre ++ [t]) (a + n) := by
  obtain ⟨h1, h3, h4⟩ := h
  have hk := fr_ok h2
  have hs : (s.extract a s.size).size = s.size - a := by simp
  refine ⟨?_, by omega, by rw [List.length_append]; show _ + 1 ≤ _; omega⟩
  rw [h1, sc_one ha h2]
  simp
theorem far_bad {s t : ByteArray} {pre : List ByteArray} {a n e : Nat} (h : Far s pre a) (ha : a < s.size) (h2 : fr (s.extract a s.size) = (t, n, e)) (he : e ≠ 0) : sc s 0 = (pre, a, e) := by
  rw [h.1, sc_bad ha h2 he, List.append_nil]
theorem far_end {s : ByteArray} {pre : List ByteArray} {a : Nat} (h : Far s pre a) (ha : ¬ a < s.size) : sc s 0 = (pre, a, 0) := by
  rw [h.1, sc_end ha, List.append_nil]
end Go.Proofs.YtdkgkomjbpggeaaGreatDoor.Fr

namespace Go.Proofs.YtdkgkomjbpggeaaGreatDoor.Fr
open Go.RowKit Wm Wr Fm
set_option linter.unusedVariables false
def Strs (w : World) (a : Option Addr) (n : Nat) (l : List ByteArray) : Prop := l.length = n ∧ (n = 0 ∨ ∃ b off, a = some ⟨b, off, none⟩ ∧ b < w.heap.size ∧ ∀ k x, l[k]? = some x → w.cell? ⟨b, off + k, none⟩ = some (.string x))
theorem Strs.below {w w1 : World} {a : Option Addr} {n : Nat} {l : List ByteArray} (h : Strs w a n l) (hb : Below w.heap.size w w1) : Strs w1 a n l := by
  refine ⟨h.1, ?_⟩
  rcases h.2 with h0 | ⟨b, off, ha, hlt, hc⟩
  · exact .inl h0
  · exact .inr ⟨b, off, ha, Nat.lt_of_lt_of_le hlt hb.size, fun k x hx => (hb.cell (p := ⟨b, off + k, none⟩) hlt).trans (hc k x hx)⟩
theorem Strs.take {w : World} {a : Option Addr} {n m : Nat} {l : List ByteArray} (h : Strs w a n l) (hm : m ≤ n) : Strs w a m (l.take m) := by
  refine ⟨by rw [List.length_take, h.1]; omega, ?_⟩
  rcases h.2 with h0 | ⟨b, off, ha, hlt, hc⟩
  · exact .inl (by omega)
  · refine .inr ⟨b, off, ha, hlt, fun k x hx => hc k x ?_⟩
    rw [List.getElem?_take] at hx
    split at hx
    · exact hx
    · cases hx
theorem Texts.form {w : World} {B : Nat} {v : Value} {l : List ByteArray} (h : Texts w B v l) : ∃ a c, v = .slice a l.length c ∧ Strs w a l.length l ∧ l.length ≤ c ∧ c ≤ maxLen := by
  have hh := h
  rcases h.2 with ⟨rfl, h0⟩ | ⟨g, cap, cur, rfl, hg, hh2, hn, hc, _⟩
  · exact ⟨none, 0, by rw [h0], ⟨rfl, .inl h0⟩, by omega, Nat.zero_le _⟩
  · refine ⟨some ⟨g, 0, none⟩, cap, rfl, ⟨rfl, .inr ⟨g, 0, rfl, (Array.getElem?_eq_some_iff.1 hh2).1, fun k x hx => ?_⟩⟩, hn, hc⟩
    have := hh.cells (g := g) rfl k (sv x) (by rw [List.getElem?_map, hx]; rfl)
    rw [← WideShapes.add_plain]
    exact this
end Go.Proofs.YtdkgkomjbpggeaaGreatDoor.Fr

namespace Go.Proofs.YtdkgkomjbpggeaaGreatDoor.Fr
open Go.RowKit Wm Wr Fm
set_option linter.unusedVariables false
theorem cstep_both (D Y : Nat) : cstep (D ^^^ Y) 0 = cstep D (Y % 2) ^^^ (Y / 2) := by
  have h1 : (D ^^^ Y) / 2 = D / 2 ^^^ Y / 2 := Nat.xor_div_two
  have h2 : (D ^^^ Y) % 2 = (D + Y) % 2 := by
    have h := @Nat.xor_mod_two_eq_one D Y
    omega
  unfold cstep
  rw [h1, h2]
  by_cases h : D % 2 = Y % 2
  · rw [if_pos h, if_pos (by omega)]
  · rw [if_neg h, if_neg (by omega), Nat.xor_assoc, Nat.xor_comm (Y / 2), ← Nat.xor_assoc]
theorem cbits_both : ∀ (k c x : Nat), cbits k (c ^^^ x) 0 = cbits k c x ^^^ (x / 2 ^ k)
  | 0, c, x => by simp [cbits]
  | k + 1, c, x => by
    rw [cbits, cbits]
    show cbits k (cstep (c ^^^ x) 0) 0 = _
    rw [cstep_both, cbits_both k (cstep c (x % 2)) (x / 2), Nat.div_div_eq_div_mul, Nat.pow_succ, Nat.mul_comm 2]
theorem cbits_byte (c x : Nat) (h : x < 256) : cbits 8 (c ^^^ x) 0 = cbits 8 c x := by
  rw [cbits_both, Nat.div_eq_of_lt (by omega), Nat.xor_zero]
theorem cbits_snoc0 : ∀ (k c : Nat), cbits (k + 1) c 0 = cstep (cbits k c 0) 0
  | 0, c => by simp [cbits]
  | k + 1, c => by
    rw [cbits, Nat.zero_div, cbits_snoc0 k, cbits, Nat.zero_div]
theorem and32 (x : Nat) (h : x < 4294967296) : bits .and .u32 (x : Int) 1 = ((x % 2 : Nat) : Int) := by
  have := u32_and_nat x 1 h (by omega)
  rw [nat_mask1] at this
  exact this
theorem not32 (y : Nat) (h : y < 4294967296) : bits .xor .u32 IntKind.u32.max (y : Int) = ((4294967295 - y : Nat) : Int) := by
  have e : BitVec.ofInt 32 IntKind.u32.max = BitVec.allOnes 32 := by decide
  have h2 : (BitVec.allOnes 32 ^^^ BitVec.ofInt 32 (y : Int)).toNat = 4294967295 - y := by
    rw [BitVec.allOnes_xor, BitVec.toNat_not, ofInt_u32 y h]
  rw [← e] at h2
  show IntKind.u32.wrap ((BitVec.ofInt 32 IntKind.u32.max ^^^ BitVec.ofInt 32 (y : Int)).toNat : Int) = _
  rw [h2, IntKind.wrap_u32']
  omega
set_option maxRecDepth 100000 in
set_option maxHeartbeats 1000000 in
theorem fSum_same (s : ByteArray) (w : World) (hs : s.size ≤ maxLen) :
    Calls Tryz.prog 108 #[.string s] w fun e w' => e = .returned (.int .u32 (fsum s.data.toList : Nat)) ∧ w = w' := by
  unfold maxLen at hs
  go_enter Tryz.func108, Tryz.ntmps108
  go_wp2
  go_loop [3, 8] (fun c i => ∃ (k C : Nat), k ≤ s.size ∧ i = .int .i64 k ∧ Hid (C = csum 4294967295 (s.data.toList.take k)) ∧ C < 4294967296 ∧ c = .int .u32 (C : Nat)) (fun _ i => s.size - (intOf i).toNat)
  case atStart => exact ⟨0, 4294967295, Nat.zero_le _, rfl, rfl, by decide, rfl⟩
  case round =>
    obtain ⟨k, C, hk, rfl, hC, hlt, rfl⟩ := hrel
    by_cases hks : k < s.size
    · have hb := s[k].toNat_lt
      have hnext := csum_take s k hks
      rw [← hC.out] at hnext
      have hxor := u32_xor_nat C s[k].toNat hlt (by omega)
      have hl := xor_lt (a := C) (b := s[k].toNat) hlt (by omega)
      go_wp2
      obtain ⟨X, hX⟩ : ∃ X, X = s[k].toNat := ⟨_, rfl⟩
      rw [← hX] at hb hnext hl hxor ⊢
      rw [← cbits_byte C X hb] at hnext
      obtain ⟨Z, hZ⟩ : ∃ Z, Z = C ^^^ X := ⟨_, rfl⟩
      rw [← hZ] at hnext hl ⊢
      have HN := Lib.hid hnext
      clear hX hnext hC hZ hxor
      go_loop [3, 5, 17] (fun c g i => ∃ (j D : Nat), j ≤ 8 ∧ i = .int .i64 j ∧ Hid (D = cbits j Z 0) ∧ D < 4294967296 ∧ c = .int .u32 (D : Nat)) (fun _ _ i => 8 - (intOf i).toNat)
      case atStart => exact ⟨0, Z, by omega, rfl, rfl, hl, rfl⟩
      case round =>
        obtain ⟨j, D, hj, rfl, hD, hDl, rfl⟩ := hrel
        by_cases hj8 : j < 8
        · have hnD : cbits (j + 1) Z 0 = cstep D 0 := by rw [cbits_snoc0, ← hD.out]
          have HD := Lib.hid hnD
          have ha := and32 D hDl
          clear hnD hD
          rcases Nat.mod_two_eq_zero_or_one D with hd | hd
          · have HE := Lib.hid (cstep_eq (c := D) (b := 0) hd)
            rw [hd] at ha
            clear hd
            go_wp2
            go_round
            case rel => exact ⟨j + 1, D / 2, by omega, by go_num, by show _ = _; rw [HD.out, HE.out], by omega, by go_num⟩
            case measure => simp [intOf]; omega
          · have HE := Lib.hid (cstep_other (c := D) (b := 0) (by omega))
            have hxor := xor32 (D / 2) (by omega)
            rw [show ((D / 2 : Nat) : Int) = (D : Int) / 2 by omega] at hxor
            have hl2 := xor_lt (a := D / 2) (b := 3988292384) (by omega) (by decide)
            rw [hd] at ha
            clear hd
            go_wp2
            go_round
            case rel => exact ⟨j + 1, _, by omega, by go_num, by show _ = _; rw [HD.out, HE.out], hl2, rfl⟩
            case measure => simp [intOf]; omega
        · obtain rfl : j = 8 := by omega
          go_wp2
          go_round
          case rel => exact ⟨k + 1, D, by omega, by go_num, by show D = _; rw [HN.out, hD.out], hDl, rfl⟩
          case measure => simp [intOf]; omega
    · obtain rfl : k = s.size := by omega
      have hall := csum_all s
      rw [← hC.out] at hall
      have hn := not32 C hlt
      go_wp2
      go_ret
      refine ⟨?_, rfl⟩
      rw [← hall]
      exact ret1 (by omega)
end Go.Proofs.YtdkgkomjbpggeaaGreatDoor.Fr

namespace Go.Proofs
open Go.Shelf
def Tryz.lays156_ren : Go.Shelf.Ren := ⟨fun | 156 => 106 | 165 => 141 | 166 => 142 | 169 => 143 | 240 => 168 | 241 => 169 | 276 => 183 | 277 => 184 | n => n, fun | 31 => 52 | 9 => 9 | 3 => 3 | 4 => 4 | 0 => 0 | 20 => 20 | 72 => 183 | 76 => 187 | 70 => 181 | 37 => 87 | 75 => 186 | 127 => 208 | 164 => 217 | 5 => 5 | 80 => 189 | n => n, fun | n => n⟩
theorem Tryz.lays156 : Go.Proofs.Lays.n156 Tryz.prog Tryz.lays156_ren := {
  mixed := by kernel_rfl
  f156 := Tryz.func106.trans (congrArg some (by kernel_rfl))
  f165 := Tryz.func141.trans (congrArg some (by kernel_rfl))
  f166 := Tryz.func142.trans (congrArg some (by kernel_rfl))
  f169 := Tryz.func143.trans (congrArg some (by kernel_rfl))
  f240 := Tryz.func168.trans (congrArg some (by kernel_rfl))
  f241 := Tryz.func169.trans (congrArg some (by kernel_rfl))
  f276 := Tryz.func183.trans (congrArg some (by kernel_rfl))
  f277 := Tryz.func184.trans (congrArg some (by kernel_rfl))
  t0 := Tryz.underlying0
  a0 := Tryz.isAgg0
  z0 := Tryz.sizeOf0
  v0 := Tryz.zeroValue0
  t3 := Tryz.underlying3
  a3 := Tryz.isAgg3
  z3 := Tryz.sizeOf3
  v3 := Tryz.zeroValue3
  t4 := Tryz.underlying4
  a4 := Tryz.isAgg4
  z4 := Tryz.sizeOf4
  v4 := Tryz.zeroValue4
  t9 := Tryz.underlying9
  a9 := Tryz.isAgg9
  z9 := Tryz.sizeOf9
  v9 := Tryz.zeroValue9
  t20 := Tryz.underlying20
  a20 := Tryz.isAgg20
  z20 := Tryz.sizeOf20
  v20 := Tryz.zeroValue20
  t31 := Tryz.underlying52
  a31 := Tryz.isAgg52
  z31 := Tryz.sizeOf52
  v31 := Tryz.zeroValue52
  t37 := Tryz.underlying87
  a37 := Tryz.isAgg87
  z37 := Tryz.sizeOf87
  v37 := Tryz.zeroValue87
  t70 := Tryz.underlying181
  a70 := Tryz.isAgg181
  z70 := Tryz.sizeOf181
  v70 := Tryz.zeroValue181
  t72 := Tryz.underlying183
  a72 := Tryz.isAgg183
  z72 := Tryz.sizeOf183
  v72 := Tryz.zeroValue183
  t75 := Tryz.underlying186
  a75 := Tryz.isAgg186
  z75 := Tryz.sizeOf186
  v75 := Tryz.zeroValue186
  t76 := Tryz.underlying187
  a76 := Tryz.isAgg187
  z76 := Tryz.sizeOf187
  v76 := Tryz.zeroValue187
  t127 := Tryz.underlying208
  a127 := Tryz.isAgg208
  z127 := Tryz.sizeOf208
  v127 := Tryz.zeroValue208
  t164 := Tryz.underlying217
  a164 := Tryz.isAgg217
  z164 := Tryz.sizeOf217
  v164 := Tryz.zeroValue217 }
theorem Tryz.Builder_Extra_156 : Builder.Extra Tryz.prog Tryz.lays156_ren := {
  sizeBuilder := by kernel_rfl
  liesBuilder := by kernel_rfl
  t5 := Tryz.underlying5
  a5 := Tryz.isAgg5
  z5 := Tryz.sizeOf5
  v5 := Tryz.zeroValue5
  infoByte := by kernel_rfl
  cellsByte := by kernel_rfl
  sizeByte := by kernel_rfl
  neB5 := by decide }
end Go.Proofs

namespace Go.Proofs.YtdkgkomjbpggeaaGreatDoor.Wr
open Go.RowKit Wm
set_option linter.unusedVariables false
def cat (l : List ByteArray) : ByteArray := ⟨(l.map (·.data.toList)).flatten.toArray⟩
theorem cat_size (l : List ByteArray) : (cat l).size = (l.map (·.size)).sum := by
  induction l with
  | nil => rfl
  | cons x l ih =>
    have h : (cat (x :: l)).size = x.size + (cat l).size := by
      simp only [cat, ByteArray.size, List.map_cons, List.flatten_cons, List.size_toArray, List.length_append, Array.length_toList]
    rw [h, ih]; simp
theorem join_empty (l : List (List UInt8)) : Lib.join l (ByteArray.mk #[]).data.toList = l.flatten := by
  cases l with
  | nil => rfl
  | cons x l =>
    rw [Lib.join_cons, Lib.joinTail]
    simp
theorem join_any (bk o c : Nat) (xs : List ByteArray) (w : World)
    (hcells : ∀ (j : Nat) x, xs[j]? = some x → w.cell? ⟨bk, o + j, none⟩ = some (.string x))
    (hbk : bk < w.heap.size) (hN : xs.length ≤ 140737488355328) (hcap : xs.length ≤ c) (hlen : (cat xs).size ≤ 140737488355328) :
    Calls Tryz.prog 69 #[.slice (some ⟨bk, o, none⟩) xs.length c] w fun e w' => e = .returned (.string (cat xs)) ∧ Below w.heap.size w w' := by
  have e : (cat xs) = ⟨(Lib.join (xs.map (·.data.toList)) (ByteArray.mk #[]).data.toList).toArray⟩ := by
    rw [cat, join_empty]
  have hl : (Lib.join (xs.map (·.data.toList)) (ByteArray.mk #[]).data.toList).length ≤ 140737488355328 := by
    rw [join_empty]
    simpa [cat, ByteArray.size] using hlen
  have c1 := fun W (h : ∀ (j : Nat) x, xs[j]? = some x → W.cell? ⟨bk, o + j, none⟩ = some (.string x)) (h2 : bk < W.heap.size) => Any.strings_Join Tryz.lays156 Tryz.Builder_Extra_156 bk o c xs ⟨#[]⟩ W h h2 hN hcap hl
  rw [← e] at c1
  have HC := Lib.hid hcells
  have HB := Lib.hid hbk
  clear hcells e hl hlen hbk
  go_enter Tryz.func69, Tryz.ntmps69
  go_wp2_with (go_at_call 106; refine (c1 _ HC.out HB.out).mono ?_; rintro e w1 ⟨rfl, hb⟩)
  go_ret
  exact ⟨rfl, hb⟩
end Go.Proofs.YtdkgkomjbpggeaaGreatDoor.Wr

namespace Go.Proofs.YtdkgkomjbpggeaaGreatDoor.Fr
open Go.RowKit Wm Wr Fm
set_option linter.unusedVariables false
def lay4 (F j : Nat) : Array Value := (((le4 F).take j).map bv ++ List.replicate (4 - j) (Value.int .u8 0)).toArray
theorem lay4_at (F j : Nat) (h : j < 4) : (lay4 F j)[j]? = some (.int .u8 0) := by
  match j, h with
  | 0, _ => rfl
  | 1, _ => rfl
  | 2, _ => rfl
  | 3, _ => rfl
theorem lay4_set (F j : Nat) (h : j < 4) : (lay4 F j).setIfInBounds j (bv (UInt8.ofNat (F / 256 ^ j % 256))) = lay4 F (j + 1) := by
  have e2 : F / 256 ^ 2 = F / 256 / 256 := by rw [Nat.div_div_eq_div_mul]
  have e3 : F / 256 ^ 3 = F / 256 / 256 / 256 := by rw [Nat.div_div_eq_div_mul, Nat.div_div_eq_div_mul]
  match j, h with
  | 0, _ => simp [lay4, le4]
  | 1, _ => simp [lay4, le4]
  | 2, _ => simp [lay4, le4, e2]
  | 3, _ => simp [lay4, le4, e3]
theorem lay4_full (F : Nat) : lay4 F 4 = ((le4 F).map bv).toArray := rfl
theorem lay4_conv (w : World) (F : Nat) : (convert 87 9 (.slice (some ⟨w.heap.size, 0, none⟩) 4 4)).run Tryz.prog (w.alloc (.cells (lay4 F 4) 155)) = .ok (.string ⟨(le4 F).toArray⟩) (w.alloc (.cells (lay4 F 4) 155)) :=
  run_convert_bytes_back _ 87 9 5 ⟨w.heap.size, 0, none⟩ 4 (le4 F) Tryz.underlying87 Tryz.underlying5 Tryz.underlying9 (fun j hj => by
    have hj : j < 4 := hj
    obtain rfl | rfl | rfl | rfl : j = 0 ∨ j = 1 ∨ j = 2 ∨ j = 3 := by omega
    all_goals
      rw [lay4_full]
      go_simp
      rfl)
theorem put_byte {w : World} {F j : Nat} {x : Int} (h : j < 4) (hx : x = ((F / 256 ^ j % 256 : Nat) : Int)) : w.alloc (.cells ((lay4 F j).setIfInBounds j (.int .u8 x)) 155) = w.alloc (.cells (lay4 F (j + 1)) 155) := by
  rw [← lay4_set F j h, ← mod_byte, hx]
  rfl
set_option maxRecDepth 100000 in
set_option maxHeartbeats 1000000 in
theorem sumOf_any (s : ByteArray) (w : World) (hs : s.size ≤ maxLen) :
    Calls Tryz.prog 71 #[.string s] w fun e w' => e = .returned (.string (sum4 s.data.toList)) ∧ Below w.heap.size w w' := by
  have cs := fun W => fSum_same s W hs
  have hFl := fsum_lt s.data.toList
  have hres : Hid ((⟨(le4 (fsum s.data.toList)).toArray⟩ : ByteArray) = sum4 s.data.toList) := rfl
  obtain ⟨F, hF⟩ : ∃ F, F = fsum s.data.toList := ⟨_, rfl⟩
  rw [← hF] at cs hFl hres
  clear hF
  have hcv := lay4_conv w F
  go_enter Tryz.func71, Tryz.ntmps71
  go_wp2_with (go_at_call 108; refine (cs _).mono ?_; rintro e w1 ⟨rfl, rfl⟩)
  go_loopw [5, 8] (fun g i wr => ∃ j : Nat, j ≤ 4 ∧ i = .int .i64 j ∧ wr = w.alloc (.cells (lay4 F j) 155)) (fun _ i _ => 4 - (intOf i).toNat)
  case atStart => exact ⟨0, by omega, rfl, rfl⟩
  case round =>
    obtain ⟨j, hj, rfl, rfl⟩ := hrel
    clear cs
    by_cases hlt : j < 4
    · have hat := lay4_at F j hlt
      obtain rfl | rfl | rfl | rfl : j = 0 ∨ j = 1 ∨ j = 2 ∨ j = 3 := by omega
      all_goals
        go_wp2
        go_roundw
        case measure => simp [intOf]
      · exact ⟨1, by omega, by go_num, put_byte (by omega) (by omega)⟩
      · exact ⟨2, by omega, by go_num, put_byte (by omega) (by omega)⟩
      · exact ⟨3, by omega, by go_num, put_byte (by omega) (by omega)⟩
      · exact ⟨4, by omega, by go_num, put_byte (by omega) (by omega)⟩
    · obtain rfl : j = 4 := by omega
      go_wp2
      go_ret
      exact ⟨by rw [← hres.out]; rfl, (Below.refl _ _).alloc (Nat.le_refl _) _⟩
theorem cat_two (x y : ByteArray) : cat [x, y] = x ++ y := by
  apply ByteArray.ext
  simp [cat]
theorem join2_any (bk : Nat) (x y : ByteArray) (w : World) (h0 : w.cell? ⟨bk, 0, none⟩ = some (.string x)) (h1 : w.cell? ⟨bk, 1, none⟩ = some (.string y)) (hbk : bk < w.heap.size) (hlen : x.size + y.size ≤ 140737488355328) :
    Calls Tryz.prog 69 #[.slice (some ⟨bk, 0, none⟩) 2 2] w fun e w' => e = .returned (.string (x ++ y)) ∧ Below w.heap.size w w' := by
  have h := join_any bk 0 2 [x, y] w (fun j z hz => by
    match j, hz with
    | 0, hz => simp at hz; subst hz; exact h0
    | 1, hz => simp at hz; subst hz; exact h1
    | j + 2, hz => simp at hz) hbk (by simp) (by simp) (by rw [cat_two, ByteArray.size_append]; exact hlen)
  rw [cat_two] at h
  exact h
set_option maxRecDepth 100000 in
set_option maxHeartbeats 1000000 in
theorem fPack_any (s : ByteArray) (w : World) (hs : s.size ≤ 140737488355300) :
    Calls Tryz.prog 34 #[.string s] w fun e w' => e = .returned (.string (pk s)) ∧ Below w.heap.size w w' := by
  have ct := fun W => putText_any s W (by omega)
  have cs := fun W => sumOf_any s W (by unfold maxLen; omega)
  have hTl : (ts s).size ≤ 10 + s.size := by
    rw [ts, ByteArray.size_append]
    have := vs_le (x := s.size) (by omega)
    omega
  have hpk : Hid (ts s ++ sum4 s.data.toList = pk s) := rfl
  have hQl : (sum4 s.data.toList).size ≤ 4 := by rw [sum4_size]; exact Nat.le_refl _
  obtain ⟨T, hT⟩ : ∃ T, T = ts s := ⟨_, rfl⟩
  obtain ⟨Q, hQ⟩ : ∃ Q, Q = sum4 s.data.toList := ⟨_, rfl⟩
  rw [← hT] at ct hTl hpk
  rw [← hQ] at cs hQl hpk
  have cj := fun W B h0 h1 hb => join2_any B T Q W h0 h1 hb (by omega)
  clear hT hQ
  go_enter Tryz.func34, Tryz.ntmps34
  go_wp2_with (first
    | (go_at_call 70; refine (ct _).mono ?_; rintro e w1 ⟨rfl, hb1⟩)
    | (go_at_call 71; refine (cs _).mono ?_; rintro e w2 ⟨rfl, hb2⟩)
    | (go_at_call 69; refine (cj _ _ (by go_simp) (by go_simp) (by go_simp)).mono ?_; rintro e w3 ⟨rfl, hb3⟩))
  go_ret
  exact ⟨by rw [← hpk.out]; rfl, below_call ((below_call hb1 hb2).alloc (below_call hb1 hb2).size _) hb3⟩
end Go.Proofs.YtdkgkomjbpggeaaGreatDoor.Fr

namespace Go.Proofs.YtdkgkomjbpggeaaGreatDoor.Fr
open Go.RowKit Wm Wr Fm
set_option linter.unusedVariables false
def frAt (s : ByteArray) (a : Int) : ByteArray × Int × Nat :=
  if a < 0 ∨ (s.size : Int) < a then (⟨#[]⟩, 0, 1)
  else if (fr (s.extract a.toNat s.size)).2.2 ≠ 0 then (⟨#[]⟩, 0, (fr (s.extract a.toNat s.size)).2.2)
  else ((fr (s.extract a.toNat s.size)).1, a + (fr (s.extract a.toNat s.size)).2.1, 0)
theorem frAt_out {s : ByteArray} {a : Int} (h : a < 0 ∨ (s.size : Int) < a) : frAt s a = (⟨#[]⟩, 0, 1) := by rw [frAt, if_pos h]
theorem frAt_bad {s : ByteArray} {a : Nat} {t : ByteArray} {n e : Nat} (h : a ≤ s.size) (h2 : fr (s.extract a s.size) = (t, n, e)) (he : e ≠ 0) : frAt s a = (⟨#[]⟩, 0, e) := by
  rw [frAt, if_neg (by omega), Int.toNat_natCast, h2, if_pos he]
theorem frAt_ok {s : ByteArray} {a : Nat} {t : ByteArray} {n : Nat} (h : a ≤ s.size) (h2 : fr (s.extract a s.size) = (t, n, 0)) : frAt s a = (t, (a : Int) + n, 0) := by
  rw [frAt, if_neg (by omega), Int.toNat_natCast, h2, if_neg (fun h => h rfl)]
theorem ts_front {X t : ByteArray} {n : Nat} (h : rdT X = (t, n, 0)) : X.extract 0 n = ts t := by
  rcases rdT_cases X with ⟨e, h0, h1, _, h3⟩ | ⟨x, m, _, _, _, _, h3⟩ | ⟨x, m, hu, hn, hx, h3⟩
  · rw [h3] at h
    simp only [Prod.mk.injEq] at h
    exact absurd h.2.2 h0
  · rw [h3] at h
    simp at h
  · rw [h3] at h
    simp only [Prod.mk.injEq] at h
    obtain ⟨rfl, rfl, _⟩ := h
    have hk := rdU_ok hu
    have e1 : (X.extract m (m + x)).size = x := by simp; omega
    have e2 : vs x = X.extract 0 m := by
      apply ByteArray.ext
      rw [vs, hk.2.1, ByteArray.data_extract]
      apply Array.toList_inj.1
      simp
    rw [ts, e1, e2]
    apply ByteArray.ext
    rw [ByteArray.data_append, ByteArray.data_extract, ByteArray.data_extract, ByteArray.data_extract, Array.extract_append_extract]
    congr 1 <;> omega
theorem pk_iff {X t : ByteArray} {n : Nat} (h : rdT X = (t, n, 0)) : X.extract 0 (n + 4) = pk t ↔ X.extract n (n + 4) = sum4 t.data.toList := by
  have e : X.extract 0 (n + 4) = ts t ++ X.extract n (n + 4) := by
    rw [← ts_front h]
    apply ByteArray.ext
    rw [ByteArray.data_append, ByteArray.data_extract, ByteArray.data_extract, ByteArray.data_extract, Array.extract_append_extract]
    congr 1 <;> omega
  rw [e, pk]
  constructor
  · intro h2
    have h3 := congrArg (fun x : ByteArray => x.data.toList) h2
    simp only [ByteArray.data_append, Array.toList_append] at h3
    exact ByteArray.ext (Array.toList_inj.1 (List.append_cancel_left h3))
  · intro h2
    rw [h2]
theorem within (s : ByteArray) (k n : Nat) (h : k + n + 4 ≤ s.size) : (s.extract k s.size).extract n (n + 4) = s.extract (k + n) (k + n + 4) := by
  rw [ByteArray.extract_extract]
  congr 1
  omega
theorem ret3s {v v' : ByteArray} {x y x' y' : Int} (h : v = v') (h1 : x = x') (h2 : y = y') : Ending.returned (.tuple #[.string v, .int .i64 x, .int .i64 y]) = .returned (.tuple #[.string v', .int .i64 x', .int .i64 y']) := by rw [h, h1, h2]
set_option maxRecDepth 100000 in
set_option maxHeartbeats 1000000 in
theorem fRead_any (s : ByteArray) (a : Int) (w : World) (hs : s.size ≤ 281474976710656) (h1 : -9223372036854775808 ≤ a) (h2 : a ≤ 9223372036854775807) :
    Calls Tryz.prog 63 #[.string s, .int .i64 a] w fun e w' => e = .returned (.tuple #[.string (frAt s a).1, .int .i64 (frAt s a).2.1, .int .i64 ((frAt s a).2.2 : Int)]) ∧ Below w.heap.size w w' := by
  by_cases hout : a < 0 ∨ (s.size : Int) < a
  · rw [frAt_out hout]
    by_cases h0 : a < 0
    · clear hout
      go_enter Tryz.func63, Tryz.ntmps63
      go_wp2_with fail
      go_ret3
      exact ⟨rfl, Below.refl _ _⟩
    · have h3 : (s.size : Int) < a := by omega
      clear hout
      go_enter Tryz.func63, Tryz.ntmps63
      go_wp2_with fail
      go_ret3
      exact ⟨rfl, Below.refl _ _⟩
  · obtain ⟨k, rfl⟩ : ∃ k : Nat, a = (k : Int) := ⟨a.toNat, by omega⟩
    have hk : k ≤ s.size := by omega
    have hk' : (k : Int) ≤ s.size := by omega
    have hXs : (s.extract k s.size).size = s.size - k := by simp
    have cn := fun W => new_any (s.extract k s.size) W
    have ct := fun W (h : Rat W w.heap.size (s.extract k s.size)) => text_any w.heap.size (s.extract k s.size) W h (by unfold maxLen; omega)
    have hR0 := rat_new w (s.extract k s.size)
    clear hout
    rcases fr_e (s.extract k s.size) with ⟨e, h0, h1, h2, h3⟩ | ⟨t, n, h, hn, ht, hlt, h3⟩ | ⟨t, n, h, hn, ht, hne, h3⟩ | ⟨t, n, h, hn, ht, heq, h3⟩
    · obtain ⟨t, n, e', h⟩ := trip (rdT (s.extract k s.size))
      rw [h] at ct h2
      have h2' : e' = e := h2
      subst h2'
      rw [frAt_bad hk h3 h0]
      have hne : ((e' : Int) == 0) = false := by simp; omega
      have hne' : (!((e' : Int) == 0)) = true := by simp; omega
      clear h h3 h2 h0
      go_enter Tryz.func63, Tryz.ntmps63
      go_wp2_with (go_at_call 96; refine (cn _).mono ?_; rintro e w1 ⟨rfl, rfl⟩)
      go_at_call 97
      refine (ct _ hR0).mono ?_
      rintro e w2 ⟨rfl, hR, hg⟩
      have hb := below_at ((Below.refl w.heap.size w).alloc (Nat.le_refl _) _) hg (Nat.le_refl _)
      go_wp2_with fail
      go_ret3
      exact ⟨rfl, hb⟩
    · rw [frAt_bad hk h3 (by omega)]
      rw [h] at ct
      have hL : ((s.extract k s.size).extract n (s.extract k s.size).size).size = (s.extract k s.size).size - n := by simp
      have cl := fun W b h => left_any b ((s.extract k s.size).extract n (s.extract k s.size).size) W h (by unfold maxLen; omega)
      rw [hL] at cl
      have hlt' : (((s.extract k s.size).size - n : Nat) : Int) < 4 := by omega
      obtain ⟨L, hL2⟩ : ∃ L, L = (s.extract k s.size).size - n := ⟨_, rfl⟩
      rw [← hL2] at cl hlt'
      clear h h3 hL hL2
      go_enter Tryz.func63, Tryz.ntmps63
      go_wp2_with (go_at_call 96; refine (cn _).mono ?_; rintro e w1 ⟨rfl, rfl⟩)
      go_at_call 97
      refine (ct _ hR0).mono ?_
      rintro e w2 ⟨rfl, hR, hg⟩
      have hb := below_at ((Below.refl w.heap.size w).alloc (Nat.le_refl _) _) hg (Nat.le_refl _)
      go_wp2_with (go_at_call 98; refine (cl _ _ hR).mono ?_; rintro e w3 ⟨rfl, rfl⟩)
      go_ret3
      exact ⟨rfl, hb⟩
    · rw [frAt_bad hk h3 (by omega)]
      have hne2 : (s.extract k s.size).extract n (n + 4) ≠ sum4 t.data.toList := fun h4 => hne ((pk_iff h).2 h4)
      rw [within s k n (by omega)] at hne2
      rw [h] at ct
      have hL : ((s.extract k s.size).extract n (s.extract k s.size).size).size = (s.extract k s.size).size - n := by simp
      have cl := fun W b h => left_any b ((s.extract k s.size).extract n (s.extract k s.size).size) W h (by unfold maxLen; omega)
      rw [hL] at cl
      obtain ⟨L, hL2⟩ : ∃ L, L = (s.extract k s.size).size - n := ⟨_, rfl⟩
      rw [← hL2] at cl
      have hL3 : 4 ≤ (L : Int) := by omega
      have hL4 : (s.size : Int) - (L : Int) = ((k + n : Nat) : Int) := by omega
      have hw : IntKind.i64.wrap (((k + n : Nat) : Int)) = ((k + n : Nat) : Int) := IntWalk.i64_in _ (by omega)
      have hw2 : IntKind.i64.wrap (((k + n : Nat) : Int) + 4) = ((k + n : Nat) : Int) + 4 := IntWalk.i64_in _ (by omega)
      have hx := bytes_ne hne2
      have csu := fun W => sumOf_any t W (by unfold maxLen; omega)
      obtain ⟨Q, hQ⟩ : ∃ Q, Q = sum4 t.data.toList := ⟨_, rfl⟩
      rw [← hQ] at hx csu
      have hle : ((k + n : Nat) : Int) + 4 ≤ s.size := by omega
      clear h h3 hL hL2 hne hne2 hQ
      go_enter Tryz.func63, Tryz.ntmps63
      go_wp2_with (go_at_call 96; refine (cn _).mono ?_; rintro e w1 ⟨rfl, rfl⟩)
      go_at_call 97
      refine (ct _ hR0).mono ?_
      rintro e w2 ⟨rfl, hR, hg⟩
      have hb := below_at ((Below.refl w.heap.size w).alloc (Nat.le_refl _) _) hg (Nat.le_refl _)
      go_wp2_with (go_at_call 98; refine (cl _ _ hR).mono ?_; rintro e w3 ⟨rfl, rfl⟩)
      go_region_with ((go_at_call 71; refine (csu _).mono ?_; rintro e w1 ⟨rfl, hb1⟩))
      all_goals
        go_wp2_with fail
        go_ret3
        exact ⟨rfl, below_call hb.drew hb1⟩
    · rw [frAt_ok hk h3]
      have hne2 : (s.extract k s.size).extract n (n + 4) = sum4 t.data.toList := (pk_iff h).1 heq
      rw [within s k n (by omega)] at hne2
      rw [h] at ct
      have hL : ((s.extract k s.size).extract n (s.extract k s.size).size).size = (s.extract k s.size).size - n := by simp
      have cl := fun W b h => left_any b ((s.extract k s.size).extract n (s.extract k s.size).size) W h (by unfold maxLen; omega)
      rw [hL] at cl
      obtain ⟨L, hL2⟩ : ∃ L, L = (s.extract k s.size).size - n := ⟨_, rfl⟩
      rw [← hL2] at cl
      have hL3 : 4 ≤ (L : Int) := by omega
      have hL4 : (s.size : Int) - (L : Int) = ((k + n : Nat) : Int) := by omega
      have hw : IntKind.i64.wrap (((k + n : Nat) : Int)) = ((k + n : Nat) : Int) := IntWalk.i64_in _ (by omega)
      have hw2 : IntKind.i64.wrap (((k + n : Nat) : Int) + 4) = ((k + n : Nat) : Int) + 4 := IntWalk.i64_in _ (by omega)
      have hx : ((s.extract (k + n) (k + n + 4)).toList == (sum4 t.data.toList).toList) = true := by rw [hne2]; exact beq_self_eq_true _
      have csu := fun W => sumOf_any t W (by unfold maxLen; omega)
      obtain ⟨Q, hQ⟩ : ∃ Q, Q = sum4 t.data.toList := ⟨_, rfl⟩
      rw [← hQ] at hx csu
      have hle : ((k + n : Nat) : Int) + 4 ≤ s.size := by omega
      clear h h3 hL hL2 heq hne2 hQ
      go_enter Tryz.func63, Tryz.ntmps63
      go_wp2_with (go_at_call 96; refine (cn _).mono ?_; rintro e w1 ⟨rfl, rfl⟩)
      go_at_call 97
      refine (ct _ hR0).mono ?_
      rintro e w2 ⟨rfl, hR, hg⟩
      have hb := below_at ((Below.refl w.heap.size w).alloc (Nat.le_refl _) _) hg (Nat.le_refl _)
      go_wp2_with (go_at_call 98; refine (cl _ _ hR).mono ?_; rintro e w3 ⟨rfl, rfl⟩)
      go_region_with ((go_at_call 71; refine (csu _).mono ?_; rintro e w1 ⟨rfl, hb1⟩))
      all_goals
        go_wp2_with fail
        go_ret3
        exact ⟨ret3s rfl (by omega) rfl, below_call hb.drew hb1⟩
end Go.Proofs.YtdkgkomjbpggeaaGreatDoor.Fr

namespace Go.Proofs.YtdkgkomjbpggeaaGreatDoor.Fr
open Go.RowKit Wm Wr Fm
set_option linter.unusedVariables false
end Go.Proofs.YtdkgkomjbpggeaaGreatDoor.Fr

namespace Go.Proofs.YtdkgkomjbpggeaaGreatDoor.Fr
open Go.RowKit Wm Wr Fm
set_option linter.unusedVariables false
def flip (c i : Nat) : Nat := c ^^^ 2 ^ i
def trn (s : ByteArray) (B : Nat) : ByteArray := s.extract 0 (B / 8) ++ b1 (UInt8.ofNat (flip (s.data.toList.getD (B / 8) 0).toNat (B % 8))) ++ s.extract (B / 8 + 1) s.size
def tn (s : ByteArray) (bit : Int) : ByteArray := if s.size = 0 then ⟨#[]⟩ else trn s (bit % (8 * s.size : Nat)).toNat
theorem rem_pos {b : Int} {n : Nat} (h : 0 ≤ b) : b.tmod (n : Int) = b % (n : Int) := Int.tmod_eq_emod_of_nonneg h
theorem rem_neg {b : Int} {n : Nat} (hn : 0 < n) (h : b < 0) : (b.tmod (n : Int) = 0 ∧ b % (n : Int) = 0) ∨ (b.tmod (n : Int) < 0 ∧ b.tmod (n : Int) + n = b % (n : Int)) := by
  have e : b.tmod (n : Int) = -((-b) % (n : Int)) := by
    have h1 : (-b).tmod (n : Int) = (-b) % (n : Int) := Int.tmod_eq_emod_of_nonneg (by omega)
    rw [Int.neg_tmod] at h1
    omega
  rw [e]
  have h1 := Int.emod_nonneg (-b) (show (n : Int) ≠ 0 by omega)
  have h2 := Int.emod_lt_of_pos (-b) (show 0 < (n : Int) by omega)
  by_cases h0 : (-b) % (n : Int) = 0
  · left
    rw [h0]
    refine ⟨rfl, ?_⟩
    have : (n : Int) ∣ b := (Int.dvd_neg).1 (Int.dvd_of_emod_eq_zero h0)
    exact Int.emod_eq_zero_of_dvd this
  · right
    refine ⟨by omega, ?_⟩
    have h3 := Int.mul_ediv_add_emod (-b) (n : Int)
    obtain ⟨q, hq⟩ : ∃ q, q = -b / (n : Int) := ⟨_, rfl⟩
    obtain ⟨m, hm⟩ : ∃ m, m = -b % (n : Int) := ⟨_, rfl⟩
    rw [← hq, ← hm] at h3
    rw [← hm] at h1 h2 h0 ⊢
    have hx : (n : Int) * (-q - 1) = -((n : Int) * q) - n := by rw [Int.mul_sub, Int.mul_neg, Int.mul_one]
    have e2 : b = (n - m) + n * (-q - 1) := by omega
    have e3 : b % (n : Int) = n - m := by
      rw [e2, Int.add_mul_emod_self_left]
      exact Int.emod_eq_of_lt (by omega) (by omega)
    omega
theorem pow_small : ∀ i, i < 8 → 1 ≤ 2 ^ i ∧ 2 ^ i ≤ 128 := by decide
theorem b1_list (b : UInt8) : (b1 b).data.toList = [b] := rfl
theorem trn_list (s : ByteArray) (B : Nat) (h : B / 8 < s.size) : (trn s B).data.toList = s.data.toList.set (B / 8) (UInt8.ofNat (flip (s.data.toList.getD (B / 8) 0).toNat (B % 8))) := by
  have hl : B / 8 < s.data.toList.length := by rw [len_l]; exact h
  rw [trn, ByteArray.data_append, ByteArray.data_append, Array.toList_append, Array.toList_append, b1_list, ByteArray.data_extract, ByteArray.data_extract, Array.toList_extract, Array.toList_extract]
  rw [List.set_eq_take_append_cons_drop, if_pos hl]
  simp only [List.extract_eq_take_drop, List.drop_zero, Nat.sub_zero, List.append_assoc, List.singleton_append]
  congr 2
  exact List.take_of_length_le (by rw [List.length_drop, len_l]; exact Nat.le_refl _)
end Go.Proofs.YtdkgkomjbpggeaaGreatDoor.Fr
