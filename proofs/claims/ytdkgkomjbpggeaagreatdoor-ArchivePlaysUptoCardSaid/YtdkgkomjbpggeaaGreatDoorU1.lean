/- Texts of this seat, one behind the other. -/
import Derived.Test.YtdkgkomjbpggeaaGreatDoorRows
import Derived.WalkKit
import Derived.WalkLawsBesides
import Derived.WalkSpells
import Derived.LoopTactic
import Derived.Lib.Hide
import Derived.Deep.AppendLies
import Derived.Deep.QuietTactic
import Derived.BigQuiet
import Derived.Laws.Rows
import Derived.Laws.NewBlocks
import Derived.WalkSmall
import Derived.Laws.StructEq
import Derived.Laws.AppendOwnNone
import Derived.Deep.RegionLaw
import Derived.Laws.OwnMore
import Derived.Deep.CutBlock
import Derived.Deep.CutRange
import Derived.Deep.Cut
import Derived.Maps.AppendAt
import Derived.Test.YtdkgkomjbpggeaaGreatDoorProg
import Derived.Deep.RegionHeld3
import Derived.Laws.AppendOwn
import Derived.ProofKit
import Derived.OpenShut
import Derived.ShutString
import Derived.Deep.Slices
import Derived.Deep.Fields
import Derived.ChangeSame
namespace Go.Proofs.YtdkgkomjbpggeaaGreatDoor.Tx
open Go.RowKit
set_option linter.unusedVariables false
theorem info9 : (Tryz.prog.info? 9).map (fun i => (i.zero, i.size, i.bytes)) = some (some (.string ⟨#[]⟩), 1, 16) := by kernel_rfl
theorem below_call {w w1 w2 : World} (h : Below w.heap.size w w1) (h2 : Below w1.heap.size w1 w2) : Below w.heap.size w w2 := h.trans (h2.mono h.size)
theorem below_step {w wr w1 : World} {e : TypeId} {size n : Nat} {v : Value} {xs : List Value} {o : Obj} (hb : Below w.heap.size w wr) (hown : wr.ownsRow w.heap.size e size v n xs) (hg : (wr.alloc o).grownBy w1 v.ownBlock) : Below w.heap.size w w1 :=
  (hb.alloc hb.size o).grown hg (by have := hb.size; simp; omega) (fun k hk => (hown.lt k hk).1)
theorem len_l (s : ByteArray) : s.data.toList.length = s.size := by rw [Array.length_toList]; rfl
theorem gd (s : ByteArray) (k : Nat) (h : k < s.size) : s.data.toList.getD k 0 = s[k] := by
  have h' : k < s.data.size := h
  rw [List.getD_eq_getElem?_getD, Array.getElem?_toList, Array.getElem?_eq_getElem h']
  rfl
theorem mk_len (l : List UInt8) : (⟨l.toArray⟩ : ByteArray).size = l.length := by rw [ByteArray.size, List.size_toArray]
def tb (l : List UInt8) : ByteArray := ⟨l.toArray⟩
theorem tb_list (l : List UInt8) : (tb l).data.toList = l := rfl
theorem tb_of (s : ByteArray) : tb s.data.toList = s := by
  apply ByteArray.ext
  rfl
theorem tb_size (l : List UInt8) : (tb l).size = l.length := mk_len l
theorem bytes_ne {a b : ByteArray} (h : a ≠ b) : (a.toList == b.toList) = false := by
  rw [ByteArray.toList_eq, ByteArray.toList_eq]
  apply Bool.eq_false_iff.2
  intro hc
  exact h (ByteArray.ext (Array.toList_inj.1 (eq_of_beq hc)))
def sv (s : ByteArray) : Value := .string s
theorem sv_one (l : List ByteArray) : ∀ u ∈ l.map sv, u.oneCell' = true := by
  intro u hu
  obtain ⟨s, _, rfl⟩ := List.mem_map.1 hu
  rfl
def Texts (w : World) (B : Nat) (v : Value) (l : List ByteArray) : Prop := w.ownsRow B 9 1 v l.length (l.map sv)
theorem Texts.below {w w1 : World} {B : Nat} {v : Value} {l : List ByteArray} (h : Texts w B v l) (hb : Below w.heap.size w w1) : Texts w1 B v l := by
  refine ⟨h.1, ?_⟩
  rcases h.2 with h0 | ⟨g', cap', cur, hv, hg, hh, r⟩
  · exact .inl h0
  · exact .inr ⟨g', cap', cur, hv, hg, (hb.block g' (Array.getElem?_eq_some_iff.1 hh).1).trans hh, r⟩
def Strs (w : World) (a : Option Addr) (n : Nat) (l : List ByteArray) : Prop := l.length = n ∧ (n = 0 ∨ ∃ b off, a = some ⟨b, off, none⟩ ∧ b < w.heap.size ∧ ∀ k x, l[k]? = some x → w.cell? ⟨b, off + k, none⟩ = some (.string x))
theorem Strs.below {w w1 : World} {a : Option Addr} {n : Nat} {l : List ByteArray} (h : Strs w a n l) (hb : Below w.heap.size w w1) : Strs w1 a n l := by
  refine ⟨h.1, ?_⟩
  rcases h.2 with h0 | ⟨b, off, ha, hlt, hc⟩
  · exact .inl h0
  · exact .inr ⟨b, off, ha, Nat.lt_of_lt_of_le hlt hb.size, fun k x hx => (hb.cell (p := ⟨b, off + k, none⟩) hlt).trans (hc k x hx)⟩
theorem Texts.form {w : World} {B : Nat} {v : Value} {l : List ByteArray} (h : Texts w B v l) : ∃ a c, v = .slice a l.length c ∧ Strs w a l.length l ∧ l.length ≤ c ∧ c ≤ maxLen := by
  have hh := h
  rcases h.2 with ⟨rfl, h0⟩ | ⟨g, cap, cur, rfl, hg, hh2, hn, hc, _⟩
  · exact ⟨none, 0, by rw [h0], ⟨rfl, .inl h0⟩, by omega, Nat.zero_le _⟩
  · refine ⟨some ⟨g, 0, none⟩, cap, rfl, ⟨rfl, .inr ⟨g, 0, rfl, (Array.getElem?_eq_some_iff.1 hh2).1, fun k x hx => ?_⟩⟩, hn, hc⟩
    have := hh.cells (g := g) rfl k (sv x) (by rw [List.getElem?_map, hx]; rfl)
    rw [← WideShapes.add_plain]
    exact this
end Go.Proofs.YtdkgkomjbpggeaaGreatDoor.Tx

namespace Go.Proofs.YtdkgkomjbpggeaaGreatDoor.En
open Go.RowKit Tx
set_option linter.unusedVariables false
structure Nd where
  kind : Int
  data : ByteArray
structure Et where
  path : ByteArray
  node : Nd
def nv (n : Nd) : Value := .agg #[.int .i64 n.kind, .string n.data]
def cells (x : Et) : List Value := [.string x.path, .int .i64 x.node.kind, .string x.node.data]
def ev (x : Et) : Value := .agg #[.string x.path, .int .i64 x.node.kind, .string x.node.data]
def isInt (k : Int) : Prop := -9223372036854775808 ≤ k ∧ k ≤ 9223372036854775807
def Ents (w : World) (a : Option Addr) (n : Nat) (l : List Et) : Prop := l.length = n ∧ (n = 0 ∨ ∃ b off, a = some ⟨b, off, none⟩ ∧ b < w.heap.size ∧ ∀ k x, l[k]? = some x → w.cell? ⟨b, off + k * 3, none⟩ = some (.string x.path) ∧ w.cell? ⟨b, off + k * 3 + 1, none⟩ = some (.int .i64 x.node.kind) ∧ w.cell? ⟨b, off + k * 3 + 1 + 1, none⟩ = some (.string x.node.data))
theorem Ents.below {w w1 : World} {a : Option Addr} {n : Nat} {l : List Et} (h : Ents w a n l) (hb : Below w.heap.size w w1) : Ents w1 a n l := by
  refine ⟨h.1, ?_⟩
  rcases h.2 with h0 | ⟨b, off, ha, hlt, hc⟩
  · exact .inl h0
  · exact .inr ⟨b, off, ha, Nat.lt_of_lt_of_le hlt hb.size, fun k x hx => ⟨(hb.cell (p := ⟨b, _, none⟩) hlt).trans (hc k x hx).1, (hb.cell (p := ⟨b, _, none⟩) hlt).trans (hc k x hx).2.1, (hb.cell (p := ⟨b, _, none⟩) hlt).trans (hc k x hx).2.2⟩⟩
theorem sz_zero (d : ByteArray) : ((d.size : Int) == 0) = decide (d.size = 0) := by
  by_cases h : d.size = 0
  · rw [decide_eq_true h, h]; rfl
  · rw [decide_eq_false h]
    exact beq_eq_false_iff_ne.2 (by omega)
def whole (n : Nd) : Bool := if n.kind = 2 then decide (n.data.size ≤ 4096) else (decide (n.kind = 0) || decide (n.kind = 1)) && decide (n.data.size = 0)
set_option maxRecDepth 100000 in
set_option maxHeartbeats 1000000 in
theorem refWhole_any (n : Nd) (w : World) (hs : n.data.size ≤ 9223372036854775807) :
    Calls Tryz.prog 56 #[nv n] w fun e w' => e = .returned (.bool (whole n)) ∧ Below w.heap.size w w' := by
  obtain ⟨k, d⟩ := n
  by_cases h2 : k = 2
  · have hw : whole ⟨k, d⟩ = decide (d.size ≤ 4096) := by unfold whole; rw [if_pos h2]
    have e2 : ((k : Int) == 2) = true := by simp [h2]
    rw [hw]
    unfold nv
    clear h2 hw
    go_enter Tryz.func56, Tryz.ntmps56
    go_wp2
    go_ret
    exact ⟨congrArg (fun b => Ending.returned (Value.bool b)) (decide_eq_decide.2 (by omega)), (Below.refl _ _).alloc (Nat.le_refl _) _⟩
  · have hw : whole ⟨k, d⟩ = ((decide (k = 0) || decide (k = 1)) && decide (d.size = 0)) := by unfold whole; rw [if_neg h2]
    have e2 : ((k : Int) == 2) = false := beq_eq_false_iff_ne.2 h2
    rw [hw]
    unfold nv
    clear hw
    by_cases h0 : k = 0
    · subst h0
      clear h2
      rw [show (decide ((0 : Int) = 0) || decide ((0 : Int) = 1)) = true from rfl, Bool.true_and, ← sz_zero d]
      go_enter Tryz.func56, Tryz.ntmps56
      go_wp2
      go_ret
      exact ⟨rfl, (Below.refl _ _).alloc (Nat.le_refl _) _⟩
    · have e0 : ((k : Int) == 0) = false := beq_eq_false_iff_ne.2 h0
      by_cases h1 : k = 1
      · subst h1
        clear h2 h0
        rw [show (decide ((1 : Int) = 0) || decide ((1 : Int) = 1)) = true from rfl, Bool.true_and, ← sz_zero d]
        go_enter Tryz.func56, Tryz.ntmps56
        go_wp2
        go_ret
        exact ⟨rfl, (Below.refl _ _).alloc (Nat.le_refl _) _⟩
      · have e1 : ((k : Int) == 1) = false := beq_eq_false_iff_ne.2 h1
        rw [decide_eq_false h0, decide_eq_false h1, Bool.or_false, Bool.false_and]
        clear h2 h0 h1
        go_enter Tryz.func56, Tryz.ntmps56
        go_wp2
        go_ret
        exact ⟨rfl, (Below.refl _ _).alloc (Nat.le_refl _) _⟩
theorem infoN : (Tryz.prog.info? 71).map (·.size) = some 2 := by kernel_rfl
def tget (l : List Et) (p : ByteArray) : Nd := match l.find? (fun x => decide (x.path = p)) with
  | some x => x.node
  | none => ⟨0, ⟨#[]⟩⟩
theorem tget_hit (l : List Et) (p : ByteArray) (k : Nat) (x : Et) (h : l[k]? = some x) (hp : x.path = p) (hn : ∀ y ∈ l.take k, y.path ≠ p) : tget l p = x.node := by
  induction l generalizing k with
  | nil => cases h
  | cons y l ih =>
    cases k with
    | zero =>
      injection h with h
      subst h
      rw [tget, List.find?_cons_of_pos (by exact decide_eq_true hp)]
    | succ k =>
      have hy : y.path ≠ p := hn y (by simp)
      have := ih k h (fun z hz => hn z (by rw [List.take_succ_cons]; exact List.mem_cons_of_mem _ hz))
      rw [tget] at this ⊢
      rw [List.find?_cons_of_neg (by simp [hy])]
      exact this
theorem tget_none (l : List Et) (p : ByteArray) (hn : ∀ y ∈ l, y.path ≠ p) : tget l p = ⟨0, ⟨#[]⟩⟩ := by
  rw [tget, List.find?_eq_none.2 (fun y hy => by simp [hn y hy])]
set_option maxRecDepth 100000 in
set_option maxHeartbeats 1000000 in
theorem refGet_any (a : Option Addr) (n c : Nat) (l : List Et) (p : ByteArray) (w : World) (hl : Ents w a n l) (hn : n ≤ 9223372036854775806) :
    Calls Tryz.prog 58 #[.slice a n c, .string p] w fun e w' => e = .returned (nv (tget l p)) ∧ Below w.heap.size w w' := by
  obtain ⟨hln, hc⟩ := hl
  by_cases h0 : n = 0
  · subst h0
    obtain rfl : l = [] := List.length_eq_zero_iff.1 hln
    clear hc
    go_enter Tryz.func58, Tryz.ntmps58
    go_wp2
    go_loop [5] (fun i => i = .int .i64 0) (fun _ => 0)
    case atStart => exact rfl
    case round =>
      obtain rfl := hrel
      go_wp2
      refine bodyPost_ret (results_cell_row rfl _ _ _ _ _ _ _ rfl (heap_alloc_new _ _) Tryz.underlying71 rfl infoN) rfl ?_
      exact ⟨rfl, (Below.refl _ _).alloc (Nat.le_refl _) _⟩
  · obtain ⟨b, off, rfl, hb, hc⟩ := hc.resolve_left h0
    have HC := Lib.hid hc
    have hB : ∀ o, Below w.heap.size w (w.alloc o) := fun o => (Below.refl _ _).alloc (Nat.le_refl _) _
    clear hc h0
    go_enter Tryz.func58, Tryz.ntmps58
    go_wp2
    go_loop [5] (fun i => ∃ k : Nat, k ≤ n ∧ i = .int .i64 k ∧ Hid (∀ y ∈ l.take k, y.path ≠ p)) (fun i => n - (intOf i).toNat)
    case atStart => exact ⟨0, Nat.zero_le _, rfl, fun y hy => by simp at hy⟩
    case round =>
      obtain ⟨k, hk, rfl, hT⟩ := hrel
      by_cases hlt : k < n
      · obtain ⟨x, hx⟩ : ∃ x, l[k]? = some x := ⟨_, List.getElem?_eq_getElem (by omega)⟩
        obtain ⟨c1, c2, c3⟩ := HC.out k x hx
        have d1 := ((hB (.cells #[.int .i64 0, .string ⟨#[]⟩] 71)).cell (p := ⟨b, _, none⟩) hb).trans c1
        have d2 := ((hB (.cells #[.int .i64 0, .string ⟨#[]⟩] 71)).cell (p := ⟨b, _, none⟩) hb).trans c2
        have d3 := ((hB (.cells #[.int .i64 0, .string ⟨#[]⟩] 71)).cell (p := ⟨b, _, none⟩) hb).trans c3
        have hhit := tget_hit l p k x hx
        have hmiss : x.path ≠ p → ∀ y ∈ l.take (k + 1), y.path ≠ p := by
          intro hne y hy
          have hk2 : k < l.length := by omega
          rw [List.take_succ_eq_append_getElem hk2] at hy
          rcases List.mem_append.1 hy with hy | hy
          · exact hT.out y hy
          · rw [List.getElem?_eq_getElem hk2] at hx
            injection hx with hx
            rw [List.mem_singleton.1 hy, hx]
            exact hne
        obtain ⟨P, N⟩ := x
        obtain ⟨K, D⟩ := N
        simp only at c1 c2 c3 d1 d2 d3 hhit hmiss
        by_cases hp : P = p
        · have HR := Lib.hid (hhit hp hT.out)
          have e : (P.toList == p.toList) = true := by rw [hp]; exact beq_self_eq_true _
          clear hhit hmiss hT c1 c2 c3 hx hp hln
          go_wp2
          refine bodyPost_ret (results_cell_row rfl _ _ _ _ _ _ _ rfl (heap_alloc_new _ _) Tryz.underlying71 rfl infoN) rfl ?_
          exact ⟨by rw [HR.out]; rfl, (Below.refl _ _).alloc (Nat.le_refl _) _⟩
        · have HM := Lib.hid (hmiss hp)
          have e := bytes_ne hp
          clear hhit hmiss hT c1 c2 c3 hx hp hln
          go_wp2
          go_round
          case rel => exact ⟨k + 1, by omega, by go_num, HM⟩
          case measure => simp [intOf]; omega
      · obtain rfl : k = n := by omega
        have h := hT.out
        rw [List.take_of_length_le (by omega)] at h
        have HR := Lib.hid (tget_none l p h)
        clear hT hln h
        go_wp2
        refine bodyPost_ret (results_cell_row rfl _ _ _ _ _ _ _ rfl (heap_alloc_new _ _) Tryz.underlying71 rfl infoN) rfl ?_
        exact ⟨by rw [HR.out]; rfl, (Below.refl _ _).alloc (Nat.le_refl _) _⟩
end Go.Proofs.YtdkgkomjbpggeaaGreatDoor.En

namespace Go.Proofs.YtdkgkomjbpggeaaGreatDoor.En
open Go.RowKit Tx
set_option linter.unusedVariables false
theorem guardE : Tryz.prog.eqGuardType Tryz.prog.depth 73 = false := by kernel_rfl
theorem guardN : Tryz.prog.eqGuardType Tryz.prog.depth 71 = false := by kernel_rfl
theorem to_list {a b : ByteArray} : a.toList = b.toList ↔ a = b := by
  rw [ByteArray.toList_eq, ByteArray.toList_eq]
  exact ⟨fun h => ByteArray.ext (Array.toList_inj.1 h), fun h => by rw [h]⟩
theorem at_next {la lb : List Et} {k : Nat} {x : Et} (hx : la[k]? = some x) (hy : lb[k]? = some x) (h : la.take k = lb.take k) : la.take (k + 1) = lb.take (k + 1) := by
  obtain ⟨ha, ea⟩ := List.getElem?_eq_some_iff.1 hx
  obtain ⟨hb, eb⟩ := List.getElem?_eq_some_iff.1 hy
  rw [List.take_succ_eq_append_getElem ha, List.take_succ_eq_append_getElem hb, h, ea, eb]
theorem not_same {la lb : List Et} {k : Nat} {x y : Et} (hx : la[k]? = some x) (hy : lb[k]? = some y) (h : x ≠ y) : la ≠ lb := by
  rintro rfl
  rw [hx] at hy
  injection hy with hy
  exact h hy
def SameTo (la lb : List Et) (w : World) (e : Ending) (w' : World) : Prop := ∃ B, (B = true ↔ la = lb) ∧ e = .returned (.bool B) ∧ Below w.heap.size w w'
set_option maxRecDepth 100000 in
set_option maxHeartbeats 1000000 in
theorem refSame_any (a b : Option Addr) (n m ca cb : Nat) (la lb : List Et) (w : World) (ha : Ents w a n la) (hb : Ents w b m lb) (hn : n ≤ 9223372036854775806) (hm : m ≤ 9223372036854775806) :
    Calls Tryz.prog 23 #[.slice a n ca, .slice b m cb] w (SameTo la lb w) := by
  obtain ⟨hla, hca⟩ := ha
  obtain ⟨hlb, hcb⟩ := hb
  by_cases hnm : n = m
  · subst hnm
    have e0 : ((n : Int) == n) = true := beq_self_eq_true _
    by_cases h0 : n = 0
    · subst h0
      obtain rfl : la = [] := List.length_eq_zero_iff.1 hla
      obtain rfl : lb = [] := List.length_eq_zero_iff.1 hlb
      clear hca hcb
      go_enter Tryz.func23, Tryz.ntmps23
      go_wp2
      go_loop [5] (fun i => i = .int .i64 0) (fun _ => 0)
      case atStart => exact rfl
      case round =>
        obtain rfl := hrel
        go_wp2
        go_ret
        exact ⟨true, Iff.intro (fun _ => rfl) (fun _ => rfl), rfl, Below.refl _ _⟩
    · obtain ⟨ba, oa, rfl, hba, hca⟩ := hca.resolve_left h0
      obtain ⟨bb, ob, rfl, hbb, hcb⟩ := hcb.resolve_left h0
      have HA := Lib.hid hca
      have HB := Lib.hid hcb
      clear hca hcb h0
      go_enter Tryz.func23, Tryz.ntmps23
      go_wp2_with fail
      go_loopw [5] (fun i wr => ∃ k : Nat, k ≤ n ∧ i = .int .i64 k ∧ Hid (la.take k = lb.take k) ∧ Below w.heap.size w wr) (fun i _ => n - (intOf i).toNat)
      case atStart => exact ⟨0, Nat.zero_le _, rfl, rfl, Below.refl _ _⟩
      case round =>
        obtain ⟨k, hk, rfl, hT, hW⟩ := hrel
        by_cases hlt : k < n
        · obtain ⟨x, hx⟩ : ∃ x, la[k]? = some x := ⟨_, List.getElem?_eq_getElem (by omega)⟩
          obtain ⟨y, hy⟩ : ∃ y, lb[k]? = some y := ⟨_, List.getElem?_eq_getElem (by omega)⟩
          obtain ⟨c1, c2, c3⟩ := HA.out k x hx
          obtain ⟨d1, d2, d3⟩ := HB.out k y hy
          have f1 := (hW.cell (p := ⟨ba, _, none⟩) hba).trans c1
          have f2 := (hW.cell (p := ⟨ba, _, none⟩) hba).trans c2
          have f3 := (hW.cell (p := ⟨ba, _, none⟩) hba).trans c3
          have g1 := (hW.cell (p := ⟨bb, _, none⟩) hbb).trans d1
          have g2 := (hW.cell (p := ⟨bb, _, none⟩) hbb).trans d2
          have g3 := (hW.cell (p := ⟨bb, _, none⟩) hbb).trans d3
          have hlt1 : (k : Int) < (n : Int) := by omega
          have hgE := guardE
          clear c1 c2 c3 d1 d2 d3
          obtain ⟨P, K, D⟩ := x
          obtain ⟨P', K', D'⟩ := y
          simp only at f1 f2 f3 g1 g2 g3
          by_cases e1 : P.toList = P'.toList
          · by_cases e2 : K = K'
            · by_cases e3 : D.toList = D'.toList
              · obtain rfl := to_list.1 e1
                obtain rfl := to_list.1 e3
                subst e2
                have HN := Lib.hid (at_next hx hy hT.out)
                clear hx hy hT hla hlb e1 e3
                go_wp2_with fail
                go_quiet (fail)
                go_wp2_with fail
                go_roundw
                case rel => exact ⟨k + 1, by omega, by go_num, HN, below_drewN hW _⟩
                case measure => simp [intOf]; omega
              · have HE := Lib.hid (not_same hx hy (fun h => by injection h with h1 h2; injection h2 with h2 h3; exact e3 (to_list.2 h3)))
                clear hx hy hT hla hlb
                go_wp2_with fail
                go_quiet (fail)
                go_wp2_with fail
                go_ret
                exact ⟨false, Iff.intro (fun h => by cases h) (fun h => absurd h HE.out), rfl, below_drewN hW _⟩
            · have HE := Lib.hid (not_same hx hy (fun h => by injection h with h1 h2; injection h2 with h2 h3; exact e2 h2))
              clear hx hy hT hla hlb
              go_wp2_with fail
              go_quiet (fail)
              go_wp2_with fail
              go_ret
              exact ⟨false, Iff.intro (fun h => by cases h) (fun h => absurd h HE.out), rfl, below_drewN hW _⟩
          · have HE := Lib.hid (not_same hx hy (fun h => by injection h with h1 h2; exact e1 (to_list.2 h1)))
            clear hx hy hT hla hlb
            go_wp2_with fail
            go_quiet (fail)
            go_wp2_with fail
            go_ret
            exact ⟨false, Iff.intro (fun h => by cases h) (fun h => absurd h HE.out), rfl, below_drewN hW _⟩
        · obtain rfl : k = n := by omega
          have h := hT.out
          rw [List.take_of_length_le (by omega), List.take_of_length_le (by omega)] at h
          have HE := Lib.hid h
          clear hT h hla hlb
          go_wp2_with fail
          go_ret
          exact ⟨true, Iff.intro (fun _ => HE.out) (fun _ => rfl), rfl, hW⟩
  · have e0 : ((n : Int) == m) = false := beq_eq_false_iff_ne.2 (by omega)
    have HE : Hid (la ≠ lb) := fun h => hnm (by rw [← hla, ← hlb, h])
    clear hnm hca hcb hla hlb
    go_enter Tryz.func23, Tryz.ntmps23
    go_wp2
    go_ret
    exact ⟨false, Iff.intro (fun h => by cases h) (fun h => absurd h HE.out), rfl, Below.refl _ _⟩
end Go.Proofs.YtdkgkomjbpggeaaGreatDoor.En

namespace Go.Proofs.YtdkgkomjbpggeaaGreatDoor.Pm
set_option linter.unusedVariables false
def spl : List UInt8 → List (List UInt8)
  | [] => [[]]
  | c :: r => if c = 47 then [] :: spl r else
    match spl r with
    | [] => [[c]]
    | x :: xs => (c :: x) :: xs
theorem spl_ne (l : List UInt8) : spl l ≠ [] := by
  cases l with
  | nil => simp [spl]
  | cons c r =>
    rw [spl]
    split
    · simp
    · split <;> simp
def glue (one : List UInt8) : List (List UInt8) → List (List UInt8)
  | [] => [one]
  | x :: xs => (one ++ x) :: xs
theorem glue_nil {l : List (List UInt8)} (h : l ≠ []) : glue [] l = l := by
  cases l with
  | nil => exact absurd rfl h
  | cons x xs => rfl
theorem glue_step (one : List UInt8) (c : UInt8) (r : List UInt8) (h : c ≠ 47) : glue one (spl (c :: r)) = glue (one ++ [c]) (spl r) := by
  rw [spl, if_neg h]
  cases hs : spl r with
  | nil => exact absurd hs (spl_ne r)
  | cons x xs => simp [glue]
theorem glue_cut (one : List UInt8) (r : List UInt8) : glue one (spl (47 :: r)) = one :: spl r := by
  rw [spl, if_pos rfl]
  simp [glue]
theorem spl_len (l : List UInt8) : (spl l).length ≤ l.length + 1 := by
  induction l with
  | nil => simp [spl]
  | cons c r ih =>
    rw [spl]
    split
    · simp; omega
    · split
      · simp
      · rename_i x xs h
        rw [h] at ih
        simp at ih ⊢
        omega
def okC (c : UInt8) : Bool := (97 ≤ c.toNat && c.toNat ≤ 122) || (48 ≤ c.toNat && c.toNat ≤ 57) || c.toNat == 95
def isName (l : List UInt8) : Bool := decide (1 ≤ l.length) && decide (l.length ≤ 12) && l.all okC
def isPath (l : List UInt8) (deep : Int) : Bool := decide (((spl l).length : Int) ≤ deep) && (spl l).all isName
def chk (l : List UInt8) (deep : Int) : Nat := if isPath l deep then 0 else 10
def lastN : List UInt8 → Nat
  | [] => 0
  | c :: r => if lastN r = 0 then (if c = 47 then 1 else 0) else lastN r + 1
theorem lastN_le (l : List UInt8) : lastN l ≤ l.length := by
  induction l with
  | nil => exact Nat.le_refl _
  | cons c r ih =>
    rw [lastN]
    split
    · split <;> simp
    · simp; omega
theorem lastN_snoc (l : List UInt8) (c : UInt8) : lastN (l ++ [c]) = if c = 47 then l.length + 1 else lastN l := by
  induction l with
  | nil => simp [lastN]
  | cons d r ih =>
    rw [List.cons_append, lastN, ih, lastN]
    by_cases h : c = 47
    · simp [h]
    · simp [h]
def par (l : List UInt8) : List UInt8 := l.take (lastN l - 1)
def bas (l : List UInt8) : List UInt8 := l.drop (lastN l)
def joi (a b : List UInt8) : List UInt8 := if a ≠ [] ∧ b ≠ [] then a ++ 47 :: b else a ++ b
def dep (p : List UInt8) : Nat := if p = [] then 0 else (spl p).length
end Go.Proofs.YtdkgkomjbpggeaaGreatDoor.Pm

namespace Go.Proofs.YtdkgkomjbpggeaaGreatDoor.Pr
open Go.RowKit Pm Tx
set_option linter.unusedVariables false
def SplitTo (p : ByteArray) (w : World) (e : Ending) (w' : World) : Prop := ∃ v, e = .returned v ∧ Texts w' w.heap.size v ((spl p.data.toList).map tb) ∧ Below w.heap.size w w'
def At (p : ByteArray) (k : Nat) (out : List ByteArray) (one : ByteArray) : Prop := (spl p.data.toList).map tb = out ++ (glue one.data.toList (spl (p.data.toList.drop k))).map tb ∧ out.length + one.size ≤ k
theorem at_start (p : ByteArray) : At p 0 [] ⟨#[]⟩ := by
  refine ⟨?_, Nat.le_refl _⟩
  rw [List.drop_zero, List.nil_append]
  congr 1
  exact (glue_nil (spl_ne _)).symm
theorem drop_at (p : ByteArray) (k : Nat) (h : k < p.size) : p.data.toList.drop k = p[k] :: p.data.toList.drop (k + 1) := by
  have h' : k < p.data.toList.length := by rw [len_l]; exact h
  rw [List.drop_eq_getElem_cons h']
  rfl
theorem at_cut {p one : ByteArray} {k : Nat} {out : List ByteArray} (h : At p k out one) (hk : k < p.size) (hc : p[k].toNat = 47) : At p (k + 1) (out ++ [one]) ⟨#[]⟩ := by
  have e : p[k] = 47 := UInt8.toNat_inj.1 hc
  obtain ⟨h1, h2⟩ := h
  refine ⟨?_, by rw [List.length_append]; show _ + 1 + 0 ≤ _; omega⟩
  rw [h1, drop_at p k hk, e, glue_cut]
  have e2 : (glue (ByteArray.mk #[]).data.toList (spl (p.data.toList.drop (k + 1)))) = spl (p.data.toList.drop (k + 1)) := glue_nil (spl_ne _)
  rw [e2, List.map_cons, tb_of, List.append_assoc]
  rfl
theorem at_more {p one : ByteArray} {k : Nat} {out : List ByteArray} (h : At p k out one) (hk : k < p.size) (hc : p[k].toNat ≠ 47) : At p (k + 1) out (one ++ p.extract k (k + 1)) := by
  have e : p[k] ≠ 47 := fun e => hc (by rw [e]; rfl)
  obtain ⟨h1, h2⟩ := h
  have e2 : (p.extract k (k + 1)).data.toList = [p[k]] := by
    rw [ByteArray.data_extract, Array.toList_extract, List.extract_eq_take_drop, drop_at p k hk]
    simp
  refine ⟨?_, ?_⟩
  · rw [h1, drop_at p k hk, glue_step _ _ _ e, ByteArray.data_append, Array.toList_append, e2]
  · rw [ByteArray.size_append, ← len_l (p.extract k (k + 1)), e2]
    show _ + (_ + 1) ≤ _
    omega
theorem at_end {p one : ByteArray} {k : Nat} {out : List ByteArray} (h : At p k out one) (hk : ¬ k < p.size) : (spl p.data.toList).map tb = out ++ [one] := by
  rw [h.1, List.drop_of_length_le (by rw [len_l]; omega)]
  simp [spl, glue, tb_of]
set_option maxRecDepth 100000 in
set_option maxHeartbeats 1000000 in
theorem refSplit_any (p : ByteArray) (w : World) (hs : p.size ≤ 8796093022207) :
    Calls Tryz.prog 90 #[.string p] w (SplitTo p w) := by
  obtain ⟨i0, hi, hz0, hz1, hz2⟩ := info_parts info9
  go_enter Tryz.func90, Tryz.ntmps90
  go_wp2_with fail
  go_loopw [3, 4, 5] (fun v o i wr => ∃ (k : Nat) (out : List ByteArray) (one : ByteArray), k ≤ p.size ∧ i = .int .i64 k ∧ o = .string one ∧ Hid (At p k out one) ∧ Texts wr w.heap.size v out ∧ Below w.heap.size w wr) (fun _ _ i _ => p.size - (intOf i).toNat)
  case atStart => exact ⟨0, [], ⟨#[]⟩, Nat.zero_le _, rfl, rfl, at_start p, World.ownsRow_nil _ _ _ _, Below.refl _ _⟩
  case round =>
    obtain ⟨k, out, one, hk, rfl, rfl, hat, htx, hb⟩ := hrel
    have hlen := hat.out.2
    have hsz := hb.size
    have hown := htx
    unfold Texts at hown
    by_cases hlt : k < p.size
    · by_cases hc : p[k].toNat = 47
      · have hat' := Lib.hid (at_cut hat.out hlt hc)
        have hc' : ((p[k].toNat : Int) == 47) = true := by simp [hc]
        clear hc htx
        go_wp2_with (at_builtin; refine wpList_append_own _ rfl _ _ 52 rfl w.heap.size 9 i0 (.string ⟨#[]⟩) 1 16 Tryz.underlying52 hi hz0 hz1 hz2 rfl (by decide) _ _ _ rfl (hown.alloc _) ⟨wr.heap.size, 0, none⟩ 1 1 [sv one] rfl rfl ?c1 ?c2 ?c3 ?c4 ?c5 ?_)
        case c1 => exact cell_one_new _ _ _
        case c2 => exact sv_one [one]
        case c3 => unfold maxLen; omega
        case c4 => omega
        case c5 => simp; omega
        intro v' w2 hown' hgrow _
        have hb3 := below_step hb hown hgrow
        have htx2 : Texts w2 w.heap.size v' (out ++ [one]) := by
          unfold Texts
          rw [List.length_append, List.map_append]
          exact hown'
        clear hown hown' hgrow hb
        go_wp2_with fail
        go_roundw
        case rel => exact ⟨k + 1, out ++ [one], ⟨#[]⟩, by omega, by go_num, rfl, hat', htx2, hb3⟩
        case measure => simp [intOf]; omega
      · have hat' := Lib.hid (at_more hat.out hlt hc)
        have hc' : ((p[k].toNat : Int) == 47) = false := beq_eq_false_iff_ne.2 (by omega)
        have hes : (p.extract k (k + 1)).size ≤ 1 := by simp; omega
        clear hc hown
        go_wp2_with fail
        go_roundw
        case rel => exact ⟨k + 1, out, _, by omega, by go_num, rfl, hat', htx, hb⟩
        case measure => simp [intOf]; omega
    · have hend := Lib.hid (at_end hat.out hlt)
      clear htx
      go_wp2_with (at_builtin; refine wpList_append_own _ rfl _ _ 52 rfl w.heap.size 9 i0 (.string ⟨#[]⟩) 1 16 Tryz.underlying52 hi hz0 hz1 hz2 rfl (by decide) _ _ _ rfl (hown.alloc _) ⟨wr.heap.size, 0, none⟩ 1 1 [sv one] rfl rfl ?c1 ?c2 ?c3 ?c4 ?c5 ?_)
      case c1 => exact cell_one_new _ _ _
      case c2 => exact sv_one [one]
      case c3 => unfold maxLen; omega
      case c4 => omega
      case c5 => simp; omega
      intro v' w2 hown' hgrow _
      have hb3 := below_step hb hown hgrow
      have htx2 : Texts w2 w.heap.size v' (out ++ [one]) := by
        unfold Texts
        rw [List.length_append, List.map_append]
        exact hown'
      clear hown hown' hgrow hb
      go_wp2_with fail
      go_ret
      unfold SplitTo
      rw [hend.out]
      exact ⟨_, rfl, htx2, hb3⟩
end Go.Proofs.YtdkgkomjbpggeaaGreatDoor.Pr

namespace Go.Proofs.YtdkgkomjbpggeaaGreatDoor.Pr
open Go.RowKit Pm Tx
set_option linter.unusedVariables false
theorem take_at (p : ByteArray) (k : Nat) (h : k < p.size) : p.data.toList.take (k + 1) = p.data.toList.take k ++ [p[k]] := by
  have h' : k < p.data.toList.length := by rw [len_l]; exact h
  rw [List.take_succ_eq_append_getElem h']
  rfl
theorem take_all (p : ByteArray) : p.data.toList.take p.size = p.data.toList := List.take_of_length_le (by rw [len_l]; omega)
theorem all_at (p : ByteArray) (k : Nat) (h : k < p.size) (ha : (p.data.toList.take k).all okC = true) (hb : okC p[k] = true) : (p.data.toList.take (k + 1)).all okC = true := by
  rw [take_at p k h, List.all_append, ha]
  simp [hb]
theorem all_not (p : ByteArray) (k : Nat) (h : k < p.size) (hb : okC p[k] = false) : isName p.data.toList = false := by
  have h' : k < p.data.toList.length := by rw [len_l]; exact h
  have : p.data.toList.all okC = false := by
    rw [← Bool.not_eq_true, List.all_eq_true]
    intro hall
    have := hall _ (List.getElem_mem h')
    have e : p.data.toList[k] = p[k] := rfl
    rw [e, hb] at this
    cases this
  rw [isName, this, Bool.and_false]
set_option maxRecDepth 100000 in
set_option maxHeartbeats 1000000 in
theorem refName_any (s : ByteArray) (w : World) (hs : s.size ≤ 9223372036854775807) :
    Calls Tryz.prog 91 #[.string s] w fun e w' => e = .returned (.bool (isName s.data.toList)) ∧ w = w' := by
  by_cases h0 : 1 ≤ s.size ∧ s.size ≤ 12
  · obtain ⟨h1, h2⟩ := h0
    go_enter Tryz.func91, Tryz.ntmps91
    go_wp2
    go_loop [3] (fun i => ∃ k : Nat, k ≤ s.size ∧ i = .int .i64 k ∧ Hid ((s.data.toList.take k).all okC = true)) (fun i => s.size - (intOf i).toNat)
    case atStart => exact ⟨0, Nat.zero_le _, rfl, rfl⟩
    case round =>
      obtain ⟨k, hk, rfl, hall⟩ := hrel
      by_cases hlt : k < s.size
      · have hX := s[k].toNat_lt
        have hgood := fun h => Lib.hid (all_at s k hlt hall.out h)
        have hbad := fun h => Lib.hid (all_not s k hlt h)
        obtain ⟨X, hXe⟩ : ∃ X, X = s[k].toNat := ⟨_, rfl⟩
        have hok : okC s[k] = ((97 ≤ X && X ≤ 122) || (48 ≤ X && X ≤ 57) || X == 95) := by rw [hXe]; rfl
        rw [hok] at hgood hbad
        rw [← hXe] at hX
        have hXe' := hXe.symm
        clear hok hXe hall
        rcases show (X < 48) ∨ (57 < X ∧ X < 95) ∨ X = 96 ∨ 122 < X ∨ (48 ≤ X ∧ X ≤ 57) ∨ X = 95 ∨ (97 ≤ X ∧ X ≤ 122) by omega with h | h | h | h | h | h | h
        · have hb := hbad (by simp; omega)
          have e : ((X : Int) == 95) = false := beq_eq_false_iff_ne.2 (by omega)
          clear hgood hbad
          go_wp2
          go_ret
          exact ⟨by rw [hb.out]; rfl, rfl⟩
        · have hb := hbad (by simp; omega)
          have e : ((X : Int) == 95) = false := beq_eq_false_iff_ne.2 (by omega)
          have d57 : decide ((X : Int) ≤ 57) = false := decide_eq_false (by omega)
          clear hgood hbad
          go_wp2
          go_ret
          exact ⟨by rw [hb.out]; rfl, rfl⟩
        · have hb := hbad (by simp; omega)
          have e : ((X : Int) == 95) = false := beq_eq_false_iff_ne.2 (by omega)
          have d57 : decide ((X : Int) ≤ 57) = false := decide_eq_false (by omega)
          clear hgood hbad
          go_wp2
          go_ret
          exact ⟨by rw [hb.out]; rfl, rfl⟩
        · have hb := hbad (by simp; omega)
          have e : ((X : Int) == 95) = false := beq_eq_false_iff_ne.2 (by omega)
          have d57 : decide ((X : Int) ≤ 57) = false := decide_eq_false (by omega)
          have d122 : decide ((X : Int) ≤ 122) = false := decide_eq_false (by omega)
          clear hgood hbad
          go_wp2
          go_ret
          exact ⟨by rw [hb.out]; rfl, rfl⟩
        · have hb := hgood (by simp; omega)
          have e : ((X : Int) == 95) = false := beq_eq_false_iff_ne.2 (by omega)
          clear hgood hbad
          go_wp2
          go_round
          case rel => exact ⟨k + 1, by omega, by go_num, hb.out⟩
          case measure => simp [intOf]; omega
        · have hb := hgood (by simp; omega)
          have e : ((X : Int) == 95) = true := by simp [h]
          clear hgood hbad
          go_wp2
          go_round
          case rel => exact ⟨k + 1, by omega, by go_num, hb.out⟩
          case measure => simp [intOf]; omega
        · have hb := hgood (by simp; omega)
          have e : ((X : Int) == 95) = false := beq_eq_false_iff_ne.2 (by omega)
          clear hgood hbad
          go_wp2
          go_round
          case rel => exact ⟨k + 1, by omega, by go_num, hb.out⟩
          case measure => simp [intOf]; omega
      · obtain rfl : k = s.size := by omega
        have hn : isName s.data.toList = true := by
          have h := hall.out
          rw [take_all] at h
          rw [isName, h, len_l]
          simp [h1, h2]
        have HN := Lib.hid hn
        clear hn hall
        go_wp2
        go_ret
        exact ⟨by rw [HN.out]; rfl, rfl⟩
  · have hn : isName s.data.toList = false := by
      rw [isName, len_l]
      by_cases h1 : 1 ≤ s.size
      · have h2 : ¬ s.size ≤ 12 := fun h2 => h0 ⟨h1, h2⟩
        simp [h2]
      · simp [h1]
    rw [hn]
    rcases show s.size < 1 ∨ 12 < s.size by omega with h | h
    all_goals
      clear h0 hn
      go_enter Tryz.func91, Tryz.ntmps91
      go_wp2
      go_ret
      exact ⟨rfl, rfl⟩
set_option maxRecDepth 100000 in
set_option maxHeartbeats 1000000 in
theorem reflast_any (s : ByteArray) (w : World) (hs : s.size ≤ 9223372036854775807) :
    Calls Tryz.prog 92 #[.string s] w fun e w' => e = .returned (.int .i64 ((lastN s.data.toList : Nat) - 1)) ∧ w = w' := by
  go_enter Tryz.func92, Tryz.ntmps92
  go_wp2
  go_loop [3, 4] (fun a i => ∃ k L : Nat, k ≤ s.size ∧ i = .int .i64 k ∧ a = .int .i64 ((L : Int) - 1) ∧ Hid (L = lastN (s.data.toList.take k))) (fun _ i => s.size - (intOf i).toNat)
  case atStart => exact ⟨0, 0, Nat.zero_le _, rfl, rfl, rfl⟩
  case round =>
    obtain ⟨k, L, hk, rfl, rfl, hL⟩ := hrel
    by_cases hlt : k < s.size
    · have hX := s[k].toNat_lt
      have hn := lastN_snoc (s.data.toList.take k) s[k]
      rw [← take_at s k hlt, List.length_take, len_l, Nat.min_eq_left hk] at hn
      by_cases hc : s[k].toNat = 47
      · rw [if_pos (UInt8.toNat_inj.1 hc)] at hn
        have HN := Lib.hid hn
        have e : ((s[k].toNat : Int) == 47) = true := by simp [hc]
        clear hn hc hL
        go_wp2
        go_round
        case rel => exact ⟨k + 1, k + 1, by omega, by go_num, by go_num, HN.out.symm⟩
        case measure => simp [intOf]; omega
      · rw [if_neg (fun e => hc (by rw [e]; rfl)), ← hL.out] at hn
        have HN := Lib.hid hn
        have e : ((s[k].toNat : Int) == 47) = false := beq_eq_false_iff_ne.2 (by omega)
        clear hn hc hL
        go_wp2
        go_round
        case rel => exact ⟨k + 1, L, by omega, by go_num, rfl, HN.out.symm⟩
        case measure => simp [intOf]; omega
    · obtain rfl : k = s.size := by omega
      have h := hL.out
      rw [take_all] at h
      subst h
      clear hL
      go_wp2
      go_ret
      exact ⟨rfl, rfl⟩
end Go.Proofs.YtdkgkomjbpggeaaGreatDoor.Pr

namespace Go.Proofs.YtdkgkomjbpggeaaGreatDoor.Pr
open Go.RowKit Pm Tx
set_option linter.unusedVariables false
theorem par_ext (s : ByteArray) : s.extract 0 (lastN s.data.toList - 1) = tb (par s.data.toList) := by
  apply ByteArray.ext
  apply Array.toList_inj.1
  rw [ByteArray.data_extract, Array.toList_extract, List.extract_eq_take_drop]
  simp [tb, par]
set_option maxRecDepth 100000 in
set_option maxHeartbeats 1000000 in
theorem refParent_any (s : ByteArray) (w : World) (hs : s.size ≤ 9223372036854775807) :
    Calls Tryz.prog 57 #[.string s] w fun e w' => e = .returned (.string (tb (par s.data.toList))) ∧ w = w' := by
  have cl := fun W => reflast_any s W hs
  have hL := lastN_le s.data.toList
  rw [len_l] at hL
  rw [← par_ext]
  obtain ⟨L, hLe⟩ : ∃ L, L = lastN s.data.toList := ⟨_, rfl⟩
  rw [← hLe] at cl hL ⊢
  clear hLe
  by_cases h0 : L = 0
  · subst h0
    go_enter Tryz.func57, Tryz.ntmps57
    go_wp2_with (go_at_call 92; refine (cl _).mono ?_; rintro e w1 ⟨rfl, rfl⟩)
    go_ret
    exact ⟨by simp; rfl, rfl⟩
  · obtain ⟨K, rfl⟩ : ∃ K, L = K + 1 := ⟨L - 1, by omega⟩
    have e1 : ((K + 1 : Nat) : Int) - 1 = K := by omega
    rw [e1] at cl
    rw [Nat.add_sub_cancel]
    clear h0
    go_enter Tryz.func57, Tryz.ntmps57
    go_wp2_with (go_at_call 92; refine (cl _).mono ?_; rintro e w1 ⟨rfl, rfl⟩)
    go_ret
    exact ⟨rfl, rfl⟩
theorem size_zero {s : ByteArray} : s.size = 0 ↔ s = ⟨#[]⟩ := by
  refine ⟨fun h => ?_, fun h => by rw [h]; rfl⟩
  apply ByteArray.ext
  exact Array.eq_empty_of_size_eq_zero h
theorem list_nil {s : ByteArray} (h : s = ⟨#[]⟩) : s.data.toList = [] := by rw [h]
theorem list_ne {s : ByteArray} (h : s ≠ ⟨#[]⟩) : s.data.toList ≠ [] := fun e => h (ByteArray.ext (Array.toList_inj.1 e))
theorem is_empty {s : ByteArray} (h : s = ⟨#[]⟩) : s.toList.isEmpty = true := by rw [h, ByteArray.toList_eq]; rfl
theorem not_empty {s : ByteArray} (h : s ≠ ⟨#[]⟩) : s.toList.isEmpty = false := by
  rw [ByteArray.toList_eq]
  cases e : s.data.toList with
  | nil => exact absurd e (list_ne h)
  | cons c r => rfl
theorem all_step (l : List (List UInt8)) (k : Nat) (x : List UInt8) (h : l[k]? = some x) (ha : (l.take k).all isName = true) (hb : isName x = true) : (l.take (k + 1)).all isName = true := by
  obtain ⟨hk, he⟩ := List.getElem?_eq_some_iff.1 h
  rw [List.take_succ_eq_append_getElem hk, List.all_append, ha, he]
  simp [hb]
theorem all_fail (l : List (List UInt8)) (k : Nat) (x : List UInt8) (h : l[k]? = some x) (hb : isName x = false) : l.all isName = false := by
  obtain ⟨hk, he⟩ := List.getElem?_eq_some_iff.1 h
  rw [← Bool.not_eq_true, List.all_eq_true]
  intro hall
  have := hall _ (List.getElem_mem hk)
  rw [he, hb] at this
  cases this
theorem chk_far {l : List UInt8} {d : Int} (h : d < (spl l).length) : chk l d = 10 := by
  rw [chk, isPath, decide_eq_false (by omega), Bool.false_and, if_neg (by simp)]
theorem chk_bad {l : List UInt8} {d : Int} (h : (spl l).all isName = false) : chk l d = 10 := by
  rw [chk, isPath, h, Bool.and_false, if_neg (by simp)]
theorem chk_good {l : List UInt8} {d : Int} (hd : ((spl l).length : Int) ≤ d) (h : (spl l).all isName = true) : chk l d = 0 := by
  rw [chk, isPath, h, decide_eq_true hd, Bool.and_true, if_pos rfl]
theorem spl_sizes (l : List UInt8) : ∀ x ∈ spl l, x.length ≤ l.length := by
  induction l with
  | nil => simp [spl]
  | cons c r ih =>
    rw [spl]
    split
    · intro x hx
      rcases List.mem_cons.1 hx with rfl | hx
      · simp
      · have := ih x hx; simp; omega
    · cases hs : spl r with
      | nil => exact absurd hs (spl_ne r)
      | cons y ys =>
        rw [hs] at ih
        intro x hx
        rcases List.mem_cons.1 hx with rfl | hx
        · have := ih y (List.mem_cons_self ..); simp; omega
        · have := ih x (List.mem_cons_of_mem _ hx); simp; omega
set_option maxRecDepth 100000 in
set_option maxHeartbeats 1000000 in
theorem refCheck_any (p : ByteArray) (d : Int) (w : World) (hs : p.size ≤ 8796093022207) (h1 : -9223372036854775808 ≤ d) (h2 : d ≤ 9223372036854775807) :
    Calls Tryz.prog 55 #[.string p, .int .i64 d] w fun e w' => e = .returned (.int .i64 (chk p.data.toList d : Nat)) ∧ Below w.heap.size w w' := by
  have hl := spl_len p.data.toList
  rw [len_l] at hl
  have hsz := spl_sizes p.data.toList
  rw [len_l] at hsz
  have hfar := @chk_far p.data.toList d
  have hbad := @chk_bad p.data.toList d
  have hgood := @chk_good p.data.toList d
  have cs := fun W => refSplit_any p W hs
  unfold SplitTo at cs
  obtain ⟨S, hS⟩ : ∃ S, S = spl p.data.toList := ⟨_, rfl⟩
  obtain ⟨R, hR⟩ : ∃ R, R = chk p.data.toList d := ⟨_, rfl⟩
  rw [← hS] at hl hsz hfar hbad hgood cs
  rw [← hR] at hfar hbad hgood
  rw [← hR]
  have hne : S ≠ [] := by rw [hS]; exact spl_ne _
  have hpos : 0 < S.length := List.length_pos_iff.2 hne
  clear hS hR hne
  by_cases hd : d < (S.length : Int)
  · have e := hfar hd
    subst e
    clear hfar hbad hgood
    go_enter Tryz.func55, Tryz.ntmps55
    go_wp2_with (go_at_call 90; refine (cs _).mono ?_; rintro e w1 ⟨v, rfl, ht, hb⟩; obtain ⟨a, c, rfl, hst, _, _⟩ := ht.form)
    go_ret
    exact ⟨rfl, hb⟩
  · have HB := Lib.hid hbad
    have HG := Lib.hid (hgood (by omega))
    have HZ := Lib.hid hsz
    have hd' : (S.length : Int) ≤ d := by omega
    clear hfar hbad hgood hsz
    go_enter Tryz.func55, Tryz.ntmps55
    go_wp2_with (go_at_call 90; refine (cs _).mono ?_; rintro e w1 ⟨v, rfl, ht, hb⟩; obtain ⟨a, c, rfl, hst, _, _⟩ := ht.form)
    obtain ⟨hln, hst⟩ := hst
    obtain ⟨b, off, rfl, hlt, hc⟩ := hst.resolve_left (by rw [List.length_map]; omega)
    have hsz1 := hb.size
    have HC : Hid (∀ k x, S[k]? = some x → w1.cell? ⟨b, off + k, none⟩ = some (.string (tb x))) := fun k x hx => hc k (tb x) (by rw [List.getElem?_map, hx]; rfl)
    clear hst hln hc ht
    go_loop [6] (fun i => ∃ k : Nat, k ≤ S.length ∧ i = .int .i64 k ∧ Hid ((S.take k).all isName = true)) (fun i => S.length - (intOf i).toNat)
    case atStart => exact ⟨0, Nat.zero_le _, rfl, rfl⟩
    case round =>
      obtain ⟨k, hk, rfl, hall⟩ := hrel
      by_cases hlk : k < S.length
      · obtain ⟨x, hx⟩ : ∃ x, S[k]? = some x := ⟨_, List.getElem?_eq_getElem hlk⟩
        have hcell := HC.out k x hx
        have hxl := HZ.out x (List.mem_of_getElem? hx)
        have cn := fun W => refName_any (tb x) W (by rw [tb_size]; omega)
        rw [tb_list] at cn
        have hnext := fun h => Lib.hid (all_step S k x hx hall.out h)
        have hfail := fun h => HB.out (all_fail S k x hx h)
        obtain ⟨T, hT⟩ : ∃ T, T = tb x := ⟨_, rfl⟩
        rw [← hT] at hcell cn
        clear hx hxl hT hall
        by_cases hn : isName x = true
        · have HN := hnext hn
          rw [hn] at cn
          clear hnext hfail hn
          go_wp2_with (go_at_call 91; refine (cn _).mono ?_; rintro e w2 ⟨rfl, rfl⟩)
          go_round
          case rel => exact ⟨k + 1, by omega, by go_num, HN⟩
          case measure => simp [intOf]; omega
        · rw [Bool.eq_false_iff.2 hn] at cn
          have HF := hfail (Bool.eq_false_iff.2 hn)
          subst HF
          clear hnext hfail hn
          go_wp2_with (go_at_call 91; refine (cn _).mono ?_; rintro e w2 ⟨rfl, rfl⟩)
          go_ret
          exact ⟨rfl, hb⟩
      · obtain rfl : k = S.length := by omega
        have h := hall.out
        rw [List.take_of_length_le (Nat.le_refl _)] at h
        have HF := HG.out h
        subst HF
        clear hall h
        go_wp2
        go_ret
        exact ⟨rfl, hb⟩
end Go.Proofs.YtdkgkomjbpggeaaGreatDoor.Pr

namespace Go.Proofs.YtdkgkomjbpggeaaGreatDoor.En
open Go.RowKit Tx Pm Pr
set_option linter.unusedVariables false
theorem infoE : (Tryz.prog.info? 73).map (fun i => (i.zero, i.size, i.bytes)) = some (some (.agg #[.string ⟨#[]⟩, .int .i64 0, .string ⟨#[]⟩]), 3, 40) := by kernel_rfl
def Own (w : World) (B : Nat) (v : Value) (l : List Et) : Prop := w.ownsRow B 73 3 v l.length (l.flatMap cells)
theorem Own.below {w w1 : World} {B : Nat} {v : Value} {l : List Et} (h : Own w B v l) (hb : Below w.heap.size w w1) : Own w1 B v l := by
  refine ⟨h.1, ?_⟩
  rcases h.2 with h0 | ⟨g', cap', cur, hv, hg, hh, r⟩
  · exact .inl h0
  · exact .inr ⟨g', cap', cur, hv, hg, (hb.block g' (Array.getElem?_eq_some_iff.1 hh).1).trans hh, r⟩
theorem cell_three_new (w : World) (a b c : Value) (t : TypeId) : ∀ j u, [a, b, c][j]? = some u → (w.alloc (.cells #[a, b, c] t)).cell? ((⟨w.heap.size, 0, none⟩ : Addr).add j) = some u := by
  intro j u hj
  match j, hj with
  | 0, hj => simp at hj; subst hj; simp [Addr.add]
  | 1, hj => simp at hj; subst hj; simp [Addr.add]
  | 2, hj => simp at hj; subst hj; simp [Addr.add]
  | j + 3, hj => simp at hj
theorem cells_one (x : Et) : ∀ u ∈ cells x, u.oneCell' = true := by
  intro u hu
  simp [cells] at hu
  rcases hu with rfl | rfl | rfl <;> rfl
theorem flat_at : ∀ (l : List Et) (k : Nat) (x : Et) (j : Nat), l[k]? = some x → j < 3 → (l.flatMap cells)[k * 3 + j]? = (cells x)[j]?
  | [], k, x, j, h, _ => by cases h
  | y :: l, 0, x, j, h, hj => by
    injection h with h
    subst h
    rw [List.flatMap_cons, List.getElem?_append_left (by rw [Nat.zero_mul, Nat.zero_add]; exact hj), Nat.zero_mul, Nat.zero_add]
  | y :: l, k + 1, x, j, h, hj => by
    have e : (k + 1) * 3 + j = (cells y).length + (k * 3 + j) := by
      show _ = 3 + _
      omega
    rw [List.flatMap_cons, e, List.getElem?_append_right (by omega), Nat.add_sub_cancel_left]
    exact flat_at l k x j h hj
theorem Own.form {w : World} {B : Nat} {v : Value} {l : List Et} (h : Own w B v l) : ∃ a c, v = .slice a l.length c ∧ Ents w a l.length l ∧ l.length ≤ c ∧ c ≤ maxLen := by
  have hh := h
  rcases h.2 with ⟨rfl, h0⟩ | ⟨g, cap, cur, rfl, hg, hh2, hn, hc, _⟩
  · exact ⟨none, 0, by rw [h0], ⟨rfl, .inl h0⟩, by omega, Nat.zero_le _⟩
  · refine ⟨some ⟨g, 0, none⟩, cap, rfl, ⟨rfl, .inr ⟨g, 0, rfl, (Array.getElem?_eq_some_iff.1 hh2).1, fun k x hx => ?_⟩⟩, hn, hc⟩
    have h1 := hh.cells (g := g) rfl (k * 3 + 0) (.string x.path) (flat_at l k x 0 hx (by omega))
    have h2 := hh.cells (g := g) rfl (k * 3 + 1) (.int .i64 x.node.kind) (flat_at l k x 1 hx (by omega))
    have h3 := hh.cells (g := g) rfl (k * 3 + 2) (.string x.node.data) (flat_at l k x 2 hx (by omega))
    rw [WideShapes.add_plain] at h1 h2 h3
    exact ⟨h1, h2, h3⟩
end Go.Proofs.YtdkgkomjbpggeaaGreatDoor.En

namespace Go.Proofs.YtdkgkomjbpggeaaGreatDoor.Pm
set_option linter.unusedVariables false
theorem cut_last {l : List UInt8} {k : Nat} (h : lastN l = k + 1) : l = l.take k ++ 47 :: l.drop (k + 1) := by
  induction l generalizing k with
  | nil => cases h
  | cons c r ih =>
    rw [lastN] at h
    split at h
    · split at h
      · rename_i hc
        obtain rfl : k = 0 := by omega
        rw [hc]
        rfl
      · cases h
    · rename_i h0
      obtain ⟨k', rfl⟩ : ∃ k', k = k' + 1 := ⟨k - 1, by omega⟩
      have := ih (k := k') (by omega)
      rw [List.take_succ_cons, List.drop_succ_cons, List.cons_append, ← this]
theorem par_bas (l : List UInt8) : (lastN l = 0 ∧ par l = [] ∧ bas l = l) ∨ (l = par l ++ 47 :: bas l) := by
  by_cases h : lastN l = 0
  · left
    rw [par, bas, h]
    exact ⟨rfl, rfl, rfl⟩
  · right
    obtain ⟨k, hk⟩ : ∃ k, lastN l = k + 1 := ⟨lastN l - 1, by omega⟩
    have := cut_last hk
    rw [par, bas, hk, Nat.add_sub_cancel]
    exact this
theorem chk_two (l : List UInt8) (d : Int) : chk l d = 0 ∨ chk l d = 10 := by
  rw [chk]
  split
  · exact .inl rfl
  · exact .inr rfl
theorem less_app (a b : List UInt8) (c : UInt8) : Op.bytesLess a (a ++ c :: b) = true := by
  induction a with
  | nil => rfl
  | cons x a ih => rw [List.cons_append, Op.bytesLess, ih]; simp
theorem less_irr (a : List UInt8) : Op.bytesLess a a = false := by
  induction a with
  | nil => rfl
  | cons x a ih => rw [Op.bytesLess, ih]; simp
theorem less_asymm : ∀ (a b : List UInt8), Op.bytesLess a b = true → Op.bytesLess b a = false
  | [], [], _ => rfl
  | [], _ :: _, _ => by rw [Op.bytesLess]
  | _ :: _, [], h => by rw [Op.bytesLess] at h; cases h
  | x :: a, y :: b, h => by
    have ih := less_asymm a b
    rw [Op.bytesLess] at h ⊢
    by_cases h1 : x < y
    · have h2 : ¬ y < x := by rw [UInt8.lt_iff_toNat_lt] at h1 ⊢; omega
      have h3 : ¬ y = x := by rintro rfl; rw [UInt8.lt_iff_toNat_lt] at h1; omega
      simp [h2, h3]
    · by_cases h2 : x = y
      · subst h2
        simp at h ⊢
        exact ih h
      · simp [h1, h2] at h
end Go.Proofs.YtdkgkomjbpggeaaGreatDoor.Pm

namespace Go.Proofs.YtdkgkomjbpggeaaGreatDoor.En
open Go.RowKit Tx Pm Pr
set_option linter.unusedVariables false
def okAt (l : List Et) (i : Nat) : Bool := match l[i]? with
  | none => true
  | some x => decide (chk x.path.data.toList 5 = 0) && whole x.node && !decide (x.node.kind = 0) && (decide (i = 0) || (match l[i - 1]? with | some y => Op.bytesLess y.path.toList x.path.toList | none => true)) && (decide (par x.path.data.toList = []) || decide ((tget l (tb (par x.path.data.toList))).kind = 1))
def tcheck (l : List Et) : Nat := if 200 < l.length then 4 else if (List.range l.length).all (okAt l) then 0 else 3
theorem tcheck_bad {l : List Et} {i : Nat} (hi : i < l.length) (h : okAt l i = false) (hn : l.length ≤ 200) : tcheck l = 3 := by
  rw [tcheck, if_neg (by omega), if_neg]
  intro hall
  have := List.all_eq_true.1 hall i (List.mem_range.2 hi)
  rw [h] at this
  cases this
theorem tcheck_good {l : List Et} (h : ∀ i, i < l.length → okAt l i = true) (hn : l.length ≤ 200) : tcheck l = 0 := by
  rw [tcheck, if_neg (by omega), if_pos (List.all_eq_true.2 (fun i hi => h i (List.mem_range.1 hi)))]
theorem okAt_eq {l : List Et} {i : Nat} {x : Et} (h : l[i]? = some x) : okAt l i = (decide (chk x.path.data.toList 5 = 0) && whole x.node && !decide (x.node.kind = 0) && (decide (i = 0) || (match l[i - 1]? with | some y => Op.bytesLess y.path.toList x.path.toList | none => true)) && (decide (par x.path.data.toList = []) || decide ((tget l (tb (par x.path.data.toList))).kind = 1))) := by
  rw [okAt, h]
def Small (l : List Et) : Prop := ∀ x ∈ l, x.path.size ≤ 8000000000000 ∧ x.node.data.size ≤ 8000000000000
theorem tb_ne {l : List UInt8} (h : l ≠ []) : (tb l).toList.isEmpty = false := not_empty (fun e => h (by rw [← tb_list l, e]))
theorem tb_nil {l : List UInt8} (h : l = []) : (tb l).toList.isEmpty = true := is_empty (by rw [h]; rfl)
set_option maxRecDepth 100000 in
set_option maxHeartbeats 2000000 in
theorem refCheckT_any (a : Option Addr) (n c : Nat) (l : List Et) (w : World) (hl : Ents w a n l) (hn : n ≤ 9223372036854775806) (hs : Small l) :
    Calls Tryz.prog 21 #[.slice a n c] w fun e w' => e = .returned (.int .i64 (tcheck l : Nat)) ∧ Below w.heap.size w w' := by
  obtain ⟨hln, hc⟩ := hl
  by_cases hbig : 200 < n
  · have e : tcheck l = 4 := by rw [tcheck, if_pos (by omega)]
    rw [e]
    clear hc e hln
    go_enter Tryz.func21, Tryz.ntmps21
    go_wp2
    go_ret
    exact ⟨rfl, Below.refl _ _⟩
  have hn2 : n ≤ 200 := by omega
  by_cases h0 : n = 0
  · subst h0
    obtain rfl : l = [] := List.length_eq_zero_iff.1 hln
    have e : tcheck [] = 0 := rfl
    rw [e]
    clear hc hs e hbig
    go_enter Tryz.func21, Tryz.ntmps21
    go_wp2
    go_loop [3] (fun i => i = .int .i64 0) (fun _ => 0)
    case atStart => exact rfl
    case round =>
      obtain rfl := hrel
      go_wp2
      go_ret
      exact ⟨rfl, Below.refl _ _⟩
  have hE : Hid (Ents w a n l) := ⟨hln, hc⟩
  obtain ⟨b, off, rfl, hb, hc⟩ := hc.resolve_left h0
  have HC := Lib.hid hc
  have HS := Lib.hid hs
  have HB := fun i => Lib.hid (fun (hi : i < l.length) (h : okAt l i = false) => tcheck_bad hi h (by omega))
  have HG := Lib.hid (fun (h : ∀ i, i < l.length → okAt l i = true) => tcheck_good h (by omega))
  obtain ⟨T, hT⟩ : ∃ T, T = tcheck l := ⟨_, rfl⟩
  rw [← hT] at HB HG
  rw [← hT]
  clear hc h0 hs hT hbig
  go_enter Tryz.func21, Tryz.ntmps21
  go_wp2_with fail
  go_loopw [3] (fun i wr => ∃ k : Nat, k ≤ n ∧ i = .int .i64 k ∧ Hid (∀ i, i < k → okAt l i = true) ∧ Below w.heap.size w wr) (fun i _ => n - (intOf i).toNat)
  case atStart => exact ⟨0, Nat.zero_le _, rfl, (fun i hi => absurd hi (Nat.not_lt_zero _)), Below.refl _ _⟩
  case round =>
    obtain ⟨k, hk, rfl, hgood, hB⟩ := hrel
    by_cases hlt : k < n
    · obtain ⟨x, hx⟩ : ∃ x, l[k]? = some x := ⟨_, List.getElem?_eq_getElem (by omega)⟩
      obtain ⟨c1, c2, c3⟩ := HC.out k x hx
      obtain ⟨hps, hds⟩ := HS.out x (List.mem_of_getElem? hx)
      have hok := okAt_eq hx
      have HO := Lib.hid hok
      have HX := Lib.hid hx
      have hkl : k < l.length := by omega
      have HK := Lib.hid hkl
      clear hok hx hkl
      obtain ⟨P, K, D⟩ := x
      simp only at c1 c2 c3 hps hds
      have d1 := (hB.cell (p := ⟨b, _, none⟩) hb).trans c1
      have cc := fun W => refCheck_any P 5 W (by omega) (by omega) (by omega)
      have htwo := chk_two P.data.toList 5
      obtain ⟨C, hC⟩ : ∃ C, C = chk P.data.toList 5 := ⟨_, rfl⟩
      rw [← hC] at cc htwo
      have HCC := Lib.hid hC
      clear hC
      go_wp2_with fail
      go_at_call 55
      refine (cc _).mono ?_
      rintro e w1 ⟨rfl, hb1⟩
      have hB1 := below_call hB hb1
      clear d1 cc hb1
      have d1 := (hB1.cell (p := ⟨b, _, none⟩) hb).trans c1
      have d2 := (hB1.cell (p := ⟨b, _, none⟩) hb).trans c2
      have d3 := (hB1.cell (p := ⟨b, _, none⟩) hb).trans c3
      rcases htwo with h | h
      case inr =>
        have hf : okAt l k = false := by rw [HO.out, ← HCC.out, h]; rfl
        have hT := (HB k).out HK.out hf
        subst h hT
        clear hf
        go_wp2_with fail
        go_ret
        exact ⟨rfl, hB1⟩
      have cw := fun W => refWhole_any ⟨K, D⟩ W (by show D.size ≤ _; omega)
      unfold nv at cw
      obtain ⟨V, hV⟩ : ∃ V, V = whole ⟨K, D⟩ := ⟨_, rfl⟩
      rw [← hV] at cw
      have HV := Lib.hid hV
      have HH := Lib.hid h
      subst h
      clear hV
      go_wp2_with fail
      go_at_call 56
      refine (cw _).mono ?_
      rintro e w2 ⟨rfl, hb2⟩
      have hB2 := below_call hB1 hb2
      clear d1 d2 d3 cw hb2 hB1 hB
      have d1 := (hB2.cell (p := ⟨b, _, none⟩) hb).trans c1
      have d2 := (hB2.cell (p := ⟨b, _, none⟩) hb).trans c2
      have d3 := (hB2.cell (p := ⟨b, _, none⟩) hb).trans c3
      by_cases hv : V = true
      case neg =>
        obtain rfl := Bool.eq_false_iff.2 hv
        have hf : okAt l k = false := by rw [HO.out, ← HCC.out, ← HV.out]; rfl
        have hT := (HB k).out HK.out hf
        subst hT
        clear hf hv
        go_wp2_with fail
        go_ret
        exact ⟨rfl, hB2⟩
      subst hv
      by_cases hK : K = 0
      · have hf : okAt l k = false := by rw [HO.out, ← HCC.out, ← HV.out, hK]; rfl
        have hT := (HB k).out HK.out hf
        subst hT
        subst hK
        clear hf
        go_wp2_with fail
        go_ret
        exact ⟨rfl, hB2⟩
      have eK : ((K : Int) == 0) = false := beq_eq_false_iff_ne.2 hK
      have HN0 := Lib.hid hK
      clear hK
      have cp := fun W => refParent_any P W (by omega)
      have cg := fun W hB => refGet_any (some ⟨b, off, none⟩) n c l (tb (par P.data.toList)) W (Ents.below hE.out hB) (by omega)
      unfold nv at cg
      by_cases hprev : k = 0 ∨ ∃ y, l[k - 1]? = some y ∧ Op.bytesLess y.path.toList P.toList = true
      case neg =>
        have hk0 : k ≠ 0 := fun h => hprev (.inl h)
        obtain ⟨y, hy⟩ : ∃ y, l[k - 1]? = some y := ⟨_, List.getElem?_eq_getElem (by omega)⟩
        have hless : Op.bytesLess y.path.toList P.toList = false := Bool.eq_false_iff.2 (fun h => hprev (.inr ⟨y, hy, h⟩))
        have hf : okAt l k = false := by rw [HO.out, hy, decide_eq_false hk0, Bool.false_or]; simp only [hless]; simp
        have hT := (HB k).out HK.out hf
        subst hT
        obtain ⟨j, rfl⟩ : ∃ j, k = j + 1 := ⟨k - 1, by omega⟩
        rw [Nat.add_sub_cancel] at hy
        have g1 := (hB2.cell (p := ⟨b, _, none⟩) hb).trans (HC.out j y hy).1
        have hsub : ((j + 1 : Nat) : Int) - 1 = j := by omega
        obtain ⟨Y, hY⟩ : ∃ Y, Y = y.path := ⟨_, rfl⟩
        rw [← hY] at g1 hless
        clear hf hprev hk0 hy hY
        go_wp2_with fail
        go_ret
        exact ⟨rfl, hB2⟩
      have hpb : (decide (k = 0) || (match l[k - 1]? with | some y => Op.bytesLess y.path.toList P.toList | none => true)) = true := by
        rcases hprev with h | ⟨y, hy, hless⟩
        · rw [decide_eq_true h]; rfl
        · rw [hy]; simp only [hless]; simp
      have hmain : ((par P.data.toList = []) ∨ (tget l (tb (par P.data.toList))).kind = 1) → okAt l k = true := by
        intro h
        rw [HO.out]
        rw [hpb, ← HCC.out, ← HV.out, decide_eq_false HN0.out]
        rcases h with h | h
        · rw [decide_eq_true h]; rfl
        · rw [decide_eq_true h, Bool.or_true]; rfl
      have hmainf : (par P.data.toList ≠ []) → (tget l (tb (par P.data.toList))).kind ≠ 1 → okAt l k = false := by
        intro h1 h2
        rw [HO.out]
        rw [decide_eq_false h1, decide_eq_false h2, Bool.or_false, Bool.and_false]
      have HM := Lib.hid hmain
      have HMF := Lib.hid hmainf
      clear hmain hmainf hpb
      have hp1 := @tb_nil (par P.data.toList)
      have hp2 := @tb_ne (par P.data.toList)
      obtain ⟨R, hR⟩ : ∃ R, R = tb (par P.data.toList) := ⟨_, rfl⟩
      rw [← hR] at cp cg HM HMF hp1 hp2
      have hnext : okAt l k = true → ∀ i, i < k + 1 → okAt l i = true := by
        intro h i hi
        rcases Nat.lt_or_ge i k with h2 | h2
        · exact hgood.out i h2
        · obtain rfl : i = k := by omega
          exact h
      have HNX := Lib.hid hnext
      clear hR hnext
      rcases hprev with rfl | ⟨y, hy, hless⟩
      · by_cases hpar : par P.data.toList = []
        · have e := hp1 hpar
          have HT := Lib.hid (HNX.out (HM.out (.inl hpar)))
          clear hp1 hp2 hpar
          go_wp2_with (first | (go_at_call 57; refine (cp _).mono ?_; rintro e w3 ⟨rfl, rfl⟩) | (go_at_call 58; refine (cg _ hB2).mono ?_; rintro e w4 ⟨rfl, hb4⟩))
          go_roundw
          case rel => exact ⟨1, by omega, by go_num, HT.out, hB2⟩
          case measure => simp [intOf]; omega
        · have e := hp2 hpar
          have hkind := HMF.out hpar
          have hkind2 := fun h => HM.out (.inr h)
          obtain ⟨N, hN⟩ : ∃ N, N = (tget l R).kind := ⟨_, rfl⟩
          rw [← hN] at cg hkind hkind2
          have hfd : ∀ (a : Int) (d : ByteArray) (w : World), (Instr.field 71 (.agg #[.int .i64 a, .string d]) 0).run Tryz.prog w = .ok (.int .i64 a) w := fun _ _ _ => by kernel_rfl
          clear hp1 hp2 hpar hN
          by_cases h1 : N = 1
          · have HT := Lib.hid (HNX.out (hkind2 h1))
            have e1 : ((N : Int) == 1) = true := by simp [h1]
            clear hkind hkind2 h1
            go_wp2_with (first | (go_at_call 57; refine (cp _).mono ?_; rintro e w3 ⟨rfl, rfl⟩) | (go_at_call 58; refine (cg _ hB2).mono ?_; rintro e w4 ⟨rfl, hb4⟩))
            go_roundw
            case rel => exact ⟨1, by omega, by go_num, HT.out, below_call hB2 hb4⟩
            case measure => simp [intOf]; omega
          · have hT := (HB _).out HK.out (hkind h1)
            have e1 : ((N : Int) == 1) = false := beq_eq_false_iff_ne.2 h1
            subst hT
            clear hkind hkind2 h1
            go_wp2_with (first | (go_at_call 57; refine (cp _).mono ?_; rintro e w3 ⟨rfl, rfl⟩) | (go_at_call 58; refine (cg _ hB2).mono ?_; rintro e w4 ⟨rfl, hb4⟩))
            go_ret
            exact ⟨rfl, below_call hB2 hb4⟩
      · by_cases hk0 : k = 0
        · subst hk0
          by_cases hpar : par P.data.toList = []
          · have e := hp1 hpar
            have HT := Lib.hid (HNX.out (HM.out (.inl hpar)))
            clear hp1 hp2 hpar
            go_wp2_with (first | (go_at_call 57; refine (cp _).mono ?_; rintro e w3 ⟨rfl, rfl⟩) | (go_at_call 58; refine (cg _ hB2).mono ?_; rintro e w4 ⟨rfl, hb4⟩))
            go_roundw
            case rel => exact ⟨1, by omega, by go_num, HT.out, hB2⟩
            case measure => simp [intOf]; omega
          · have e := hp2 hpar
            have hkind := HMF.out hpar
            have hkind2 := fun h => HM.out (.inr h)
            obtain ⟨N, hN⟩ : ∃ N, N = (tget l R).kind := ⟨_, rfl⟩
            rw [← hN] at cg hkind hkind2
            have hfd : ∀ (a : Int) (d : ByteArray) (w : World), (Instr.field 71 (.agg #[.int .i64 a, .string d]) 0).run Tryz.prog w = .ok (.int .i64 a) w := fun _ _ _ => by kernel_rfl
            clear hp1 hp2 hpar hN
            by_cases h1 : N = 1
            · have HT := Lib.hid (HNX.out (hkind2 h1))
              have e1 : ((N : Int) == 1) = true := by simp [h1]
              clear hkind hkind2 h1
              go_wp2_with (first | (go_at_call 57; refine (cp _).mono ?_; rintro e w3 ⟨rfl, rfl⟩) | (go_at_call 58; refine (cg _ hB2).mono ?_; rintro e w4 ⟨rfl, hb4⟩))
              go_roundw
              case rel => exact ⟨1, by omega, by go_num, HT.out, below_call hB2 hb4⟩
              case measure => simp [intOf]; omega
            · have hT := (HB _).out HK.out (hkind h1)
              have e1 : ((N : Int) == 1) = false := beq_eq_false_iff_ne.2 h1
              subst hT
              clear hkind hkind2 h1
              go_wp2_with (first | (go_at_call 57; refine (cp _).mono ?_; rintro e w3 ⟨rfl, rfl⟩) | (go_at_call 58; refine (cg _ hB2).mono ?_; rintro e w4 ⟨rfl, hb4⟩))
              go_ret
              exact ⟨rfl, below_call hB2 hb4⟩
        obtain ⟨j, rfl⟩ : ∃ j, k = j + 1 := ⟨k - 1, by omega⟩
        rw [Nat.add_sub_cancel] at hy
        have g1 := (hB2.cell (p := ⟨b, _, none⟩) hb).trans (HC.out j y hy).1
        have hsub : ((j + 1 : Nat) : Int) - 1 = j := by omega
        obtain ⟨Y, hY⟩ : ∃ Y, Y = y.path := ⟨_, rfl⟩
        rw [← hY] at g1 hless
        clear hk0 hy hY
        by_cases hpar : par P.data.toList = []
        · have e := hp1 hpar
          have HT := Lib.hid (HNX.out (HM.out (.inl hpar)))
          clear hp1 hp2 hpar
          go_wp2_with (first | (go_at_call 57; refine (cp _).mono ?_; rintro e w3 ⟨rfl, rfl⟩) | (go_at_call 58; refine (cg _ hB2).mono ?_; rintro e w4 ⟨rfl, hb4⟩))
          go_roundw
          case rel => exact ⟨j + 1 + 1, by omega, by go_num, HT.out, hB2⟩
          case measure => simp [intOf]; omega
        · have e := hp2 hpar
          have hkind := HMF.out hpar
          have hkind2 := fun h => HM.out (.inr h)
          obtain ⟨N, hN⟩ : ∃ N, N = (tget l R).kind := ⟨_, rfl⟩
          rw [← hN] at cg hkind hkind2
          have hfd : ∀ (a : Int) (d : ByteArray) (w : World), (Instr.field 71 (.agg #[.int .i64 a, .string d]) 0).run Tryz.prog w = .ok (.int .i64 a) w := fun _ _ _ => by kernel_rfl
          clear hp1 hp2 hpar hN
          by_cases h1 : N = 1
          · have HT := Lib.hid (HNX.out (hkind2 h1))
            have e1 : ((N : Int) == 1) = true := by simp [h1]
            clear hkind hkind2 h1
            go_wp2_with (first | (go_at_call 57; refine (cp _).mono ?_; rintro e w3 ⟨rfl, rfl⟩) | (go_at_call 58; refine (cg _ hB2).mono ?_; rintro e w4 ⟨rfl, hb4⟩))
            go_roundw
            case rel => exact ⟨j + 1 + 1, by omega, by go_num, HT.out, below_call hB2 hb4⟩
            case measure => simp [intOf]; omega
          · have hT := (HB _).out HK.out (hkind h1)
            have e1 : ((N : Int) == 1) = false := beq_eq_false_iff_ne.2 h1
            subst hT
            clear hkind hkind2 h1
            go_wp2_with (first | (go_at_call 57; refine (cp _).mono ?_; rintro e w3 ⟨rfl, rfl⟩) | (go_at_call 58; refine (cg _ hB2).mono ?_; rintro e w4 ⟨rfl, hb4⟩))
            go_ret
            exact ⟨rfl, below_call hB2 hb4⟩
    · obtain rfl : k = n := by omega
      have hT := HG.out (fun i hi => hgood.out i (by omega))
      subst hT
      clear hgood hln
      go_wp2_with fail
      go_ret
      exact ⟨rfl, hB⟩
end Go.Proofs.YtdkgkomjbpggeaaGreatDoor.En

namespace Go.Proofs.YtdkgkomjbpggeaaGreatDoor.Ac
open Go.RowKit
open En (Et tcheck)
set_option linter.unusedVariables false
structure Ar where
  tr : Nat → Option (List Et)
  tu : Nat → Option Int
  cl : Bool
  wh : Bool
def bk (l : List Et) : Nat := (l.map fun e => e.path.size + e.node.data.size + 5).sum
theorem bk_cons (x : Et) (l : List Et) : bk (x :: l) = x.path.size + x.node.data.size + 5 + bk l := by unfold bk; rw [List.map_cons, List.sum_cons]
theorem bk_len : ∀ l : List Et, l.length ≤ bk l
  | [] => Nat.zero_le _
  | x :: l => by
    rw [bk_cons, List.length_cons]
    have := bk_len l
    omega
theorem bk_mem : ∀ {l : List Et} {x : Et}, x ∈ l → x.path.size ≤ bk l ∧ x.node.data.size ≤ bk l
  | y :: l, x, h => by
    rw [bk_cons]
    rcases List.mem_cons.1 h with rfl | h
    · omega
    · have := bk_mem h
      omega
theorem bk_small {l : List Et} (h : bk l ≤ 8000000000000) : En.Small l := fun x hx => by
  have := bk_mem hx
  omega
def upd {α : Type} (f : Nat → α) (i : Nat) (x : α) : Nat → α := fun j => if j = i then x else f j
theorem upd_same {α : Type} (f : Nat → α) (i : Nat) (x : α) : upd f i x i = x := by unfold upd; rw [if_pos rfl]
theorem upd_other {α : Type} (f : Nat → α) {i j : Nat} (x : α) (h : j ≠ i) : upd f i x j = f j := by unfold upd; rw [if_neg h]
def a0 : Ar := ⟨fun _ => none, fun _ => none, true, true⟩
def may (i : Int) : Bool := decide (1 ≤ i) && decide (i ≤ 6)
theorem may_yes {i : Int} (h1 : 1 ≤ i) (h2 : i ≤ 6) : may i = true := by unfold may; rw [decide_eq_true h1, decide_eq_true h2]; rfl
theorem may_no {i : Int} (h : ¬ (1 ≤ i ∧ i ≤ 6)) : may i = false := by
  unfold may
  by_cases h1 : 1 ≤ i
  · rw [decide_eq_false (fun h2 => h ⟨h1, h2⟩), Bool.and_false]
  · rw [decide_eq_false h1, Bool.false_and]
theorem may_of {i : Int} (h : may i = true) : 1 ≤ i ∧ i ≤ 6 := by
  unfold may at h
  rw [Bool.and_eq_true] at h
  exact ⟨of_decide_eq_true h.1, of_decide_eq_true h.2⟩
theorem may_nat {i : Int} (h : may i = true) : ∃ k : Nat, i = (k : Int) ∧ 1 ≤ k ∧ k ≤ 6 := by
  obtain ⟨h1, h2⟩ := may_of h
  exact ⟨i.toNat, by omega, by omega, by omega⟩
def saveA (A : Ar) (i : Nat) (t : List Et) : Ar := ⟨upd A.tr i (some t), upd A.tu i none, A.cl && (A.tu i).isNone, A.wh⟩
def turnA (A : Ar) (i : Nat) (b : Int) : Ar := ⟨A.tr, upd A.tu i (some b), A.cl, A.wh⟩
def backA (A : Ar) (i : Nat) : Ar := ⟨A.tr, upd A.tu i none, A.cl, A.wh⟩
def calm (tu : Nat → Option Int) : Bool := (List.range 7).all fun j => (tu j).isNone
def forgetA (A : Ar) (i : Nat) : Ar := ⟨upd A.tr i none, upd A.tu i none, true, calm (upd A.tu i none)⟩
def loadA (A : Ar) (i : Nat) : List Et × Nat := match A.tr i with
  | none => ([], 11)
  | some t => if (A.tu i).isSome then ([], 6) else (t, 0)
def loadI (A : Ar) (i : Int) : List Et × Nat := if may i then loadA A i.toNat else ([], 1)
def saveE (i : Int) (t : List Et) : Nat := if may i then tcheck t else 1
def saveI (A : Ar) (i : Int) (t : List Et) : Ar := if saveE i t = 0 then saveA A i.toNat t else A
def forgetE (i : Int) : Nat := if may i then 0 else 1
def forgetI (A : Ar) (i : Int) : Ar := if may i then forgetA A i.toNat else A
def files (t : List Et) : List ByteArray := (t.filter fun x => decide (x.node.kind = 2)).map fun x => x.node.data
def allC (A : Ar) : List ByteArray := (List.range 7).flatMap fun i => match A.tr i with
  | some t => files t
  | none => []
open Classical in
noncomputable def uniq : List ByteArray → List ByteArray
  | [] => []
  | x :: l => if x ∈ l then uniq l else x :: uniq l
theorem mem_uniq {x : ByteArray} : ∀ {l : List ByteArray}, x ∈ uniq l ↔ x ∈ l
  | [] => Iff.rfl
  | y :: l => by
    rw [uniq]
    split
    · rename_i hy
      rw [mem_uniq (l := l), List.mem_cons]
      exact ⟨.inr, fun h => h.elim (fun e => e ▸ hy) id⟩
    · rw [List.mem_cons, List.mem_cons, mem_uniq (l := l)]
theorem nodup_uniq : ∀ l : List ByteArray, (uniq l).Nodup
  | [] => List.nodup_nil
  | y :: l => by
    rw [uniq]
    split
    · exact nodup_uniq l
    · rename_i hy
      exact List.nodup_cons.2 ⟨fun h => hy (mem_uniq.1 h), nodup_uniq l⟩
noncomputable def kept (A : Ar) : Nat := (uniq (allC A)).length
def well (A : Ar) : Prop := A.cl = true ∧ ∀ j, A.tu j = none
structure Good (A : Ar) : Prop where
  trees : ∀ i t, A.tr i = some t → tcheck t = 0 ∧ 1 ≤ i ∧ i ≤ 6
  there : ∀ i, A.tr i = none → A.tu i = none
theorem good0 : Good a0 := ⟨(fun i t h => by cases h), fun i _ => rfl⟩
theorem good_save {A : Ar} {i : Nat} {t : List Et} (h : Good A) (h1 : 1 ≤ i) (h2 : i ≤ 6) (ht : tcheck t = 0) : Good (saveA A i t) := by
  refine ⟨fun j u hj => ?_, fun j hj => ?_⟩
  · by_cases e : j = i
    · subst e
      have : some t = some u := by rw [← hj]; exact (upd_same _ _ _).symm
      injection this with this
      subst this
      exact ⟨ht, h1, h2⟩
    · exact h.trees j u (by rw [← hj]; exact (upd_other A.tr _ e).symm)
  · by_cases e : j = i
    · subst e; exact upd_same _ _ _
    · have h3 : A.tr j = none := by rw [← hj]; exact (upd_other A.tr _ e).symm
      exact (upd_other A.tu _ e).trans (h.there j h3)
theorem good_turn {A : Ar} {i : Nat} {b : Int} (h : Good A) (hi : (A.tr i).isSome = true) : Good (turnA A i b) := by
  refine ⟨h.trees, fun j hj => ?_⟩
  by_cases e : j = i
  · subst e
    rw [show A.tr j = none from hj] at hi
    cases hi
  · exact (upd_other A.tu _ e).trans (h.there j hj)
theorem good_forget {A : Ar} {i : Nat} (h : Good A) : Good (forgetA A i) := by
  refine ⟨fun j u hj => ?_, fun j hj => ?_⟩
  · by_cases e : j = i
    · subst e
      have : none = some u := by rw [← hj]; exact (upd_same A.tr _ _).symm
      cases this
    · exact h.trees j u (by rw [← hj]; exact (upd_other A.tr _ e).symm)
  · by_cases e : j = i
    · subst e; exact upd_same _ _ _
    · have h3 : A.tr j = none := by rw [← hj]; exact (upd_other A.tr _ e).symm
      exact (upd_other A.tu _ e).trans (h.there j h3)
theorem good_saveI {A : Ar} {i : Int} {t : List Et} (h : Good A) : Good (saveI A i t) := by
  unfold saveI
  split
  · rename_i h0
    unfold saveE at h0
    split at h0
    · rename_i hm
      obtain ⟨k, rfl, h1, h2⟩ := may_nat hm
      exact good_save h h1 h2 h0
    · cases h0
  · exact h
theorem good_forgetI {A : Ar} {i : Int} (h : Good A) : Good (forgetI A i) := by
  unfold forgetI
  split
  · exact good_forget h
  · exact h
theorem load_good {A : Ar} {i : Int} (h : Good A) : (loadI A i).1.length ≤ 200 ∧ (tcheck (loadI A i).1 = 0 ∨ (loadI A i).1 = []) := by
  unfold loadI
  split
  · unfold loadA
    split
    · exact ⟨Nat.zero_le _, .inr rfl⟩
    · rename_i t ht
      have h1 := (h.trees _ _ ht).1
      split
      · exact ⟨Nat.zero_le _, .inr rfl⟩
      · refine ⟨?_, .inl h1⟩
        show t.length ≤ 200
        unfold tcheck at h1
        split at h1
        · cases h1
        · omega
  · exact ⟨Nat.zero_le _, .inr rfl⟩
theorem nodup_len {l m : List ByteArray} (hl : l.Nodup) (h : ∀ x ∈ l, x ∈ m) : l.length ≤ m.length := by
  induction l generalizing m with
  | nil => exact Nat.zero_le _
  | cons x l ih =>
    have h1 := List.nodup_cons.1 hl
    obtain ⟨s, t, rfl⟩ := List.append_of_mem (h x (List.mem_cons_self ..))
    have := ih (m := s ++ t) h1.2 (fun y hy => by
      have hm := h y (List.mem_cons_of_mem x hy)
      have hne : y ≠ x := fun e => h1.1 (e ▸ hy)
      rw [List.mem_append, List.mem_cons] at hm
      rw [List.mem_append]
      exact hm.elim .inl (fun h => h.elim (fun e => absurd e hne) .inr))
    simp only [List.length_append, List.length_cons] at this ⊢
    omega
theorem files_len (t : List Et) : (files t).length ≤ t.length := by
  unfold files
  rw [List.length_map]
  exact List.length_filter_le _ _
end Go.Proofs.YtdkgkomjbpggeaaGreatDoor.Ac

namespace Go.Proofs.YtdkgkomjbpggeaaGreatDoor.Dk
open Go.RowKit Tx Pm
set_option linter.unusedVariables false
structure It where
  path : ByteArray
  dir : Bool
  data : ByteArray
  kept : ByteArray
  loose : Bool
  anew : Bool
  stamp : Nat
structure Rm where
  vol : ByteArray
  n : Int
structure St where
  L : List It
  rooms : List Rm
  steps : Nat
  stamps : Nat
  armed : Int
  down : Bool
def find (l : List It) (p : ByteArray) : Option It := l.find? (fun x => decide (x.path = p))
def place (l : List It) (p : ByteArray) : Nat := l.findIdx (fun x => decide (x.path = p))
def kindOf : Option It → Nat
  | none => 0
  | some x => if x.dir then 1 else 2
def kind (l : List It) (p : ByteArray) : Nat := kindOf (find l p)
def vol (p : ByteArray) : ByteArray := tb ((spl p.data.toList).headD [])
def used (l : List It) (v : ByteArray) : Nat := (l.map fun x => if vol x.path = v then x.data.size else 0).sum
def whole (l : List It) : Nat := (l.map fun x => x.data.size).sum
theorem used_le (l : List It) (v : ByteArray) : used l v ≤ whole l := by
  unfold used whole
  induction l with
  | nil => exact Nat.le_refl _
  | cons x l ih =>
    simp only [List.map_cons, List.sum_cons]
    split <;> omega
def fits (s : St) (p : ByteArray) (more : Int) : Bool := decide (more ≤ 0) || s.rooms.all (fun r => !(decide (r.vol = vol p) && decide ((used s.L (vol p) : Int) + more > r.n)))
def first (s : St) (p : ByteArray) (names : Nat) : Nat := if s.down then 14 else if chk p.data.toList 6 ≠ 0 ∨ (spl p.data.toList).length ≤ names then 10 else 0
def home (l : List It) (p : ByteArray) : Bool := decide (par p.data.toList = []) || decide (kind l (tb (par p.data.toList)) = 1)
def there (s : St) (p : ByteArray) : Nat := if first s p 1 ≠ 0 then first s p 1 else if kind s.L p = 0 then 11 else if kind s.L p = 1 then 12 else 0
def done (s : St) : Nat × St := if s.armed = 0 then (14, { s with down := true, armed := -1 }) else (0, { s with armed := if s.armed > 0 then s.armed - 1 else s.armed, steps := s.steps + 1 })
def ins (l : List It) (x : It) : List It := l.takeWhile (fun y => Op.bytesLess y.path.toList x.path.toList) ++ x :: (match l.dropWhile (fun y => Op.bytesLess y.path.toList x.path.toList) with | [] => [] | y :: r => if y.path = x.path then r else y :: r)
def drop (l : List It) (p : ByteArray) : List It := l.filter (fun x => !decide (x.path = p))
def stamped (s : St) (x : It) : It := { x with stamp := s.stamps + 1 }
def putS (s : St) (x : It) : St := { s with L := ins s.L (stamped s x), stamps := s.stamps + 1 }
def cells (x : It) : List Value := [.string x.path, .bool x.dir, .string x.data, .string x.kept, .bool x.loose, .bool x.anew, .int .i64 x.stamp]
def cellsR (x : Rm) : List Value := [.string x.vol, .int .i64 x.n]
theorem flat_at {α : Type} (f : α → List Value) (m : Nat) (hf : ∀ x, (f x).length = m) : ∀ (l : List α) (k : Nat) (x : α) (j : Nat), l[k]? = some x → j < m → (l.flatMap f)[k * m + j]? = (f x)[j]?
  | [], k, x, j, h, _ => by cases h
  | y :: l, 0, x, j, h, hj => by
    injection h with h
    subst h
    rw [List.flatMap_cons, List.getElem?_append_left (by rw [Nat.zero_mul, Nat.zero_add, hf]; exact hj), Nat.zero_mul, Nat.zero_add]
  | y :: l, k + 1, x, j, h, hj => by
    have e : (k + 1) * m + j = (f y).length + (k * m + j) := by rw [hf, Nat.succ_mul]; omega
    rw [List.flatMap_cons, e, List.getElem?_append_right (by omega), Nat.add_sub_cancel_left]
    exact flat_at f m hf l k x j h hj
theorem own_kept {w w1 : World} {B size n : Nat} {e : TypeId} {v : Value} {xs : List Value} (h : w.ownsRow B e size v n xs) (hk : ∀ g, v.ownBlock = some g → w1.heap[g]? = w.heap[g]?) : w1.ownsRow B e size v n xs := by
  refine ⟨h.1, ?_⟩
  rcases h.2 with h0 | ⟨g, cap, cur, hv, hg, hh, r⟩
  · exact .inl h0
  · exact .inr ⟨g, cap, cur, hv, hg, (hk g (by rw [hv]; rfl)).trans hh, r⟩
structure Chg (F : Nat → Prop) (w w1 : World) : Prop where
  os : w1.os = w.os
  tape : w1.tape = w.tape
  output : w1.output = w.output
  size : w.heap.size ≤ w1.heap.size
  block : ∀ i, i < w.heap.size → ¬ F i → w1.heap[i]? = w.heap[i]?
theorem Chg.of_below {F : Nat → Prop} {w w1 : World} (h : Below w.heap.size w w1) : Chg F w w1 := ⟨h.os, h.tape, h.output, h.size, fun i hi _ => h.block i hi⟩
theorem Chg.trans {F G : Nat → Prop} {w w1 w2 : World} (h : Chg F w w1) (h2 : Chg G w1 w2) (hG : ∀ i, G i → F i ∨ w.heap.size ≤ i) : Chg F w w2 :=
  ⟨h2.os.trans h.os, h2.tape.trans h.tape, h2.output.trans h.output, Nat.le_trans h.size h2.size, fun i hi hn => (h2.block i (Nat.lt_of_lt_of_le hi h.size) (fun hg => by rcases hG i hg with h | h <;> first | exact hn h | omega)).trans (h.block i hi hn)⟩
theorem Chg.mono {F G : Nat → Prop} {w w1 : World} (h : Chg F w w1) (hG : ∀ i, F i → G i) : Chg G w w1 := ⟨h.os, h.tape, h.output, h.size, fun i hi hn => h.block i hi (fun hf => hn (hG i hf))⟩
theorem Chg.below {F : Nat → Prop} {w w1 : World} {B : Nat} (h : Chg F w w1) (hB : B ≤ w.heap.size) (hF : ∀ i, F i → B ≤ i) : Below B w w1 :=
  ⟨h.os, h.tape, h.output, h.size, fun i hi => h.block i (Nat.lt_of_lt_of_le hi hB) (fun hf => by have := hF i hf; omega)⟩
end Go.Proofs.YtdkgkomjbpggeaaGreatDoor.Dk

namespace Go.Proofs.YtdkgkomjbpggeaaGreatDoor.En
open Go.RowKit Tx Pm Pr
set_option linter.unusedVariables false
theorem flat_len (l : List Et) : (l.flatMap cells).length = l.length * 3 := by
  induction l with
  | nil => rfl
  | cons x l ih =>
    rw [List.flatMap_cons, List.length_append, ih, List.length_cons]
    show 3 + _ = _
    omega
theorem flat_one (l : List Et) : ∀ u ∈ l.flatMap cells, u.oneCell' = true := by
  intro u hu
  obtain ⟨x, _, hx⟩ := List.mem_flatMap.1 hu
  exact cells_one x u hx
theorem ents_flat {w : World} {b off : Nat} {l : List Et} (hc : ∀ k x, l[k]? = some x → w.cell? ⟨b, off + k * 3, none⟩ = some (.string x.path) ∧ w.cell? ⟨b, off + k * 3 + 1, none⟩ = some (.int .i64 x.node.kind) ∧ w.cell? ⟨b, off + k * 3 + 1 + 1, none⟩ = some (.string x.node.data)) :
    ∀ j u, (l.flatMap cells)[j]? = some u → w.cell? ((⟨b, off, none⟩ : Addr).add j) = some u := by
  intro j u hj
  rw [WideShapes.add_plain]
  have hjl := (List.getElem?_eq_some_iff.1 hj).1
  rw [flat_len] at hjl
  have hk : j / 3 < l.length := by omega
  obtain ⟨x, hx⟩ : ∃ x, l[j / 3]? = some x := ⟨_, List.getElem?_eq_getElem hk⟩
  have hf := flat_at l (j / 3) x (j % 3) hx (by omega)
  rw [show j / 3 * 3 + j % 3 = j by omega, hj] at hf
  obtain ⟨h1, h2, h3⟩ := hc _ x hx
  rcases show j % 3 = 0 ∨ j % 3 = 1 ∨ j % 3 = 2 by omega with h | h | h
  · rw [h] at hf
    injection hf with hf
    rw [hf, ← h1]
    congr 2
    omega
  · rw [h] at hf
    injection hf with hf
    rw [hf, ← h2]
    congr 2
    omega
  · rw [h] at hf
    injection hf with hf
    rw [hf, ← h3]
    congr 2
    omega
def spare : Et := ⟨⟨#[115, 112, 97, 114, 101]⟩, ⟨0, ⟨#[]⟩⟩⟩
def RoomyTo (l : List Et) (w : World) (e : Ending) (w' : World) : Prop := ∃ g cap, e = .returned (.slice (some ⟨g, 0, none⟩) l.length cap) ∧ Own w' w.heap.size (.slice (some ⟨g, 0, none⟩) (l.length + 1) cap) (l ++ [spare]) ∧ Below w.heap.size w w'
theorem own_shape {w : World} {B : Nat} {v : Value} {n : Nat} {xs : List Value} {e : TypeId} (h : w.ownsRow B e 3 v n xs) (hn : 0 < n) : ∃ g cap, v = .slice (some ⟨g, 0, none⟩) n cap ∧ n ≤ cap ∧ cap ≤ maxLen := by
  rcases h.2 with ⟨rfl, h0⟩ | ⟨g, cap, cur, rfl, hg, hh2, hn, hc, _⟩
  · omega
  · exact ⟨g, cap, rfl, hn, hc⟩
set_option maxRecDepth 100000 in
set_option maxHeartbeats 1000000 in
theorem roomy_some (b off n c : Nat) (l : List Et) (w : World) (hln : l.length = n) (hb : b < w.heap.size ∨ n = 0) (hc : ∀ k x, l[k]? = some x → w.cell? ⟨b, off + k * 3, none⟩ = some (.string x.path) ∧ w.cell? ⟨b, off + k * 3 + 1, none⟩ = some (.int .i64 x.node.kind) ∧ w.cell? ⟨b, off + k * 3 + 1 + 1, none⟩ = some (.string x.node.data)) (hn : n ≤ 1000000000000) :
    Calls Tryz.prog 10 #[.slice (some ⟨b, off, none⟩) n c] w (RoomyTo l w) := by
  obtain ⟨i0, hi, hz0, hz1, hz2⟩ := info_parts infoE
  have hB : ∀ o, Below w.heap.size w (w.alloc o) := fun o => (Below.refl _ _).alloc (Nat.le_refl _) _
  have hfl : Hid (∀ o j u, (l.flatMap cells)[j]? = some u → (w.alloc o).cell? ((⟨b, off, none⟩ : Addr).add j) = some u) := by
    intro o
    apply ents_flat
    intro k x hx
    have hb' : b < w.heap.size := by
      have := (List.getElem?_eq_some_iff.1 hx).1
      omega
    exact ⟨((hB o).cell (p := ⟨b, _, none⟩) hb').trans (hc k x hx).1, ((hB o).cell (p := ⟨b, _, none⟩) hb').trans (hc k x hx).2.1, ((hB o).cell (p := ⟨b, _, none⟩) hb').trans (hc k x hx).2.2⟩
  have hfl2 := flat_len l
  rw [hln] at hfl2
  have hown0 := World.ownsRow_made (base := w.heap.size) (e := 73) (size := 3) w #[] 0 (Nat.le_refl _) (Nat.zero_le _) rfl
  clear hc
  go_enter Tryz.func10, Tryz.ntmps10
  go_wp2_with (at_builtin; refine wpList_append_own _ rfl _ _ 33 rfl w.heap.size 73 i0 (.agg #[.string ⟨#[]⟩, .int .i64 0, .string ⟨#[]⟩]) 3 40 Tryz.underlying33 hi hz0 hz1 hz2 rfl (by decide) _ _ _ rfl hown0 ⟨b, off, none⟩ n c (l.flatMap cells) rfl hfl2 ?c1 ?c2 ?c3 ?c4 ?c5 ?_)
  case c1 => exact hfl.out _
  case c2 => exact flat_one l
  case c3 => unfold maxLen; omega
  case c4 => omega
  case c5 => simp
  intro v' w1 hown1 hgrow1 _
  have hB1 : Below w.heap.size w w1 := (hB _).grown hgrow1 (by simp) (fun k hk => (hown0.lt k hk).1)
  have hsz1 := hB1.size
  clear hgrow1 hown0 hfl hfl2
  go_wp2_with (at_builtin; refine wpList_append_own _ rfl _ _ 33 rfl w.heap.size 73 i0 (.agg #[.string ⟨#[]⟩, .int .i64 0, .string ⟨#[]⟩]) 3 40 Tryz.underlying33 hi hz0 hz1 hz2 rfl (by decide) _ _ _ rfl (hown1.alloc _) ⟨w1.heap.size, 0, none⟩ 1 1 (cells spare) rfl rfl ?c1 ?c2 ?c3 ?c4 ?c5 ?_)
  case c1 => exact cell_three_new _ _ _ _ _
  case c2 => exact cells_one spare
  case c3 => unfold maxLen; omega
  case c4 => omega
  case c5 => simp; omega
  intro v2 w2 hown2 hgrow2 _
  have hB2 := below_step hB1 hown1 hgrow2
  obtain ⟨g, cap, rfl, hcap, hcap2⟩ := own_shape hown2 (by omega)
  have hO : Own w2 w.heap.size (.slice (some ⟨g, 0, none⟩) (l.length + 1) cap) (l ++ [spare]) := by
    unfold Own
    rw [List.length_append, List.flatMap_append, hln]
    exact hown2
  have hR := hB2
  unfold maxLen at hcap2
  clear hown1 hown2 hgrow2 hB1 hB
  go_wp2_with fail
  go_ret
  refine ⟨g, cap, ?_, hO, hR⟩
  rw [hln]
  rfl
set_option maxRecDepth 100000 in
set_option maxHeartbeats 1000000 in
theorem roomy_none (w : World) :
    Calls Tryz.prog 10 #[.slice none 0 0] w (RoomyTo [] w) := by
  obtain ⟨i0, hi, hz0, hz1, hz2⟩ := info_parts infoE
  have hB : ∀ o, Below w.heap.size w (w.alloc o) := fun o => (Below.refl _ _).alloc (Nat.le_refl _) _
  have hown0 := World.ownsRow_made (base := w.heap.size) (e := 73) (size := 3) w #[] 0 (Nat.le_refl _) (Nat.zero_le _) rfl
  have hB0 := hB (.cells #[] 73)
  have he : (w.alloc (.cells #[] 73)).heap.size = w.heap.size + 1 := by simp
  go_enter Tryz.func10, Tryz.ntmps10
  go_wp2_with (first | (at_builtin; refine wpList_append_own_none _ rfl _ _ 33 rfl w.heap.size 73 i0 3 Tryz.underlying33 hi _ _ _ rfl hown0 rfl ?_) | (at_builtin; refine wpList_append_own _ rfl _ _ 33 rfl w.heap.size 73 i0 (.agg #[.string ⟨#[]⟩, .int .i64 0, .string ⟨#[]⟩]) 3 40 Tryz.underlying33 hi hz0 hz1 hz2 rfl (by decide) _ _ _ rfl (hown0.alloc _) ⟨w.heap.size + 1, 0, none⟩ 1 1 (cells spare) rfl rfl ?c1 ?c2 ?c3 ?c4 ?c5 ?_))
  case c1 =>
    rw [← he]
    exact cell_three_new _ _ _ _ _
  case c2 => exact cells_one spare
  case c3 => unfold maxLen; omega
  case c4 => omega
  case c5 => simp; omega
  intro v2 w2 hown2 hgrow2 _
  have hB2 := below_step hB0 hown0 hgrow2
  obtain ⟨g, cap, rfl, hcap, hcap2⟩ := own_shape hown2 (by omega)
  have hO : Own w2 w.heap.size (.slice (some ⟨g, 0, none⟩) (([] : List Et).length + 1) cap) ([] ++ [spare]) := by
    unfold Own
    exact hown2
  have hR := hB2
  unfold maxLen at hcap2
  clear hown2 hgrow2 hB2 hB hown0
  go_wp2_with fail
  go_ret
  exact ⟨g, cap, rfl, hO, hR⟩
theorem Ents.take {w : World} {a : Option Addr} {n m : Nat} {l : List Et} (h : Ents w a n l) (hm : m ≤ n) : Ents w a m (l.take m) := by
  refine ⟨by rw [List.length_take, h.1]; omega, ?_⟩
  rcases h.2 with h0 | ⟨b, off, ha, hlt, hc⟩
  · exact .inl (by omega)
  · refine .inr ⟨b, off, ha, hlt, fun k x hx => hc k x ?_⟩
    rw [List.getElem?_take] at hx
    split at hx
    · exact hx
    · cases hx
set_option maxRecDepth 100000 in
set_option maxHeartbeats 1000000 in
theorem refHeld_any (g cap c n : Nat) (a : Option Addr) (l : List Et) (w : World) (hr : Ents w (some ⟨g, 0, none⟩) (n + 1) (l ++ [spare])) (ht : Ents w a n l) (hcap : n + 1 ≤ cap) (hcm : cap ≤ 9223372036854775807) (hn : n ≤ 1000000000000) :
    Calls Tryz.prog 13 #[.slice (some ⟨g, 0, none⟩) n cap, .slice a n c] w fun e w' => e = .returned (.bool true) ∧ Below w.heap.size w w' := by
  have hln := ht.1
  have h1 : Ents w (some ⟨g, 0, none⟩) n l := by
    have := hr.take (m := n) (by omega)
    rw [List.take_append_of_le_length (by omega), List.take_of_length_le (by omega)] at this
    exact this
  have cs := refSame_any (some ⟨g, 0, none⟩) a n n cap c l l w h1 ht (by omega) (by omega)
  obtain ⟨b, off, hb0, hb, hc⟩ := hr.2.resolve_left (by omega)
  injection hb0 with hb0
  injection hb0 with hg ho _
  subst hg
  subst ho
  have h3 := (hc n spare (by rw [List.getElem?_append_right (by omega), hln, Nat.sub_self]; rfl)).1
  unfold spare at h3
  simp only at h3
  rw [Nat.zero_add] at h3
  clear hc ht hr h1 hln
  go_enter Tryz.func13, Tryz.ntmps13
  go_wp2_with fail
  go_at_call 23
  refine cs.mono ?_
  rintro e w1 ⟨B, hB, rfl, hbl⟩
  obtain rfl := hB.2 rfl
  have h4 := (hbl.cell (p := ⟨g, _, none⟩) hb).trans h3
  have hn1 : (n : Int) < (n : Int) + 1 := by omega
  clear h3 cs
  go_wp2_with fail
  go_ret
  exact ⟨rfl, hbl⟩
end Go.Proofs.YtdkgkomjbpggeaaGreatDoor.En

namespace Go.Proofs.YtdkgkomjbpggeaaGreatDoor.En
open Go.RowKit Tx
set_option linter.unusedVariables false
section
variable {P : Program} (w : World)
end
def less (a b : ByteArray) : Bool := Op.bytesLess a.toList b.toList
theorem below_drewN {B : Nat} {a w : World} (h : Below B a w) (n : Nat) : Below B a (w.drewN n) := ⟨h.os, h.tape, h.output, h.size, h.block⟩
theorem own_of {w : World} {B n : Nat} {v : Value} {L : List Et} (h : w.ownsRow B 73 3 v n (L.flatMap cells)) (hL : L.length = n) : Own w B v L := by
  unfold Own
  rw [hL]
  exact h
theorem row_base {w : World} {B C n : Nat} {v : Value} {xs : List Value} (h : w.ownsRow C 73 3 v n xs) (hB : B ≤ C) : w.ownsRow B 73 3 v n xs := by
  refine ⟨h.1, ?_⟩
  rcases h.2 with h0 | ⟨g', cap', cur, hv, hg, r⟩
  · exact .inl h0
  · exact .inr ⟨g', cap', cur, hv, Nat.le_trans hB hg, r⟩
end Go.Proofs.YtdkgkomjbpggeaaGreatDoor.En

namespace Go.Proofs.YtdkgkomjbpggeaaGreatDoor.En
open Go.RowKit Tx Pm Pr
set_option linter.unusedVariables false
end Go.Proofs.YtdkgkomjbpggeaaGreatDoor.En

namespace Go.Proofs.YtdkgkomjbpggeaaGreatDoor.En
open Go.RowKit Tx Pm Pr
set_option linter.unusedVariables false
end Go.Proofs.YtdkgkomjbpggeaaGreatDoor.En

namespace Go.Proofs.YtdkgkomjbpggeaaGreatDoor.Ap
open Go.RowKit Tx
set_option linter.unusedVariables false
section
variable {P : Program}
theorem append_two (w : World) (base : Nat) (t ty e : TypeId) (i : TypeInfo) (z : Value) (size bytes : Nat) (ht : P.underlying t = some (.slice e)) (hi : P.info? e = some i) (hz : i.zero = some z)
    (hsize : i.size = size) (hby : i.bytes = bytes) (hzs : z.cells.size = size) (hsp : 0 < size) (hs16 : size ≤ 16)
    (v : Value) (n : Nat) (xs : List Value) (hown : w.ownsRow base e size v n xs)
    (a : Addr) (c : Nat) (us : List Value) (hul : us.length = size) (hnews : ∀ j x, us[j]? = some x → w.cell? (a.add j) = some x) (hone : ∀ x ∈ us, x.oneCell' = true)
    (hn : n + 1 ≤ 57646075230342348) (hbytes : (n + 1) * bytes ≤ 140737488355328) (hbase : base ≤ w.heap.size) :
    ∃ v' w', (Builtin.append_ #[t, t] ty #[v, .slice (some a) 1 c]).run P w = .ok v' w' ∧ w'.ownsRow base e size v' (n + 1) (xs ++ us) ∧
      ((v'.ownBlock = v.ownBlock ∧ w.grownBy w' v.ownBlock) ∨ (v'.ownBlock = some w.heap.size ∧ w.grownBy w' none)) := by
  have hlen : (xs ++ us).length = (n + 1) * size := by rw [List.length_append, hown.1, hul, Nat.add_mul, Nat.one_mul]
  have made : ∀ old, old < n + 1 → (w.drew.alloc (.cells (xs.toArray ++ us.toArray ++ Builtin.zeroCells z.cells (grownCap w (n + 1) old e - (n + 1))) e)).ownsRow base e size (.slice (some ⟨w.heap.size, 0, none⟩) (n + 1) (grownCap w (n + 1) old e)) (n + 1) (xs ++ us) ∧
      w.grownBy (w.drew.alloc (.cells (xs.toArray ++ us.toArray ++ Builtin.zeroCells z.cells (grownCap w (n + 1) old e - (n + 1))) e)) none := by
    intro old _
    have hge := grownCap_ge w (n + 1) old e
    have hcm := grownCap_le_maxLen w (n + 1) old e (by unfold maxLen; omega)
    refine ⟨⟨hlen, .inr ⟨w.heap.size, _, _, rfl, hbase, heap_alloc_new w.drew _, hge, hcm, ?_, ?_⟩⟩, ⟨rfl, rfl, rfl, by simp, fun k hk _ => Below.heap_alloc w.drew _ k hk⟩⟩
    · have h0 := hown.1
      simp only [Array.size_append, List.size_toArray, size_zeroCells, hzs, hul]
      obtain ⟨d, hd⟩ : ∃ d, grownCap w (n + 1) old e = n + 1 + d := ⟨grownCap w (n + 1) old e - (n + 1), by omega⟩
      rw [hd, h0, show n + 1 + d - (n + 1) = d by omega, Nat.add_mul, Nat.add_mul, Nat.one_mul]
    · simp only [Array.toList_append, List.append_assoc]
      rw [← List.append_assoc]
      exact List.take_left' hlen
  rcases hown.2 with ⟨rfl, rfl⟩ | ⟨g, cap, cur, rfl, hbg, hg, hnc, hcm, hcs, htake⟩
  · have hx : xs = [] := List.eq_nil_of_length_eq_zero (by simpa using hown.1)
    subst hx
    have hr := run_append_nil (P := P) w t ty e i z ht hi hz a 1 c us (by rw [hsize, hul, Nat.one_mul]) hnews (by omega) (by omega) (by rw [hby]; have h2 := hbytes; simp only [Nat.zero_add] at h2; omega)
    have hm := made 0 (by omega)
    simp only [Nat.zero_add, List.nil_append, Array.empty_append] at hm ⊢
    exact ⟨_, _, hr, hm.1, .inr ⟨rfl, hm.2⟩⟩
  · by_cases hroom : n + 1 ≤ cap
    · have hle : (n + 1) * size ≤ cap * size := Nat.mul_le_mul_right _ hroom
      have hfit : n * i.size + us.length ≤ cur.size := by rw [hsize, hcs, hul]; rw [Nat.add_mul, Nat.one_mul] at hle; exact hle
      have hr := run_append_room (P := P) w t ty e i ht hi g n cap cur hg a 1 c us (by rw [hsize, hul, Nat.one_mul]) hnews hone hroom hfit
      refine ⟨_, _, hr, ⟨hlen, .inr ⟨g, cap, _, rfl, hbg, setRow_heap w g cur _ e _ hg, hroom, hcm, ?_, ?_⟩⟩, .inl ⟨rfl, ⟨rfl, rfl, rfl, by simp, fun k _ hk => setRow_other w g k _ (fun e => hk (by simp [Value.ownBlock, e]))⟩⟩⟩
      · simp only [List.size_toArray, List.length_append, List.length_take, List.length_drop, Array.length_toList]
        omega
      · rw [hsize, htake]
        exact List.take_left' hlen
    · have hr := run_append_grow (P := P) w t ty e i z ht hi hz ⟨g, 0, none⟩ n cap xs (by rw [hsize]; exact hown.1) (hown.cells (g := g) rfl) a 1 c us (by rw [hsize, hul, Nat.one_mul]) hnews (by omega) (by omega) (growslice_fits (by omega) (by rw [hby]; exact hbytes))
      have hm := made cap (by omega)
      exact ⟨_, _, hr, hm.1, .inr ⟨rfl, hm.2⟩⟩
end
theorem wpList_append_two {P : Program} (w : World) {ops : Array Oper} {rest : List Oper} {o : Oper} {a : Act} {Q : Exit → Act → World → Prop} (hgd : o.guard = none) (s x : Operand) (t : TypeId)
    (ho : o.op = .call { callee := .builtin .append, args := #[s, x], argTypes := #[t, t] })
    (base : Nat) (e : TypeId) (i : TypeInfo) (z : Value) (size bytes : Nat) (ht : P.underlying t = some (.slice e)) (hi : P.info? e = some i) (hz : i.zero = some z)
    (hsize : i.size = size) (hby : i.bytes = bytes) (hzs : z.cells.size = size) (hsp : 0 < size) (hs16 : size ≤ 16)
    (v : Value) (n : Nat) (xs : List Value) (hs : a.eval s = v) (hown : w.ownsRow base e size v n xs)
    (ad : Addr) (c : Nat) (us : List Value) (hx : a.eval x = .slice (some ad) 1 c) (hul : us.length = size) (hnews : ∀ j x, us[j]? = some x → w.cell? (ad.add j) = some x) (hone : ∀ x ∈ us, x.oneCell' = true)
    (hn : n + 1 ≤ 57646075230342348) (hbytes : (n + 1) * bytes ≤ 140737488355328) (hbase : base ≤ w.heap.size)
    (h : ∀ v' w', w'.ownsRow base e size v' (n + 1) (xs ++ us) → ((v'.ownBlock = v.ownBlock ∧ w.grownBy w' v.ownBlock) ∨ (v'.ownBlock = some w.heap.size ∧ w.grownBy w' none)) → wpList P ops Q rest (a.put o.dst v') w') :
    wpList P ops Q (o :: rest) a w := by
  refine wpList_plain hgd fun K hK => ?_
  obtain ⟨v', w', hr, h2, h3⟩ := append_two (P := P) w base t o.type e i z size bytes ht hi hz hsize hby hzs hsp hs16 v n xs hown ad c us hul hnews hone hn hbytes hbase
  unfold Oper.wp execOp
  simp only [ho, resolve, invoke, builtin, Sem.run_bind, Sem.run_pure, Result.andThen_ok, List.map_toArray, List.map_cons, List.map_nil, hs, hx, hr]
  exact hK _ _ (h v' w' h2 h3)
end Go.Proofs.YtdkgkomjbpggeaaGreatDoor.Ap

namespace Go.Proofs.YtdkgkomjbpggeaaGreatDoor.Ea
open Go.RowKit Tx En Ap
set_option linter.unusedVariables false
theorem own_frozen {w : World} {base g n cap size : Nat} {e : TypeId} {xs : List Value} (h : w.ownsRow base e size (.slice (some ⟨g, 0, none⟩) n cap) n xs) (k : Nat) : w.frozen? ⟨g, k, none⟩ = false := by
  rcases h.2 with ⟨h0, _⟩ | ⟨g', cap', cur, hv, _, hh, _⟩
  · cases h0
  · injection hv with hg
    injection hg with hg
    injection hg with hg
    subst hg
    simp [World.frozen?, hh]
theorem own_cell {w : World} {base g n cap size : Nat} {e : TypeId} {xs : List Value} (h : w.ownsRow base e size (.slice (some ⟨g, 0, none⟩) n cap) n xs) {k : Nat} {u : Value} (hk : xs[k]? = some u) : w.cell? ⟨g, k, none⟩ = some u := by
  have := h.cells (g := g) rfl k u hk
  rwa [WideShapes.add_plain, Nat.zero_add] at this
theorem own_put {w : World} {base g n cap size : Nat} {e : TypeId} {xs : List Value} (h : w.ownsRow base e size (.slice (some ⟨g, 0, none⟩) n cap) n xs) (k : Nat) (u : Value) :
    (w.setCell ⟨g, k, none⟩ u).ownsRow base e size (.slice (some ⟨g, 0, none⟩) n cap) n (xs.set k u) := by
  refine ⟨by rw [List.length_set]; exact h.1, ?_⟩
  rcases h.2 with ⟨h0, _⟩ | ⟨g', cap', cur, hv, hb, hh, hn, hc, hs, ht⟩
  · cases h0
  · injection hv with hg _ hcap
    injection hg with hg
    injection hg with hg
    subst hg
    subst hcap
    refine .inr ⟨g, cap, cur.setIfInBounds k u, rfl, hb, ?_, hn, hc, by simpa using hs, ?_⟩
    · simp [World.setCell, Array.getElem?_modify, hh]
    · rw [Array.toList_setIfInBounds, List.take_set, ht]
theorem own_far {w : World} {base n size : Nat} {e : TypeId} {v : Value} {xs : List Value} (h : w.ownsRow base e size v n xs) {g k : Nat} (hne : v.ownBlock ≠ some g) (u : Value) : (w.setCell ⟨g, k, none⟩ u).ownsRow base e size v n xs := by
  have hg : w.grownBy (w.setCell ⟨g, k, none⟩ u) (some g) := ⟨rfl, rfl, rfl, by simp [World.setCell], fun j _ hj => Below.heap_setCell w ⟨g, k, none⟩ u j (fun e => hj (by rw [e]))⟩
  exact h.kept hg (.inr hne)
theorem types_ne {w : World} {base b2 n n2 size size2 : Nat} {e e2 : TypeId} {v v2 : Value} {xs ys : List Value} (h : w.ownsRow base e size v n xs) (h2 : w.ownsRow b2 e2 size2 v2 n2 ys) (hne : e ≠ e2) {g : Nat} (hg : v.ownBlock = some g) : v2.ownBlock ≠ some g := by
  rcases h.2 with ⟨rfl, _⟩ | ⟨a, cap, cur, rfl, _, hh, _⟩
  · simp [Value.ownBlock] at hg
  · rcases h2.2 with ⟨rfl, _⟩ | ⟨a2, cap2, cur2, rfl, _, hh2, _⟩
    · simp [Value.ownBlock]
    · simp only [Value.ownBlock, Option.some.injEq] at hg ⊢
      subst hg
      intro he
      injection he with he
      subst he
      rw [hh] at hh2
      injection hh2 with hh2
      injection hh2 with _ ht
      exact hne ht
theorem flat_set : ∀ (l : List Et) (k : Nat) (x : Et), k < l.length → (((l.flatMap cells).set (k * 3) (.string x.path)).set (k * 3 + 1) (.int .i64 x.node.kind)).set (k * 3 + 1 + 1) (.string x.node.data) = (l.set k x).flatMap cells
  | [], k, x, h => by simp at h
  | y :: l, 0, x, h => by
    simp [cells]
  | y :: l, k + 1, x, h => by
    have ih := flat_set l k x (by simpa using h)
    have e1 : (k + 1) * 3 = (cells y).length + k * 3 := by show _ = 3 + _; omega
    rw [List.set_cons_succ, List.flatMap_cons, List.flatMap_cons, ← ih, e1]
    have hle : ∀ (q : Nat) (u : Value) (m : List Value), (cells y ++ m).set ((cells y).length + q) u = cells y ++ m.set q u := by
      intro q u m
      rw [List.set_append_right _ _ (by omega), Nat.add_sub_cancel_left]
    rw [hle, Nat.add_assoc, hle, Nat.add_assoc, hle]
theorem own_store {w : World} {base g n cap : Nat} {e : TypeId} {xs : List Et} (h : w.ownsRow base e 3 (.slice (some ⟨g, 0, none⟩) n cap) n (xs.flatMap cells)) {k : Nat} (hk : k < xs.length) (x : Et) :
    (((w.setCell ⟨g, k * 3, none⟩ (.string x.path)).setCell ⟨g, k * 3 + 1, none⟩ (.int .i64 x.node.kind)).setCell ⟨g, k * 3 + 1 + 1, none⟩ (.string x.node.data)).ownsRow base e 3 (.slice (some ⟨g, 0, none⟩) n cap) n ((xs.set k x).flatMap cells) := by
  rw [← flat_set xs k x hk]
  exact own_put (own_put (own_put h _ _) _ _) _ _
end Go.Proofs.YtdkgkomjbpggeaaGreatDoor.Ea

namespace Go.Proofs.YtdkgkomjbpggeaaGreatDoor.Ac
open Go.RowKit Tx Pm Pr Dk
open En (Et tcheck Ents Small)
set_option linter.unusedVariables false
structure Kd {α : Type} (O : World → (Nat → Prop) → α → Prop) : Prop where
  lt : ∀ {w F s}, O w F s → ∀ i, F i → i < w.heap.size
  kept : ∀ {w w1 F s}, O w F s → (∀ i, F i → w1.heap[i]? = w.heap[i]?) → O w1 F s
def Lf {α : Type} (O : World → (Nat → Prop) → α → Prop) (W : World) (F : Nat → Prop) (y : α) (w' : World) : Prop := ∃ F', O w' F' y ∧ Chg F W w' ∧ ∀ g, F' g → F g ∨ W.heap.size ≤ g
abbrev Ob := World → (Nat → Prop) → Ar × Nat → Prop
def KeysTo (w : World) (n : Nat) (P : Prop) (e : Ending) (w' : World) : Prop := ∃ v l, e = .returned v ∧ Texts w' w.heap.size v l ∧ (P → l.length = n) ∧ Below w.heap.size w w'
structure Impl (T : World → Prop) (O : Nat → Nat → Ob) (Cm : Nat → Ob) (Op : Nat → Nat → Ob) : Prop where
  kO : ∀ d u, Kd (O d u)
  kC : ∀ d, Kd (Cm d)
  kP : ∀ d t, Kd (Op d t)
  tk : ∀ {w w' : World}, T w → Below w.heap.size w w' → T w'
  new : ∀ {W}, T W → Calls Tryz.prog 6 #[] W fun e w' => ∃ d F, e = .returned (.pointer (some ⟨d, 0, none⟩)) ∧ Cm d w' F (a0, 0) ∧ (∀ i, F i → W.heap.size ≤ i) ∧ Below W.heap.size W w'
  open_ : ∀ {d W F A k}, T W → Cm d W F (A, k) → k ≤ 2000000 → Calls Tryz.prog 7 #[.pointer (some ⟨d, 0, none⟩), .string ⟨#[115, 121, 115]⟩] W fun e w' => ∃ t, e = .returned (.tuple #[.pointer (some ⟨t, 0, none⟩), .int .i64 0]) ∧ Lf (Op d t) W F (A, k) w'
  begin : ∀ {d t W F A k}, T W → Op d t W F (A, k) → k ≤ 10000000 → Calls Tryz.prog 9 #[.pointer (some ⟨t, 0, none⟩)] W fun e w' => ∃ u, e = .returned (.pointer (some ⟨u, 0, none⟩)) ∧ Lf (O d u) W F (A, k) w'
  save : ∀ {d u W F A k} (i : Int) (a : Option Addr) (n c : Nat) (l : List Et), T W → O d u W F (A, k) → k + bk l ≤ 10000000 → -9223372036854775808 ≤ i ∧ i ≤ 9223372036854775807 → Ents W a n l → n ≤ c → c ≤ 9223372036854775807 → (n = 0 ∨ ∀ x, a = some x → ¬ F x.block) →
    Calls Tryz.prog 11 #[.pointer (some ⟨u, 0, none⟩), .int .i64 i, .slice a n c] W fun e w' => e = .returned (.int .i64 (saveE i l : Nat)) ∧ Lf (O d u) W F (saveI A i l, k + 10000 + bk l) w'
  load : ∀ {d u W F A k} (i : Int), T W → O d u W F (A, k) → k ≤ 10000000 → -9223372036854775808 ≤ i ∧ i ≤ 9223372036854775807 →
    Calls Tryz.prog 22 #[.pointer (some ⟨u, 0, none⟩), .int .i64 i] W fun e w' => ∃ v, e = .returned (.tuple #[v, .int .i64 ((loadI A i).2 : Nat)]) ∧ En.Own w' W.heap.size v (loadI A i).1 ∧ Below W.heap.size W w'
  turn : ∀ {d u W F A k} (i : Nat) (b : Int) (t : List Et), T W → O d u W F (A, k) → k ≤ 10000000 → 1 ≤ i → i ≤ 6 → A.tr i = some t → A.tu i = none → -9223372036854775808 ≤ b ∧ b ≤ 9223372036854775807 →
    Calls Tryz.prog 15 #[.pointer (some ⟨u, 0, none⟩), .int .i64 (i : Int), .int .i64 b] W fun e w' => e = .returned (.int .i64 0) ∧ Lf (O d u) W F (turnA A i b, k + 10000) w'
  back : ∀ {d u W F A k} (i : Nat) (b : Int) (t : List Et), T W → O d u W F (A, k) → k ≤ 10000000 → 1 ≤ i → i ≤ 6 → A.tr i = some t → A.tu i = some b → A.wh = true → -9223372036854775808 ≤ b ∧ b ≤ 9223372036854775807 →
    Calls Tryz.prog 15 #[.pointer (some ⟨u, 0, none⟩), .int .i64 (i : Int), .int .i64 b] W fun e w' => e = .returned (.int .i64 0) ∧ Lf (O d u) W F (backA A i, k + 10000) w'
  turnE : ∀ {d u W F A k} (i b : Int), T W → O d u W F (A, k) → k ≤ 10000000 → -9223372036854775808 ≤ i ∧ i ≤ 9223372036854775807 → -9223372036854775808 ≤ b ∧ b ≤ 9223372036854775807 → (loadI A i).2 = 1 ∨ (loadI A i).2 = 11 →
    Calls Tryz.prog 15 #[.pointer (some ⟨u, 0, none⟩), .int .i64 i, .int .i64 b] W fun e w' => e = .returned (.int .i64 ((loadI A i).2 : Nat)) ∧ Lf (O d u) W F (A, k + 10000) w'
  forget : ∀ {d u W F A k} (i : Int), T W → O d u W F (A, k) → k ≤ 2000000 → -9223372036854775808 ≤ i ∧ i ≤ 9223372036854775807 →
    Calls Tryz.prog 16 #[.pointer (some ⟨u, 0, none⟩), .int .i64 i] W fun e w' => e = .returned (.int .i64 (forgetE i : Nat)) ∧ Lf (O d u) W F (forgetI A i, k + 10000) w'
  commit : ∀ {d u W F A k}, T W → O d u W F (A, k) → k ≤ 2000000 → Calls Tryz.prog 18 #[.pointer (some ⟨u, 0, none⟩)] W fun e w' => e = .returned (.int .i64 0) ∧ Lf (Cm d) W F (A, k + 10000) w'
  keysB : ∀ {d u W F A k}, T W → O d u W F (A, k) → k ≤ 10000000 → Calls Tryz.prog 20 #[.pointer (some ⟨u, 0, none⟩), .string ⟨#[98, 47]⟩] W (KeysTo W (kept A) (well A))
  keysA : ∀ {d u W F A k}, T W → O d u W F (A, k) → k ≤ 10000000 → Calls Tryz.prog 20 #[.pointer (some ⟨u, 0, none⟩), .string ⟨#[97, 47]⟩] W (KeysTo W 0 (∀ j, A.tr j = none))
section
variable {α β : Type} {O : World → (Nat → Prop) → α → Prop} {O' : World → (Nat → Prop) → β → Prop}
theorem lf_below (k : Kd O) {W w' : World} {F : Nat → Prop} {y : α} (h : O W F y) (hb : Below W.heap.size W w') : O w' F y := k.kept h (fun i hi => hb.block i (k.lt h i hi))
def Mine (O : World → (Nat → Prop) → α → Prop) (w0 : World) (y : α) (W : World) : Prop := ∃ F, O W F y ∧ (∀ i, F i → w0.heap.size ≤ i) ∧ Below w0.heap.size w0 W
theorem Mine.bel {w0 W : World} {y : α} (h : Mine O w0 y W) : Below w0.heap.size w0 W := by
  obtain ⟨F, _, _, h⟩ := h
  exact h
theorem Mine.below (k : Kd O) {w0 W w' : World} {y : α} (h : Mine O w0 y W) (hb : Below W.heap.size W w') : Mine O w0 y w' := by
  obtain ⟨F, h1, h2, h3⟩ := h
  exact ⟨F, lf_below k h1 hb, h2, below_call h3 hb⟩
theorem chg_bel {w w1 : World} {F : Nat → Prop} {B : Nat} (hc : Chg F w w1) (hF : ∀ i, F i → B ≤ i) (hB : B ≤ w.heap.size) : Below B w w1 := hc.below hB hF
theorem Mine.left {w0 W w' : World} {F : Nat → Prop} {y : β} (hF : ∀ i, F i → w0.heap.size ≤ i) (hb : Below w0.heap.size w0 W) (h : Lf O' W F y w') : Mine O' w0 y w' := by
  obtain ⟨F', h1, h2, h3⟩ := h
  have hs := hb.size
  refine ⟨F', h1, fun i hi => ?_, hb.trans (chg_bel h2 hF hs)⟩
  rcases h3 i hi with hh | hh
  · exact hF i hh
  · omega
theorem Mine.call {w0 W : World} {y : α} {z : β} {f : FuncId} {args : Array Value} {P : Ending → Prop} (h : Mine O w0 y W) (hc : ∀ F, O W F y → (∀ i, F i → w0.heap.size ≤ i) → Calls Tryz.prog f args W fun e w' => P e ∧ Lf O' W F z w') : Calls Tryz.prog f args W fun e w' => P e ∧ Mine O' w0 z w' := by
  obtain ⟨F, h1, h2, h3⟩ := h
  exact (hc F h1 h2).mono fun e w' hh => ⟨hh.1, Mine.left h2 h3 hh.2⟩
end
end Go.Proofs.YtdkgkomjbpggeaaGreatDoor.Ac

namespace Go.Proofs.YtdkgkomjbpggeaaGreatDoor.Ac
open Go.RowKit Tx Pm Pr Dk
open En (Et tcheck Ents Small)
set_option linter.unusedVariables false
set_option linter.unusedSimpArgs false
set_option linter.unnecessarySimpa false
section
variable {T : World → Prop} {O : Nat → Nat → Ob} {Cm : Nat → Ob} {Op : Nat → Nat → Ob} {w0 W : World} {d t u : Nat} {A : Ar} {k : Nat}
theorem tk0 (hI : Impl T O Cm Op) (hT : T w0) {w : World} (h : Below w0.heap.size w0 w) : T w := hI.tk hT h
theorem mine_new (hI : Impl T O Cm Op) (hT : T w0) (hb : Below w0.heap.size w0 W) : Calls Tryz.prog 6 #[] W fun e w' => ∃ d, e = .returned (.pointer (some ⟨d, 0, none⟩)) ∧ Mine (Cm d) w0 (a0, 0) w' :=
  (hI.new (tk0 hI hT hb)).mono fun e w' ⟨d, F, he, h1, h2, h3⟩ => ⟨d, he, F, h1, (fun i hi => Nat.le_trans hb.size (h2 i hi)), below_call hb h3⟩
theorem mine_open (hI : Impl T O Cm Op) (hT : T w0) (h : Mine (Cm d) w0 (A, k) W) (hk : k ≤ 2000000) : Calls Tryz.prog 7 #[.pointer (some ⟨d, 0, none⟩), .string ⟨#[115, 121, 115]⟩] W fun e w' => ∃ t, e = .returned (.tuple #[.pointer (some ⟨t, 0, none⟩), .int .i64 0]) ∧ Mine (Op d t) w0 (A, k) w' := by
  obtain ⟨F, h1, h2, h3⟩ := h
  exact (hI.open_ (tk0 hI hT h3) h1 hk).mono fun e w' ⟨t, he, hl⟩ => ⟨t, he, Mine.left h2 h3 hl⟩
theorem mine_begin (hI : Impl T O Cm Op) (hT : T w0) (h : Mine (Op d t) w0 (A, k) W) (hk : k ≤ 10000000) : Calls Tryz.prog 9 #[.pointer (some ⟨t, 0, none⟩)] W fun e w' => ∃ u, e = .returned (.pointer (some ⟨u, 0, none⟩)) ∧ Mine (O d u) w0 (A, k) w' := by
  obtain ⟨F, h1, h2, h3⟩ := h
  exact (hI.begin (tk0 hI hT h3) h1 hk).mono fun e w' ⟨t, he, hl⟩ => ⟨t, he, Mine.left h2 h3 hl⟩
theorem mine_load (hI : Impl T O Cm Op) (hT : T w0) (h : Mine (O d u) w0 (A, k) W) (hk : k ≤ 10000000) (i : Int) (hi : -9223372036854775808 ≤ i ∧ i ≤ 9223372036854775807) :
    Calls Tryz.prog 22 #[.pointer (some ⟨u, 0, none⟩), .int .i64 i] W fun e w' => ∃ a c, e = .returned (.tuple #[.slice a (loadI A i).1.length c, .int .i64 ((loadI A i).2 : Nat)]) ∧ Ents w' a (loadI A i).1.length (loadI A i).1 ∧ (loadI A i).1.length ≤ c ∧ Mine (O d u) w0 (A, k) w' ∧ Below W.heap.size W w' := by
  obtain ⟨F, h1, h2, h3⟩ := h
  refine (hI.load i (tk0 hI hT h3) h1 hk hi).mono fun e w' ⟨v, he, ho, hb⟩ => ?_
  obtain ⟨a, c, rfl, g1, g2, _⟩ := ho.form
  exact ⟨a, c, he, g1, g2, ⟨F, lf_below (hI.kO d u) h1 hb, h2, below_call h3 hb⟩, hb⟩
theorem mine_keys (hI : Impl T O Cm Op) (hT : T w0) (h : Mine (O d u) w0 (A, k) W) (hk : k ≤ 10000000) (hw : well A) :
    Calls Tryz.prog 20 #[.pointer (some ⟨u, 0, none⟩), .string ⟨#[98, 47]⟩] W fun e w' => ∃ a c, e = .returned (.slice a (kept A) c) ∧ Mine (O d u) w0 (A, k) w' := by
  obtain ⟨F, h1, h2, h3⟩ := h
  refine (hI.keysB (tk0 hI hT h3) h1 hk).mono fun e w' ⟨v, l, he, ho, hl, hb⟩ => ?_
  have hl := hl hw
  obtain ⟨a, c, rfl⟩ : ∃ a c, v = .slice a l.length c := by
    rcases ho.2 with ⟨hv, h0⟩ | ⟨g, cap, cur, hv, _⟩
    · exact ⟨none, 0, by rw [hv, h0]⟩
    · exact ⟨_, _, hv⟩
  rw [hl] at he
  exact ⟨a, c, he, F, lf_below (hI.kO d u) h1 hb, h2, below_call h3 hb⟩
theorem mine_keysA (hI : Impl T O Cm Op) (hT : T w0) (h : Mine (O d u) w0 (A, k) W) (hk : k ≤ 10000000) (hw : ∀ j, A.tr j = none) :
    Calls Tryz.prog 20 #[.pointer (some ⟨u, 0, none⟩), .string ⟨#[97, 47]⟩] W fun e w' => ∃ a c, e = .returned (.slice a 0 c) ∧ Mine (O d u) w0 (A, k) w' := by
  obtain ⟨F, h1, h2, h3⟩ := h
  refine (hI.keysA (tk0 hI hT h3) h1 hk).mono fun e w' ⟨v, l, he, ho, hl, hb⟩ => ?_
  have hl := hl hw
  obtain ⟨a, c, rfl⟩ : ∃ a c, v = .slice a l.length c := by
    rcases ho.2 with ⟨hv, h0⟩ | ⟨g, cap, cur, hv, _⟩
    · exact ⟨none, 0, by rw [hv, h0]⟩
    · exact ⟨_, _, hv⟩
  rw [hl] at he
  exact ⟨a, c, he, F, lf_below (hI.kO d u) h1 hb, h2, below_call h3 hb⟩
end
end Go.Proofs.YtdkgkomjbpggeaaGreatDoor.Ac

namespace Go.Proofs.YtdkgkomjbpggeaaGreatDoor.Ac
open Go.RowKit Tx Pm Pr Dk
set_option linter.unusedVariables false
theorem new_atA (w : World) (o : Obj) (i : Nat) (h : i = w.heap.size) : (w.alloc o).heap[i]? = some o := by
  subst h
  exact heap_alloc_new w o
section
variable {α β γ : Type} {OA : World → (Nat → Prop) → α → Prop} {OB : World → (Nat → Prop) → β → Prop} {OC : World → (Nat → Prop) → γ → Prop} {w0 W : World} {x : α} {y : β} {z : γ} {q : List (Nat × Obj)}
def Tw (OA : World → (Nat → Prop) → α → Prop) (OB : World → (Nat → Prop) → β → Prop) (w0 : World) (q : List (Nat × Obj)) (x : α) (y : β) (W : World) : Prop :=
  ∃ F G, OA W F x ∧ OB W G y ∧ (∀ i, F i → ¬ G i) ∧ (∀ i, F i ∨ G i → w0.heap.size ≤ i) ∧ Below w0.heap.size w0 W ∧ ∀ p ∈ q, W.heap[p.1]? = some p.2 ∧ ¬ F p.1 ∧ ¬ G p.1
theorem Tw.bel (h : Tw OA OB w0 q x y W) : Below w0.heap.size w0 W := by
  obtain ⟨_, _, _, _, _, _, h, _⟩ := h
  exact h
theorem Tw.turn (h : Tw OA OB w0 q x y W) : Tw OB OA w0 q y x W := by
  obtain ⟨F, G, h1, h2, h3, h4, h5, h6⟩ := h
  exact ⟨G, F, h2, h1, fun i hi hj => h3 i hj hi, fun i hi => h4 i hi.symm, h5, fun p hp => ⟨(h6 p hp).1, (h6 p hp).2.2, (h6 p hp).2.1⟩⟩
theorem Tw.drop {q' : List (Nat × Obj)} (h : Tw OA OB w0 q x y W) (hq : ∀ p ∈ q', p ∈ q) : Tw OA OB w0 q' x y W := by
  obtain ⟨F, G, h1, h2, h3, h4, h5, h6⟩ := h
  exact ⟨F, G, h1, h2, h3, h4, h5, fun p hp => h6 p (hq p hp)⟩
theorem tw_left (kA : Kd OA) (kB : Kd OB) {F G : Nat → Prop} {w' : World} (h1 : OA W F x) (h2 : OB W G y) (h3 : ∀ i, F i → ¬ G i) (h4 : ∀ i, F i ∨ G i → w0.heap.size ≤ i) (h5 : Below w0.heap.size w0 W) (h6 : ∀ p ∈ q, W.heap[p.1]? = some p.2 ∧ ¬ F p.1 ∧ ¬ G p.1) (hl : Lf OC W F z w') : Tw OC OB w0 q z y w' := by
  obtain ⟨F', l1, l2, l3⟩ := hl
  have hs := h5.size
  have hltB := kB.lt h2
  have hkB : ∀ i, G i → w'.heap[i]? = W.heap[i]? := fun i hi => l2.block i (hltB i hi) (fun hf => h3 i hf hi)
  refine ⟨F', G, l1, kB.kept h2 hkB, fun i hi hg => ?_, fun i hi => ?_, h5.trans ⟨l2.os, l2.tape, l2.output, l2.size, fun i hi => l2.block i (Nat.lt_of_lt_of_le hi hs) (fun hf => by have := h4 i (.inl hf); omega)⟩, fun p hp => ?_⟩
  · rcases l3 i hi with hh | hh
    · exact h3 i hh hg
    · have := hltB i hg; omega
  · rcases hi with hi | hi
    · rcases l3 i hi with hh | hh
      · exact h4 i (.inl hh)
      · omega
    · exact h4 i (.inr hi)
  · obtain ⟨q1, q2, q3⟩ := h6 p hp
    have hplt := (Array.getElem?_eq_some_iff.1 q1).1
    exact ⟨(l2.block p.1 hplt q2).trans q1, fun hf => by rcases l3 _ hf with hh | hh; exact q2 hh; omega, q3⟩
theorem Tw.callA (kA : Kd OA) (kB : Kd OB) {f : FuncId} {args : Array Value} {P : Ending → Prop} (h : Tw OA OB w0 q x y W) (hc : ∀ F, OA W F x → (∀ p ∈ q, ¬ F p.1) → (∀ i, F i → w0.heap.size ≤ i) → Calls Tryz.prog f args W fun e w' => P e ∧ Lf OC W F z w') : Calls Tryz.prog f args W fun e w' => P e ∧ Tw OC OB w0 q z y w' := by
  obtain ⟨F, G, h1, h2, h3, h4, h5, h6⟩ := h
  exact (hc F h1 (fun p hp => (h6 p hp).2.1) (fun i hi => h4 i (.inl hi))).mono fun e w' hh => ⟨hh.1, tw_left kA kB h1 h2 h3 h4 h5 h6 hh.2⟩
theorem Tw.callB (kA : Kd OA) (kB : Kd OB) {f : FuncId} {args : Array Value} {P : Ending → Prop} (h : Tw OA OB w0 q x y W) (hc : ∀ F, OB W F y → (∀ p ∈ q, ¬ F p.1) → (∀ i, F i → w0.heap.size ≤ i) → Calls Tryz.prog f args W fun e w' => P e ∧ Lf OC W F z w') : Calls Tryz.prog f args W fun e w' => P e ∧ Tw OA OC w0 q x z w' :=
  (h.turn.callA kB kA hc).mono fun e w' hh => ⟨hh.1, hh.2.turn⟩
theorem Tw.stepB (kA : Kd OA) (kB : Kd OB) {w' : World} (h : Tw OA OB w0 q x y W) (hc : ∀ F, OB W F y → Lf OC W F z w') : Tw OA OC w0 q x z w' := by
  obtain ⟨F, G, h1, h2, h3, h4, h5, h6⟩ := h
  exact (tw_left (x := y) (y := x) kB kA h2 h1 (fun i hi hj => h3 i hj hi) (fun i hi => h4 i hi.symm) h5 (fun p hp => ⟨(h6 p hp).1, (h6 p hp).2.2, (h6 p hp).2.1⟩) (hc G h2)).turn
theorem Tw.below (kA : Kd OA) (kB : Kd OB) {w' : World} (h : Tw OA OB w0 q x y W) (hb : Below W.heap.size W w') : Tw OA OB w0 q x y w' := by
  obtain ⟨F, G, h1, h2, h3, h4, h5, h6⟩ := h
  exact ⟨F, G, kA.kept h1 (fun i hi => hb.block i (kA.lt h1 i hi)), kB.kept h2 (fun i hi => hb.block i (kB.lt h2 i hi)), h3, h4, below_call h5 hb, fun p hp => ⟨(hb.block p.1 (Array.getElem?_eq_some_iff.1 (h6 p hp).1).1).trans (h6 p hp).1, (h6 p hp).2⟩⟩
theorem Tw.box (kA : Kd OA) (kB : Kd OB) (h : Tw OA OB w0 q x y W) (o : Obj) : Tw OA OB w0 ((W.heap.size, o) :: q) x y (W.alloc o) := by
  obtain ⟨F, G, h1, h2, h3, h4, h5, h6⟩ := h
  have hbl := (Below.refl W.heap.size W).alloc (Nat.le_refl _) o
  refine ⟨F, G, kA.kept h1 (fun i hi => hbl.block i (kA.lt h1 i hi)), kB.kept h2 (fun i hi => hbl.block i (kB.lt h2 i hi)), h3, h4, below_call h5 hbl, fun p hp => ?_⟩
  rcases List.mem_cons.1 hp with rfl | hp
  · exact ⟨new_atA W o _ rfl, fun hf => by have := kA.lt h1 _ hf; exact absurd this (Nat.lt_irrefl _), fun hf => by have := kB.lt h2 _ hf; exact absurd this (Nat.lt_irrefl _)⟩
  · exact ⟨(hbl.block p.1 (Array.getElem?_eq_some_iff.1 (h6 p hp).1).1).trans (h6 p hp).1, (h6 p hp).2⟩
theorem Tw.row (kA : Kd OA) (kB : Kd OB) {w' : World} {g : Nat} {o : Obj} (h : Tw OA OB w0 q x y W) (hb : Below W.heap.size W w') (hg : W.heap.size ≤ g) (ho : w'.heap[g]? = some o) : Tw OA OB w0 ((g, o) :: q) x y w' := by
  obtain ⟨F, G, h1, h2, h3, h4, h5, h6⟩ := h
  refine ⟨F, G, kA.kept h1 (fun i hi => hb.block i (kA.lt h1 i hi)), kB.kept h2 (fun i hi => hb.block i (kB.lt h2 i hi)), h3, h4, below_call h5 hb, fun p hp => ?_⟩
  rcases List.mem_cons.1 hp with rfl | hp
  · exact ⟨ho, fun hf => by have := kA.lt h1 _ hf; exact absurd hg (Nat.not_le.2 this), fun hf => by have := kB.lt h2 _ hf; exact absurd hg (Nat.not_le.2 this)⟩
  · exact ⟨(hb.block p.1 (Array.getElem?_eq_some_iff.1 (h6 p hp).1).1).trans (h6 p hp).1, (h6 p hp).2⟩
theorem Tw.at {p : Nat × Obj} (h : Tw OA OB w0 q x y W) (hp : p ∈ q) : W.heap[p.1]? = some p.2 := by
  obtain ⟨_, _, _, _, _, _, _, h6⟩ := h
  exact (h6 _ hp).1
end
end Go.Proofs.YtdkgkomjbpggeaaGreatDoor.Ac

namespace Go.Proofs.YtdkgkomjbpggeaaGreatDoor.Ac
open Go.RowKit Tx Pm Pr Dk
open En (Et tcheck Ents Small)
set_option linter.unusedVariables false
theorem Ents.on {w w1 : World} {a : Option Addr} {n : Nat} {l : List Et} {G : Nat → Prop} (h : Ents w a n l) (hG : n = 0 ∨ ∀ x, a = some x → G x.block) (hk : ∀ i, G i → w1.heap[i]? = w.heap[i]?) : Ents w1 a n l := by
  refine ⟨h.1, ?_⟩
  rcases h.2 with h0 | ⟨b, off, ha, hb, hc⟩
  · exact .inl h0
  · by_cases h0 : n = 0
    · exact .inl h0
    · have hg := hG.resolve_left h0 _ ha
      have he := hk b hg
      refine .inr ⟨b, off, ha, ?_, fun k x hx => ?_⟩
      · have h1 : w.heap[b]? = some (w.heap[b]'hb) := Array.getElem?_eq_getElem hb
        rw [← he] at h1
        exact (Array.getElem?_eq_some_iff.1 h1).1
      · obtain ⟨c0, c1, c2⟩ := hc k x hx
        have key : ∀ o, w1.cell? ⟨b, o, none⟩ = w.cell? ⟨b, o, none⟩ := fun o => World.cell?_of_block (a := ⟨b, o, none⟩) he
        exact ⟨(key _).trans c0, (key _).trans c1, (key _).trans c2⟩
structure RefX (ba : Nat) (w : World) (G : Nat → Prop) (A : Ar) : Prop where
  cells : ∃ v : Nat → Value, (∀ i, i < 7 → w.cell? ⟨ba, i, none⟩ = some (v i) ∧ w.cell? ⟨ba, 7 + i, none⟩ = some (.bool (A.tr i).isSome) ∧ w.cell? ⟨ba, 14 + i, none⟩ = some (.bool (A.tu i).isSome)) ∧
    ∀ i t, i < 7 → A.tr i = some t → ∃ a c, v i = .slice a t.length c ∧ Ents w a t.length t ∧ t.length ≤ c ∧ (t.length = 0 ∨ ∀ x, a = some x → G x.block ∧ x.block ≠ ba)
  warm : ∀ k, w.frozen? ⟨ba, k, none⟩ = false
  self : G ba
  low : ∀ i, G i → i < w.heap.size
theorem frozen_of_block {w w1 : World} {b k : Nat} (h : w1.heap[b]? = w.heap[b]?) : w1.frozen? ⟨b, k, none⟩ = w.frozen? ⟨b, k, none⟩ := by
  unfold World.frozen?
  rw [h]
theorem kd_ref (ba : Nat) : Kd (RefX ba) where
  lt := fun h => h.low
  kept := fun {w w1 G A} h hk => by
    obtain ⟨v, h1, h2⟩ := h.cells
    have hb := hk ba h.self
    refine ⟨⟨v, fun i hi => ?_, fun i t hi ht => ?_⟩, fun k => (frozen_of_block hb).trans (h.warm k), h.self, fun i hi => ?_⟩
    · obtain ⟨c0, c1, c2⟩ := h1 i hi
      have key : ∀ o, w1.cell? ⟨ba, o, none⟩ = w.cell? ⟨ba, o, none⟩ := fun o => World.cell?_of_block (a := ⟨ba, o, none⟩) hb
      exact ⟨(key _).trans c0, (key _).trans c1, (key _).trans c2⟩
    · obtain ⟨a, c, e1, e2, e3, e4⟩ := h2 i t hi ht
      exact ⟨a, c, e1, Ents.on e2 (e4.imp id (fun h x hx => (h x hx).1)) hk, e3, e4⟩
    · have hl := h.low i hi
      have h1 : w.heap[i]? = some (w.heap[i]'hl) := Array.getElem?_eq_getElem hl
      rw [← hk i hi] at h1
      exact (Array.getElem?_eq_some_iff.1 h1).1
end Go.Proofs.YtdkgkomjbpggeaaGreatDoor.Ac

namespace Go.Proofs.YtdkgkomjbpggeaaGreatDoor.Ac
open Go.RowKit Tx Pm Pr Dk
open En (Et tcheck Ents Small)
set_option linter.unusedVariables false
set_option linter.unusedSimpArgs false
set_option linter.unnecessarySimpa false
set_option maxRecDepth 100000 in
theorem may_any (i : Int) (w : World) : Calls Tryz.prog 37 #[.int .i64 i] w fun e w' => e = .returned (.bool (may i)) ∧ w' = w := by
  by_cases h1 : 1 ≤ i
  · by_cases h2 : i ≤ 6
    · have e := may_yes h1 h2
      go_enter Tryz.func37, Tryz.ntmps37
      go_wp2_with fail
      go_ret
      exact ⟨by first | rfl | (rw [e]; rfl), rfl⟩
    · have e := may_no (i := i) (fun h => h2 h.2)
      go_enter Tryz.func37, Tryz.ntmps37
      go_wp2_with fail
      go_ret
      exact ⟨by first | rfl | (rw [e]; rfl), rfl⟩
  · have e := may_no (i := i) (fun h => h1 h.1)
    go_enter Tryz.func37, Tryz.ntmps37
    go_wp2_with fail
    go_ret
    exact ⟨by first | rfl | (rw [e]; rfl), rfl⟩
def LoadTo (r : List Et × Nat) (w : World) (e : Ending) (w' : World) : Prop := ∃ a c, e = .returned (.tuple #[.slice a r.1.length c, .int .i64 (r.2 : Nat)]) ∧ Ents w' a r.1.length r.1 ∧ r.1.length ≤ c ∧ Below w.heap.size w w'
theorem load_nil {r : List Et × Nat} {e : Nat} {w : World} (h : r = ([], e)) {w' : World} (hb : Below w.heap.size w w') : LoadTo r w (.returned (.tuple #[.slice none 0 0, .int .i64 (e : Nat)])) w' := by
  subst h
  exact ⟨none, 0, rfl, ⟨rfl, .inl rfl⟩, Nat.le_refl _, hb⟩
set_option maxRecDepth 100000 in
set_option maxHeartbeats 2000000 in
theorem rLoad_any (ba : Nat) (i : Int) {G : Nat → Prop} {A : Ar} (w : World) (h : RefX ba w G A) : Calls Tryz.prog 14 #[.pointer (some ⟨ba, 0, none⟩), .int .i64 i] w (LoadTo (loadI A i) w) := by
  have c1 := may_any i w
  cases hm : may i with
  | false =>
    have e : loadI A i = ([], 1) := by unfold loadI; rw [hm]; rfl
    rw [hm] at c1
    have E := Lib.hid e
    clear h e
    go_enter Tryz.func14, Tryz.ntmps14
    go_wp2_with fail
    go_at_call 37
    refine c1.mono ?_
    rintro e w1 ⟨rfl, rfl⟩
    go_wp2_with fail
    go_ret2
    exact load_nil E.out (Below.refl _ _)
  | true =>
    obtain ⟨k, rfl, k1, k2⟩ := may_nat hm
    obtain ⟨v, hv, ht⟩ := h.cells
    obtain ⟨d0, d1, d2⟩ := hv k (by omega)
    have e0 : loadI A (k : Int) = loadA A k := by unfold loadI; rw [if_pos hm]; rfl
    have hk7 : (k : Int) < 7 := by omega
    have hk0 : ¬ (k : Int) < 0 := by omega
    rw [hm] at c1
    cases hA : A.tr k with
    | none =>
      have e1 : loadI A (k : Int) = ([], 11) := by rw [e0]; unfold loadA; rw [hA]
      have E := Lib.hid e1
      rw [hA] at d1
      change w.cell? _ = some (.bool false) at d1
      clear h e0 e1 hv ht hA hm
      go_enter Tryz.func14, Tryz.ntmps14
      go_wp2_with fail
      go_at_call 37
      refine c1.mono ?_
      rintro e w1 ⟨rfl, rfl⟩
      go_wp2_with fail
      go_ret2
      exact load_nil E.out (Below.refl _ _)
    | some t =>
      obtain ⟨a, c, hva, hen, hlc, _⟩ := ht k t (by omega) hA
      rw [hA] at d1
      change w.cell? _ = some (.bool true) at d1
      cases hT : (A.tu k).isSome with
      | true =>
        have e1 : loadI A (k : Int) = ([], 6) := by rw [e0]; unfold loadA; rw [hA]; simp only [hT, if_true]
        have E := Lib.hid e1
        rw [hT] at d2
        clear h e0 e1 hv ht hA hm hT
        go_enter Tryz.func14, Tryz.ntmps14
        go_wp2_with fail
        go_at_call 37
        refine c1.mono ?_
        rintro e w1 ⟨rfl, rfl⟩
        go_wp2_with fail
        go_ret2
        exact load_nil E.out (Below.refl _ _)
      | false =>
        have e1 : loadI A (k : Int) = (t, 0) := by rw [e0]; unfold loadA; rw [hA]; simp [hT]
        have E := Lib.hid e1
        rw [hT] at d2
        rw [hva] at d0
        have HEN := Lib.hid (And.intro hen hlc)
        clear h e0 e1 hv ht hA hm hT hen hlc hva
        go_enter Tryz.func14, Tryz.ntmps14
        go_wp2_with fail
        go_at_call 37
        refine c1.mono ?_
        rintro e w1 ⟨rfl, rfl⟩
        go_wp2_with fail
        go_ret2
        rw [E.out]
        exact ⟨a, c, rfl, HEN.out.1, HEN.out.2, Below.refl _ _⟩
end Go.Proofs.YtdkgkomjbpggeaaGreatDoor.Ac

namespace Go.Proofs.YtdkgkomjbpggeaaGreatDoor.Ac
open Go.RowKit Tx Pm Pr Dk
open En (Et tcheck Ents Small)
set_option linter.unusedVariables false
set_option linter.unusedSimpArgs false
set_option linter.unnecessarySimpa false
def Cf (ba : Nat) (w : World) (f : Nat → Value) : Prop := ∀ o, o < 21 → w.cell? ⟨ba, o, none⟩ = some (f o)
theorem Cf.set {ba : Nat} {w : World} {f : Nat → Value} (h : Cf ba w f) (k : Nat) (u : Value) : Cf ba (w.setCell ⟨ba, k, none⟩ u) (fun o => if o = k then u else f o) := by
  intro o ho
  by_cases e : o = k
  · subst e
    show _ = some (if o = o then u else f o)
    rw [if_pos rfl]
    exact World.cell?_setCell_same _ _ _ (h o ho)
  · show _ = some (if o = k then u else f o)
    rw [if_neg e, ← h o ho]
    exact World.cell?_setCell_other _ _ _ _ (fun hh => by injection hh with _ hh _; exact e hh.symm)
theorem RefX.fn {ba : Nat} {w : World} {G : Nat → Prop} {A : Ar} (h : RefX ba w G A) : ∃ f, Cf ba w f ∧ (∀ i, i < 7 → f (7 + i) = .bool (A.tr i).isSome ∧ f (14 + i) = .bool (A.tu i).isSome) ∧
    ∀ i t, i < 7 → A.tr i = some t → ∃ a c, f i = .slice a t.length c ∧ Ents w a t.length t ∧ t.length ≤ c ∧ (t.length = 0 ∨ ∀ x, a = some x → G x.block ∧ x.block ≠ ba) := by
  obtain ⟨v, h1, h2⟩ := h.cells
  refine ⟨fun o => if o < 7 then v o else if o < 14 then .bool (A.tr (o - 7)).isSome else .bool (A.tu (o - 14)).isSome, fun o ho => ?_, fun i hi => ⟨?_, ?_⟩, fun i t hi ht => ?_⟩
  · show _ = some (if o < 7 then v o else if o < 14 then .bool (A.tr (o - 7)).isSome else .bool (A.tu (o - 14)).isSome)
    by_cases e1 : o < 7
    · rw [if_pos e1]
      exact (h1 o e1).1
    · by_cases e2 : o < 14
      · rw [if_neg e1, if_pos e2]
        have := (h1 (o - 7) (by omega)).2.1
        rwa [show 7 + (o - 7) = o by omega] at this
      · rw [if_neg e1, if_neg e2]
        have := (h1 (o - 14) (by omega)).2.2
        rwa [show 14 + (o - 14) = o by omega] at this
  · show (if 7 + i < 7 then v (7 + i) else if 7 + i < 14 then .bool (A.tr (7 + i - 7)).isSome else .bool (A.tu (7 + i - 14)).isSome) = _
    rw [if_neg (by omega), if_pos (by omega), show 7 + i - 7 = i by omega]
  · show (if 14 + i < 7 then v (14 + i) else if 14 + i < 14 then .bool (A.tr (14 + i - 7)).isSome else .bool (A.tu (14 + i - 14)).isSome) = _
    rw [if_neg (by omega), if_neg (by omega), show 14 + i - 14 = i by omega]
  · obtain ⟨a, c, e, hh⟩ := h2 i t hi ht
    exact ⟨a, c, by show (if i < 7 then v i else _) = _; rw [if_pos hi, e], hh⟩
theorem RefX.of {ba : Nat} {w : World} {G : Nat → Prop} {A : Ar} {f : Nat → Value} (h : Cf ba w f) (hb : ∀ i, i < 7 → f (7 + i) = .bool (A.tr i).isSome ∧ f (14 + i) = .bool (A.tu i).isSome)
    (ht : ∀ i t, i < 7 → A.tr i = some t → ∃ a c, f i = .slice a t.length c ∧ Ents w a t.length t ∧ t.length ≤ c ∧ (t.length = 0 ∨ ∀ x, a = some x → G x.block ∧ x.block ≠ ba)) (hw : ∀ k, w.frozen? ⟨ba, k, none⟩ = false) (hs : G ba) (hl : ∀ i, G i → i < w.heap.size) : RefX ba w G A :=
  ⟨⟨f, fun i hi => ⟨h i (by omega), by rw [h (7 + i) (by omega), (hb i hi).1], by rw [h (14 + i) (by omega), (hb i hi).2]⟩, ht⟩, hw, hs, hl⟩
theorem set_otherA {w : World} {b k i : Nat} (u : Value) (h : i ≠ b) : (w.setCell ⟨b, k, none⟩ u).heap[i]? = w.heap[i]? := Below.heap_setCell w ⟨b, k, none⟩ u i h
theorem chg_setA {w : World} {b k : Nat} (u : Value) : Chg (· = b) w (w.setCell ⟨b, k, none⟩ u) := ⟨rfl, rfl, rfl, by simp, fun i _ hi => set_otherA u hi⟩
theorem ents_set {w : World} {ba k : Nat} {a : Option Addr} {n : Nat} {l : List Et} (u : Value) (h : Ents w a n l) (hne : n = 0 ∨ ∀ x, a = some x → x.block ≠ ba) : Ents (w.setCell ⟨ba, k, none⟩ u) a n l :=
  Ents.on (G := fun i => i ≠ ba) h hne (fun i hi => set_otherA u hi)
theorem forgot {ba k : Nat} {w : World} {G : Nat → Prop} {A : Ar} (h : RefX ba w G A) (hk : k < 7) : Lf (RefX ba) w G (forgetA A k) ((w.setCell ⟨ba, 7 + k, none⟩ (.bool false)).setCell ⟨ba, 14 + k, none⟩ (.bool false)) := by
  obtain ⟨f, h1, h2, h3⟩ := h.fn
  refine ⟨G, RefX.of ((h1.set (7 + k) (.bool false)).set (14 + k) (.bool false)) (fun i hi => ⟨?_, ?_⟩) (fun i t hi ht => ?_) (fun j => ?_) h.self (fun i hi => ?_), ?_, fun g hg => .inl hg⟩
  · show (if 7 + i = 14 + k then Value.bool false else if 7 + i = 7 + k then .bool false else f (7 + i)) = .bool (upd A.tr k none i).isSome
    rw [if_neg (by omega)]
    unfold upd
    by_cases e : i = k
    · rw [if_pos (by omega), if_pos e]; rfl
    · rw [if_neg (by omega), if_neg e]; exact (h2 i hi).1
  · show (if 14 + i = 14 + k then Value.bool false else if 14 + i = 7 + k then .bool false else f (14 + i)) = .bool (upd A.tu k none i).isSome
    unfold upd
    by_cases e : i = k
    · rw [if_pos (by omega), if_pos e]; rfl
    · rw [if_neg (by omega), if_neg (by omega), if_neg e]; exact (h2 i hi).2
  · have ht : upd A.tr k none i = some t := ht
    unfold upd at ht
    split at ht
    · cases ht
    · obtain ⟨a, c, e1, e2, e3, e4⟩ := h3 i t hi ht
      refine ⟨a, c, ?_, ?_, e3, e4⟩
      · show (if i = 14 + k then Value.bool false else if i = 7 + k then .bool false else f i) = _
        rw [if_neg (by omega), if_neg (by omega)]
        exact e1
      · exact ents_set _ (ents_set _ e2 (e4.imp id (fun h x hx => (h x hx).2))) (e4.imp id (fun h x hx => (h x hx).2))
  · simp [h.warm]
  · have := h.low i hi
    simpa using this
  · exact (chg_setA _).trans (chg_setA _) (fun i hi => .inl hi) |>.mono (fun i hi => by rw [hi]; exact h.self)
theorem saved {ba k : Nat} {w w1 : World} {G : Nat → Prop} {A : Ar} {v : Value} {t : List Et} (h : RefX ba w G A) (hk : k < 7) (hb : Below w.heap.size w w1) (ho : En.Own w1 w.heap.size v t) :
    Lf (RefX ba) w G (saveA A k t) (((w1.setCell ⟨ba, k, none⟩ v).setCell ⟨ba, 7 + k, none⟩ (.bool true)).setCell ⟨ba, 14 + k, none⟩ (.bool false)) := by
  have hG := (kd_ref ba).kept h (fun i hi => hb.block i (h.low i hi))
  obtain ⟨f, h1, h2, h3⟩ := hG.fn
  obtain ⟨a0, c0, hv, he, hlc, _⟩ := ho.form
  have hbl := h.low ba h.self
  have hblk : ∀ x, a0 = some x → w.heap.size ≤ x.block ∧ x.block < w1.heap.size := fun x hx => by
    subst hx
    rw [hv] at ho
    exact ho.lt x.block rfl
  have hne : t.length = 0 ∨ ∀ x, a0 = some x → x.block ≠ ba := .inr (fun x hx e => by have := (hblk x hx).1; omega)
  have hall : ∀ (i : Nat) (v0 : Value), i < 7 → (if i = 14 + k then Value.bool false else if i = 7 + k then .bool true else if i = k then v0 else f i) = if i = k then v0 else f i := fun i v0 hi => by rw [if_neg (by omega), if_neg (by omega)]
  refine ⟨fun i => G i ∨ ∃ x, a0 = some x ∧ i = x.block, RefX.of (((h1.set k v).set (7 + k) (.bool true)).set (14 + k) (.bool false)) (fun i hi => ⟨?_, ?_⟩) (fun i u hi hu => ?_) (fun j => ?_) (.inl h.self) (fun i hi => ?_), ?_, fun i hi => ?_⟩
  · show (if 7 + i = 14 + k then Value.bool false else if 7 + i = 7 + k then .bool true else if 7 + i = k then v else f (7 + i)) = .bool (upd A.tr k (some t) i).isSome
    rw [if_neg (by omega)]
    unfold upd
    by_cases e : i = k
    · rw [if_pos (by omega), if_pos e]; rfl
    · rw [if_neg (by omega), if_neg (by omega), if_neg e]; exact (h2 i hi).1
  · show (if 14 + i = 14 + k then Value.bool false else if 14 + i = 7 + k then .bool true else if 14 + i = k then v else f (14 + i)) = .bool (upd A.tu k none i).isSome
    unfold upd
    by_cases e : i = k
    · rw [if_pos (by omega), if_pos e]; rfl
    · rw [if_neg (by omega), if_neg (by omega), if_neg (by omega), if_neg e]; exact (h2 i hi).2
  · have hu2 : upd A.tr k (some t) i = some u := hu
    unfold upd at hu2
    split at hu2
    · rename_i e
      subst e
      injection hu2 with hu2
      subst hu2
      refine ⟨a0, c0, ?_, ents_set _ (ents_set _ (ents_set _ he hne) hne) hne, hlc, .inr fun x hx => ⟨.inr ⟨x, hx, rfl⟩, fun e => by have := (hblk x hx).1; omega⟩⟩
      exact (hall i v hi).trans (by rw [if_pos rfl]; exact hv)
    · rename_i e
      obtain ⟨a, c, e1, e2, e3, e4⟩ := h3 i u hi hu2
      have hn := e4.imp id (fun h x hx => (h x hx).2)
      refine ⟨a, c, ?_, ents_set _ (ents_set _ (ents_set _ e2 hn) hn) hn, e3, e4.imp id (fun h x hx => ⟨.inl (h x hx).1, (h x hx).2⟩)⟩
      exact (hall i v hi).trans (by rw [if_neg e]; exact e1)
  · simp [hG.warm]
  · have : i < w1.heap.size := by
      rcases hi with hi | ⟨x, hx, rfl⟩
      · exact Nat.lt_of_lt_of_le (h.low i hi) hb.size
      · exact (hblk x hx).2
    simpa using this
  · exact (Chg.of_below hb).trans ((((chg_setA _).trans (chg_setA _) (fun i hi => .inl hi)).trans (chg_setA _) (fun i hi => .inl hi)).mono (fun i hi => by rw [hi]; exact h.self)) (fun i hi => .inl hi)
  · rcases hi with hi | ⟨x, hx, rfl⟩
    · exact .inl hi
    · exact .inr (hblk x hx).1
end Go.Proofs.YtdkgkomjbpggeaaGreatDoor.Ac

namespace Go.Proofs.YtdkgkomjbpggeaaGreatDoor.Rg
open Go.RowKit
set_option linter.unusedVariables false
def Only (R : Act → World → Prop) : Exit → Act → World → Prop
  | .normal, a, w => R a w
  | _, _, _ => False
theorem wp_only {P : Program} {c : Code} {Q : Exit → Act → World → Prop} {R : Act → World → Prop} {a : Act} {w : World} (hR : ∀ a w, R a w → Q .normal a w) (h : c.wp P (Only R) a w) : c.wp P Q a w :=
  Code.wp_mono (fun e a w h => by cases e <;> first | exact hR _ _ h | exact (h : False).elim) h
def regOps (n : Nat) : Code → Option (Array Oper)
  | .region id ops _ => if id = n then some ops else none
  | .seq a b => (match regOps n a with | some x => some x | none => regOps n b)
  | .cond _ a b => (match regOps n a with | some x => some x | none => regOps n b)
  | .block _ a => regOps n a
  | .loop a => regOps n a
  | .scope a => regOps n a
  | .rangeFunc _ _ a b => (match regOps n a with | some x => some x | none => regOps n b)
  | _ => none
def opsOf (f : Func) (n : Nat) : Array Oper := match f.body with | some c => (regOps n c).getD #[] | none => #[]
def opOf (ops : Array Oper) (i : Nat) : Oper := (ops[i]?).getD default
section
variable {P : Program} {ops : Array Oper} {R : Act → World → Prop} {S : World → Prop}
theorem opOf_some {i : Nat} (h : decide (i < ops.size) = true) : ops[i]? = some (opOf ops i) := by
  have h := of_decide_eq_true h
  rw [opOf, Array.getElem?_eq_getElem h]
  rfl
theorem take (i : Nat) (d : Option Tmp) (v : Value) {fuel : Nat} {listed : Array Bool} {a : Act} {w : World} (hs : Region.noSelect ops = true)
    (hi : decide (i < ops.size) = true) (hd : (opOf ops i).dst = d) (hf : Region.free .any ops listed i = true) (hr : (Region.ready .any ops listed).contains i = true)
    (hw : Region.wanted (opOf ops i) (yielded ops a.tmps) = true) (hS : S w)
    (hy : ∀ w, S w → (execOp a.eval (opOf ops i)).run P w = .ok (.value v) w)
    (h : wpAnyH P .any ops (Only R) S fuel (listed.setIfInBounds i true) (a.put d v) w) : wpAnyH P .any ops (Only R) S (fuel + 1) listed a w := by
  subst hd
  exact wpAnyH_take (opOf_some hi) hs hf hr (fun _ _ _ h => h) (Or.inl ⟨hw, hy⟩) hS h
theorem takek (i : Nat) (d : Option Tmp) (v : Value) {fuel : Nat} {listed : Array Bool} {a : Act} {w : World} (hs : Region.noSelect ops = true) (hS : S w) (hy : ∀ w, S w → (execOp a.eval (opOf ops i)).run P w = .ok (.value v) w) (h : wpAnyH P .any ops (Only R) S fuel (listed.setIfInBounds i true) (a.put d v) w) (hi : decide (i < ops.size) = true := by kernel_rfl) (hd : (opOf ops i).dst = d := by kernel_rfl) (hf : Region.free .any ops listed i = true := by kernel_rfl) (hr : (Region.ready .any ops listed).contains i = true := by kernel_rfl) (hw : Region.wanted (opOf ops i) (yielded ops a.tmps) = true := by kernel_rfl) : wpAnyH P .any ops (Only R) S (fuel + 1) listed a w := take i d v hs hi hd hf hr hw hS hy h
theorem skip (i : Nat) (d : Option Tmp) {fuel : Nat} {listed : Array Bool} {a : Act} {w : World} (hs : Region.noSelect ops = true)
    (hi : decide (i < ops.size) = true) (hd : (opOf ops i).dst = d) (hf : Region.free .any ops listed i = true) (hr : (Region.ready .any ops listed).contains i = true)
    (hw : Region.wanted (opOf ops i) (yielded ops a.tmps) = false) (hS : S w)
    (h : wpAnyH P .any ops (Only R) S fuel (listed.setIfInBounds i true) (a.put d undef) w) : wpAnyH P .any ops (Only R) S (fuel + 1) listed a w := by
  subst hd
  exact wpAnyH_take (opOf_some hi) hs hf hr (fun _ _ _ h => h) (Or.inr ⟨hw, rfl⟩) hS h
theorem skipk (i : Nat) (d : Option Tmp) {fuel : Nat} {listed : Array Bool} {a : Act} {w : World} (hs : Region.noSelect ops = true) (hS : S w) (h : wpAnyH P .any ops (Only R) S fuel (listed.setIfInBounds i true) (a.put d undef) w) (hi : decide (i < ops.size) = true := by kernel_rfl) (hd : (opOf ops i).dst = d := by kernel_rfl) (hf : Region.free .any ops listed i = true := by kernel_rfl) (hr : (Region.ready .any ops listed).contains i = true := by kernel_rfl) (hw : Region.wanted (opOf ops i) (yielded ops a.tmps) = false := by kernel_rfl) : wpAnyH P .any ops (Only R) S (fuel + 1) listed a w := skip i d hs hi hd hf hr hw hS h
theorem enters {f : FuncId} {fn : Func} (hf : P.funcs[f]? = some fn) (hn : (fn.name == "runtime.NumGoroutine") = false) (hb : fn.body.isNone = false) (args : Array Value) (w : World) : (callFunc f args).run P w = .ok (.enter f args) w := by
  have h1 : fn.name ≠ "runtime.NumGoroutine" := by simpa using hn
  have h2 : fn.body ≠ none := fun h => by rw [h] at hb; cases hb
  simp [callFunc, hf, h1, h2]
theorem entersk {f : FuncId} {fn : Func} (hf : P.funcs[f]? = some fn) (args : Array Value) (w : World) (hn : (fn.name == "runtime.NumGoroutine") = false := by kernel_rfl) (hb : fn.body.isNone = false := by kernel_rfl) : (callFunc f args).run P w = .ok (.enter f args) w := enters hf hn hb args w
theorem call (i : Nat) (d : Option Tmp) (f : FuncId) (args : Array Value) {fn : Func} {xs : Array Operand} {ats : Array TypeId} {fuel : Nat} {listed : Array Bool} {a : Act} {w : World}
    (hi : decide (i < ops.size) = true) (hd : (opOf ops i).dst = d) (hr : Region.ready .any ops listed = [i])
    (hw : Region.wanted (opOf ops i) (yielded ops a.tmps) = true) (ho : (opOf ops i).op = .call { callee := .value (.func f), args := xs, argTypes := ats })
    (hf : P.funcs[f]? = some fn) (hn : (fn.name == "runtime.NumGoroutine") = false) (hb : fn.body.isNone = false) (hx : xs.map a.eval = args)
    (h : Calls P f args w fun e w' => ∃ v, e = .returned v ∧ S w' ∧ (S w' → wpAnyH P .any ops (Only R) S fuel (listed.setIfInBounds i true) (a.put d v) w')) :
    wpAnyH P .any ops (Only R) S (fuel + 1) listed a w := by
  subst hd
  refine wpAnyH_all hr (by simp) fun j hj => ?_
  obtain rfl : j = i := by simpa using hj
  unfold wpOp
  rw [opOf_some hi]
  simp only [hw, if_true]
  refine .inl ?_
  have he : execOp a.eval (opOf ops j) = callFunc f args := by
    rw [← hx]
    generalize opOf ops j = o at ho
    obtain ⟨dst, op, ty, pos, after, guard⟩ := o
    subst ho
    have := execOp_call_go a dst f xs ats ty pos after guard
    simpa using this
  unfold Oper.wp
  rw [he, enters hf hn hb]
  refine Calls.mono h fun e w' hh => ?_
  obtain ⟨v, rfl, hS, hh⟩ := hh
  exact ⟨hS, hh hS⟩
theorem callk (i : Nat) (d : Option Tmp) (f : FuncId) (args : Array Value) {fn : Func} {xs : Array Operand} {ats : Array TypeId} {fuel : Nat} {listed : Array Bool} {a : Act} {w : World} (hf : P.funcs[f]? = some fn) (h : Calls P f args w fun e w' => ∃ v, e = .returned v ∧ S w' ∧ (S w' → wpAnyH P .any ops (Only R) S fuel (listed.setIfInBounds i true) (a.put d v) w')) (hi : decide (i < ops.size) = true := by kernel_rfl) (hd : (opOf ops i).dst = d := by kernel_rfl) (hr : Region.ready .any ops listed = [i] := by kernel_rfl) (hw : Region.wanted (opOf ops i) (yielded ops a.tmps) = true := by kernel_rfl) (ho : (opOf ops i).op = .call { callee := .value (.func f), args := xs, argTypes := ats } := by kernel_rfl) (hn : (fn.name == "runtime.NumGoroutine") = false := by kernel_rfl) (hb : fn.body.isNone = false := by kernel_rfl) (hx : xs.map a.eval = args := by kernel_rfl) : wpAnyH P .any ops (Only R) S (fuel + 1) listed a w := call i d f args hi hd hr hw ho hf hn hb hx h
theorem done {fuel : Nat} {listed : Array Bool} {a : Act} {w : World} (hr : Region.ready .any ops listed = []) (h : R a w) : wpAnyH P .any ops (Only R) S fuel listed a w :=
  wpAnyH_done hr h fuel
theorem donek {fuel : Nat} {listed : Array Bool} {a : Act} {w : World} (h : R a w) (hr : Region.ready .any ops listed = [] := by kernel_rfl) : wpAnyH P .any ops (Only R) S fuel listed a w := done hr h
theorem y_move {o : Oper} {a : Act} {x : Operand} {v : Value} (ho : o.op = .move x ∨ o.op = .assign x) (hv : a.eval x = v) : ∀ w, S w → (execOp a.eval o).run P w = .ok (.value v) w := by
  intro w _
  obtain ⟨dst, op, ty, pos, after, guard⟩ := o
  rcases ho with ho | ho <;> (simp only at ho; subst ho; rw [← hv]; rfl)
theorem y_movekL {o : Oper} {a : Act} {x : Operand} {v : Value} (ho : o.op = .move x := by kernel_rfl) (hv : a.eval x = v := by kernel_rfl) : ∀ w, S w → (execOp a.eval o).run P w = .ok (.value v) w := y_move (Or.inl ho) hv
theorem y_movekR {o : Oper} {a : Act} {x : Operand} {v : Value} (ho : o.op = .assign x := by kernel_rfl) (hv : a.eval x = v := by kernel_rfl) : ∀ w, S w → (execOp a.eval o).run P w = .ok (.value v) w := y_move (Or.inr ho) hv
theorem y_bin {o : Oper} {a : Act} {b : BinOp} {T R' : TypeId} {x y : Operand} {vx vy v : Value} (ho : o.op = .binOp b T x y R') (hx : a.eval x = vx) (hy : a.eval y = vy)
    (hv : ∀ w, S w → (do eqGuard b T x y vx vy; binOp b T vx vy : Sem Value).run P w = .ok v w) : ∀ w, S w → (execOp a.eval o).run P w = .ok (.value v) w := by
  intro w hw
  obtain ⟨dst, op, ty, pos, after, guard⟩ := o
  simp only at ho
  subst ho
  have := hv w hw
  simp only [execOp, hx, hy]
  simp only [Sem.run_bind] at this ⊢
  rw [this]
  rfl
theorem y_bink {o : Oper} {a : Act} {b : BinOp} {T R' : TypeId} {x y : Operand} {vx vy v : Value} (hv : ∀ w, S w → (do eqGuard b T x y vx vy; binOp b T vx vy : Sem Value).run P w = .ok v w) (ho : o.op = .binOp b T x y R' := by kernel_rfl) (hx : a.eval x = vx := by kernel_rfl) (hy : a.eval y = vy := by kernel_rfl) : ∀ w, S w → (execOp a.eval o).run P w = .ok (.value v) w := y_bin ho hx hy hv
theorem y_at {o : Oper} {a : Act} {T : TypeId} {x y : Operand} {vx vy v : Value} (ho : o.op = .indexAddr T x y) (hx : a.eval x = vx) (hy : a.eval y = vy)
    (hv : ∀ w, S w → (Instr.indexAt T vx vy).run P w = .ok v w) : ∀ w, S w → (execOp a.eval o).run P w = .ok (.value v) w := by
  intro w hw
  obtain ⟨dst, op, ty, pos, after, guard⟩ := o
  simp only at ho
  subst ho
  have := hv w hw
  simp only [execOp, hx, hy, Sem.run_bind]
  rw [this]
  rfl
theorem y_atk {o : Oper} {a : Act} {T : TypeId} {x y : Operand} {vx vy v : Value} (hv : ∀ w, S w → (Instr.indexAt T vx vy).run P w = .ok v w) (ho : o.op = .indexAddr T x y := by kernel_rfl) (hx : a.eval x = vx := by kernel_rfl) (hy : a.eval y = vy := by kernel_rfl) : ∀ w, S w → (execOp a.eval o).run P w = .ok (.value v) w := y_at ho hx hy hv
theorem y_load {o : Oper} {a : Act} {T : TypeId} {x : Operand} {vx v : Value} (ho : o.op = .load T x) (hx : a.eval x = vx)
    (hv : ∀ w, S w → (Instr.loadAt T vx).run P w = .ok v w) : ∀ w, S w → (execOp a.eval o).run P w = .ok (.value v) w := by
  intro w hw
  obtain ⟨dst, op, ty, pos, after, guard⟩ := o
  simp only at ho
  subst ho
  have := hv w hw
  simp only [execOp, hx, Sem.run_bind]
  rw [this]
  rfl
theorem y_loadk {o : Oper} {a : Act} {T : TypeId} {x : Operand} {vx v : Value} (hv : ∀ w, S w → (Instr.loadAt T vx).run P w = .ok v w) (ho : o.op = .load T x := by kernel_rfl) (hx : a.eval x = vx := by kernel_rfl) : ∀ w, S w → (execOp a.eval o).run P w = .ok (.value v) w := y_load ho hx hv
theorem y_pick {o : Oper} {a : Act} {c x y : Operand} {b : Bool} {v : Value} (ho : o.op = .pick c x y) (hc : a.eval c = .bool b) (hv : (if b then a.eval x else a.eval y) = v) :
    ∀ w, S w → (execOp a.eval o).run P w = .ok (.value v) w := by
  intro w hw
  obtain ⟨dst, op, ty, pos, after, guard⟩ := o
  simp only at ho
  subst ho
  rw [← hv]
  simp only [execOp, hc]
  rfl
theorem y_pickk {o : Oper} {a : Act} {c x y : Operand} {b : Bool} {v : Value} (ho : o.op = .pick c x y := by kernel_rfl) (hc : a.eval c = .bool b := by kernel_rfl) (hv : (if b then a.eval x else a.eval y) = v := by kernel_rfl) : ∀ w, S w → (execOp a.eval o).run P w = .ok (.value v) w := y_pick ho hc hv
theorem y_nil {o : Oper} {a : Act} {x : Operand} {p : Addr} (ho : o.op = .nilCheck x) (hx : a.eval x = .pointer (some p)) : ∀ w, S w → (execOp a.eval o).run P w = .ok (.value (.pointer (some p))) w := by
  intro w hw
  obtain ⟨dst, op, ty, pos, after, guard⟩ := o
  simp only at ho
  subst ho
  simp only [execOp, hx]
  rfl
theorem y_nilk {o : Oper} {a : Act} {x : Operand} {p : Addr} (ho : o.op = .nilCheck x := by kernel_rfl) (hx : a.eval x = .pointer (some p) := by kernel_rfl) : ∀ w, S w → (execOp a.eval o).run P w = .ok (.value (.pointer (some p))) w := y_nil ho hx
theorem y_field {o : Oper} {a : Act} {T k : Nat} {x : Operand} {vx v : Value} (ho : o.op = .fieldAddr T x k) (hx : a.eval x = vx)
    (hv : ∀ w, S w → (Instr.fieldAt T vx k).run P w = .ok v w) : ∀ w, S w → (execOp a.eval o).run P w = .ok (.value v) w := by
  intro w hw
  obtain ⟨dst, op, ty, pos, after, guard⟩ := o
  simp only at ho
  subst ho
  have := hv w hw
  simp only [execOp, hx, Sem.run_bind]
  rw [this]
  rfl
theorem y_fieldk {o : Oper} {a : Act} {T k : Nat} {x : Operand} {vx v : Value} (hv : ∀ w, S w → (Instr.fieldAt T vx k).run P w = .ok v w) (ho : o.op = .fieldAddr T x k := by kernel_rfl) (hx : a.eval x = vx := by kernel_rfl) : ∀ w, S w → (execOp a.eval o).run P w = .ok (.value v) w := y_field ho hx hv
theorem y_len {o : Oper} {a : Act} {x : Operand} {ats : Array TypeId} {vx : Value} {n : Nat} (ho : o.op = .call { callee := .builtin .len, args := #[x], argTypes := ats }) (hx : a.eval x = vx)
    (hv : ∀ ty w, S w → (Builtin.len_ ats ty #[vx]).run P w = .ok (.int .i64 n) w) : ∀ w, S w → (execOp a.eval o).run P w = .ok (.value (.int .i64 n)) w := by
  intro w hw
  obtain ⟨dst, op, ty, pos, after, guard⟩ := o
  simp only at ho
  subst ho
  have h2 := hv ty w hw
  rw [← hx] at h2
  generalize a.eval = ρ at h2 ⊢
  simp [go_sem, h2]
theorem y_lenk {o : Oper} {a : Act} {x : Operand} {ats : Array TypeId} {vx : Value} {n : Nat} (hv : ∀ ty w, S w → (Builtin.len_ ats ty #[vx]).run P w = .ok (.int .i64 n) w) (ho : o.op = .call { callee := .builtin .len, args := #[x], argTypes := ats } := by kernel_rfl) (hx : a.eval x = vx := by kernel_rfl) : ∀ w, S w → (execOp a.eval o).run P w = .ok (.value (.int .i64 n)) w := y_len ho hx hv
theorem store (i : Nat) {T : TypeId} {x y : Operand} {vx vy : Value} {w1 : World} {fuel : Nat} {listed : Array Bool} {a : Act} {w : World}
    (hi : decide (i < ops.size) = true) (hd : (opOf ops i).dst = none) (hr : Region.ready .any ops listed = [i])
    (hw : Region.wanted (opOf ops i) (yielded ops a.tmps) = true) (ho : (opOf ops i).op = .store T x y) (hx : a.eval x = vx) (hy : a.eval y = vy)
    (hv : (Instr.storeAt T vx vy).run P w = .ok () w1) (hS : S w1)
    (h : S w1 → wpAnyH P .any ops (Only R) S fuel (listed.setIfInBounds i true) a w1) :
    wpAnyH P .any ops (Only R) S (fuel + 1) listed a w := by
  refine wpAnyH_all hr (by simp) fun j hj => ?_
  obtain rfl : j = i := by simpa using hj
  unfold wpOp
  rw [opOf_some hi]
  simp only [hw, if_true]
  refine .inl ?_
  have he : (execOp a.eval (opOf ops j)).run P w = .ok .skip w1 := by
    generalize opOf ops j = o at ho
    obtain ⟨dst, op, ty, pos, after, guard⟩ := o
    simp only at ho
    subst ho
    simp only [execOp, hx, hy, Sem.run_bind]
    rw [hv]
    rfl
  unfold Oper.wp
  rw [he, Oper.upon_skip, hd]
  exact ⟨hS, h hS⟩
theorem storek (i : Nat) {T : TypeId} {x y : Operand} {vx vy : Value} {w1 : World} {fuel : Nat} {listed : Array Bool} {a : Act} {w : World} (hv : (Instr.storeAt T vx vy).run P w = .ok () w1) (hS : S w1) (h : S w1 → wpAnyH P .any ops (Only R) S fuel (listed.setIfInBounds i true) a w1) (hi : decide (i < ops.size) = true := by kernel_rfl) (hd : (opOf ops i).dst = none := by kernel_rfl) (hr : Region.ready .any ops listed = [i] := by kernel_rfl) (hw : Region.wanted (opOf ops i) (yielded ops a.tmps) = true := by kernel_rfl) (ho : (opOf ops i).op = .store T x y := by kernel_rfl) (hx : a.eval x = vx := by kernel_rfl) (hy : a.eval y = vy := by kernel_rfl) : wpAnyH P .any ops (Only R) S (fuel + 1) listed a w := store i hi hd hr hw ho hx hy hv hS h
theorem op_call (i : Nat) (d : Option Tmp) (f : FuncId) (args : Array Value) {fn : Func} {xs : Array Operand} {ats : Array TypeId} {fuel : Nat} {listed : Array Bool} {a : Act} {w : World}
    (hi : decide (i < ops.size) = true) (hd : (opOf ops i).dst = d)
    (hw : Region.wanted (opOf ops i) (yielded ops a.tmps) = true) (ho : (opOf ops i).op = .call { callee := .value (.func f), args := xs, argTypes := ats })
    (hf : P.funcs[f]? = some fn) (hn : (fn.name == "runtime.NumGoroutine") = false) (hb : fn.body.isNone = false) (hx : xs.map a.eval = args)
    (h : Calls P f args w fun e w' => ∃ v, e = .returned v ∧ S w' ∧ (S w' → wpAnyH P .any ops (Only R) S fuel (listed.setIfInBounds i true) (a.put d v) w')) :
    wpOp P ops (Only R) i (fun a' w' => S w' ∧ wpAnyH P .any ops (Only R) S fuel (listed.setIfInBounds i true) a' w') a w := by
  subst hd
  unfold wpOp
  rw [opOf_some hi]
  simp only [hw, if_true]
  refine .inl ?_
  have he : execOp a.eval (opOf ops i) = callFunc f args := by
    rw [← hx]
    generalize opOf ops i = o at ho
    obtain ⟨dst, op, ty, pos, after, guard⟩ := o
    subst ho
    have := execOp_call_go a dst f xs ats ty pos after guard
    simpa using this
  unfold Oper.wp
  rw [he, enters hf hn hb]
  refine Calls.mono h fun e w' hh => ?_
  obtain ⟨v, rfl, hS, hh⟩ := hh
  exact ⟨hS, hh hS⟩
theorem op_callk (i : Nat) (d : Option Tmp) (f : FuncId) (args : Array Value) {fn : Func} {xs : Array Operand} {ats : Array TypeId} {fuel : Nat} {listed : Array Bool} {a : Act} {w : World} (hf : P.funcs[f]? = some fn) (h : Calls P f args w fun e w' => ∃ v, e = .returned v ∧ S w' ∧ (S w' → wpAnyH P .any ops (Only R) S fuel (listed.setIfInBounds i true) (a.put d v) w')) (hi : decide (i < ops.size) = true := by kernel_rfl) (hd : (opOf ops i).dst = d := by kernel_rfl) (hw : Region.wanted (opOf ops i) (yielded ops a.tmps) = true := by kernel_rfl) (ho : (opOf ops i).op = .call { callee := .value (.func f), args := xs, argTypes := ats } := by kernel_rfl) (hn : (fn.name == "runtime.NumGoroutine") = false := by kernel_rfl) (hb : fn.body.isNone = false := by kernel_rfl) (hx : xs.map a.eval = args := by kernel_rfl) : wpOp P ops (Only R) i (fun a' w' => S w' ∧ wpAnyH P .any ops (Only R) S fuel (listed.setIfInBounds i true) a' w') a w := op_call i d f args hi hd hw ho hf hn hb hx h
theorem op_load (i : Nat) (d : Option Tmp) {T : TypeId} {x : Operand} {vx v : Value} {fuel : Nat} {listed : Array Bool} {a : Act} {w : World}
    (hi : decide (i < ops.size) = true) (hd : (opOf ops i).dst = d)
    (hw : Region.wanted (opOf ops i) (yielded ops a.tmps) = true) (ho : (opOf ops i).op = .load T x) (hx : a.eval x = vx)
    (hv : (Instr.loadAt T vx).run P w = .ok v w) (hS : S w)
    (h : wpAnyH P .any ops (Only R) S fuel (listed.setIfInBounds i true) (a.put d v) w) :
    wpOp P ops (Only R) i (fun a' w' => S w' ∧ wpAnyH P .any ops (Only R) S fuel (listed.setIfInBounds i true) a' w') a w := by
  subst hd
  unfold wpOp
  rw [opOf_some hi]
  simp only [hw, if_true]
  refine .inl ?_
  have he : (execOp a.eval (opOf ops i)).run P w = .ok (.value v) w := y_load (S := fun W => W = w) ho hx (fun W hW => by rw [hW]; exact hv) w rfl
  unfold Oper.wp
  rw [he, Oper.upon_value]
  exact ⟨hS, h⟩
theorem op_loadk (i : Nat) (d : Option Tmp) {T : TypeId} {x : Operand} {vx v : Value} {fuel : Nat} {listed : Array Bool} {a : Act} {w : World} (hv : (Instr.loadAt T vx).run P w = .ok v w) (hS : S w) (h : wpAnyH P .any ops (Only R) S fuel (listed.setIfInBounds i true) (a.put d v) w) (hi : decide (i < ops.size) = true := by kernel_rfl) (hd : (opOf ops i).dst = d := by kernel_rfl) (hw : Region.wanted (opOf ops i) (yielded ops a.tmps) = true := by kernel_rfl) (ho : (opOf ops i).op = .load T x := by kernel_rfl) (hx : a.eval x = vx := by kernel_rfl) : wpOp P ops (Only R) i (fun a' w' => S w' ∧ wpAnyH P .any ops (Only R) S fuel (listed.setIfInBounds i true) a' w') a w := op_load i d hi hd hw ho hx hv hS h
theorem one {i : Nat} {fuel : Nat} {listed : Array Bool} {a : Act} {w : World} (hr : Region.ready .any ops listed = [i])
    (h : wpOp P ops (Only R) i (fun a' w' => S w' ∧ wpAnyH P .any ops (Only R) S fuel (listed.setIfInBounds i true) a' w') a w) : wpAnyH P .any ops (Only R) S (fuel + 1) listed a w :=
  wpAnyH_all hr (by simp) fun j hj => by obtain rfl : j = i := by simpa using hj
                                         exact h
theorem onek {i : Nat} {fuel : Nat} {listed : Array Bool} {a : Act} {w : World} (h : wpOp P ops (Only R) i (fun a' w' => S w' ∧ wpAnyH P .any ops (Only R) S fuel (listed.setIfInBounds i true) a' w') a w) (hr : Region.ready .any ops listed = [i] := by kernel_rfl) : wpAnyH P .any ops (Only R) S (fuel + 1) listed a w := one hr h
theorem two {i j : Nat} {fuel : Nat} {listed : Array Bool} {a : Act} {w : World} (hr : Region.ready .any ops listed = [i, j])
    (h1 : wpOp P ops (Only R) i (fun a' w' => S w' ∧ wpAnyH P .any ops (Only R) S fuel (listed.setIfInBounds i true) a' w') a w)
    (h2 : wpOp P ops (Only R) j (fun a' w' => S w' ∧ wpAnyH P .any ops (Only R) S fuel (listed.setIfInBounds j true) a' w') a w) : wpAnyH P .any ops (Only R) S (fuel + 1) listed a w :=
  wpAnyH_all hr (by simp) fun k hk => by
    rcases (by simpa using hk : k = i ∨ k = j) with rfl | rfl
    · exact h1
    · exact h2
theorem twok {i j : Nat} {fuel : Nat} {listed : Array Bool} {a : Act} {w : World} (h1 : wpOp P ops (Only R) i (fun a' w' => S w' ∧ wpAnyH P .any ops (Only R) S fuel (listed.setIfInBounds i true) a' w') a w) (h2 : wpOp P ops (Only R) j (fun a' w' => S w' ∧ wpAnyH P .any ops (Only R) S fuel (listed.setIfInBounds j true) a' w') a w) (hr : Region.ready .any ops listed = [i, j] := by kernel_rfl) : wpAnyH P .any ops (Only R) S (fuel + 1) listed a w := two hr h1 h2
end
end Go.Proofs.YtdkgkomjbpggeaaGreatDoor.Rg

namespace Go.Proofs.YtdkgkomjbpggeaaGreatDoor.Rg
open Go.RowKit
set_option linter.unusedVariables false
section
variable {P : Program} {S : World → Prop}
end
section
variable {P : Program} {ops : Array Oper} {R : Act → World → Prop} {S : World → Prop}
theorem bld (i : Nat) (d : Option Tmp) {T : TypeId} {len : Nat} {parts : Array (Nat × Operand)} {vs : Array (Nat × Value)} {v : Value} {w1 : World} {fuel : Nat} {listed : Array Bool} {a : Act} {w : World}
    (hi : decide (i < ops.size) = true) (hd : (opOf ops i).dst = d) (hr : Region.ready .any ops listed = [i])
    (hw : Region.wanted (opOf ops i) (yielded ops a.tmps) = true) (ho : (opOf ops i).op = .buildSlice T len parts) (hx : (parts.map fun (i, x) => (i, a.eval x)) = vs)
    (hv : (Instr.buildSlice T len vs).run P w = .ok v w1) (hS : S w1)
    (h : S w1 → wpAnyH P .any ops (Only R) S fuel (listed.setIfInBounds i true) (a.put d v) w1) : wpAnyH P .any ops (Only R) S (fuel + 1) listed a w := by
  refine one hr ?_
  subst hd
  unfold wpOp
  rw [opOf_some hi]
  simp only [hw, if_true]
  refine .inl ?_
  have he : (execOp a.eval (opOf ops i)).run P w = .ok (.value v) w1 := by
    generalize opOf ops i = o at ho
    obtain ⟨dst, op, ty, pos, after, guard⟩ := o
    simp only at ho
    subst ho
    simp only [execOp, Sem.run_bind]
    rw [hx, hv]
    rfl
  unfold Oper.wp
  rw [he, Oper.upon_value]
  exact ⟨hS, h hS⟩
theorem bldk (i : Nat) (d : Option Tmp) {T : TypeId} {len : Nat} {parts : Array (Nat × Operand)} {vs : Array (Nat × Value)} {v : Value} {w1 : World} {fuel : Nat} {listed : Array Bool} {a : Act} {w : World} (hv : (Instr.buildSlice T len vs).run P w = .ok v w1) (hS : S w1) (h : S w1 → wpAnyH P .any ops (Only R) S fuel (listed.setIfInBounds i true) (a.put d v) w1) (hi : decide (i < ops.size) = true := by kernel_rfl) (hd : (opOf ops i).dst = d := by kernel_rfl) (hr : Region.ready .any ops listed = [i] := by kernel_rfl) (hw : Region.wanted (opOf ops i) (yielded ops a.tmps) = true := by kernel_rfl) (ho : (opOf ops i).op = .buildSlice T len parts := by kernel_rfl) (hx : (parts.map fun (i, x) => (i, a.eval x)) = vs := by kernel_rfl) : wpAnyH P .any ops (Only R) S (fuel + 1) listed a w := bld i d hi hd hr hw ho hx hv hS h
end
end Go.Proofs.YtdkgkomjbpggeaaGreatDoor.Rg

namespace Go.Proofs.YtdkgkomjbpggeaaGreatDoor.Rg
open Go.RowKit
set_option linter.unusedVariables false
set_option linter.unusedSimpArgs false
set_option linter.unnecessarySimpa false
section
variable {P : Program} {ops : Array Oper} {R : Act → World → Prop} {S : World → Prop}
theorem app1 (i : Nat) (d : Option Tmp) {T : TypeId} {x y : Operand} {vx vy : Value} {fuel : Nat} {listed : Array Bool} {a : Act} {w : World}
    (hi : decide (i < ops.size) = true) (hd : (opOf ops i).dst = d) (hr : Region.ready .any ops listed = [i])
    (hw : Region.wanted (opOf ops i) (yielded ops a.tmps) = true) (ho : (opOf ops i).op = .call { callee := .builtin .append, args := #[x, y], argTypes := #[T, T] }) (hx : a.eval x = vx) (hy : a.eval y = vy)
    (h : ∀ ty, ∃ v w1, (Builtin.append_ #[T, T] ty #[vx, vy]).run P w = .ok v w1 ∧ S w1 ∧ (S w1 → wpAnyH P .any ops (Only R) S fuel (listed.setIfInBounds i true) (a.put d v) w1)) :
    wpAnyH P .any ops (Only R) S (fuel + 1) listed a w := by
  refine one hr ?_
  subst hd
  unfold wpOp
  rw [opOf_some hi]
  simp only [hw, if_true]
  refine .inl ?_
  obtain ⟨v, w1, hrun, hS, hk⟩ := h (opOf ops i).type
  generalize opOf ops i = o at ho hrun hk ⊢
  obtain ⟨dst, op, ty, pos, after, guard⟩ := o
  simp only at ho hrun hk ⊢
  subst ho
  unfold Oper.wp
  simp only [execOp, resolve, invoke, builtin, Sem.run_bind, Sem.run_pure, Result.andThen_ok, List.map_toArray, List.map_cons, List.map_nil, hx, hy, hrun]
  exact ⟨hS, hk hS⟩
theorem app1k (i : Nat) (d : Option Tmp) {T : TypeId} {x y : Operand} {vx vy : Value} {fuel : Nat} {listed : Array Bool} {a : Act} {w : World} (h : ∀ ty, ∃ v w1, (Builtin.append_ #[T, T] ty #[vx, vy]).run P w = .ok v w1 ∧ S w1 ∧ (S w1 → wpAnyH P .any ops (Only R) S fuel (listed.setIfInBounds i true) (a.put d v) w1)) (hi : decide (i < ops.size) = true := by kernel_rfl) (hd : (opOf ops i).dst = d := by kernel_rfl) (hr : Region.ready .any ops listed = [i] := by kernel_rfl) (hw : Region.wanted (opOf ops i) (yielded ops a.tmps) = true := by kernel_rfl) (ho : (opOf ops i).op = .call { callee := .builtin .append, args := #[x, y], argTypes := #[T, T] } := by kernel_rfl) (hx : a.eval x = vx := by kernel_rfl) (hy : a.eval y = vy := by kernel_rfl) : wpAnyH P .any ops (Only R) S (fuel + 1) listed a w := app1 i d hi hd hr hw ho hx hy h
theorem op_bld (i : Nat) (d : Option Tmp) {T : TypeId} {len : Nat} {parts : Array (Nat × Operand)} {vs : Array (Nat × Value)} {v : Value} {w1 : World} {fuel : Nat} {listed : Array Bool} {a : Act} {w : World}
    (hi : decide (i < ops.size) = true) (hd : (opOf ops i).dst = d)
    (hw : Region.wanted (opOf ops i) (yielded ops a.tmps) = true) (ho : (opOf ops i).op = .buildSlice T len parts) (hx : (parts.map fun (i, x) => (i, a.eval x)) = vs)
    (hv : (Instr.buildSlice T len vs).run P w = .ok v w1) (hS : S w1)
    (h : S w1 → wpAnyH P .any ops (Only R) S fuel (listed.setIfInBounds i true) (a.put d v) w1) :
    wpOp P ops (Only R) i (fun a' w' => S w' ∧ wpAnyH P .any ops (Only R) S fuel (listed.setIfInBounds i true) a' w') a w := by
  subst hd
  unfold wpOp
  rw [opOf_some hi]
  simp only [hw, if_true]
  refine .inl ?_
  have he : (execOp a.eval (opOf ops i)).run P w = .ok (.value v) w1 := by
    generalize opOf ops i = o at ho
    obtain ⟨dst, op, ty, pos, after, guard⟩ := o
    simp only at ho
    subst ho
    simp only [execOp, Sem.run_bind]
    rw [hx, hv]
    rfl
  unfold Oper.wp
  rw [he, Oper.upon_value]
  exact ⟨hS, h hS⟩
theorem op_bldk (i : Nat) (d : Option Tmp) {T : TypeId} {len : Nat} {parts : Array (Nat × Operand)} {vs : Array (Nat × Value)} {v : Value} {w1 : World} {fuel : Nat} {listed : Array Bool} {a : Act} {w : World} (hv : (Instr.buildSlice T len vs).run P w = .ok v w1) (hS : S w1) (h : S w1 → wpAnyH P .any ops (Only R) S fuel (listed.setIfInBounds i true) (a.put d v) w1) (hi : decide (i < ops.size) = true := by kernel_rfl) (hd : (opOf ops i).dst = d := by kernel_rfl) (hw : Region.wanted (opOf ops i) (yielded ops a.tmps) = true := by kernel_rfl) (ho : (opOf ops i).op = .buildSlice T len parts := by kernel_rfl) (hx : (parts.map fun (i, x) => (i, a.eval x)) = vs := by kernel_rfl) : wpOp P ops (Only R) i (fun a' w' => S w' ∧ wpAnyH P .any ops (Only R) S fuel (listed.setIfInBounds i true) a' w') a w := op_bld i d hi hd hw ho hx hv hS h
end
end Go.Proofs.YtdkgkomjbpggeaaGreatDoor.Rg

namespace Go.Proofs.YtdkgkomjbpggeaaGreatDoor.Ac
open Go.RowKit
set_option linter.unusedVariables false
set_option linter.unusedSimpArgs false
set_option linter.unnecessarySimpa false
set_option maxRecDepth 100000 in
set_option maxHeartbeats 4000000 in
theorem regSave (ops : Array Oper) (hops : ops = (Rg.opsOf Tryz.f12 5)) (id : Nat) (ba k : Nat) (sl : Value) {u3 u4 u5 u6 u7 u8 u9 u10 u11 u12 u13 u14 u15 u16 u17 u18 u19 u20 u21 u22 u23 u24 u25 u26 u27 u28 u29 u30 u31 u32 : Value} (w : World) (B4 : Value → World → Prop) (hk7 : (k : Int) < 7) (hk0 : ¬ (k : Int) < 0)
    (hE : ∀ ty, ∃ a8 n8 c8 w8, (Builtin.append_ #[33, 33] ty #[.slice (some ⟨w.heap.size, 0, none⟩) 0 0, sl]).run Tryz.prog (w.drew.alloc (.cells #[] 73)) = .ok (.slice a8 n8 c8) w8 ∧ (∃ u, w8.cell? ⟨ba, k, none⟩ = some u) ∧ w8.frozen? ⟨ba, k, none⟩ = false ∧ B4 (.slice a8 n8 c8) w8) :
    (Code.region id ops true).wp Tryz.prog (Rg.Only fun a' w' => ∃ (z8 : Nat) (a8 : Option Addr) (n8 c8 : Nat) (w8 : World), a' = ⟨#[(.pointer (some ⟨ba, 0, none⟩)), (.int .i64 (k : Int)), sl, u3, u4, u5, u6, u7, u8, u9, u10, u11, u12, u13, u14, (.pointer (some ⟨ba, 0, none⟩)), (.int .i64 (k : Int)), (.slice (some ⟨z8, 0, none⟩) 0 0), sl, (.slice a8 n8 c8), (.pointer (some ⟨ba, 0, none⟩)), (.pointer (some ⟨ba, 0, none⟩)), (.pointer (some ⟨ba, k, none⟩)), u23, u24, u25, u26, u27, u28, u29, u30, u31, u32], []⟩ ∧ w' = w8.setCell ⟨ba, k, none⟩ (.slice a8 n8 c8) ∧ B4 (.slice a8 n8 c8) w8) ⟨#[(.pointer (some ⟨ba, 0, none⟩)), (.int .i64 (k : Int)), sl, u3, u4, u5, u6, u7, u8, u9, u10, u11, u12, u13, u14, u15, u16, u17, u18, u19, u20, u21, u22, u23, u24, u25, u26, u27, u28, u29, u30, u31, u32], []⟩ w := by
  subst hops
  have hNS : Region.noSelect (Rg.opsOf Tryz.f12 5) = true := by kernel_rfl
  refine wp_region_held_drew (S := fun _ => True) (by kernel_rfl) trivial (fun hHeld => ?_)
  rw [show (Rg.opsOf Tryz.f12 5).size = 9 by kernel_rfl]
  refine Rg.takek 0 (some 15) (.pointer (some ⟨ba, 0, none⟩)) hNS hHeld (Rg.y_movekL (x := .tmp 0)) ?_
  refine Rg.takek 1 (some 16) (.int .i64 (k : Int)) hNS hHeld (Rg.y_movekL (x := .tmp 1)) ?_
  refine Rg.takek 3 (some 18) (sl) hNS hHeld (Rg.y_movekL (x := .tmp 2)) ?_
  refine Rg.takek 5 (some 20) (.pointer (some ⟨ba, 0, none⟩)) hNS hHeld (Rg.y_nilk (x := .tmp 15)) ?_
  refine Rg.takek 6 (some 21) (.pointer (some ⟨ba, 0, none⟩)) hNS hHeld (Rg.y_fieldk (T := 38) (k := 0) (x := .tmp 20) (vx := (.pointer (some ⟨ba, 0, none⟩))) ?_) ?_
  · (intro w hSw; clear hSw hE; go_simp)
  refine Rg.bldk 2 (some 17) (T := 33) (len := 0) (parts := #[]) (vs := #[]) (v := (.slice (some ⟨w.heap.size, 0, none⟩) 0 0)) (w1 := w.drew.alloc (.cells #[] 73)) ?_ (trivial) (fun hHeld => ?_)
  · (clear hHeld hE; go_simp)
  refine Rg.app1k 4 (some 19) (T := 33) (x := .tmp 17) (y := .tmp 18) (vx := (.slice (some ⟨w.heap.size, 0, none⟩) 0 0)) (vy := sl) ?_
  intro ty
  obtain ⟨a8, n8, c8, w8, hr8, ⟨u8, hl8⟩, hf8, h8⟩ := hE ty
  refine ⟨_, w8, hr8, trivial, fun hHeld => ?_⟩
  refine Rg.takek 7 (some 22) (.pointer (some ⟨ba, k, none⟩)) hNS hHeld (Rg.y_atk (T := 34) (x := .tmp 21) (y := .tmp 16) (vx := (.pointer (some ⟨ba, 0, none⟩))) (vy := (.int .i64 (k : Int))) ?_) ?_
  · (intro w hSw; clear hSw; have h1 := hk7; have h2 := hk0; go_simp)
  refine Rg.storek 8 (T := 33) (x := .tmp 22) (y := .tmp 19) (vx := (.pointer (some ⟨ba, k, none⟩))) (vy := (.slice a8 n8 c8)) (w1 := (w8.setCell ⟨ba, k, none⟩ (.slice a8 n8 c8))) ?_ (trivial) (fun hHeld => ?_)
  · (clear hHeld hE hr8 h8; go_simp)
  refine Rg.donek ?_
  exact ⟨w.heap.size, a8, n8, c8, w8, by kernel_rfl, rfl, h8⟩
end Go.Proofs.YtdkgkomjbpggeaaGreatDoor.Ac

namespace Go.Proofs.YtdkgkomjbpggeaaGreatDoor.Ac
open Go.RowKit Tx Pm Pr Dk
open En (Et tcheck Ents Small)
set_option linter.unusedVariables false
set_option linter.unusedSimpArgs false
set_option linter.unnecessarySimpa false
theorem lf_same {α : Type} {O : World → (Nat → Prop) → α → Prop} {w : World} {F : Nat → Prop} {y : α} (k : Kd O) (h : O w F y) {w' : World} (hb : Below w.heap.size w w') : Lf O w F y w' := ⟨F, k.kept h (fun i hi => hb.block i (k.lt h i hi)), Chg.of_below hb, fun g hg => .inl hg⟩
set_option maxRecDepth 100000 in
set_option maxHeartbeats 2000000 in
theorem rForget_any (ba : Nat) (i : Int) {G : Nat → Prop} {A : Ar} (w : World) (h : RefX ba w G A) :
    Calls Tryz.prog 17 #[.pointer (some ⟨ba, 0, none⟩), .int .i64 i] w fun e w' => e = .returned (.int .i64 (forgetE i : Nat)) ∧ Lf (RefX ba) w G (forgetI A i) w' := by
  have c1 := may_any i w
  cases hm : may i with
  | false =>
    have e : forgetE i = 1 := by unfold forgetE; rw [hm]; rfl
    have e2 : forgetI A i = A := by unfold forgetI; rw [hm]; rfl
    have HL := Lib.hid (lf_same (kd_ref ba) h (Below.refl w.heap.size w))
    rw [hm] at c1
    rw [e, e2]
    clear h e e2
    go_enter Tryz.func17, Tryz.ntmps17
    go_wp2_with fail
    go_at_call 37
    refine c1.mono ?_
    rintro e w1 ⟨rfl, rfl⟩
    go_wp2_with fail
    go_ret
    exact ⟨rfl, HL.out⟩
  | true =>
    obtain ⟨k, rfl, k1, k2⟩ := may_nat hm
    have e : forgetE (k : Int) = 0 := by unfold forgetE; rw [hm]; rfl
    have e2 : forgetI A (k : Int) = forgetA A k := by unfold forgetI; rw [if_pos hm]; rfl
    have hk7 : (k : Int) < 7 := by omega
    have hk0 : ¬ (k : Int) < 0 := by omega
    obtain ⟨v, hv, ht⟩ := h.cells
    obtain ⟨d0, d1, d2⟩ := hv k (by omega)
    have g1 := h.warm (7 + k)
    have g2 := h.warm (14 + k)
    have d3 : (w.setCell ⟨ba, 7 + k, none⟩ (.bool false)).cell? ⟨ba, 14 + k, none⟩ = some (.bool (A.tu k).isSome) := by
      rw [← d2]
      exact World.cell?_setCell_other _ _ _ _ (fun hh => by injection hh with _ hh _; omega)
    have g3 : (w.setCell ⟨ba, 7 + k, none⟩ (.bool false)).frozen? ⟨ba, 14 + k, none⟩ = false := by simp [g2]
    have HL := Lib.hid (forgot h (show k < 7 by omega))
    rw [hm] at c1
    rw [e, e2]
    clear h e e2 hv ht hm d2
    go_enter Tryz.func17, Tryz.ntmps17
    go_wp2_with fail
    go_at_call 37
    refine c1.mono ?_
    rintro e w1 ⟨rfl, rfl⟩
    go_wp2_with fail
    go_ret
    exact ⟨rfl, HL.out⟩
theorem copy_run (a : Option Addr) (n c : Nat) (l : List Et) (w : World) (hl : Ents w a n l) (hnil : a = none → c = 0) (hn : n ≤ 1000000000000) :
    ∀ ty, ∃ a8 n8 c8 w8, (Builtin.append_ #[33, 33] ty #[.slice (some ⟨w.heap.size, 0, none⟩) 0 0, .slice a n c]).run Tryz.prog (w.drew.alloc (.cells #[] 73)) = .ok (.slice a8 n8 c8) w8 ∧ En.Own w8 w.heap.size (.slice a8 n8 c8) l ∧ Below w.heap.size w w8 := by
  intro ty
  obtain ⟨i0, hi, hz0, hz1, hz2⟩ := info_parts En.infoE
  have hBel : Below w.heap.size w (w.drew.alloc (.cells #[] 73)) := ((Below.refl w.heap.size w).drew).alloc (Nat.le_refl _) _
  have hEm : (w.drew.alloc (.cells #[] 73)).ownsRow w.heap.size 73 3 (.slice (some ⟨w.heap.size, 0, none⟩) 0 0) 0 [] := ⟨rfl, .inr ⟨w.heap.size, 0, #[], rfl, Nat.le_refl _, heap_alloc_new w.drew _, Nat.le_refl _, Nat.zero_le _, rfl, rfl⟩⟩
  have hln := hl.1
  by_cases ha : a = none
  · subst ha
    obtain rfl := hnil rfl
    have h0 : n = 0 := by
      rcases hl.2 with h | ⟨b, off, h, _⟩
      · exact h
      · cases h
    subst h0
    obtain rfl : l = [] := List.length_eq_zero_iff.1 hln
    exact ⟨_, _, _, _, run_append_owned_none _ w.heap.size 33 ty 73 i0 3 Tryz.underlying33 hi _ 0 [] hEm, hEm, hBel⟩
  · obtain ⟨x, rfl⟩ := Option.ne_none_iff_exists'.1 ha
    have hfl2 := En.flat_len l
    rw [hln] at hfl2
    have hcl : ∀ j u, (l.flatMap En.cells)[j]? = some u → (w.drew.alloc (.cells #[] 73)).cell? (x.add j) = some u := by
      have h2 := hl.below hBel
      rcases h2.2 with h0 | ⟨b', off', e, _, hc⟩
      · have : l = [] := List.length_eq_zero_iff.1 (by omega)
        subst this
        intro j u hu
        cases hu
      · injection e with e
        subst e
        exact En.ents_flat hc
    obtain ⟨v8, w8, r8, o8, g8, _⟩ := run_append_own (P := Tryz.prog) (w := w.drew.alloc (.cells #[] 73)) w.heap.size 33 ty 73 i0 (.agg #[.string ⟨#[]⟩, .int .i64 0, .string ⟨#[]⟩]) 3 40 Tryz.underlying33 hi hz0 hz1 hz2 rfl (by decide) _ 0 [] hEm x n c (l.flatMap En.cells) hfl2 hcl (En.flat_one l) (by unfold maxLen; omega) (by omega) hBel.size
    have hB8 : Below w.heap.size w w8 := hBel.grown g8 hBel.size (fun q hq => by cases hq; exact Nat.le_refl _)
    rw [List.nil_append, Nat.zero_add] at o8
    obtain ⟨a8, n8, c8, rfl⟩ : ∃ a8 n8 c8, v8 = .slice a8 n8 c8 := by
      rcases o8.2 with ⟨hv, h0⟩ | ⟨g, cap, cur, hv, _⟩
      · exact ⟨_, _, _, hv⟩
      · exact ⟨_, _, _, hv⟩
    exact ⟨a8, n8, c8, w8, r8, En.own_of o8 hln, hB8⟩
set_option maxRecDepth 100000 in
set_option maxHeartbeats 4000000 in
theorem rSave_any (ba : Nat) (i : Int) (a : Option Addr) (n c : Nat) (l : List Et) {G : Nat → Prop} {A : Ar} (w : World) (h : RefX ba w G A) (hl : Ents w a n l) (hnil : a = none → c = 0) (hn : n ≤ 1000000000000) (hs : Small l) :
    Calls Tryz.prog 12 #[.pointer (some ⟨ba, 0, none⟩), .int .i64 i, .slice a n c] w fun e w' => e = .returned (.int .i64 (saveE i l : Nat)) ∧ Lf (RefX ba) w G (saveI A i l) w' := by
  have c1 := may_any i w
  have hck : Hid (∀ W, Below w.heap.size w W → Calls Tryz.prog 21 #[.slice a n c] W fun e w' => e = .returned (.int .i64 (tcheck l : Nat)) ∧ Below W.heap.size W w') := Lib.hid (fun W hW => En.refCheckT_any a n c l W (hl.below hW) (by omega) hs)
  have HSAME : Hid (∀ W, Below w.heap.size w W → Lf (RefX ba) w G A W) := Lib.hid (fun W hW => lf_same (kd_ref ba) h hW)
  cases hm : may i with
  | false =>
    have e : saveE i l = 1 := by unfold saveE; rw [hm]; rfl
    have e2 : saveI A i l = A := by unfold saveI; rw [e, if_neg (by decide)]
    rw [hm] at c1
    rw [e, e2]
    clear h e e2 hl
    go_enter Tryz.func12, Tryz.ntmps12
    go_wp2_with fail
    go_at_call 37
    refine c1.mono ?_
    rintro e w1 ⟨rfl, rfl⟩
    go_wp2_with fail
    go_ret
    exact ⟨rfl, HSAME.out _ (Below.refl _ _)⟩
  | true =>
    have e : saveE i l = tcheck l := by unfold saveE; rw [if_pos hm]
    rw [hm] at c1
    by_cases ht : tcheck l = 0
    · obtain ⟨k, rfl, k1, k2⟩ := may_nat hm
      have e2 : saveI A (k : Int) l = saveA A k l := by unfold saveI; rw [e, if_pos ht]; rfl
      rw [e, ht, e2]
      rw [ht] at hck
      have hk7 : (k : Int) < 7 := by omega
      have hk0 : ¬ (k : Int) < 0 := by omega
      have HAPP : Hid (∀ W, Below w.heap.size w W → ∀ ty, ∃ a8 n8 c8 w8, (Builtin.append_ #[33, 33] ty #[.slice (some ⟨W.heap.size, 0, none⟩) 0 0, .slice a n c]).run Tryz.prog (W.drew.alloc (.cells #[] 73)) = .ok (.slice a8 n8 c8) w8 ∧
          (∃ u, w8.cell? ⟨ba, k, none⟩ = some u) ∧ w8.frozen? ⟨ba, k, none⟩ = false ∧ (∃ u, (w8.setCell ⟨ba, k, none⟩ (.slice a8 n8 c8)).cell? ⟨ba, 7 + k, none⟩ = some u) ∧ (w8.setCell ⟨ba, k, none⟩ (.slice a8 n8 c8)).frozen? ⟨ba, 7 + k, none⟩ = false ∧
          (∃ u, ((w8.setCell ⟨ba, k, none⟩ (.slice a8 n8 c8)).setCell ⟨ba, 7 + k, none⟩ (.bool true)).cell? ⟨ba, 14 + k, none⟩ = some u) ∧ ((w8.setCell ⟨ba, k, none⟩ (.slice a8 n8 c8)).setCell ⟨ba, 7 + k, none⟩ (.bool true)).frozen? ⟨ba, 14 + k, none⟩ = false ∧
          Lf (RefX ba) w G (saveA A k l) (((w8.setCell ⟨ba, k, none⟩ (.slice a8 n8 c8)).setCell ⟨ba, 7 + k, none⟩ (.bool true)).setCell ⟨ba, 14 + k, none⟩ (.bool false))) := Lib.hid (fun W hW ty => by
        obtain ⟨a8, n8, c8, w8, r8, o8, b8⟩ := copy_run a n c l W (hl.below hW) hnil hn ty
        have hX := (kd_ref ba).kept h (fun i hi => hW.block i (h.low i hi))
        have hX8 := (kd_ref ba).kept hX (fun i hi => b8.block i (hX.low i hi))
        obtain ⟨f, hf, _⟩ := hX8.fn
        have q1 := hf k (by omega)
        have q2 := (hf.set k (.slice a8 n8 c8)) (7 + k) (by omega)
        have q3 := ((hf.set k (.slice a8 n8 c8)).set (7 + k) (.bool true)) (14 + k) (by omega)
        obtain ⟨F', l1, l2, l3⟩ := saved hX (show k < 7 by omega) b8 o8
        exact ⟨a8, n8, c8, w8, r8, ⟨_, q1⟩, hX8.warm k, ⟨_, q2⟩, by simp [hX8.warm], ⟨_, q3⟩, by simp [hX8.warm], F', l1, (Chg.of_below hW).trans l2 (fun g hg => .inl hg), fun g hg => (l3 g hg).imp id (fun hh => Nat.le_trans hW.size hh)⟩)
      clear h e e2 hl hm hs ht HSAME hnil
      go_enter Tryz.func12, Tryz.ntmps12
      go_wp2_with fail
      go_at_call 37
      refine c1.mono ?_
      rintro e w1 ⟨rfl, rfl⟩
      have hck1 := hck.out _ (Below.refl _ _)
      go_wp2_with fail
      go_at_call 21
      refine hck1.mono ?_
      rintro e w2 ⟨rfl, hb2⟩
      have HE := HAPP.out w2 hb2
      clear hck1 c1 hb2 HAPP hck
      go_wp2_with fail
      refine Rg.wp_only ?_ (regSave _ (by kernel_rfl) _ ba k (.slice a n c) w2 (fun v8 W => (∃ u, (W.setCell ⟨ba, k, none⟩ v8).cell? ⟨ba, 7 + k, none⟩ = some u) ∧ (W.setCell ⟨ba, k, none⟩ v8).frozen? ⟨ba, 7 + k, none⟩ = false ∧
          (∃ u, ((W.setCell ⟨ba, k, none⟩ v8).setCell ⟨ba, 7 + k, none⟩ (.bool true)).cell? ⟨ba, 14 + k, none⟩ = some u) ∧ ((W.setCell ⟨ba, k, none⟩ v8).setCell ⟨ba, 7 + k, none⟩ (.bool true)).frozen? ⟨ba, 14 + k, none⟩ = false ∧
          Lf (RefX ba) w1 G (saveA A k l) (((W.setCell ⟨ba, k, none⟩ v8).setCell ⟨ba, 7 + k, none⟩ (.bool true)).setCell ⟨ba, 14 + k, none⟩ (.bool false))) hk7 (by omega) HE)
      rintro _ w9 ⟨z8, a8, n8, c8, w8, rfl, rfl, ⟨u7, q7⟩, f7, ⟨u14, q14⟩, f14, hl⟩
      have HL := Lib.hid hl
      clear hl HE
      generalize w8.setCell ⟨ba, k, none⟩ (.slice a8 n8 c8) = W9 at q7 f7 q14 f14 HL ⊢
      go_wp2_with fail
      go_ret
      exact ⟨rfl, HL.out⟩
    · have e2 : saveI A i l = A := by unfold saveI; rw [e, if_neg ht]
      have hz : ¬ ((tcheck l : Nat) : Int) = 0 := by omega
      rw [e, e2]
      clear h e e2 hl
      go_enter Tryz.func12, Tryz.ntmps12
      go_wp2_with fail
      go_at_call 37
      refine c1.mono ?_
      rintro e w1 ⟨rfl, rfl⟩
      have hck1 := hck.out _ (Below.refl _ _)
      go_wp2_with fail
      go_at_call 21
      refine hck1.mono ?_
      rintro e w2 ⟨rfl, hb2⟩
      have hck2 := hck.out _ hb2
      clear hck1 c1
      go_wp2_with fail
      go_at_call 21
      refine hck2.mono ?_
      rintro e w3 ⟨rfl, hb3⟩
      clear hck2
      go_wp2_with fail
      go_ret
      exact ⟨rfl, HSAME.out _ (below_call hb2 hb3)⟩
end Go.Proofs.YtdkgkomjbpggeaaGreatDoor.Ac

namespace Go.Proofs.YtdkgkomjbpggeaaGreatDoor.Ac
open Go.RowKit Tx Pm Pr Dk
open En (Et tcheck Ents Small)
set_option linter.unusedVariables false
set_option linter.unusedSimpArgs false
set_option linter.unnecessarySimpa false
def hiE : Et := ⟨⟨#[97]⟩, ⟨2, ⟨#[104, 105]⟩⟩⟩
theorem hi_ok : tcheck [hiE] = 0 := by decide +kernel
theorem hi_ents {W : World} {b : Nat} (h : W.heap[b]? = some (.cells #[.string ⟨#[97]⟩, .int .i64 2, .string ⟨#[104, 105]⟩] 73)) : Ents W (some ⟨b, 0, none⟩) 1 [hiE] := by
  refine ⟨rfl, .inr ⟨b, 0, rfl, (Array.getElem?_eq_some_iff.1 h).1, fun k x hx => ?_⟩⟩
  match k, hx with
  | 0, hx =>
    injection hx with hx
    subst hx
    refine ⟨?_, ?_, ?_⟩ <;> (unfold World.cell?; rw [h]; rfl)
  | k + 1, hx => simp at hx
def hiO : Obj := .cells #[.string ⟨#[97]⟩, .int .i64 2, .string ⟨#[104, 105]⟩] 73
theorem hi_save {T : World → Prop} {O : Nat → Nat → Ob} {Cm : Nat → Ob} {Op : Nat → Nat → Ob} (hI : Impl T O Cm Op) {w0 W : World} (hT : T w0) {d u k : Nat} {A : Ar} {F : Nat → Prop} (o : O d u W F (A, k)) (hF : ∀ i, F i → w0.heap.size ≤ i) (hb : Below w0.heap.size w0 W) (hk : k ≤ 1000000) :
    Calls Tryz.prog 11 #[.pointer (some ⟨u, 0, none⟩), .int .i64 1, .slice (some ⟨W.heap.size, 0, none⟩) 1 1] (W.alloc hiO) fun e w' => e = .returned (.int .i64 0) ∧ Mine (O d u) w0 (saveA A 1 [hiE], k + 10008) w' ∧ w'.heap[W.heap.size]? = some hiO := by
  have hB1 : Below W.heap.size W (W.alloc hiO) := (Below.refl _ _).alloc (Nat.le_refl _) _
  have hb1 := below_call hb hB1
  have o1 := lf_below (hI.kO d u) o hB1
  have hat : (W.alloc hiO).heap[W.heap.size]? = some hiO := heap_alloc_new _ _
  have hnF : ¬ F W.heap.size := fun h => by have := (hI.kO d u).lt o _ h; omega
  have e1 : saveE 1 [hiE] = 0 := by unfold saveE; rw [if_pos (by decide), hi_ok]
  have e2 : saveI A 1 [hiE] = saveA A 1 [hiE] := by unfold saveI; rw [if_pos e1]; rfl
  have c := hI.save (1 : Int) (some ⟨W.heap.size, 0, none⟩) 1 1 [hiE] (tk0 hI hT hb1) o1 (by rw [show bk [hiE] = 8 from rfl]; omega) (by omega) (hi_ents hat) (by omega) (by omega) (.inr (fun x hx => by injection hx with hx; subst hx; exact hnF))
  rw [e1, e2, show k + 10000 + bk [hiE] = k + 10008 from rfl] at c
  refine c.mono fun e w' ⟨he, hl⟩ => ⟨he, Mine.left hF hb1 hl, ?_⟩
  obtain ⟨F', l1, l2, l3⟩ := hl
  exact (l2.block _ (Array.getElem?_eq_some_iff.1 hat).1 hnF).trans hat
theorem hi_load (A : Ar) : loadI (saveA A 1 [hiE]) 1 = ([hiE], 0) := by
  unfold loadI
  rw [if_pos (by decide)]
  rfl
set_option maxRecDepth 100000 in
set_option maxHeartbeats 4000000 in
theorem awake_any {T : World → Prop} {O : Nat → Nat → Ob} {Cm : Nat → Ob} {Op : Nat → Nat → Ob} (hI : Impl T O Cm Op) (w0 : World) (hT : T w0) :
    Calls Tryz.prog 8 #[] w0 fun e w' => e = .returned (.bool true) ∧ Below w0.heap.size w0 w' := by
  have c1 := mine_new hI hT (Below.refl _ _)
  go_enter Tryz.func8, Tryz.ntmps8
  go_wp2_with fail
  go_at_call 6
  refine c1.mono ?_
  rintro e w1 ⟨d, rfl, m1⟩
  have c2 := mine_open hI hT m1 (by omega)
  clear c1 m1
  go_wp2_with fail
  go_at_call 7
  refine c2.mono ?_
  rintro e w2 ⟨t, rfl, m2⟩
  have c3 := mine_begin hI hT m2 (by omega)
  clear c2 m2
  go_wp2_with fail
  go_at_call 9
  refine c3.mono ?_
  rintro e w3 ⟨u, rfl, m3⟩
  clear c3
  obtain ⟨F, o3, hF, hb3⟩ := m3
  have c4 := hi_save hI hT o3 hF hb3 (by omega)
  unfold hiO at c4
  clear o3 hF hb3
  go_wp2_with fail
  refine c4.mono ?_
  rintro e w4 ⟨rfl, m4, h4⟩
  have c5 := mine_load hI hT m4 (by omega) 1 (by omega)
  rw [hi_load] at c5
  have HB4 := Lib.hid (And.intro m4.bel h4)
  clear c4 m4 h4
  obtain ⟨bk, hbk⟩ : ∃ bk, bk = w3.heap.size := ⟨_, rfl⟩
  rw [← hbk] at HB4 ⊢
  clear hbk
  go_wp2_with fail
  go_at_call 22
  refine c5.mono ?_
  rintro e w5 ⟨a5, n5, rfl, e5, _, m5, b5⟩
  have h5 := (b5.block _ (Array.getElem?_eq_some_iff.1 HB4.out.2).1).trans HB4.out.2
  have c6 := En.refSame_any a5 (some ⟨bk, 0, none⟩) 1 1 n5 1 [hiE] [hiE] w5 e5 (hi_ents h5) (by omega) (by omega)
  have HB5 := Lib.hid m5.bel
  clear c5 e5 m5 b5 h5
  go_wp2_with fail
  go_at_call 23
  refine c6.mono ?_
  rintro e w6 ⟨B, hB, rfl, b6⟩
  obtain rfl : B = true := hB.2 rfl
  go_wp2_with fail
  go_ret
  exact ⟨rfl, below_call HB5.out b6⟩
end Go.Proofs.YtdkgkomjbpggeaaGreatDoor.Ac

namespace Go.Proofs.YtdkgkomjbpggeaaGreatDoor.Ea
open Go.RowKit Tx En Ap
set_option linter.unusedVariables false
def wasE (j : Nat) : Et := ⟨⟨#[]⟩, ⟨1000 + (j : Int), ⟨#[]⟩⟩⟩
def newE (j : Nat) : Et := ⟨⟨#[]⟩, ⟨2000 + (j : Int), ⟨#[]⟩⟩⟩
structure Ls where
  m : Nat
  A : Nat → Option Addr
  N : Nat → Nat
  C : Nat → Nat
  bo : Nat
  B : Nat
namespace Ls
variable (L : Ls)
def val (j : Nat) : Value := .slice (L.A j) (L.N j) (L.C j)
def cells (w : World) : Prop := ∀ j, j < L.m → w.cell? ⟨L.bo, j, none⟩ = some (.slice (L.A j) (L.N j) (L.C j))
def far : Prop := (∀ i j, i < L.m → j < L.m → i ≠ j → ∀ x, L.A i = some x → L.A j ≠ some x) ∧ ∀ j, j < L.m → ∀ g, L.A j = some ⟨g, 0, none⟩ → g ≠ L.bo
def marked (w : World) (i k : Nat) : Prop := ∀ j, j < L.m → ∃ xs : List Et, w.ownsRow L.B 73 3 (.slice (L.A j) (L.N j) (L.C j)) (L.N j) (xs.flatMap En.cells) ∧ ∀ l, l < L.N j → (j < i ∨ j = i ∧ l < k) → xs[l]? = some (wasE j)
end Ls
theorem marked_next {L : Ls} {w : World} {i : Nat} (h : L.marked w i (L.N i)) : L.marked w (i + 1) 0 := by
  intro j hj
  obtain ⟨xs, h1, h2⟩ := h j hj
  refine ⟨xs, h1, fun l hl hh => h2 l hl ?_⟩
  rcases hh with hh | ⟨_, hh⟩
  · by_cases e : j = i
    · subst e; exact .inr ⟨rfl, hl⟩
    · exact .inl (by omega)
  · omega
theorem addr_eq {A : Option Addr} {n c : Nat} {w : World} {B size : Nat} {e : TypeId} {xs : List Value} (h : w.ownsRow B e size (.slice A n c) n xs) (hn : 0 < n) : ∃ g, A = some ⟨g, 0, none⟩ ∧ B ≤ g := by
  obtain ⟨g, cap, hv, hg, _⟩ := h.form hn
  injection hv with ha
  exact ⟨g, ha, hg⟩
def put3 (w : World) (g k : Nat) (x : Et) : World := ((w.setCell ⟨g, k * 3, none⟩ (.string x.path)).setCell ⟨g, k * 3 + 1, none⟩ (.int .i64 x.node.kind)).setCell ⟨g, k * 3 + 1 + 1, none⟩ (.string x.node.data)
theorem marked_store {L : Ls} {w : World} {i k g : Nat} (hf : L.far) (h : L.marked w i k) (hi : i < L.m) (hk : k < L.N i) (ha : L.A i = some ⟨g, 0, none⟩) : L.marked (put3 w g k (wasE i)) i (k + 1) := by
  intro j hj
  obtain ⟨xs, h1, h2⟩ := h j hj
  have hxl : xs.length = L.N j := by have := h1.1; rw [flat_len] at this; omega
  by_cases e : j = i
  · subst e
    rw [ha] at h1 ⊢
    have hl2 : k < xs.length := by omega
    refine ⟨xs.set k (wasE j), own_store h1 hl2 _, fun l hl hh => ?_⟩
    by_cases e2 : l = k
    · subst e2
      exact List.getElem?_set_self hl2
    · rw [List.getElem?_set_ne (fun e => e2 e.symm)]
      exact h2 l hl (.inr ⟨rfl, by rcases hh with hh | ⟨_, hh⟩ <;> omega⟩)
  · have hb : (Value.slice (L.A j) (L.N j) (L.C j)).ownBlock ≠ some g := by
      intro hb
      cases hA : L.A j with
      | none => rw [hA] at hb; simp [Value.ownBlock] at hb
      | some x =>
        by_cases h0 : L.N j = 0
        · rcases h1.2 with ⟨hv, _⟩ | ⟨g', cap', cur, hv, _⟩
          · rw [hA] at hv; cases hv
          · rw [hA] at hv hb
            injection hv with hx
            injection hx with hx
            subst hx
            simp only [Value.ownBlock, Option.some.injEq] at hb
            subst hb
            exact hf.1 j i hj hi e _ hA ha
        · obtain ⟨g', ha', _⟩ := addr_eq h1 (by omega)
          rw [hA] at ha' hb
          injection ha' with hx
          subst hx
          simp only [Value.ownBlock, Option.some.injEq] at hb
          subst hb
          exact hf.1 j i hj hi e _ hA ha
    refine ⟨xs, own_far (own_far (own_far h1 hb _) hb _) hb _, fun l hl hh => h2 l hl ?_⟩
    rcases hh with hh | ⟨hh, _⟩
    · exact .inl hh
    · exact absurd hh e
theorem cells_store {L : Ls} {w : World} {i k g : Nat} (hf : L.far) (h : L.cells w) (hi : i < L.m) (ha : L.A i = some ⟨g, 0, none⟩) (x : Et) : L.cells (put3 w g k x) := by
  intro j hj
  have hne := hf.2 i hi g ha
  unfold put3
  rw [World.cell?_setCell_other _ _ _ _ (fun e => hne (by injection e)), World.cell?_setCell_other _ _ _ _ (fun e => hne (by injection e)), World.cell?_setCell_other _ _ _ _ (fun e => hne (by injection e))]
  exact h j hj
def sw (j : Nat) : Value := .int .i64 (1000 + (j : Int))
def sn (j : Nat) : Value := .int .i64 (2000 + (j : Int))
def row (L : Ls) (j k : Nat) : List Et := List.replicate (L.N j) (wasE j) ++ List.replicate k (newE j)
theorem row_was {L : Ls} {j k l : Nat} (h : l < L.N j) : (row L j k)[l]? = some (wasE j) := by
  rw [row, List.getElem?_append_left (by simpa using h), List.getElem?_replicate, if_pos h]
theorem row_new {L : Ls} {j k l : Nat} (h : ¬ l < L.N j) (h2 : l < L.N j + k) : (row L j k)[l]? = some (newE j) := by
  rw [row, List.getElem?_append_right (by simp; omega), List.length_replicate, List.getElem?_replicate, if_pos (by omega)]
theorem row_zero (L : Ls) (j : Nat) : row L j 0 = List.replicate (L.N j) (wasE j) := by simp [row]
theorem row_step (L : Ls) (j k : Nat) : row L j k ++ [newE j] = row L j (k + 1) := by
  rw [row, row, List.append_assoc, List.replicate_succ']
theorem own_kind {w : World} {base g n cap : Nat} {xs : List Et} (h : w.ownsRow base 73 3 (.slice (some ⟨g, 0, none⟩) n cap) n (xs.flatMap En.cells)) {l : Nat} {x : Et} (hl : xs[l]? = some x) : w.cell? ⟨g, l * 3 + 1, none⟩ = some (.int .i64 x.node.kind) :=
  own_cell h (flat_at xs l x 1 hl (by omega))
theorem own_same {w w1 : World} {base n size : Nat} {e : TypeId} {v : Value} {xs : List Value} (h : w.ownsRow base e size v n xs) (hk : ∀ q, q < w.heap.size → v.ownBlock = some q → w1.heap[q]? = w.heap[q]?) : w1.ownsRow base e size v n xs := by
  refine ⟨h.1, ?_⟩
  rcases h.2 with h0 | ⟨g, cap, cur, rfl, hb, hh, r⟩
  · exact .inl h0
  · exact .inr ⟨g, cap, cur, rfl, hb, (hk g (Array.getElem?_eq_some_iff.1 hh).1 rfl).trans hh, r⟩
theorem own_lt {w : World} {base n size : Nat} {e : TypeId} {v : Value} {xs : List Value} (h : w.ownsRow base e size v n xs) {g : Nat} (hg : v.ownBlock = some g) : base ≤ g ∧ g < w.heap.size := h.lt g hg
theorem cell_same {w w1 : World} {g k : Nat} {u : Value} (h : w.cell? ⟨g, k, none⟩ = some u) (hk : w1.heap[g]? = w.heap[g]?) : w1.cell? ⟨g, k, none⟩ = some u := (World.cell?_of_block (a := ⟨g, k, none⟩) hk).trans h
structure Inv (L : Ls) (w0 : World) (H i r : Nat) (w : World) (v6 : Value) (vs : List Value) (b c : Nat → Nat) : Prop where
  cells : L.cells w
  held : ∀ j, j < L.m → ∀ l, l < L.N j → ∃ g, L.A j = some ⟨g, 0, none⟩ ∧ w.cell? ⟨g, l * 3 + 1, none⟩ = some (sw j)
  rows : ∀ j, r ≤ j → j < L.m → w.ownsRow L.B 73 3 (.slice (L.A j) (L.N j) (L.C j)) (L.N j) ((row L j 0).flatMap En.cells)
  outer : w.ownsRow L.B 33 1 v6 i vs
  high : ∀ g, v6.ownBlock = some g → H ≤ g
  long : ∀ j, j < i → vs[j]? = some (.slice (some ⟨b j, 0, none⟩) (L.N j + 20) (c j)) ∧ w.ownsRow L.B 73 3 (.slice (some ⟨b j, 0, none⟩) (L.N j + 20) (c j)) (L.N j + 20) ((row L j 20).flatMap En.cells) ∧ (L.A j = some ⟨b j, 0, none⟩ ∨ H ≤ b j)
  apart : ∀ j k, j < i → k < i → j ≠ k → b j ≠ b k
  low : ∀ j, j < L.m → ∀ g, L.A j = some ⟨g, 0, none⟩ → g < H
  bo : L.bo < H
  size : H ≤ w.heap.size
  below : Below L.B w0 w
  base : L.B ≤ H
structure Cur (L : Ls) (H i k : Nat) (w : World) (v : Value) (b : Nat → Nat) : Prop where
  own : w.ownsRow L.B 73 3 v (L.N i + k) ((row L i k).flatMap En.cells)
  at_ : ∀ g, v.ownBlock = some g → (L.A i = some ⟨g, 0, none⟩ ∨ H ≤ g) ∧ ∀ j, j < i → b j ≠ g
theorem inv_start {L : Ls} {w0 w : World} (hf : L.far) (hc : L.cells w) (hm : L.marked w L.m 0) (hbo : L.bo < w.heap.size) (hB : L.B ≤ w.heap.size) (hb : Below L.B w0 w) : Inv L w0 w.heap.size 0 0 w (.slice none 0 0) [] (fun _ => 0) (fun _ => 0) := by
  have hrow : ∀ j, j < L.m → w.ownsRow L.B 73 3 (.slice (L.A j) (L.N j) (L.C j)) (L.N j) ((row L j 0).flatMap En.cells) := by
    intro j hj
    obtain ⟨xs, h1, h2⟩ := hm j hj
    have e : xs = row L j 0 := by
      rw [row_zero]
      apply List.ext_getElem?
      intro l
      rw [List.getElem?_replicate]
      have hxl : xs.length = L.N j := by have := h1.1; rw [flat_len] at this; omega
      by_cases hl : l < L.N j
      · rw [if_pos hl]; exact h2 l hl (.inl hj)
      · rw [if_neg hl, List.getElem?_eq_none (by omega)]
    rw [← e]
    exact h1
  refine ⟨hc, ?_, fun j _ hj => hrow j hj, World.ownsRow_nil _ _ _ _, fun g hg => by simp [Value.ownBlock] at hg, fun j hj => absurd hj (by omega), fun j k hj => absurd hj (by omega), ?_, hbo, Nat.le_refl _, hb, hB⟩
  · intro j hj l hl
    have h1 := hrow j hj
    obtain ⟨g, ha, _⟩ := addr_eq h1 (by omega)
    rw [ha] at h1
    exact ⟨g, ha, own_kind h1 (row_was hl)⟩
  · intro j hj g ha
    have h1 := hrow j hj
    rw [ha] at h1
    exact (own_lt h1 rfl).2
theorem cur_start {L : Ls} {w0 w : World} {H i r : Nat} {v6 : Value} {vs : List Value} {b c : Nat → Nat} (hf : L.far) (h : Inv L w0 H i r w v6 vs b c) (hr : r ≤ i) (hi : i < L.m) : Cur L H i 0 w (.slice (L.A i) (L.N i) (L.C i)) b := by
  have h1 := h.rows i hr hi
  refine ⟨h1, fun g hg => ?_⟩
  have ha : L.A i = some ⟨g, 0, none⟩ := by
    rcases h1.2 with ⟨hv, _⟩ | ⟨g', cap', cur, hv, _⟩
    · rw [hv] at hg; simp [Value.ownBlock] at hg
    · rw [hv] at hg
      simp only [Value.ownBlock, Option.some.injEq] at hg
      subst hg
      injection hv
  refine ⟨.inl ha, fun j hj e => ?_⟩
  rcases (h.long j hj).2.2 with h2 | h2
  · rw [e] at h2
    exact hf.1 j i (by omega) hi (by omega) _ h2 ha
  · have := h.low i hi g ha
    omega
theorem cur_step {L : Ls} {w0 w w1 : World} {H i k r : Nat} {v v1 v6 : Value} {vs : List Value} {b c : Nat → Nat} {o : Obj} (hf : L.far) (h : Inv L w0 H i r w v6 vs b c) (hi : i < L.m) (hc : Cur L H i k w v b)
    (hown : w1.ownsRow L.B 73 3 v1 (L.N i + k + 1) ((row L i k).flatMap En.cells ++ En.cells (newE i)))
    (hg : (v1.ownBlock = v.ownBlock ∧ (w.alloc o).grownBy w1 v.ownBlock) ∨ (v1.ownBlock = some (w.heap.size + 1) ∧ (w.alloc o).grownBy w1 none)) :
    (∀ q, q < w.heap.size → (∀ g, v.ownBlock = some g → q ≠ g) → w1.heap[q]? = w.heap[q]?) ∧ Cur L H i (k + 1) w1 v1 b ∧ w.heap.size ≤ w1.heap.size ∧ Below L.B w0 w1 ∧
      (∀ q, L.A i = some ⟨q, 0, none⟩ → ∀ l, l < L.N i → w1.cell? ⟨q, l * 3 + 1, none⟩ = some (sw i)) := by
  have hB : L.B ≤ w.heap.size := Nat.le_trans h.base h.size
  have hal : w.heap.size + 1 = (w.alloc o).heap.size := (World.size_alloc _ _).symm
  have hk : ∀ q, q < w.heap.size → (∀ g, v.ownBlock = some g → q ≠ g) → w1.heap[q]? = w.heap[q]? := by
    intro q hq hne
    rcases hg with ⟨_, hg⟩ | ⟨_, hg⟩
    · exact (hg.block q (by omega) (fun e => hne q e.symm rfl)).trans (Below.heap_alloc w o q hq)
    · exact (hg.block q (by omega) (by simp)).trans (Below.heap_alloc w o q hq)
  have hown2 : w1.ownsRow L.B 73 3 v1 (L.N i + (k + 1)) ((row L i (k + 1)).flatMap En.cells) := by
    rw [← row_step, List.flatMap_append, List.flatMap_cons, List.flatMap_nil, List.append_nil]
    exact hown
  have hsz : w.heap.size ≤ w1.heap.size := by
    rcases hg with ⟨_, hg⟩ | ⟨_, hg⟩
    · have := hg.size; omega
    · have := hg.size; omega
  have hbel : Below L.B w0 w1 := by
    have h2 := h.below.alloc hB o
    rcases hg with ⟨_, hg⟩ | ⟨_, hg⟩
    · exact h2.grown hg (by omega) (fun q hq => (own_lt hc.own hq).1)
    · exact h2.grown hg (by omega) (fun q hq => by cases hq)
  refine ⟨hk, ⟨hown2, fun g hg1 => ?_⟩, hsz, hbel, fun q hq l hl => ?_⟩
  · rcases hg with ⟨he, _⟩ | ⟨he, _⟩
    · exact hc.at_ g (by rw [← he]; exact hg1)
    · rw [he] at hg1
      injection hg1 with hg1
      have hs := h.size
      refine ⟨.inr (by omega), fun j hj e => ?_⟩
      have h9 : b j < w.heap.size := (own_lt (h.long j hj).2.1 rfl).2
      omega
  · by_cases hv : v.ownBlock = some q
    · rcases hg with ⟨he, _⟩ | ⟨_, hg⟩
      · obtain ⟨g', cap', hv', _, _⟩ := hown2.form (by omega)
        rw [hv'] at he hown2
        rw [hv] at he
        simp only [Value.ownBlock, Option.some.injEq] at he
        subst he
        exact own_kind hown2 (row_was hl)
      · obtain ⟨g', hA, hcell⟩ := h.held i hi l hl
        rw [hq] at hA
        injection hA with hA
        injection hA with hA
        subst hA
        have hq' := World.block_lt_of_cell? w _ hcell
        exact cell_same hcell ((hg.block q (by have : q < w.heap.size := hq'; omega) (by simp)).trans (Below.heap_alloc w o q hq'))
    · obtain ⟨g', hA, hcell⟩ := h.held i hi l hl
      rw [hq] at hA
      injection hA with hA
      injection hA with hA
      subst hA
      exact cell_same hcell (hk q (World.block_lt_of_cell? w _ hcell) (fun g hg e => hv (by rw [hg, e])))
theorem inv_step {L : Ls} {w0 w w1 : World} {H i k r : Nat} {v v6 : Value} {vs : List Value} {b c : Nat → Nat} (hf : L.far) (h : Inv L w0 H i r w v6 vs b c) (hi : i < L.m) (hc : Cur L H i k w v b) (rowsi : ∀ j, i < j → j < L.m → w.ownsRow L.B 73 3 (.slice (L.A j) (L.N j) (L.C j)) (L.N j) ((row L j 0).flatMap En.cells))
    (hk : ∀ q, q < w.heap.size → (∀ g, v.ownBlock = some g → q ≠ g) → w1.heap[q]? = w.heap[q]?) (hsz : w.heap.size ≤ w1.heap.size) (hbel : Below L.B w0 w1)
    (hi1 : ∀ q, L.A i = some ⟨q, 0, none⟩ → ∀ l, l < L.N i → w1.cell? ⟨q, l * 3 + 1, none⟩ = some (sw i)) :
    L.cells w1 ∧ (∀ j, j < L.m → ∀ l, l < L.N j → ∃ g, L.A j = some ⟨g, 0, none⟩ ∧ w1.cell? ⟨g, l * 3 + 1, none⟩ = some (sw j)) ∧
      (∀ j, i < j → j < L.m → w1.ownsRow L.B 73 3 (.slice (L.A j) (L.N j) (L.C j)) (L.N j) ((row L j 0).flatMap En.cells)) ∧ w1.ownsRow L.B 33 1 v6 i vs ∧
      (∀ j, j < i → vs[j]? = some (.slice (some ⟨b j, 0, none⟩) (L.N j + 20) (c j)) ∧ w1.ownsRow L.B 73 3 (.slice (some ⟨b j, 0, none⟩) (L.N j + 20) (c j)) (L.N j + 20) ((row L j 20).flatMap En.cells) ∧ (L.A j = some ⟨b j, 0, none⟩ ∨ H ≤ b j)) := by
  have hs := h.size
  have hbo := h.bo
  refine ⟨fun j hj => ?_, fun j hj l hl => ?_, fun j hij hj => ?_, ?_, fun j hj => ?_⟩
  · refine cell_same (h.cells j hj) (hk L.bo (by omega) (fun g hg e => ?_))
    subst e
    rcases (hc.at_ _ hg).1 with ha | ha
    · exact hf.2 i hi _ ha rfl
    · omega
  · by_cases e : j = i
    · subst e
      obtain ⟨g, ha, _⟩ := h.held j hj l hl
      exact ⟨g, ha, hi1 g ha l hl⟩
    · obtain ⟨g, ha, hcell⟩ := h.held j hj l hl
      refine ⟨g, ha, cell_same hcell (hk g (World.block_lt_of_cell? w _ hcell) (fun q hq e2 => ?_))⟩
      subst e2
      rcases (hc.at_ _ hq).1 with h2 | h2
      · exact hf.1 j i hj hi e _ ha h2
      · have := h.low j hj _ ha
        omega
  · have h1 := rowsi j hij hj
    refine own_same h1 (fun q hq hv => hk q hq (fun g hg e => ?_))
    subst e
    have ha : L.A j = some ⟨q, 0, none⟩ := by
      rcases h1.2 with ⟨hv2, _⟩ | ⟨g', cap', cur, hv2, _⟩
      · rw [hv2] at hv; simp [Value.ownBlock] at hv
      · rw [hv2] at hv
        simp only [Value.ownBlock, Option.some.injEq] at hv
        subst hv
        injection hv2
    rcases (hc.at_ _ hg).1 with h2 | h2
    · exact hf.1 j i hj hi (by omega) _ ha h2
    · have := h.low j hj _ ha
      omega
  · exact own_same h.outer (fun q hq hv => hk q hq (fun g hg e => by
      subst e
      exact types_ne hc.own h.outer (by decide) hg hv))
  · obtain ⟨h1, h2, h3⟩ := h.long j hj
    refine ⟨h1, own_same h2 (fun q hq hv => hk q hq (fun g hg e => ?_)), h3⟩
    simp only [Value.ownBlock, Option.some.injEq] at hv
    subst hv
    exact (hc.at_ g hg).2 j hj e
theorem inv_next {L : Ls} {w0 w w1 : World} {H i bv cv r : Nat} {v6 v7 : Value} {vs : List Value} {b c : Nat → Nat} {o : Obj} (hf : L.far) (h : Inv L w0 H i r w v6 vs b c) (hi : i < L.m) (hc : Cur L H i 20 w (.slice (some ⟨bv, 0, none⟩) (L.N i + 20) cv) b)
    (rowsi : ∀ j, i < j → j < L.m → w.ownsRow L.B 73 3 (.slice (L.A j) (L.N j) (L.C j)) (L.N j) ((row L j 0).flatMap En.cells))
    (hown : w1.ownsRow L.B 33 1 v7 (i + 1) (vs ++ [.slice (some ⟨bv, 0, none⟩) (L.N i + 20) cv]))
    (hg : (v7.ownBlock = v6.ownBlock ∧ (w.alloc o).grownBy w1 v6.ownBlock) ∨ (v7.ownBlock = some (w.heap.size + 1) ∧ (w.alloc o).grownBy w1 none)) :
    Inv L w0 H (i + 1) (i + 1) w1 v7 (vs ++ [.slice (some ⟨bv, 0, none⟩) (L.N i + 20) cv]) (fun j => if j = i then bv else b j) (fun j => if j = i then cv else c j) := by
  have hB : L.B ≤ w.heap.size := Nat.le_trans h.base h.size
  have hal : w.heap.size + 1 = (w.alloc o).heap.size := (World.size_alloc _ _).symm
  have hs := h.size
  have hbo := h.bo
  have hvl : vs.length = i := by have := h.outer.1; omega
  have hk : ∀ q, q < w.heap.size → (∀ g, v6.ownBlock = some g → q ≠ g) → w1.heap[q]? = w.heap[q]? := by
    intro q hq hne
    rcases hg with ⟨_, hg⟩ | ⟨_, hg⟩
    · exact (hg.block q (by omega) (fun e => hne q e.symm rfl)).trans (Below.heap_alloc w o q hq)
    · exact (hg.block q (by omega) (by simp)).trans (Below.heap_alloc w o q hq)
  have hsz : w.heap.size ≤ w1.heap.size := by
    rcases hg with ⟨_, hg⟩ | ⟨_, hg⟩
    · have := hg.size; omega
    · have := hg.size; omega
  have hbel : Below L.B w0 w1 := by
    have h2 := h.below.alloc hB o
    rcases hg with ⟨_, hg⟩ | ⟨_, hg⟩
    · exact h2.grown hg (by omega) (fun q hq => (own_lt h.outer hq).1)
    · exact h2.grown hg (by omega) (fun q hq => by cases hq)
  have hrow : ∀ {n : Nat} {v : Value} {xs : List Value}, w.ownsRow L.B 73 3 v n xs → w1.ownsRow L.B 73 3 v n xs := by
    intro n v xs h1
    exact own_same h1 (fun q hq hv => hk q hq (fun g hg e => by
      subst e
      exact types_ne h1 h.outer (by decide) hv hg))
  refine ⟨fun j hj => ?_, fun j hj l hl => ?_, fun j hij hj => hrow (rowsi j (by omega) hj), hown, fun g hg7 => ?_, fun j hj => ?_, fun j k hj hk2 hne => ?_, h.low, hbo, by omega, hbel, h.base⟩
  · refine cell_same (h.cells j hj) (hk L.bo (by omega) (fun g hg e => ?_))
    have := h.high g hg
    omega
  · obtain ⟨g, ha, hcell⟩ := h.held j hj l hl
    refine ⟨g, ha, cell_same hcell (hk g (World.block_lt_of_cell? w _ hcell) (fun q hq e2 => ?_))⟩
    have h1 := h.high q hq
    have h2 := h.low j hj g ha
    omega
  · rcases hg with ⟨he, _⟩ | ⟨he, _⟩
    · exact h.high g (by rw [← he]; exact hg7)
    · rw [he] at hg7
      injection hg7 with hg7
      omega
  · by_cases e : j = i
    · subst e
      rw [if_pos rfl, if_pos rfl]
      refine ⟨?_, hrow hc.own, (hc.at_ bv rfl).1⟩
      rw [List.getElem?_append_right (by omega), hvl, Nat.sub_self]
      rfl
    · rw [if_neg e, if_neg e]
      obtain ⟨h1, h2, h3⟩ := h.long j (by omega)
      refine ⟨?_, hrow h2, h3⟩
      rw [List.getElem?_append_left (by omega)]
      exact h1
  · by_cases e : j = i
    · by_cases e2 : k = i
      · omega
      · rw [if_pos e, if_neg e2]
        exact fun hh => (hc.at_ bv rfl).2 k (by omega) hh.symm
    · by_cases e2 : k = i
      · rw [if_neg e, if_pos e2]
        exact fun hh => (hc.at_ bv rfl).2 j (by omega) hh
      · rw [if_neg e, if_neg e2]
        exact h.apart j k (by omega) (by omega) hne
theorem both_step {L : Ls} {w0 w w1 : World} {H i k r : Nat} {v v1 v6 : Value} {vs : List Value} {b c : Nat → Nat} {o : Obj} (hf : L.far) (h : Inv L w0 H i r w v6 vs b c) (hr : r ≤ i + 1) (hi : i < L.m) (hc : Cur L H i k w v b)
    (hown : w1.ownsRow L.B 73 3 v1 (L.N i + k + 1) ((row L i k).flatMap En.cells ++ En.cells (newE i)))
    (hg : (v1.ownBlock = v.ownBlock ∧ (w.alloc o).grownBy w1 v.ownBlock) ∨ (v1.ownBlock = some (w.heap.size + 1) ∧ (w.alloc o).grownBy w1 none)) :
    Inv L w0 H i (i + 1) w1 v6 vs b c ∧ Cur L H i (k + 1) w1 v1 b := by
  obtain ⟨hk, hc1, hsz, hbel, hi1⟩ := cur_step hf h hi hc hown hg
  have rowsi := fun j (hij : i < j) (hj : j < L.m) => h.rows j (by omega) hj
  obtain ⟨a1, a2, a3, a4, a5⟩ := inv_step hf h hi hc rowsi hk hsz hbel hi1
  exact ⟨⟨a1, a2, fun j hij hj => a3 j (by omega) hj, a4, h.high, a5, h.apart, h.low, h.bo, Nat.le_trans h.size hsz, hbel, h.base⟩, hc1⟩
theorem outer_next {L : Ls} {w0 w w1 : World} {H i bv cv r : Nat} {v6 v7 : Value} {vs : List Value} {b c : Nat → Nat} {o : Obj} (hf : L.far) (h : Inv L w0 H i r w v6 vs b c) (hr : r ≤ i + 1) (hi : i < L.m) (hc : Cur L H i 20 w (.slice (some ⟨bv, 0, none⟩) (L.N i + 20) cv) b)
    (hown : w1.ownsRow L.B 33 1 v7 (i + 1) (vs ++ [.slice (some ⟨bv, 0, none⟩) (L.N i + 20) cv]))
    (hg : (v7.ownBlock = v6.ownBlock ∧ (w.alloc o).grownBy w1 v6.ownBlock) ∨ (v7.ownBlock = some (w.heap.size + 1) ∧ (w.alloc o).grownBy w1 none)) :
    ∃ b2 c2, Inv L w0 H (i + 1) (i + 1) w1 v7 (vs ++ [.slice (some ⟨bv, 0, none⟩) (L.N i + 20) cv]) b2 c2 :=
  ⟨_, _, inv_next hf h hi hc (fun j hij hj => h.rows j (by omega) hj) hown hg⟩
theorem inv_more {L : Ls} {w0 w : World} {H i r : Nat} {v6 : Value} {vs : List Value} {b c : Nat → Nat} (h : Inv L w0 H i r w v6 vs b c) (hr : r ≤ i + 1) : Inv L w0 H i (i + 1) w v6 vs b c :=
  ⟨h.cells, h.held, fun j hij hj => h.rows j (by omega) hj, h.outer, h.high, h.long, h.apart, h.low, h.bo, h.size, h.below, h.base⟩
end Go.Proofs.YtdkgkomjbpggeaaGreatDoor.Ea

namespace Go.Proofs.YtdkgkomjbpggeaaGreatDoor.Ea
open Go.RowKit Tx En Ap
set_option linter.unusedVariables false
theorem infoL : (Tryz.prog.info? 33).map (fun i => (i.zero, i.size, i.bytes)) = some (some (.slice none 0 0), 1, 24) := by kernel_rfl
theorem below_put3 {B g k : Nat} {x : Et} {w0 w : World} (h : Below B w0 w) (hg : B ≤ g) : Below B w0 (put3 w g k x) :=
  ((h.setCell (p := ⟨g, _, none⟩) hg _).setCell (p := ⟨g, _, none⟩) hg _).setCell (p := ⟨g, _, none⟩) hg _
set_option maxRecDepth 100000 in
set_option maxHeartbeats 4000000 in
theorem apart_any (L : Ls) (co : Nat) (w : World) (hm : L.m ≤ 1048576) (hN : ∀ j, j < L.m → L.N j ≤ 1048576) (hB : L.B ≤ w.heap.size) (hbo : L.bo < w.heap.size) (hbB : L.B ≤ L.bo) (hf : L.far) (hc : L.cells w) (hr : L.marked w 0 0) :
    Calls Tryz.prog 51 #[.slice (some ⟨L.bo, 0, none⟩) L.m co] w fun e w' => e = .returned (.bool true) ∧ Below L.B w w' := by
  obtain ⟨i0, hi0, hz0, hz1, hz2⟩ := info_parts infoE
  obtain ⟨i33, hi33, hy0, hy1, hy2⟩ := info_parts infoL
  have HN := Lib.hid hN
  have HF := Lib.hid hf
  have HC := Lib.hid hc
  have HR := Lib.hid hr
  clear hN hf hc hr
  go_enter Tryz.func51, Tryz.ntmps51
  go_wp2
  go_loopw [3, 4] (fun i _ wr => ∃ j : Nat, j ≤ L.m ∧ i = .int .i64 j ∧ Hid (L.cells wr) ∧ Hid (L.marked wr j 0) ∧ Below L.B w wr ∧ w.heap.size ≤ wr.heap.size) (fun i _ _ => L.m - (intOf i).toNat)
  case atStart => exact ⟨0, Nat.zero_le _, rfl, HC, HR, Below.refl _ _, Nat.le_refl _⟩
  case round =>
    obtain ⟨i, hi, rfl, hcells, hmark, hb, hsz⟩ := hrel
    by_cases hlt : i < L.m
    · have hcell := hcells.out i hlt
      have hNi := HN.out i hlt
      obtain ⟨n, hn⟩ : ∃ n, n = L.N i := ⟨_, rfl⟩
      rw [← hn] at hcell hNi
      have HNN := Lib.hid hn
      clear hn
      go_wp2
      go_loopw [4] (fun x wx => ∃ k : Nat, k ≤ n ∧ x = .int .i64 k ∧ Hid (L.cells wx) ∧ Hid (L.marked wx i k) ∧ Below L.B w wx ∧ w.heap.size ≤ wx.heap.size) (fun x _ => n - (intOf x).toNat)
      case atStart => exact ⟨0, Nat.zero_le _, rfl, hcells, hmark, hb, hsz⟩
      case round =>
        obtain ⟨k, hk, rfl, hcells2, hmark2, hb2, hsz2⟩ := hrel
        have hcell2 := hcells2.out i hlt
        rw [← HNN.out] at hcell2
        clear hcell hcells hmark hb hsz
        by_cases hkn : k < n
        · obtain ⟨xs, hx1, hx2⟩ := hmark2.out i hlt
          rw [← HNN.out] at hx1
          have hxl : xs.length = n := by have := hx1.1; rw [flat_len] at this; omega
          obtain ⟨g, ha, hg⟩ := addr_eq hx1 (by omega)
          rw [ha] at hcell2 hx1
          have hf0 := own_frozen hx1 (k * 3)
          have hf1 := own_frozen hx1 (k * 3 + 1)
          have hf2 := own_frozen hx1 (k * 3 + 1 + 1)
          obtain ⟨y, hy⟩ : ∃ y, xs[k]? = some y := ⟨_, List.getElem?_eq_getElem (by omega)⟩
          have hs0 := own_cell hx1 (k := k * 3 + 0) (flat_at xs k y 0 hy (by omega))
          have hs1 := own_cell hx1 (k := k * 3 + 1) (flat_at xs k y 1 hy (by omega))
          have hs2 := own_cell hx1 (k := k * 3 + 1 + 1) (flat_at xs k y 2 hy (by omega))
          simp only [Nat.add_zero] at hs0
          have hkn' : (k : Int) < (n : Int) := by omega
          have hlt' : (i : Int) < (L.m : Int) := by omega
          clear hx1 hx2 hy hxl
          go_wp2
          go_roundw
          case rel => exact ⟨k + 1, by omega, by go_num, cells_store (k := k) HF.out hcells2.out hlt ha (wasE i), marked_store HF.out hmark2.out hlt (by rw [← HNN.out]; exact hkn) ha, below_put3 (k := k) (x := wasE i) hb2 hg, by simpa [World.setCell] using hsz2⟩
          case measure => simp [intOf]; omega
        · obtain rfl : k = n := by omega
          have hdone : Hid (L.marked wr (i + 1) 0) := marked_next (by rw [← HNN.out]; exact hmark2.out)
          go_wp2
          go_roundw
          case rel => exact ⟨i + 1, by omega, by go_num, hcells2, hdone, hb2, hsz2⟩
          case measure => simp [intOf]; omega
    · obtain rfl : i = L.m := by omega
      clear HC HR
      have hinv := inv_start HF.out hcells.out hmark.out (by omega) (by omega) hb
      have HI := Lib.hid hinv
      obtain ⟨H, hH⟩ : ∃ H, H = wr.heap.size := ⟨_, rfl⟩
      rw [← hH] at HI
      clear hinv hH hcells hmark hb hsz hlt
      go_wp2
      go_loopw [5, 6, 7, 8] (fun v6 i _ _ wx => ∃ (k : Nat) (vs : List Value) (b c : Nat → Nat), k ≤ L.m ∧ i = .int .i64 k ∧ Hid (Inv L w H k k wx v6 vs b c)) (fun _ i _ _ _ => L.m - (intOf i).toNat)
      case atStart => exact ⟨0, [], _, _, Nat.zero_le _, rfl, HI⟩
      case round =>
        obtain ⟨i, vs, b, c, hi, rfl, HV⟩ := hrel
        clear HI
        by_cases hlt : i < L.m
        · have hcell := HV.out.cells i hlt
          have hcur := Lib.hid (cur_start HF.out HV.out (Nat.le_refl _) hlt)
          have hmore := Lib.hid (inv_more HV.out (by omega))
          have hNi := HN.out i hlt
          have hlt' : (i : Int) < (L.m : Int) := by omega
          go_wp2
          go_loopw [7, 8] (fun v x wy => ∃ k : Nat, k ≤ 20 ∧ x = .int .i64 k ∧ Hid (Inv L w H i (i + 1) wy u5 vs b c) ∧ Hid (Cur L H i k wy v b)) (fun _ x _ => 20 - (intOf x).toNat)
          case atStart => exact ⟨0, by omega, rfl, hmore, hcur⟩
          case round =>
            obtain ⟨k, hk, rfl, hI, hC⟩ := hrel
            clear HV hcell hcur hmore
            have hsz := hI.out.size
            have hbs := hI.out.base
            by_cases hk20 : k < 20
            · have hown := hC.out.own
              go_wp2_with (at_builtin; refine wpList_append_two _ rfl _ _ 33 rfl L.B 73 i0 (.agg #[.string ⟨#[]⟩, .int .i64 0, .string ⟨#[]⟩]) 3 40 Tryz.underlying33 hi0 hz0 hz1 hz2 rfl (by decide) (by decide) _ _ _ rfl (hown.alloc _) ⟨wr.heap.size, 0, none⟩ 1 (En.cells (newE i)) rfl rfl ?c1 ?c2 ?c3 ?c4 ?c5 ?_)
              case c1 => exact cell_three_new _ _ _ _ _
              case c2 => exact cells_one (newE i)
              case c3 => omega
              case c4 => omega
              case c5 => simp; omega
              intro v1 w1 hown1 hg1
              have hst := both_step HF.out hI.out (Nat.le_refl _) hlt hC.out hown1 hg1
              have h1 := Lib.hid hst.1
              have h2 := Lib.hid hst.2
              clear hst hown hown1 hg1
              go_wp2
              go_roundw
              case rel => exact ⟨k + 1, by omega, by go_num, h1, h2⟩
              case measure => simp [intOf]; omega
            · obtain rfl : k = 20 := by omega
              obtain ⟨bv, cv, hv, _, _⟩ := hC.out.own.form (by omega)
              rw [hv] at hC ⊢
              clear hv
              have hout := hI.out.outer
              go_wp2_with (at_builtin; refine wpList_append_two _ rfl _ _ 102 rfl L.B 33 i33 (.slice none 0 0) 1 24 Tryz.underlying102 hi33 hy0 hy1 hy2 rfl (by decide) (by decide) _ _ _ rfl (hout.alloc _) ⟨wr.heap.size, 0, none⟩ 1 [.slice (some ⟨bv, 0, none⟩) (L.N i + 20) cv] rfl rfl ?c1 ?c2 ?c3 ?c4 ?c5 ?_)
              case c1 => exact cell_one_new _ _ _
              case c2 => intro u hu; simp at hu; subst hu; rfl
              case c3 => omega
              case c4 => omega
              case c5 => simp; omega
              intro v7 w1 hown1 hg1
              obtain ⟨b2, c2, hst⟩ := outer_next HF.out hI.out (Nat.le_refl _) hlt hC.out hown1 hg1
              have h1 := Lib.hid hst
              clear hst hout hown1 hg1
              go_wp2
              go_roundw
              case rel => exact ⟨i + 1, _, b2, c2, by omega, by go_num, h1⟩
              case measure => simp [intOf]; omega
        · obtain rfl : i = L.m := by omega
          have hbelow := HV.out.below
          by_cases hm0 : L.m = 0
          · have hm0' : (L.m : Int) ≤ 0 := by omega
            go_wp2
            go_loop [9] (fun i => i = .int .i64 0) (fun _ => 0)
            case atStart => exact rfl
            case round =>
              obtain rfl := hrel
              go_wp2
              go_ret
              exact ⟨rfl, hbelow⟩
          · obtain ⟨g6, c6, hv6, _, _⟩ := HV.out.outer.form (by omega)
            rw [hv6] at HV ⊢
            clear hv6 hm0
            go_wp2
            go_loop [9, 10, 11] (fun i _ _ => ∃ j : Nat, j ≤ L.m ∧ i = .int .i64 j) (fun i _ _ => L.m - (intOf i).toNat)
            case atStart => exact ⟨0, Nat.zero_le _, rfl⟩
            case round =>
              obtain ⟨j, hj, rfl⟩ := hrel
              by_cases hjm : j < L.m
              · obtain ⟨hlv, hlo, _⟩ := HV.out.long j hjm
                have hcl := own_cell HV.out.outer hlv
                have hcj := HV.out.cells j hjm
                have HLO := Lib.hid hlo
                have HH := Lib.hid (HV.out.held j hjm)
                have hNj := HN.out j hjm
                have hjm' : (j : Int) < (L.m : Int) := by omega
                obtain ⟨n, hn⟩ : ∃ n, n = L.N j := ⟨_, rfl⟩
                obtain ⟨bj, hbj⟩ : ∃ x, x = b j := ⟨_, rfl⟩
                obtain ⟨cj, hcj2⟩ : ∃ x, x = c j := ⟨_, rfl⟩
                rw [← hn, ← hbj, ← hcj2] at hcl HLO
                rw [← hn] at hcj hNj HH
                have HNN := Lib.hid hn
                clear hn hbj hcj2 hlo hlv
                go_wp2
                go_loop [10, 11] (fun x _ => ∃ l : Nat, l ≤ n + 20 ∧ x = .int .i64 l) (fun x _ => n + 20 - (intOf x).toNat)
                case atStart => exact ⟨0, Nat.zero_le _, rfl⟩
                case round =>
                  obtain ⟨l, hl, rfl⟩ := hrel
                  by_cases hln : l < n
                  · obtain ⟨g, ha, hcg⟩ := HH.out l hln
                    have hcb := own_kind HLO.out (row_was (L := L) (j := j) (k := 20) (l := l) (by rw [← HNN.out]; exact hln))
                    unfold sw at hcg
                    unfold wasE at hcb
                    simp only at hcb
                    rw [ha] at hcj
                    have hln1 : (l : Int) < (n : Int) := by omega
                    have hln2 : (l : Int) < (n : Int) + 20 := by omega
                    go_wp2
                    go_round
                    case rel => exact ⟨l + 1, by omega, by go_num⟩
                    case measure => simp [intOf]; omega
                  · by_cases hl20 : l < n + 20
                    · have hcb := own_kind HLO.out (row_new (L := L) (j := j) (k := 20) (l := l) (by rw [← HNN.out]; exact hln) (by rw [← HNN.out]; exact hl20))
                      unfold newE at hcb
                      simp only at hcb
                      have hln1 : (n : Int) ≤ (l : Int) := by omega
                      have hln2 : (l : Int) < (n : Int) + 20 := by omega
                      go_wp2
                      go_round
                      case rel => exact ⟨l + 1, by omega, by go_num⟩
                      case measure => simp [intOf]; omega
                    · obtain rfl : l = n + 20 := by omega
                      go_wp2
                      go_round
                      case rel => exact ⟨j + 1, by omega, by go_num⟩
                      case measure => simp [intOf]; omega
              · go_wp2
                go_ret
                exact ⟨rfl, hbelow⟩
end Go.Proofs.YtdkgkomjbpggeaaGreatDoor.Ea

namespace Go.Proofs.YtdkgkomjbpggeaaGreatDoor.Ac
open Go.RowKit Tx En Ea
set_option linter.unusedVariables false
theorem own_addr {w : World} {B n c : Nat} {a : Option Addr} {xs : List Value} {e : TypeId} (h : w.ownsRow B e 3 (.slice a n c) n xs) {y : Addr} (hy : a = some y) : B ≤ y.block ∧ y.block < w.heap.size ∧ y = ⟨y.block, 0, none⟩ := by
  rcases h.2 with ⟨hv, _⟩ | ⟨g, cap, cur, hv, hg, hh, _⟩
  · injection hv with h1
    rw [hy] at h1
    cases h1
  · injection hv with h1
    rw [hy] at h1
    injection h1 with h1
    subst h1
    exact ⟨hg, (Array.getElem?_eq_some_iff.1 hh).1, rfl⟩
theorem apart_two {W : World} {B B2 n m c1 c2 : Nat} {a1 a2 : Option Addr} {l1 l2 : List Et} (h1 : W.ownsRow B 73 3 (.slice a1 n c1) n (l1.flatMap cells)) (h2 : W.ownsRow B2 73 3 (.slice a2 m c2) m (l2.flatMap cells)) (hB : B ≤ B2) (hlt : ∀ x, a1 = some x → x.block < B2) (hW : B ≤ W.heap.size) (hn : n ≤ 1048576) (hm : m ≤ 1048576) :
    Calls Tryz.prog 51 #[.slice (some ⟨W.heap.size, 0, none⟩) 2 2] (W.alloc (.cells #[.slice a1 n c1, .slice a2 m c2] 33)) fun e w' => e = .returned (.bool true) ∧ Below B (W.alloc (.cells #[.slice a1 n c1, .slice a2 m c2] 33)) w' := by
  refine apart_any { m := 2, A := fun j => if j = 0 then a1 else a2, N := fun j => if j = 0 then n else m, C := fun j => if j = 0 then c1 else c2, bo := W.heap.size, B := B } 2 _ (by show 2 ≤ 1048576; omega) (fun j hj => ?_) (by rw [World.size_alloc]; show B ≤ _; omega) (by rw [World.size_alloc]; show W.heap.size < _; omega) hW ⟨fun i j hi hj hne x => ?_, fun j hj g h => ?_⟩ (fun j hj => ?_) (fun j hj => ?_)
  · show (if j = 0 then n else m) ≤ 1048576
    split <;> assumption
  · show (if i = 0 then a1 else a2) = some x → (if j = 0 then a1 else a2) ≠ some x
    have hi : i < 2 := hi
    have hj : j < 2 := hj
    intro e1 e2
    by_cases hi0 : i = 0
    · rw [if_pos hi0] at e1
      rw [if_neg (by omega)] at e2
      have q1 := hlt x e1
      have q2 := (own_addr h2 e2).1
      omega
    · rw [if_neg hi0] at e1
      rw [if_pos (by omega)] at e2
      have q1 := hlt x e2
      have q2 := (own_addr h2 e1).1
      omega
  · have h : (if j = 0 then a1 else a2) = some ⟨g, 0, none⟩ := h
    show g ≠ W.heap.size
    by_cases hj0 : j = 0
    · rw [if_pos hj0] at h
      exact Nat.ne_of_lt (own_addr h1 h).2.1
    · rw [if_neg hj0] at h
      exact Nat.ne_of_lt (own_addr h2 h).2.1
  · have hj : j < 2 := hj
    have hc := World.cell?_alloc_mark W #[.slice a1 n c1, .slice a2 m c2] 33 (0, 0) j
    refine hc.trans ?_
    show (#[.slice a1 n c1, .slice a2 m c2] : Array Value)[j]? = some (.slice (if j = 0 then a1 else a2) (if j = 0 then n else m) (if j = 0 then c1 else c2))
    match j, hj with
    | 0, _ => rfl
    | 1, _ => rfl
  · have hj : j < 2 := hj
    match j, hj with
    | 0, _ => exact ⟨l1, h1.alloc _, fun l hl hh => by omega⟩
    | 1, _ => exact ⟨l2, (row_base h2 hB).alloc _, fun l hl hh => by omega⟩
end Go.Proofs.YtdkgkomjbpggeaaGreatDoor.Ac

namespace Go.Proofs.YtdkgkomjbpggeaaGreatDoor.Ac
open Go.RowKit Tx Pm Pr Dk
open En (Et tcheck Ents Small)
set_option linter.unusedVariables false
set_option linter.unusedSimpArgs false
set_option linter.unnecessarySimpa false
set_option maxRecDepth 100000 in
set_option maxHeartbeats 8000000 in
theorem alike_any {T : World → Prop} {O : Nat → Nat → Ob} {Cm : Nat → Ob} {Op : Nat → Nat → Ob} (hI : Impl T O Cm Op) {d u ba k : Nat} {A : Ar} {F G : Nat → Prop} (w : World) (hT : T w) (o : O d u w F (A, k)) (h : RefX ba w G A) (hk : k ≤ 10000000) (hg : Good A) :
    Calls Tryz.prog 19 #[.pointer (some ⟨u, 0, none⟩), .pointer (some ⟨ba, 0, none⟩)] w fun e w' => e = .returned (.bool true) ∧ Below w.heap.size w w' := by
  have CL : Hid (∀ W (i : Int), Below w.heap.size w W → -1 ≤ i → i ≤ 8 → Calls Tryz.prog 22 #[.pointer (some ⟨u, 0, none⟩), .int .i64 i] W fun e w' => ∃ v, e = .returned (.tuple #[v, .int .i64 ((loadI A i).2 : Nat)]) ∧ En.Own w' W.heap.size v (loadI A i).1 ∧ Below W.heap.size W w') :=
    Lib.hid (fun W i hW h1 h2 => hI.load i (hI.tk hT hW) (lf_below (hI.kO d u) o hW) hk (by omega))
  have CR : Hid (∀ W (i : Int), Below w.heap.size w W → Calls Tryz.prog 14 #[.pointer (some ⟨ba, 0, none⟩), .int .i64 i] W (LoadTo (loadI A i) W)) :=
    Lib.hid (fun W i hW => rLoad_any ba i W (lf_below (kd_ref ba) h hW))
  have GL : Hid (∀ i, (loadI A i).1.length ≤ 200) := Lib.hid (fun i => (load_good hg).1)
  clear hI hT o h hg hk
  go_enter Tryz.func19, Tryz.ntmps19
  go_wp2_with fail
  go_loopw [5] (fun iv wr => ∃ z : Int, -1 ≤ z ∧ z ≤ 9 ∧ iv = .int .i64 z ∧ Below w.heap.size w wr) (fun iv _ => (9 - intOf iv).toNat)
  case atStart => exact ⟨-1, by omega, by omega, rfl, Below.refl _ _⟩
  case round =>
    obtain ⟨z, hz1, hz2, rfl, hB⟩ := hrel
    by_cases hlt : z ≤ 8
    · have c1 := CL.out wr z hB hz1 hlt
      have HB := Lib.hid hB
      have hg := GL.out z
      generalize hld : loadI A z = r at c1 hg
      have HLD := Lib.hid hld
      clear hB hld
      obtain ⟨l, f⟩ := r
      simp only at c1 hg
      go_wp2_with fail
      go_at_call 22
      refine c1.mono ?_
      rintro e w1 ⟨v1, rfl, o1, b1⟩
      obtain ⟨a1, n1, rfl, e1, _, _⟩ := o1.form
      have hb1 := below_call HB.out b1
      have c2 := CR.out w1 z hb1
      rw [HLD.out] at c2
      have O1 := Lib.hid (And.intro o1 (And.intro b1 hb1))
      have E1 := Lib.hid e1
      clear c1 o1 b1 hb1 e1
      go_wp2_with fail
      go_at_call 14
      refine c2.mono ?_
      rintro e w2 ⟨a2, n2, rfl, e2, _, b2⟩
      have hb2 := below_call O1.out.2.2 b2
      have c3 := CL.out w2 z hb2 hz1 hlt
      rw [HLD.out] at c3
      have o1' := O1.out.1.below b2
      have O2 := Lib.hid (And.intro o1' (And.intro b2 hb2))
      have E2 := Lib.hid e2
      clear c2 b2 hb2 e2 o1'
      go_wp2_with fail
      go_at_call 22
      refine c3.mono ?_
      rintro e w3 ⟨v3, rfl, o3, b3⟩
      obtain ⟨a3, n3, rfl, e3, _, _⟩ := o3.form
      have hb3 := below_call O2.out.2.2 b3
      have E12 := (E1.out.below O2.out.2.1).below b3
      have E22 := E2.out.below b3
      have c4 := En.refSame_any a1 a2 l.length l.length n1 n2 l l w3 E12 E22 (by omega) (by omega)
      have O3 := Lib.hid (And.intro (O2.out.1.below b3) (And.intro o3 hb3))
      have hz3 : wr.heap.size ≤ w3.heap.size := Nat.le_trans (Nat.le_trans O1.out.2.1.size O2.out.2.1.size) b3.size
      have E3 := Lib.hid (And.intro e3 E22)
      clear c3 b3 hb3 e3 o3 E12 E22 E1 E2
      go_wp2_with fail
      refine c4.mono ?_
      rintro e w4 ⟨B4, hB4, rfl, b4⟩
      obtain rfl : B4 = true := hB4.2 rfl
      have c5 := En.refSame_any a3 a2 l.length l.length n3 n2 l l w4 (E3.out.1.below b4) (E3.out.2.below b4) (by omega) (by omega)
      have hb4 := below_call O3.out.2.2 b4
      have O4 := Lib.hid (And.intro (O3.out.1.below b4) (And.intro (O3.out.2.1.below b4) hb4))
      have hz4 := Nat.le_trans hz3 b4.size
      clear c4 hB4 b4 hb4 E3
      go_wp2_with fail
      go_at_call 23
      refine c5.mono ?_
      rintro e w5 ⟨B5, hB5, rfl, b5⟩
      obtain rfl : B5 = true := hB5.2 rfl
      have hb5 := below_call O4.out.2.2 b5
      have p1 := O4.out.1.below b5
      have p3 := O4.out.2.1.below b5
      have hlt1 : ∀ x, a1 = some x → x.block < w2.heap.size := fun x hx => (own_addr O2.out.1 hx).2.1
      have hsz : wr.heap.size ≤ w2.heap.size := Nat.le_trans O1.out.2.1.size O2.out.2.1.size
      have hsz5 := Nat.le_trans hz4 b5.size
      have c6 := apart_two (W := w5) p1 p3 hsz hlt1 hsz5 (by omega) (by omega)
      have HB5 := Lib.hid (And.intro hb5 hsz5)
      clear c5 hB5 b5 hb5 p1 p3 hlt1 hsz hsz5 hz3 hz4
      go_wp2_with fail
      refine c6.mono ?_
      rintro e w6 ⟨rfl, b6⟩
      have hs := HB.out.size
      have hb6 : Below w.heap.size w w6 := (HB5.out.1.alloc (Nat.le_trans hs HB5.out.2) _).trans ⟨b6.os, b6.tape, b6.output, b6.size, fun i hi => b6.block i (Nat.lt_of_lt_of_le hi hs)⟩
      clear c6 b6 hs
      go_wp2_with fail
      go_roundw
      case rel => exact ⟨z + 1, by omega, by omega, rfl, hb6⟩
      case measure => simp [intOf]; omega
    · obtain rfl : z = 9 := by omega
      go_wp2_with fail
      go_ret
      exact ⟨rfl, hB⟩
end Go.Proofs.YtdkgkomjbpggeaaGreatDoor.Ac

namespace Go.Proofs.YtdkgkomjbpggeaaGreatDoor.En
open Go.ChangeMaps (open_string shut_string)
open Go.ChangeShapes Go.WideShapes Go.ChangeAt Go.RowKit Tx
set_option linter.unusedVariables false
def dN {H : Type} (n : Nd) : DataW H := .agg [.lit (.int .i64 n.kind), .lit (.string n.data.data.toList)]
def dE {H : Type} (x : Et) : DataW H := .agg [.lit (.string x.path.data.toList), dN x.node]
theorem cells9 : Tryz.prog.cellsOf 9 = 1 := by kernel_rfl
theorem cells3 : Tryz.prog.cellsOf 3 = 1 := by kernel_rfl
theorem cellsN : Tryz.prog.cellsOf 71 = 2 := by kernel_rfl
theorem cellsE : Tryz.prog.cellsOf 73 = 3 := by kernel_rfl
theorem wf_int {k : Int} (h : (Lit.int .i64 k).wf = true) : isInt k := by
  unfold isInt
  simpa [Lit.wf, IntKind.min, IntKind.max, IntKind.signed, IntKind.bits] using h
theorem node_open {H : Type} {enc : TypeId × Value → H} {w : World} {base : Nat} {spare : Nat → Bool} {held : Bool} {m : Nat} {c1 c2 : Value} {y : DataW H × List MemPlace} (h : DataW.trod enc Tryz.prog w base spare held m 71 [c1, c2] = some y) :
    ∃ n : Nd, c1 = .int .i64 n.kind ∧ c2 = .string n.data ∧ y = (dN n, []) ∧ isInt n.kind ∧ n.data.size ≤ maxLen := by
  obtain ⟨ys, m2, _, hy, _, hyl, hf⟩ := DataW.trod_struct Tryz.underlying71 h
  have h0 := hf 0 _ rfl
  have h1 := hf 1 _ rfl
  match ys, hyl with
  | [y0, y1], _ =>
    have h0 : DataW.trod enc Tryz.prog w base spare held m2 3 (([c1, c2].drop 0).take (Tryz.prog.cellsOf 3)) = some y0 := h0
    have h1 : DataW.trod enc Tryz.prog w base spare held m2 9 (([c1, c2].drop 1).take (Tryz.prog.cellsOf 9)) = some y1 := h1
    rw [cells3] at h0
    rw [cells9] at h1
    obtain ⟨k, hk, hx0, hw⟩ := DataW.trod_int Tryz.underlying3 h0
    obtain ⟨s, hs, hx1, hl⟩ := DataW.trod_string Tryz.underlying9 h1
    simp at hk hs
    refine ⟨⟨k, s⟩, hk, hs, ?_, wf_int hw, hl⟩
    rw [hy, hx0, hx1]
    rfl
theorem ent_open {H : Type} {enc : TypeId × Value → H} {w : World} {base : Nat} {spare : Nat → Bool} {held : Bool} {m : Nat} {a : Addr} {cs' : List Value} {y : DataW H × List MemPlace} (hc : w.cells? base a 3 = some cs') (h : DataW.trod enc Tryz.prog w base spare held m 73 cs' = some y) :
    ∃ x : Et, w.cell? a = some (.string x.path) ∧ w.cell? (a.add 1) = some (.int .i64 x.node.kind) ∧ w.cell? (a.add 2) = some (.string x.node.data) ∧ y = (dE x, []) ∧ isInt x.node.kind ∧ x.path.size ≤ maxLen ∧ x.node.data.size ≤ maxLen := by
  obtain ⟨_, hcl, hat⟩ := World.cells?_some hc
  match cs', hcl with
  | [c0, c1, c2], _ =>
    obtain ⟨ys, m2, _, hy, _, hyl, hf⟩ := DataW.trod_struct Tryz.underlying73 h
    have h0 := hf 0 _ rfl
    have h1 := hf 1 _ rfl
    match ys, hyl with
    | [y0, y1], _ =>
      have h0 : DataW.trod enc Tryz.prog w base spare held m2 9 (([c0, c1, c2].drop 0).take (Tryz.prog.cellsOf 9)) = some y0 := h0
      have h1 : DataW.trod enc Tryz.prog w base spare held m2 71 (([c0, c1, c2].drop 1).take (Tryz.prog.cellsOf 71)) = some y1 := h1
      rw [cells9] at h0
      rw [cellsN] at h1
      obtain ⟨s, hs, hx0, hl⟩ := DataW.trod_string Tryz.underlying9 h0
      obtain ⟨n, hn1, hn2, hx1, hi, hl2⟩ := node_open h1
      simp at hs
      have a0 := hat 0 (by omega)
      have a1 := hat 1 (by omega)
      have a2 := hat 2 (by omega)
      refine ⟨⟨s, n⟩, ?_, ?_, ?_, ?_, hi, hl, hl2⟩
      · have e : a.add 0 = a := by simp [Addr.add]
        rw [e] at a0
        rw [a0, hs]
        rfl
      · rw [a1, hn1]
        rfl
      · rw [a2, hn2]
        rfl
      · rw [hy, hx0, hx1]
        rfl
theorem open_ents {H : Type} {enc : TypeId × Value → H} {w : World} {base : Nat} {spare : Nat → Bool} {held : Bool} {fuel : Nat} {cs : List Value} {x : DataW H × List MemPlace} (h : DataW.trod enc Tryz.prog w base spare held fuel 33 cs = some x) :
    (cs = [.slice none 0 0] ∧ x = (.nil, [])) ∨ ∃ (a : Addr) (len cap : Nat) (l : List Et) (rest : List (DataW H)) (pl : List MemPlace), cs = [.slice (some a) len cap] ∧ len ≤ cap ∧ cap ≤ maxLen ∧ x = (.slice (l.map dE) rest, pl) ∧ Ents w (some a) len l ∧ ∀ e ∈ l, isInt e.node.kind ∧ e.path.size ≤ maxLen ∧ e.node.data.size ≤ maxLen := by
  rcases Go.Deep.open_slice Tryz.underlying33 h with h0 | ⟨a, len, cap, m, n, D, Pl, rfl, hb, hl, hm, hmm, hx, hi⟩
  · exact .inl h0
  · right
    have hlm : len ≤ m := by
      rw [hmm]
      split
      · exact hl
      · exact Nat.le_refl _
    have hex : ∀ i, i < len → ∃ e : Et, w.cell? (a.add (i * 3)) = some (.string e.path) ∧ w.cell? ((a.add (i * 3)).add 1) = some (.int .i64 e.node.kind) ∧ w.cell? ((a.add (i * 3)).add 2) = some (.string e.node.data) ∧ D i = dE e ∧ isInt e.node.kind ∧ e.path.size ≤ maxLen ∧ e.node.data.size ≤ maxLen := by
      intro i him
      obtain ⟨cs', hc, ht⟩ := hi i (by omega)
      rw [cellsE] at hc
      obtain ⟨e, h1, h2, h3, h4, h5, h6, h7⟩ := ent_open hc ht
      exact ⟨e, h1, h2, h3, congrArg Prod.fst h4, h5, h6, h7⟩
    have : Inhabited Et := ⟨⟨⟨#[]⟩, ⟨0, ⟨#[]⟩⟩⟩⟩
    obtain ⟨X, hX⟩ := Go.Deep.choose_lt hex
    have hget : ∀ k y, ((List.range len).map X)[k]? = some y → k < len ∧ y = X k := by
      intro k y hk
      have hk2 := (List.getElem?_eq_some_iff.1 hk).1
      simp at hk2
      rw [List.getElem?_map, List.getElem?_range hk2] at hk
      injection hk with hk
      exact ⟨hk2, hk.symm⟩
    refine ⟨a, len, cap, (List.range len).map X, (List.range (m - len)).map fun j => D (len + j), x.2, rfl, hl, hm, ?_, ⟨by simp, ?_⟩, ?_⟩
    · rw [hx]
      refine Prod.ext ?_ rfl
      show DataW.slice _ _ = DataW.slice _ _
      congr 1
      rw [List.map_map]
      refine List.map_congr_left (fun i hi' => ?_)
      exact (hX i (List.mem_range.1 hi')).2.2.2.1
    · by_cases h0 : len = 0
      · exact .inl h0
      · right
        obtain ⟨b, off, spot⟩ := a
        have hc0 := (hX 0 (by omega)).1
        rw [Nat.zero_mul] at hc0
        have hspot : spot = none := by simpa [Addr.add] using World.cell?_spot hc0
        subst hspot
        refine ⟨b, off, rfl, ?_, fun k y hk => ?_⟩
        · have := World.block_lt_of_cell? w _ hc0
          simpa [Addr.add] using this
        · obtain ⟨hk2, rfl⟩ := hget k y hk
          obtain ⟨h1, h2, h3, _⟩ := hX k hk2
          rw [add_plain] at h1 h2 h3
          rw [add_plain] at h2 h3
          exact ⟨h1, h2, h3⟩
    · intro e he
      obtain ⟨k, hk⟩ := List.getElem?_of_mem he
      obtain ⟨hk2, rfl⟩ := hget k e hk
      exact (hX k hk2).2.2.2.2
end Go.Proofs.YtdkgkomjbpggeaaGreatDoor.En

namespace Go.Proofs.YtdkgkomjbpggeaaGreatDoor.En
open Go.ChangeShapes Go.WideShapes Go.ChangeAt Go.RowKit Tx
set_option linter.unusedVariables false
theorem bulk_node {H : Type} (n : Nd) : Rows.uptoBulk (dN (H := H) n) = n.data.size + 3 := by
  have e : Rows.uptoBulk (dN (H := H) n) = 1 + (n.data.data.toList.length + 1 + 0) + 1 := rfl
  rw [e, len_l]
  omega
theorem bulk_ent {H : Type} (x : Et) : Rows.uptoBulk (dE (H := H) x) = x.path.size + x.node.data.size + 5 := by
  have e : Rows.uptoBulk (dE (H := H) x) = (x.path.data.toList.length + 1) + (Rows.uptoBulk (dN (H := H) x.node) + 0) + 1 := rfl
  rw [e, len_l, bulk_node]
  omega
end Go.Proofs.YtdkgkomjbpggeaaGreatDoor.En
