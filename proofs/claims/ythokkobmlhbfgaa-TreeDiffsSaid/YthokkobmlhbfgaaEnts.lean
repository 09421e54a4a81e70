/- Lists of entries: a list of one's own, a slice that reads as a list. -/
import Derived.Test.YthokkobmlhbfgaaTexts
import Derived.Deep.QuietTactic
import Derived.BigQuiet
import Derived.Laws.Rows
import Derived.Laws.NewBlocks
namespace Go.Proofs.Ythokkobmlhbfgaa.En
open Go.RowKit Tx
set_option linter.unusedVariables false

/-- A node. -/
structure Nd where
  kind : Int
  data : ByteArray
/-- An entry. -/
structure Et where
  path : ByteArray
  node : Nd
def nv (n : Nd) : Value := .agg #[.int .i64 n.kind, .string n.data]
def cells (x : Et) : List Value := [.string x.path, .int .i64 x.node.kind, .string x.node.data]
def ev (x : Et) : Value := .agg #[.string x.path, .int .i64 x.node.kind, .string x.node.data]
/-- An int that Go holds. -/
def isInt (k : Int) : Prop := -9223372036854775808 ≤ k ∧ k ≤ 9223372036854775807
/-- The slice at a, of n elements, reads as the entries l. -/
def Ents (w : World) (a : Option Addr) (n : Nat) (l : List Et) : Prop := l.length = n ∧ (n = 0 ∨ ∃ b off, a = some ⟨b, off, none⟩ ∧ b < w.heap.size ∧ ∀ k x, l[k]? = some x → w.cell? ⟨b, off + k * 3, none⟩ = some (.string x.path) ∧ w.cell? ⟨b, off + k * 3 + 1, none⟩ = some (.int .i64 x.node.kind) ∧ w.cell? ⟨b, off + k * 3 + 1 + 1, none⟩ = some (.string x.node.data))
theorem Ents.below {w w1 : World} {a : Option Addr} {n : Nat} {l : List Et} (h : Ents w a n l) (hb : Below w.heap.size w w1) : Ents w1 a n l := by
  refine ⟨h.1, ?_⟩
  rcases h.2 with h0 | ⟨b, off, ha, hlt, hc⟩
  · exact .inl h0
  · exact .inr ⟨b, off, ha, Nat.lt_of_lt_of_le hlt hb.size, fun k x hx => ⟨(hb.cell (p := ⟨b, _, none⟩) hlt).trans (hc k x hx).1, (hb.cell (p := ⟨b, _, none⟩) hlt).trans (hc k x hx).2.1, (hb.cell (p := ⟨b, _, none⟩) hlt).trans (hc k x hx).2.2⟩⟩

theorem sz_zero (d : ByteArray) : ((d.size : Int) == 0) = decide (d.size = 0) := by
  by_cases h : d.size = 0
  · rw [decide_eq_true h, h]; rfl
  · rw [decide_eq_false h]
    exact beq_eq_false_iff_ne.2 (by omega)
/-- Whole. -/
def whole (n : Nd) : Bool := if n.kind = 2 then decide (n.data.size ≤ 4096) else (decide (n.kind = 0) || decide (n.kind = 1)) && decide (n.data.size = 0)

set_option maxRecDepth 100000 in
set_option maxHeartbeats 1000000 in
theorem refWhole_any (n : Nd) (w : World) (hs : n.data.size ≤ 9223372036854775807) :
    Calls Try.prog 13 #[nv n] w fun e w' => e = .returned (.bool (whole n)) ∧ Below w.heap.size w w' := by
  obtain ⟨k, d⟩ := n
  by_cases h2 : k = 2
  · have hw : whole ⟨k, d⟩ = decide (d.size ≤ 4096) := by unfold whole; rw [if_pos h2]
    have e2 : ((k : Int) == 2) = true := by simp [h2]
    rw [hw]
    unfold nv
    clear h2 hw
    go_enter Try.func13, Try.ntmps13
    go_wp2
    go_ret
    exact ⟨congrArg (fun b => Ending.returned (Value.bool b)) (decide_eq_decide.2 (by omega)), (Below.refl _ _).alloc (Nat.le_refl _) _⟩
  · have hw : whole ⟨k, d⟩ = ((decide (k = 0) || decide (k = 1)) && decide (d.size = 0)) := by unfold whole; rw [if_neg h2]
    have e2 : ((k : Int) == 2) = false := beq_eq_false_iff_ne.2 h2
    rw [hw]
    unfold nv
    clear hw
    by_cases h0 : k = 0
    · subst h0
      clear h2
      rw [show (decide ((0 : Int) = 0) || decide ((0 : Int) = 1)) = true from rfl, Bool.true_and, ← sz_zero d]
      go_enter Try.func13, Try.ntmps13
      go_wp2
      go_ret
      exact ⟨rfl, (Below.refl _ _).alloc (Nat.le_refl _) _⟩
    · have e0 : ((k : Int) == 0) = false := beq_eq_false_iff_ne.2 h0
      by_cases h1 : k = 1
      · subst h1
        clear h2 h0
        rw [show (decide ((1 : Int) = 0) || decide ((1 : Int) = 1)) = true from rfl, Bool.true_and, ← sz_zero d]
        go_enter Try.func13, Try.ntmps13
        go_wp2
        go_ret
        exact ⟨rfl, (Below.refl _ _).alloc (Nat.le_refl _) _⟩
      · have e1 : ((k : Int) == 1) = false := beq_eq_false_iff_ne.2 h1
        rw [decide_eq_false h0, decide_eq_false h1, Bool.or_false, Bool.false_and]
        clear h2 h0 h1
        go_enter Try.func13, Try.ntmps13
        go_wp2
        go_ret
        exact ⟨rfl, (Below.refl _ _).alloc (Nat.le_refl _) _⟩

/-- Size. -/
def tsize : List Et → Nat
  | [] => 0
  | x :: l => x.node.data.size + tsize l
theorem tsize_take (l : List Et) (k : Nat) (x : Et) (h : l[k]? = some x) : tsize (l.take (k + 1)) = tsize (l.take k) + x.node.data.size := by
  induction l generalizing k with
  | nil => cases h
  | cons y l ih =>
    cases k with
    | zero =>
      injection h with h
      subst h
      simp [tsize]
    | succ k =>
      have := ih k h
      rw [List.take_succ_cons, List.take_succ_cons, tsize, tsize, this]
      omega
theorem tsize_le (l : List Et) (k : Nat) : tsize (l.take k) ≤ tsize l := by
  induction l generalizing k with
  | nil => simp
  | cons y l ih =>
    cases k with
    | zero => simp [tsize]
    | succ k => have := ih k; rw [List.take_succ_cons, tsize, tsize]; omega

set_option maxRecDepth 100000 in
set_option maxHeartbeats 1000000 in
theorem refSize_any (a : Option Addr) (n c : Nat) (l : List Et) (w : World) (hl : Ents w a n l) (hn : n ≤ 9223372036854775806) (hs : tsize l ≤ 9223372036854775807) :
    Calls Try.prog 21 #[.slice a n c] w fun e w' => e = .returned (.int .i64 (tsize l : Nat)) ∧ w = w' := by
  obtain ⟨hln, hc⟩ := hl
  by_cases h0 : n = 0
  · subst h0
    obtain rfl : l = [] := List.length_eq_zero_iff.1 hln
    clear hc
    go_enter Try.func21, Try.ntmps21
    go_wp2
    go_loop [3, 4] (fun s i => i = .int .i64 0 ∧ s = .int .i64 0) (fun _ _ => 0)
    case atStart => exact ⟨rfl, rfl⟩
    case round =>
      obtain ⟨rfl, rfl⟩ := hrel
      go_wp2
      go_ret
      exact ⟨rfl, rfl⟩
  · obtain ⟨b, off, rfl, hb, hc⟩ := hc.resolve_left h0
    have HC := Lib.hid hc
    clear hc h0
    go_enter Try.func21, Try.ntmps21
    go_wp2
    go_loop [3, 4] (fun s i => ∃ k T : Nat, k ≤ n ∧ i = .int .i64 k ∧ s = .int .i64 (T : Nat) ∧ Hid (T = tsize (l.take k))) (fun _ i => n - (intOf i).toNat)
    case atStart => exact ⟨0, 0, Nat.zero_le _, rfl, rfl, rfl⟩
    case round =>
      obtain ⟨k, T, hk, rfl, rfl, hT⟩ := hrel
      by_cases hlt : k < n
      · obtain ⟨x, hx⟩ : ∃ x, l[k]? = some x := ⟨_, List.getElem?_eq_getElem (by omega)⟩
        obtain ⟨c1, c2, c3⟩ := HC.out k x hx
        have hnx := tsize_take l k x hx
        rw [← hT.out] at hnx
        have hle := tsize_le l (k + 1)
        rw [hnx] at hle
        have HN := Lib.hid hnx
        obtain ⟨D, hD⟩ : ∃ D, D = x.node.data := ⟨_, rfl⟩
        rw [← hD] at c3 hle HN
        clear hnx hT hD c1 c2 hln hx
        go_wp2
        go_round
        case rel => exact ⟨k + 1, T + D.size, by omega, by go_num, by go_num, HN.out.symm⟩
        case measure => simp [intOf]; omega
      · obtain rfl : k = n := by omega
        have h := hT.out
        rw [List.take_of_length_le (by omega)] at h
        subst h
        clear hT hln
        go_wp2
        go_ret
        exact ⟨rfl, rfl⟩

theorem infoN : (Try.prog.info? 24).map (·.size) = some 2 := by kernel_rfl
/-- Get. -/
def tget (l : List Et) (p : ByteArray) : Nd := match l.find? (fun x => decide (x.path = p)) with
  | some x => x.node
  | none => ⟨0, ⟨#[]⟩⟩
theorem tget_hit (l : List Et) (p : ByteArray) (k : Nat) (x : Et) (h : l[k]? = some x) (hp : x.path = p) (hn : ∀ y ∈ l.take k, y.path ≠ p) : tget l p = x.node := by
  induction l generalizing k with
  | nil => cases h
  | cons y l ih =>
    cases k with
    | zero =>
      injection h with h
      subst h
      rw [tget, List.find?_cons_of_pos (by exact decide_eq_true hp)]
    | succ k =>
      have hy : y.path ≠ p := hn y (by simp)
      have := ih k h (fun z hz => hn z (by rw [List.take_succ_cons]; exact List.mem_cons_of_mem _ hz))
      rw [tget] at this ⊢
      rw [List.find?_cons_of_neg (by simp [hy])]
      exact this
theorem tget_none (l : List Et) (p : ByteArray) (hn : ∀ y ∈ l, y.path ≠ p) : tget l p = ⟨0, ⟨#[]⟩⟩ := by
  rw [tget, List.find?_eq_none.2 (fun y hy => by simp [hn y hy])]

set_option maxRecDepth 100000 in
set_option maxHeartbeats 1000000 in
theorem refGet_any (a : Option Addr) (n c : Nat) (l : List Et) (p : ByteArray) (w : World) (hl : Ents w a n l) (hn : n ≤ 9223372036854775806) :
    Calls Try.prog 17 #[.slice a n c, .string p] w fun e w' => e = .returned (nv (tget l p)) ∧ Below w.heap.size w w' := by
  obtain ⟨hln, hc⟩ := hl
  by_cases h0 : n = 0
  · subst h0
    obtain rfl : l = [] := List.length_eq_zero_iff.1 hln
    clear hc
    go_enter Try.func17, Try.ntmps17
    go_wp2
    go_loop [5] (fun i => i = .int .i64 0) (fun _ => 0)
    case atStart => exact rfl
    case round =>
      obtain rfl := hrel
      go_wp2
      refine bodyPost_ret (results_cell_row rfl _ _ _ _ _ _ _ rfl (heap_alloc_new _ _) Try.underlying24 rfl infoN) rfl ?_
      exact ⟨rfl, (Below.refl _ _).alloc (Nat.le_refl _) _⟩
  · obtain ⟨b, off, rfl, hb, hc⟩ := hc.resolve_left h0
    have HC := Lib.hid hc
    have hB : ∀ o, Below w.heap.size w (w.alloc o) := fun o => (Below.refl _ _).alloc (Nat.le_refl _) _
    clear hc h0
    go_enter Try.func17, Try.ntmps17
    go_wp2
    go_loop [5] (fun i => ∃ k : Nat, k ≤ n ∧ i = .int .i64 k ∧ Hid (∀ y ∈ l.take k, y.path ≠ p)) (fun i => n - (intOf i).toNat)
    case atStart => exact ⟨0, Nat.zero_le _, rfl, fun y hy => by simp at hy⟩
    case round =>
      obtain ⟨k, hk, rfl, hT⟩ := hrel
      by_cases hlt : k < n
      · obtain ⟨x, hx⟩ : ∃ x, l[k]? = some x := ⟨_, List.getElem?_eq_getElem (by omega)⟩
        obtain ⟨c1, c2, c3⟩ := HC.out k x hx
        have d1 := ((hB (.cells #[.int .i64 0, .string ⟨#[]⟩] 24)).cell (p := ⟨b, _, none⟩) hb).trans c1
        have d2 := ((hB (.cells #[.int .i64 0, .string ⟨#[]⟩] 24)).cell (p := ⟨b, _, none⟩) hb).trans c2
        have d3 := ((hB (.cells #[.int .i64 0, .string ⟨#[]⟩] 24)).cell (p := ⟨b, _, none⟩) hb).trans c3
        have hhit := tget_hit l p k x hx
        have hmiss : x.path ≠ p → ∀ y ∈ l.take (k + 1), y.path ≠ p := by
          intro hne y hy
          have hk2 : k < l.length := by omega
          rw [List.take_succ_eq_append_getElem hk2] at hy
          rcases List.mem_append.1 hy with hy | hy
          · exact hT.out y hy
          · rw [List.getElem?_eq_getElem hk2] at hx
            injection hx with hx
            rw [List.mem_singleton.1 hy, hx]
            exact hne
        obtain ⟨P, N⟩ := x
        obtain ⟨K, D⟩ := N
        simp only at c1 c2 c3 d1 d2 d3 hhit hmiss
        by_cases hp : P = p
        · have HR := Lib.hid (hhit hp hT.out)
          have e : (P.toList == p.toList) = true := by rw [hp]; exact beq_self_eq_true _
          clear hhit hmiss hT c1 c2 c3 hx hp hln
          go_wp2
          refine bodyPost_ret (results_cell_row rfl _ _ _ _ _ _ _ rfl (heap_alloc_new _ _) Try.underlying24 rfl infoN) rfl ?_
          exact ⟨by rw [HR.out]; rfl, (Below.refl _ _).alloc (Nat.le_refl _) _⟩
        · have HM := Lib.hid (hmiss hp)
          have e := bytes_ne hp
          clear hhit hmiss hT c1 c2 c3 hx hp hln
          go_wp2
          go_round
          case rel => exact ⟨k + 1, by omega, by go_num, HM⟩
          case measure => simp [intOf]; omega
      · obtain rfl : k = n := by omega
        have h := hT.out
        rw [List.take_of_length_le (by omega)] at h
        have HR := Lib.hid (tget_none l p h)
        clear hT hln h
        go_wp2
        refine bodyPost_ret (results_cell_row rfl _ _ _ _ _ _ _ rfl (heap_alloc_new _ _) Try.underlying24 rfl infoN) rfl ?_
        exact ⟨by rw [HR.out]; rfl, (Below.refl _ _).alloc (Nat.le_refl _) _⟩
end Go.Proofs.Ythokkobmlhbfgaa.En
