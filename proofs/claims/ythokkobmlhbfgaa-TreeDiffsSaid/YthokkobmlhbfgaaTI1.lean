/- What package tree's small functions answer: contracts. -/
import Derived.Test.YthokkobmlhbfgaaEnts9
import Derived.Test.YthokkobmlhbfgaaEOpen
import Derived.Test.YthokkobmlhbfgaaEMath
namespace Go.Proofs.Ythokkobmlhbfgaa.En
open Go.RowKit Tx Pm Pr
set_option linter.unusedVariables false

/-- Is a node none? -/
def isno (n : Nd) : Bool := decide (n.kind = 0) && decide (n.data = ⟨#[]⟩)

set_option maxRecDepth 100000 in
set_option maxHeartbeats 1000000 in
theorem isNone_any (n : Nd) (w : World) :
    Calls Try.prog 41 #[nv n] w fun e w' => e = .returned (.bool (isno n)) ∧ Below w.heap.size w w' := by
  obtain ⟨K, D⟩ := n
  have hgN := guardN
  unfold nv
  by_cases hk : K = 0
  · by_cases hd : D.toList = (⟨#[]⟩ : ByteArray).toList
    · have hv : isno ⟨K, D⟩ = true := by rw [isno, decide_eq_true hk, decide_eq_true (to_list.1 hd)]; rfl
      rw [hv]
      obtain rfl := to_list.1 hd
      subst hk
      clear hv hd
      go_enter Try.func41, Try.ntmps41
      go_wp2
      go_ret
      exact ⟨rfl, (Below.refl _ _).alloc (Nat.le_refl _) _⟩
    · have hv : isno ⟨K, D⟩ = false := by rw [isno, decide_eq_false (fun h => hd (to_list.2 h)), Bool.and_false]
      have e := bytes_ne (fun h => hd (to_list.2 h))
      have e2 := not_empty (fun h => hd (to_list.2 h))
      rw [hv]
      subst hk
      clear hv hd
      go_enter Try.func41, Try.ntmps41
      go_wp2
      go_ret
      exact ⟨rfl, (Below.refl _ _).alloc (Nat.le_refl _) _⟩
  · have hv : isno ⟨K, D⟩ = false := by rw [isno, decide_eq_false hk, Bool.false_and]
    rw [hv]
    clear hv
    go_enter Try.func41, Try.ntmps41
    go_wp2
    go_ret
    exact ⟨rfl, (Below.refl _ _).alloc (Nat.le_refl _) _⟩

set_option maxRecDepth 100000 in
set_option maxHeartbeats 1000000 in
theorem tWhole_any (n : Nd) (w : World) (hs : n.data.size ≤ 9223372036854775807) :
    Calls Try.prog 12 #[nv n] w fun e w' => e = .returned (.bool (whole n)) ∧ Below w.heap.size w w' := by
  obtain ⟨K, D⟩ := n
  unfold nv
  by_cases h2 : K = 2
  · have hw : whole ⟨K, D⟩ = decide (D.size ≤ 4096) := by unfold whole; rw [if_pos h2]
    rw [hw]
    subst h2
    clear hw
    go_enter Try.func12, Try.ntmps12
    go_wp2
    go_ret
    exact ⟨congrArg (fun b => Ending.returned (Value.bool b)) (decide_eq_decide.2 (by omega)), (Below.refl _ _).alloc (Nat.le_refl _) _⟩
  · have e2 : ((K : Int) == 2) = false := beq_eq_false_iff_ne.2 h2
    by_cases h01 : K = 0 ∨ K = 1
    · by_cases hd : D = ⟨#[]⟩
      · have hw : whole ⟨K, D⟩ = true := by
          unfold whole
          rw [if_neg h2, hd]
          rcases h01 with h | h <;> rw [h] <;> rfl
        have e := is_empty hd
        rw [hw]
        clear hw hd h2
        rcases h01 with rfl | rfl
        all_goals
          go_enter Try.func12, Try.ntmps12
          go_wp2
          go_ret
          exact ⟨rfl, (Below.refl _ _).alloc (Nat.le_refl _) _⟩
      · have hw : whole ⟨K, D⟩ = false := by
          unfold whole
          rw [if_neg h2, decide_eq_false (fun h => hd (size_zero.1 h)), Bool.and_false]
        have e := not_empty hd
        rw [hw]
        clear hw hd h2
        rcases h01 with rfl | rfl
        all_goals
          go_enter Try.func12, Try.ntmps12
          go_wp2
          go_ret
          exact ⟨rfl, (Below.refl _ _).alloc (Nat.le_refl _) _⟩
    · have h0 : K ≠ 0 := fun h => h01 (.inl h)
      have h1 : K ≠ 1 := fun h => h01 (.inr h)
      have hw : whole ⟨K, D⟩ = false := by
        unfold whole
        rw [if_neg h2, decide_eq_false h0, decide_eq_false h1]
        rfl
      have e0 : ((K : Int) == 0) = false := beq_eq_false_iff_ne.2 h0
      have e1 : ((K : Int) == 1) = false := beq_eq_false_iff_ne.2 h1
      rw [hw]
      clear hw h2 h01 h0 h1
      go_enter Try.func12, Try.ntmps12
      go_wp2
      go_ret
      exact ⟨rfl, (Below.refl _ _).alloc (Nat.le_refl _) _⟩

set_option maxRecDepth 100000 in
set_option maxHeartbeats 1000000 in
theorem tSizeAll_any (a : Option Addr) (n c : Nat) (l : List Et) (w : World) (hl : Ents w a n l) (hn : n ≤ 9223372036854775806) (hs : tsize l ≤ 9223372036854775807) :
    Calls Try.prog 20 #[.slice a n c] w fun e w' => e = .returned (.int .i64 (tsize l : Nat)) ∧ Below w.heap.size w w' := by
  obtain ⟨hln, hc⟩ := hl
  by_cases h0 : n = 0
  · subst h0
    obtain rfl : l = [] := List.length_eq_zero_iff.1 hln
    clear hc
    go_enter Try.func20, Try.ntmps20
    go_wp2
    go_loop [3, 8] (fun s i => i = .int .i64 0 ∧ s = .int .i64 0) (fun _ _ => 0)
    case atStart => exact ⟨rfl, rfl⟩
    case round =>
      obtain ⟨rfl, rfl⟩ := hrel
      go_wp2
      go_ret
      exact ⟨rfl, Below.refl _ _⟩
  · obtain ⟨b, off, rfl, hb, hc⟩ := hc.resolve_left h0
    have HC := Lib.hid hc
    clear hc h0
    go_enter Try.func20, Try.ntmps20
    go_wp2_with fail
    go_loopw [3, 8] (fun s i wr => ∃ k T : Nat, k ≤ n ∧ i = .int .i64 k ∧ s = .int .i64 (T : Nat) ∧ Hid (T = tsize (l.take k)) ∧ Below w.heap.size w wr) (fun _ i _ => n - (intOf i).toNat)
    case atStart => exact ⟨0, 0, Nat.zero_le _, rfl, rfl, rfl, Below.refl _ _⟩
    case round =>
      obtain ⟨k, T, hk, rfl, rfl, hT, hB⟩ := hrel
      by_cases hlt : k < n
      · obtain ⟨x, hx⟩ : ∃ x, l[k]? = some x := ⟨_, List.getElem?_eq_getElem (by omega)⟩
        obtain ⟨c1, c2, c3⟩ := HC.out k x hx
        have d1 := (hB.cell (p := ⟨b, _, none⟩) hb).trans c1
        have d2 := (hB.cell (p := ⟨b, _, none⟩) hb).trans c2
        have d3 := (hB.cell (p := ⟨b, _, none⟩) hb).trans c3
        have hnx := tsize_take l k x hx
        rw [← hT.out] at hnx
        have hle := tsize_le l (k + 1)
        rw [hnx] at hle
        have HN := Lib.hid hnx
        obtain ⟨P, K, D⟩ := x
        simp only at d1 d2 d3 hle HN
        clear hnx hT c1 c2 c3 hln hx
        go_wp2_with fail
        go_roundw
        case rel => exact ⟨k + 1, T + D.size, by omega, by go_num, by go_num, HN.out.symm, hB.alloc hB.size _⟩
        case measure => simp [intOf]; omega
      · obtain rfl : k = n := by omega
        have h := hT.out
        rw [List.take_of_length_le (by omega)] at h
        subst h
        clear hT hln
        go_wp2_with fail
        go_ret
        exact ⟨rfl, hB⟩

/-- How many entries stand ahead of a path. -/
def tplace (l : List Et) (p : ByteArray) : Nat := l.countP (fun x => less x.path p)
/-- The paths rise. -/
def Rise (l : List Et) : Prop := (l.map (·.path)).Pairwise (fun a b => less a b = true)
end Go.Proofs.Ythokkobmlhbfgaa.En
