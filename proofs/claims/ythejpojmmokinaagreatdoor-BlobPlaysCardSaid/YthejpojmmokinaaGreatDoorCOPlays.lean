/-
  BlobPlays: over any script of puts, releases, looks and sweeps a batch's contents are those of the document's own list: every key, every answer, how often each is held, and what else stands in the batch: the law returns true, and writes nothing that was there. No condition beside the sizes that every first form has; the library's tables are those of the program's text (the card's tie).
-/
import Derived.Test.YthejpojmmokinaaGreatDoorT4
import Derived.WalkKit
import Derived.Test.YthejpojmmokinaaGreatDoorRows
import Derived.WalkLawsBesides
import Derived.WalkSpells
import Derived.LoopTactic
import Derived.Lib.Hide
import Derived.Deep.AppendLies
import Derived.Deep.QuietTactic
import Derived.BigQuiet
import Derived.Laws.Rows
import Derived.Laws.NewBlocks
import Derived.Test.YthejpojmmokinaaGreatDoorProg
import Derived.Deep.RegionHeld3
import Derived.Deep.CutBlock
import Derived.Deep.CutRange
import Derived.Deep.RegionWith
import Derived.Maps.AppendAt
import Derived.Laws.BytesArg
import Derived.Laws.IdiomStrings
import Derived.RegionTactic
import Derived.ChangeAlike
import Derived.Maps.RangeWalk
import Derived.Lib.Strings
import Derived.Lib.Bytealg
import Derived.Lib.IndexLaws
import Derived.Laws.RangeAny
import Derived.Shelf.RegionOpenPlain
import Derived.Shelf.Strings.Builder1
import Derived.Shelf.Strings.Builder2
import Derived.Shelf.Strings.OnBuilder
import Derived.Shelf.Strconv.Itoa0
import Derived.Shelf.Strconv.Itoa1
import Derived.Shelf.LaysM
import Derived.Shelf.Strconv.Itoa2
import Derived.Shelf.Strconv.Itoa3
import Derived.Shelf.Strings.Search1
import Derived.Shelf.Strings.Search2
import Derived.Shelf.Strings.Search3
import Derived.Shelf.Strings.Cut
import Derived.Shelf.Strings.Count
import Derived.Shelf.Strings.Shaped
import Derived.Shelf.Sort.Plain
import Derived.ProofKit
import Derived.OpenShut
import Derived.ShutString
import Derived.Deep.Slices
import Derived.Deep.Fields
import Derived.ChangeSame
import Derived.Laws.AppendOwn
import Derived.Lib.OwnBridge
import Derived.Shelf.Slices.In.SortNone
import Derived.Sort.OwnSorted
import Derived.Laws.ResultCell
import Derived.BigRegion
import Derived.StillTailTactics
import Derived.Laws.OwnMore
import Derived.Lib.ItoaNum
import Derived.Lib.AppendIntMem
import Derived.SliceStrings
import Derived.SizedLaws
import Derived.Test.YthejpojmmokinaaGreatDoorCards
import Derived.Test.YthejpojmmokinaaGreatDoorTie
import Derived.Lib.LaidTab
import Derived.Lib.LaidU8
import Derived.LaidMore
import Derived.Deep.DeepHandedRow
import Derived.Stop.Joined
import Derived.JoinedCond
import Derived.ChangeOld
import Derived.SevenTiedAt
import Derived.Laws.AppendOwnNone
namespace Go.Proofs.YthejpojmmokinaaGreatDoor.Fm
open Wm Wr
set_option linter.unusedVariables false
theorem cbits_snoc : ∀ (k c x : Nat), cbits (k + 1) c x = cstep (cbits k c x) (x / 2 ^ k % 2)
  | 0, c, x => by simp [cbits]
  | k + 1, c, x => by
    have h := cbits_snoc k (cstep c (x % 2)) (x / 2)
    rw [cbits, h, cbits, Nat.div_div_eq_div_mul, Nat.pow_succ, Nat.mul_comm 2]
end Go.Proofs.YthejpojmmokinaaGreatDoor.Fm

namespace Go.Proofs.YthejpojmmokinaaGreatDoor.Fr
open Go.RowKit Wm Wr Fm
set_option linter.unusedVariables false
set_option maxRecDepth 100000 in
set_option maxHeartbeats 1000000 in
theorem refSum_any (s : ByteArray) (w : World) (hs : s.size ≤ maxLen) :
    Calls Tryz.prog 31 #[.string s] w fun e w' => e = .returned (.int .u32 (fsum s.data.toList : Nat)) ∧ w = w' := by
  unfold maxLen at hs
  go_enter Tryz.func31, Tryz.ntmps31
  go_wp2
  go_loop [3, 4] (fun c i => ∃ (k C : Nat), k ≤ s.size ∧ i = .int .i64 k ∧ Hid (C = csum 4294967295 (s.data.toList.take k)) ∧ C < 4294967296 ∧ c = .int .u32 (C : Nat)) (fun _ i => s.size - (intOf i).toNat)
  case atStart => exact ⟨0, 4294967295, Nat.zero_le _, rfl, rfl, by decide, rfl⟩
  case round =>
    obtain ⟨k, C, hk, rfl, hC, hlt, rfl⟩ := hrel
    by_cases hks : k < s.size
    · have hb := s[k].toNat_lt
      have hnext := csum_take s k hks
      rw [← hC.out] at hnext
      go_wp2
      obtain ⟨X, hX⟩ : ∃ X, X = s[k].toNat := ⟨_, rfl⟩
      rw [← hX] at hb hnext ⊢
      have HN := Lib.hid hnext
      clear hX hnext hC
      go_loop [3, 5, 6] (fun c x i => ∃ (j D Y : Nat), j ≤ 8 ∧ i = .int .i64 j ∧ Hid (D = cbits j C X) ∧ Hid (Y = X / 2 ^ j) ∧ D < 4294967296 ∧ Y < 256 ∧ c = .int .u32 (D : Nat) ∧ x = .int .i64 (Y : Nat)) (fun _ _ i => 8 - (intOf i).toNat)
      case atStart => exact ⟨0, C, X, by omega, rfl, rfl, by show X = X / 2 ^ 0; simp, hlt, hb, rfl, rfl⟩
      case round =>
        obtain ⟨j, D, Y, hj, rfl, hD, hY, hDl, hYl, rfl, rfl⟩ := hrel
        by_cases hj8 : j < 8
        · have hnD : cbits (j + 1) C X = cstep D (Y % 2) := by rw [cbits_snoc, ← hD.out, ← hY.out]
          have hnY : X / 2 ^ (j + 1) = Y / 2 := by rw [hY.out, Nat.div_div_eq_div_mul, Nat.pow_succ]
          have HD := Lib.hid hnD
          have HY := Lib.hid hnY
          clear hnD hnY hD hY
          have hxor := xor32 (D / 2) (by omega)
          rw [show ((D / 2 : Nat) : Int) = (D : Int) / 2 by omega] at hxor
          rcases Nat.mod_two_eq_zero_or_one D with hd | hd <;> rcases Nat.mod_two_eq_zero_or_one Y with hy | hy
          · have e := cstep_eq (c := D) (b := Y % 2) (by omega)
            have HE := Lib.hid e
            have t1 : ((D : Int) % 2 == 1) = false := by simp; omega
            have t2 : ((Y : Int) % 2 == 1) = false := by simp; omega
            clear e hd hy
            go_wp2
            go_round
            case rel => exact ⟨j + 1, D / 2, Y / 2, by omega, by go_num, by show _ = _; rw [HD.out, HE.out], HY.out.symm, by omega, by omega, by go_num, by go_num⟩
            case measure => simp [intOf]; omega
          · have e := cstep_other (c := D) (b := Y % 2) (by omega)
            have HE := Lib.hid e
            have t1 : ((D : Int) % 2 == 1) = false := by simp; omega
            have t2 : ((Y : Int) % 2 == 1) = true := by simp; omega
            have hl := xor_lt (a := D / 2) (b := 3988292384) (by omega) (by decide)
            clear e hd hy
            go_wp2
            go_round
            case rel => exact ⟨j + 1, _, Y / 2, by omega, by go_num, by show _ = _; rw [HD.out, HE.out], HY.out.symm, hl, by omega, rfl, by go_num⟩
            case measure => simp [intOf]; omega
          · have e := cstep_other (c := D) (b := Y % 2) (by omega)
            have HE := Lib.hid e
            have t1 : ((D : Int) % 2 == 1) = true := by simp; omega
            have t2 : ((Y : Int) % 2 == 1) = false := by simp; omega
            have hl := xor_lt (a := D / 2) (b := 3988292384) (by omega) (by decide)
            clear e hd hy
            go_wp2
            go_round
            case rel => exact ⟨j + 1, _, Y / 2, by omega, by go_num, by show _ = _; rw [HD.out, HE.out], HY.out.symm, hl, by omega, rfl, by go_num⟩
            case measure => simp [intOf]; omega
          · have e := cstep_eq (c := D) (b := Y % 2) (by omega)
            have HE := Lib.hid e
            have t1 : ((D : Int) % 2 == 1) = true := by simp; omega
            have t2 : ((Y : Int) % 2 == 1) = true := by simp; omega
            clear e hd hy
            go_wp2
            go_round
            case rel => exact ⟨j + 1, D / 2, Y / 2, by omega, by go_num, by show _ = _; rw [HD.out, HE.out], HY.out.symm, by omega, by omega, by go_num, by go_num⟩
            case measure => simp [intOf]; omega
        · obtain rfl : j = 8 := by omega
          go_wp2
          go_round
          case rel => exact ⟨k + 1, D, by omega, by go_num, by show D = _; rw [HN.out, hD.out], hDl, rfl⟩
          case measure => simp [intOf]; omega
    · obtain rfl : k = s.size := by omega
      have hall := csum_all s
      rw [← hC.out] at hall
      go_wp2
      go_ret
      refine ⟨?_, rfl⟩
      rw [← hall]
      exact ret1 (by omega)
end Go.Proofs.YthejpojmmokinaaGreatDoor.Fr

namespace Go.Proofs.YthejpojmmokinaaGreatDoor.Dk
open Go.ChangeMaps (open_string shut_string)
open Go.ChangeShapes Go.WideShapes Go.ChangeAt Go.RowKit Tx
set_option linter.unusedVariables false
def dS {H : Type} (x : Sp) : DataW H := .agg [.lit (.int .i64 x.k), .lit (.string x.p.data.toList), .lit (.string x.q.data.toList), .lit (.int .i64 x.n)]
def int64 (k : Int) : Prop := -9223372036854775808 ≤ k ∧ k ≤ 9223372036854775807
theorem cells9 : Tryz.prog.cellsOf 9 = 1 := by kernel_rfl
theorem cells3 : Tryz.prog.cellsOf 3 = 1 := by kernel_rfl
theorem wf_int {k : Int} (h : (Lit.int .i64 k).wf = true) : int64 k := by
  unfold int64
  simpa [Lit.wf, IntKind.min, IntKind.max, IntKind.signed, IntKind.bits] using h
def Script (w : World) (a : Option Addr) (n : Nat) (l : List Sp) : Prop := l.length = n ∧ (n = 0 ∨ ∃ b off, a = some ⟨b, off, none⟩ ∧ b < w.heap.size ∧ ∀ k x, l[k]? = some x → w.cell? ⟨b, off + k * 4, none⟩ = some (.int .i64 x.k) ∧ w.cell? ⟨b, off + k * 4 + 1, none⟩ = some (.string x.p) ∧ w.cell? ⟨b, off + k * 4 + 1 + 1, none⟩ = some (.string x.q) ∧ w.cell? ⟨b, off + k * 4 + 1 + 1 + 1, none⟩ = some (.int .i64 x.n))
end Go.Proofs.YthejpojmmokinaaGreatDoor.Dk

namespace Go.Proofs.YthejpojmmokinaaGreatDoor.Fr
open Go.RowKit Wm Wr Fm
set_option linter.unusedVariables false
theorem cnt_le : ∀ (l : List ByteArray) (b : Nat), cnt l b ≤ l.length
  | [], _ => Nat.le_refl _
  | t :: l, b => by
    rw [cnt]
    split
    · have := cnt_le l (b - (pk t).size); simp; omega
    · exact Nat.zero_le _
end Go.Proofs.YthejpojmmokinaaGreatDoor.Fr

namespace Go.Proofs.YthejpojmmokinaaGreatDoor.Rg
open Go.RowKit
set_option linter.unusedVariables false
section
variable {P : Program} {S : World → Prop}
theorem y_slice {o : Oper} {a : Act} {T : TypeId} {x h : Operand} {vx vh v : Value} (ho : o.op = .slice T x none (some h) none) (hx : a.eval x = vx) (hh : a.eval h = vh)
    (hv : ∀ w, S w → (Instr.sliceAt T vx none (some vh) none).run P w = .ok v w) : ∀ w, S w → (execOp a.eval o).run P w = .ok (.value v) w := by
  intro w hw
  obtain ⟨dst, op, ty, pos, after, guard⟩ := o
  simp only at ho
  subst ho
  have := hv w hw
  simp only [execOp, hx, hh, Option.map_some, Option.map_none, Sem.run_bind]
  rw [this]
  rfl
end
section
variable {P : Program} {ops : Array Oper} {R : Act → World → Prop} {S : World → Prop}
end
end Go.Proofs.YthejpojmmokinaaGreatDoor.Rg

namespace Go.Proofs.YthejpojmmokinaaGreatDoor.Bl
open Go.RowKit Tx Pm Dk Wm Wr Wl Pl Tb
set_option linter.unusedVariables false
set_option linter.unusedSimpArgs false
set_option linter.unnecessarySimpa false
theorem at8_none {C : List On} {p : ByteArray} (h : at8 C p = none) : ∀ x ∈ C, keyO x ≠ p := fun x hx he => by
  have := List.find?_eq_none.1 h x hx
  simp [he] at this
section
variable {R : List It} {C : List On} {M k : Nat} {p : ByteArray} {x : On}
end
end Go.Proofs.YthejpojmmokinaaGreatDoor.Bl

namespace Go.Proofs.YthejpojmmokinaaGreatDoor.Bl
open Go.RowKit Tx Pm Dk Wm Wr Wl Pl Tb
set_option linter.unusedVariables false
set_option linter.unusedSimpArgs false
set_option linter.unnecessarySimpa false
def inL (l : List ByteArray) (s : ByteArray) : Bool := l.any (fun x => decide (x = s))
theorem inL_iff {l : List ByteArray} {s : ByteArray} : inL l s = true ↔ s ∈ l := by
  unfold inL
  rw [List.any_eq_true]
  constructor
  · rintro ⟨x, hx, e⟩
    rw [decide_eq_true_iff] at e
    exact e ▸ hx
  · intro h
    exact ⟨s, h, by simp⟩
theorem inL_snoc (l : List ByteArray) (y s : ByteArray) : inL (l ++ [y]) s = (inL l s || decide (y = s)) := by
  unfold inL
  rw [List.any_append]
  simp
set_option maxRecDepth 100000 in
set_option maxHeartbeats 1000000 in
theorem dec_any : ∀ (n : Nat) (w : World), n ≤ 1000000000 → Calls Tryz.prog 29 #[.int .i64 n] w fun e w' => e = .returned (.string (decB n)) ∧ Below w.heap.size w w' := by
  intro n
  induction n using Nat.strongRecOn with
  | _ n ih =>
    intro w hn
    have hB := Lib.hid (fun o => ((Below.refl w.heap.size w).alloc (Nat.le_refl _) o))
    obtain ⟨B, hB0⟩ : ∃ B, B = UInt8.ofNat (48 + n % 10) := ⟨_, rfl⟩
    have e0 : (B.toNat : Int) = 48 + (n : Int) % 10 := by rw [hB0, UInt8.toNat_ofNat']; omega
    have hc := conv_one B (w.alloc (.cells #[bv B] 5)) w.heap.size (by go_simp)
    unfold bv at hc
    rw [e0] at hc
    clear e0
    by_cases h : n < 10
    · have hz : (n : Int) < 10 := by omega
      have e1 : decB n = b1 B := by
        rw [hB0]
        unfold decB b1
        rw [Lib.decDigits_one h, Nat.mod_eq_of_lt h]
      rw [e1]
      clear ih hB0
      go_enter Tryz.func29, Tryz.ntmps29
      go_wp2_with fail
      go_ret
      exact ⟨rfl, hB.out _⟩
    · have hz : ¬ (n : Int) < 10 := by omega
      have e1 : decB n = decB (n / 10) ++ b1 B := by
        refine ba_ext ?_
        rw [app_l, hB0]
        show Lib.decDigits n = Lib.decDigits (n / 10) ++ [UInt8.ofNat (48 + n % 10)]
        rw [Lib.decDigits, dif_neg h]
      have ci := fun V => ih (n / 10) (by omega) V (by omega)
      have e2 : ((n / 10 : Nat) : Int) = (n : Int) / 10 := by omega
      rw [e2] at ci
      have hsz := decB_size (n := n / 10) (by omega)
      have hb1 : (b1 B).size = 1 := rfl
      have hsum : (decB (n / 10)).size + (b1 B).size ≤ 9223372036854775807 := by omega
      rw [e1]
      clear ih e2 e1 hB0
      go_enter Tryz.func29, Tryz.ntmps29
      go_wp2_with fail
      go_at_call 29
      refine (ci _).mono ?_
      rintro e w1 ⟨rfl, hb⟩
      go_wp2_with fail
      go_ret
      exact ⟨rfl, Tx.below_call (hB.out _) hb⟩
end Go.Proofs.YthejpojmmokinaaGreatDoor.Bl

namespace Go.Proofs.YthejpojmmokinaaGreatDoor.Bl
open Go.RowKit Tx Pm Dk Wm Wr Wl Pl Tb
set_option linter.unusedVariables false
set_option linter.unusedSimpArgs false
set_option linter.unnecessarySimpa false
def ReadsT (D : DataW Unit) (l : List ByteArray) : Prop := ∀ p z, D.atKey (kL p) z = if cnt l p = 0 then z else .lit (.int .i64 (cnt l p : Nat))
def Tc (w : World) (tm : Nat) (l : List ByteArray) : Prop := ∃ D : DataW Unit, w.ownsMap Tryz.prog 9 (plainElem Tryz.prog 3) tm l.length D ∧ ReadsT D l ∧ Go.Maps.size D ≤ l.length
theorem Tc.lt {w : World} {tm : Nat} {l : List ByteArray} (h : Tc w tm l) : tm < w.heap.size := by
  obtain ⟨D, h, _⟩ := h
  exact h.lt
theorem Tc.kept {w w1 : World} {tm : Nat} {l : List ByteArray} (h : Tc w tm l) (he : w1.heap[tm]? = w.heap[tm]?) : Tc w1 tm l := by
  obtain ⟨D, h, r⟩ := h
  exact ⟨D, Dk.ownsMap_at h he, r⟩
theorem Tc.look {w : World} {tm : Nat} {l : List ByteArray} (h : Tc w tm l) {p : ByteArray} (hp : p.size ≤ maxLen) :
    (Instr.lookup 73 (.map (some tm)) (.string p) false).run Tryz.prog w = .ok (.int .i64 (cnt l p : Nat)) w := by
  obtain ⟨D, ho, hr, _⟩ := h
  obtain ⟨u, ps, hrun, hv⟩ := ho.lookup strK Tryz.underlying73 (zeroN w) (plainElem_int Tryz.underlying3 (by decide)) (keyP hp)
  rw [hrun]
  obtain ⟨c, rfl, hc, hwc⟩ := plainElem_int_inv Tryz.underlying3 hv
  have hc := congrArg Prod.fst hc
  simp only [hr p] at hc
  by_cases hz : cnt l p = 0
  · rw [if_pos hz] at hc
    cases hc
    rw [hz]
    rfl
  · rw [if_neg hz] at hc
    cases hc
    rfl
theorem Tc.store {w : World} {tm : Nat} {l : List ByteArray} (h : Tc w tm l) {p : ByteArray} (hp : p.size ≤ maxLen) (hn : l.length < 1000000000000) :
    ∃ w', (Instr.mapUpdate 73 (.map (some tm)) (.string p) (.int .i64 ((cnt l p : Nat) + 1))).run Tryz.prog w = .ok () w' ∧ Tc w' tm (l ++ [p]) ∧ w.mapTurned w' tm := by
  obtain ⟨D, ho, hr, hs⟩ := h
  have hcl : cnt l p ≤ l.length := List.countP_le_length
  have hw : (Lit.int .i64 ((cnt l p : Nat) + 1)).wf = true := by simp [Lit.wf, IntKind.min, IntKind.max, IntKind.signed, IntKind.bits]; omega
  obtain ⟨w', hrun, ho', ht⟩ := ho.store strK Tryz.underlying73 (by unfold maxLen; omega) (keyP hp) (plainElem_int Tryz.underlying3 hw)
  have hsz : Go.Maps.size (D.put (kL p) (.lit (.int .i64 ((cnt l p : Nat) + 1)))) ≤ (l ++ [p]).length := by
    have h1 := Go.Maps.size_put (ho.tidy strK) (k := kL p) (.lit (.int .i64 ((cnt l p : Nat) + 1)))
    rw [h1, List.length_append]
    show _ ≤ l.length + 1
    split <;> omega
  refine ⟨w', hrun, ⟨_, own_len ho' hsz, fun q z => ?_, hsz⟩, ht⟩
  rw [cnt_snoc]
  by_cases he : p = q
  · subst he
    rw [if_pos rfl, if_neg (by omega), Go.Maps.atKey_put_same ho.isMap (kL_key _)]
    rfl
  · rw [if_neg he, Go.Maps.atKey_put_other (fun e => he (kL_inj e).symm)]
    exact hr q z
theorem tc_made (w : World) : Tc (w.alloc (.map #[] 0)) w.heap.size [] := ⟨_, World.ownsMap_made w _ _ _, fun p z => rfl, Nat.le_refl _⟩
def one8 (C : List On) (held : List ByteArray) (p : ByteArray) : List On := if cnt held p = 0 then delR C p else setR C p (cnt held p)
def many8 (C : List On) (held : List ByteArray) (K : List ByteArray) : List On := K.foldl (fun C p => one8 C held p) C
theorem many8_snoc (C : List On) (held K : List ByteArray) (p : ByteArray) : many8 C held (K ++ [p]) = one8 (many8 C held K) held p := by unfold many8; rw [List.foldl_append]; rfl
def swC (C : List On) (held : List ByteArray) : List On := C.filterMap (fun y => if cnt held (keyO y) = 0 then none else some { y with refs := cnt held (keyO y) })
def goneN (held K : List ByteArray) : Nat := K.countP (fun p => decide (cnt held p = 0))
theorem one8_id {C : List On} {M : Nat} (hg : Good8 C M) {y : On} (hy : y ∈ C) : setR C (keyO y) y.refs = C := by
  unfold setR
  refine (List.map_congr_left (fun z hz => ?_)).trans (List.map_id C)
  by_cases he : keyO z = keyO y
  · rw [if_pos he]
    have e1 := hg.at hy
    rw [← he, hg.at hz] at e1
    injection e1 with e1
    rw [e1]
    rfl
  · rw [if_neg he]
    rfl
theorem fm_congr {α β : Type} {f g : α → Option β} : ∀ {l : List α}, (∀ x ∈ l, f x = g x) → l.filterMap f = l.filterMap g
  | [], _ => rfl
  | x :: l, h => by
    rw [List.filterMap_cons, List.filterMap_cons, h x (List.mem_cons_self ..), fm_congr (l := l) (fun y hy => h y (List.mem_cons_of_mem _ hy))]
theorem many8_is (held : List ByteArray) : ∀ (K : List ByteArray) (C : List On), many8 C held K = C.filterMap (fun y => if inL K (keyO y) = true then (if cnt held (keyO y) = 0 then none else some { y with refs := cnt held (keyO y) }) else some y) := by
  intro K
  refine snoc7 (P := fun K => ∀ C, many8 C held K = C.filterMap (fun y => if inL K (keyO y) = true then (if cnt held (keyO y) = 0 then none else some { y with refs := cnt held (keyO y) }) else some y)) (fun C => ?_) (fun K p ih C => ?_) K
  · show C = _
    simp [inL]
  · rw [many8_snoc, ih C]
    unfold one8
    have hin : ∀ y : On, inL (K ++ [p]) (keyO y) = (inL K (keyO y) || decide (p = keyO y)) := fun y => inL_snoc K p (keyO y)
    by_cases h0 : cnt held p = 0
    · rw [if_pos h0]
      unfold delR
      rw [List.filter_filterMap]
      refine fm_congr (fun y hy => ?_)
      have hk2 : keyO { y with refs := cnt held (keyO y) } = keyO y := rfl
      rw [hin]
      by_cases he : p = keyO y
      · subst he
        by_cases hK : inL K (keyO y) = true
        · simp [hK, h0]
        · simp [hK, h0, Option.filter]
      · have he2 : ¬ keyO y = p := fun e => he e.symm
        by_cases hK : inL K (keyO y) = true
        · by_cases hc : cnt held (keyO y) = 0
          · simp [hK, hc]
          · simp [hK, hc, he, he2, hk2, Option.filter]
        · simp [hK, he, he2, Option.filter]
    · rw [if_neg h0]
      unfold setR
      rw [List.map_filterMap]
      refine fm_congr (fun y hy => ?_)
      have hk2 : keyO { y with refs := cnt held (keyO y) } = keyO y := rfl
      rw [hin]
      by_cases he : p = keyO y
      · subst he
        by_cases hK : inL K (keyO y) = true
        · rw [if_pos hK, if_neg h0, if_pos (by rw [hK]; rfl)]
          show some (if keyO { y with refs := cnt held (keyO y) } = keyO y then _ else _) = _
          rw [if_pos hk2]
        · rw [if_neg hK, if_pos (by simp), if_neg h0]
          show some (if keyO y = keyO y then _ else _) = _
          rw [if_pos rfl]
      · have he2 : ¬ keyO y = p := fun e => he e.symm
        have hd : (inL K (keyO y) || decide (p = keyO y)) = inL K (keyO y) := by simp [he]
        rw [hd]
        by_cases hK : inL K (keyO y) = true
        · rw [if_pos hK]
          by_cases hc : cnt held (keyO y) = 0
          · rw [if_pos hc]; rfl
          · rw [if_neg hc]
            show some (if keyO { y with refs := cnt held (keyO y) } = p then _ else _) = _
            rw [if_neg (fun e => he2 (hk2.symm.trans e))]
        · rw [if_neg hK]
          show some (if keyO y = p then _ else y) = _
          rw [if_neg he2]
theorem many8_all {C : List On} {held K : List ByteArray} (h : ∀ y ∈ C, keyO y ∈ K) : many8 C held K = swC C held := by
  rw [many8_is]
  unfold swC
  exact fm_congr (fun y hy => by rw [if_pos (inL_iff.2 (h y hy))])
section
variable {w0 : World × (Nat → Prop)} {W : World} {b j t m u M N V : Nat} {x : Tst} {C : List On} {Z : List It} {key : ByteArray}
theorem Bo.fresh (h : Bo b j t m u x Z w0 C M N V W) : ∃ F : Nat → Prop, (∀ i, F i → w0.2 i ∨ w0.1.heap.size ≤ i) ∧ (∀ i, F i → i < W.heap.size) ∧ ∀ W', Below W.heap.size W W' → Bo b j t m u x Z (W', F) C M N V W' := by
  obtain ⟨l, ⟨F, h1, h2, h3⟩, hh⟩ := h
  exact ⟨F, h3, tu_lt h1, fun W' hb => ⟨l, ⟨F, tb_below h1 hb, Chg.refl F W', fun g hg => .inl hg⟩, hh⟩⟩
theorem Bo.back {W2 : World} {F : Nat → Prop} (h : Bo b j t m u x Z (W2, F) C M N V W) (hc : Chg w0.2 w0.1 W2) (hF : ∀ i, F i → w0.2 i ∨ w0.1.heap.size ≤ i) : Bo b j t m u x Z w0 C M N V W := by
  obtain ⟨l, ⟨F', h1, h2, h3⟩, hh⟩ := h
  refine ⟨l, ⟨F', h1, hc.trans h2 hF, fun g hg => ?_⟩, hh⟩
  rcases h3 g hg with h4 | h4
  · exact hF g h4
  · exact .inr (Nat.le_trans hc.size h4)
theorem drop_any (h : Bo b j t m u x Z w0 C M N V W) (hN : N ≤ 100000000) (hb : beg pB2 key = true) (hk : key.size ≤ 14) : Calls Tryz.prog 37 #[.pointer (some ⟨u, 0, none⟩), .string key] W fun e w' => e = .returned (.tuple #[]) ∧ Bo b j t m u x Z w0 (delR C key) M (N + 1) (V + 140737488361232) w' := by
  obtain ⟨l, h1, h2, h3, h4, h5, h6, h7⟩ := h
  exact (f_drop (key := key) h1 (by omega) (by omega)).mono fun e w' hh => ⟨hh.1, (bo_drop hh.2 (f_facts h1) (rep_del h2) (good_del h3) h4 h5 h6 h7 hb hk).mono (Nat.le_refl _) (Nat.le_refl _) (by omega)⟩
theorem keep_set {y : On} {k M' : Nat} (h : Bo b j t m u x Z w0 C M N V W) (hN : N ≤ 100000000) (hM : M ≤ M') (hM' : M' ≤ 100000000) (hy : y ∈ C) (h1k : 1 ≤ k) (hkM : k ≤ M') : Calls Tryz.prog 35 #[.pointer (some ⟨u, 0, none⟩), .string (keyO y), onV k y.data] W fun e w' => e = .returned (.tuple #[]) ∧ Bo b j t m u x Z w0 (setR C (keyO y) k) M' (N + 1) (V + 140737488361232) w' := by
  obtain ⟨l, h1, h2, h3, h4, h5, h6, h7⟩ := h
  obtain ⟨_, _, _, _, y5⟩ := h3.each y hy
  have hs := keyO_size h3 (by omega) hy
  exact (keep_any (key := keyO y) (h := k) (d := y.data) h1 (by omega) (by omega) (by omega) y5).mono fun e w' hh => ⟨hh.1, (bo_keep hh.2 (f_facts h1) (rep_set h2 hy h3) (good_set (h3.mono hM) h1k hkM) h4 h5 h6 h7 (keyO_beg y) hs (by omega) y5).mono (Nat.le_refl _) (Nat.le_refl _) (by omega)⟩
theorem bkeys_list (h : Bo b j t m u x Z w0 C M N V W) (hx : Xk x) (hN : N ≤ 100000000) : ∃ K : List ByteArray, K.Perm (C.map keyO) ∧ Calls Tryz.prog 22 #[.pointer (some ⟨u, 0, none⟩), .string ⟨#[98, 47]⟩] W (ListTo K W) := by
  obtain ⟨l, h1, h2, h3, h4, h5, h6, h7⟩ := h
  exact ⟨_, keys_perm h2 h3, f_bkeys (p := pB2) h1 hx (by omega) h6 (by decide)⟩
end
theorem gone_is {C : List On} {held K : List ByteArray} (h : K.Perm (C.map keyO)) : goneN held K + (swC C held).length = C.length := by
  unfold goneN swC
  rw [h.countP_eq, List.countP_map, List.length_filterMap_eq_countP]
  have e : ∀ y : On, (if cnt held (keyO y) = 0 then none else some { y with refs := cnt held (keyO y) } : Option On).isSome = !(((fun p => decide (cnt held p = 0)) ∘ keyO) y) := fun y => by
    by_cases hc : cnt held (keyO y) = 0 <;> simp [hc]
  simp only [e]
  rw [List.length_eq_countP_add_countP ((fun p => decide (cnt held p = 0)) ∘ keyO) (l := C)]
  congr 1
  exact List.countP_congr (fun a _ => by simp)
theorem many8_keep {C : List On} {held K : List ByteArray} {y : On} (hy : y ∈ C) (hK : inL K (keyO y) = false) : y ∈ many8 C held K := by
  rw [many8_is]
  exact List.mem_filterMap.2 ⟨y, hy, by rw [hK]; rfl⟩
theorem bo_find_mem {w0 : World × (Nat → Prop)} {W : World} {b j t m u M N V : Nat} {x : Tst} {C : List On} {Z : List It} {y : On} (h : Bo b j t m u x Z w0 C M N V W) (hM : M ≤ 100000000) (hy : y ∈ C) :
    Calls Tryz.prog 34 #[.pointer (some ⟨u, 0, none⟩), .string (keyO y)] W fun e w' => e = .returned (.tuple #[onV y.refs y.data, .bool true]) ∧ Below W.heap.size W w' := by
  have c := bo_find (key := keyO y) h hM (by have := keyO_size h.good hM hy; omega)
  rw [h.good.at hy] at c
  exact c
set_option maxRecDepth 100000 in
set_option maxHeartbeats 8000000 in
theorem sweep_any {w0 : World × (Nat → Prop)} {W : World} {b j t m u M N V : Nat} {x : Tst} {C : List On} {Z : List It} (A : Option Addr) (hn hc : Nat) (held : List ByteArray) (h : Bo b j t m u x Z w0 C M N V W) (hx : Xk x) (hM : M ≤ 1000000) (hN : N ≤ 1000000) (hS : Strs W A hn held) (hcap : hn ≤ hc) (hhn : hn ≤ 1000000) (hks : ∀ p ∈ held, p.size ≤ 1000) :
    Calls Tryz.prog 18 #[.pointer (some ⟨u, 0, none⟩), .slice A hn hc] W fun e w' => e = .returned (.int .i64 ((C.length - (swC C held).length : Nat) : Nat)) ∧ ∃ V', Bo b j t m u x Z w0 (swC C held) (M + hn) (N + M) V' w' := by
  have HST := Lib.hid (fun V (hV : Below W.heap.size W V) => hS.below hV)
  have HL := Lib.hid hS.1
  have HKS := Lib.hid hks
  have HX := Lib.hid hx
  have HG := Lib.hid h.good
  obtain ⟨F, f1, f2, f3⟩ := h.fresh
  have HCH := Lib.hid h.chg
  have HF1 := Lib.hid f1
  have HF2 := Lib.hid f2
  have HF3 := Lib.hid f3
  have hB0 : Below W.heap.size W (W.alloc (.map #[] 0)) := (Below.refl _ W).alloc (Nat.le_refl _) _
  have hT0 := tc_made W
  have hlt0 : W.heap.size < (W.alloc (.map #[] 0)).heap.size := by simp
  clear hS hks hx h f1 f2 f3
  have hmm := @run_makeMap Tryz.prog
  go_enter Tryz.func18, Tryz.ntmps18
  go_wp2_with fail
  go_loopw [17] (fun iv wr => ∃ k : Nat, k ≤ hn ∧ iv = .int .i64 k ∧ Tc wr W.heap.size (held.take k) ∧ Below W.heap.size W wr ∧ W.heap.size < wr.heap.size) (fun iv _ => hn - (intOf iv).toNat)
  case atStart => exact ⟨0, Nat.zero_le _, rfl, hT0, hB0, hlt0⟩
  case round =>
    clear hB0 hT0 hlt0
    obtain ⟨k, hk, rfl, hT, hB, hlt⟩ := hrel
    by_cases hlk : k < hn
    · obtain ⟨p, hp⟩ : ∃ p, held[k]? = some p := ⟨_, List.getElem?_eq_getElem (by rw [HL.out]; exact hlk)⟩
      obtain ⟨bk, off, rfl, _, g0⟩ := Strs.at2 (HST.out _ hB) hp hlk
      have hkz : (k : Int) < (hn : Int) := by omega
      have hps := HKS.out p (List.mem_of_getElem? hp)
      have hlk1 := hT.look (p := p) (by unfold maxLen; omega)
      have hcl : cnt (held.take k) p ≤ k := by
        have := List.countP_le_length (p := fun x => decide (x = p)) (l := held.take k)
        have h2 := List.length_take_le k held
        unfold cnt
        omega
      obtain ⟨w4, hrun, hT4, hturn⟩ := hT.store (p := p) (by unfold maxLen; omega) (by rw [List.length_take]; omega)
      rw [← take_snoc hp] at hT4
      obtain ⟨q, hq⟩ : ∃ q, q = cnt (held.take k) p := ⟨_, rfl⟩
      rw [← hq] at hlk1 hrun hcl
      have hch := turned_chg hturn
      have hB4 : Below W.heap.size W w4 := hB.trans (hch.below hB.size (fun i hi => by omega))
      have hs4 : W.heap.size < w4.heap.size := Nat.lt_of_lt_of_le hlt hch.size
      clear hp hq hturn hch hT
      go_wp2_with fail
      go_roundw
      case rel => exact ⟨k + 1, by omega, by go_num, hT4, hB4, hs4⟩
      case measure => simp [intOf]; omega
    · obtain rfl : k = hn := by omega
      have eA : held.take k = held := List.take_of_length_le (by rw [HL.out]; exact Nat.le_refl _)
      rw [eA] at hT
      obtain ⟨K, hKP, ck⟩ := bkeys_list (HF3.out _ hB) HX.out (by omega)
      obtain ⟨n, hnK⟩ : ∃ n, n = K.length := ⟨_, rfl⟩
      have hnC : n ≤ M := by rw [hnK, hKP.length_eq, List.length_map]; exact HG.out.len
      have HKP := Lib.hid hKP
      have HNK := Lib.hid hnK
      have hltm : W.heap.size < wr.heap.size := hlt
      clear eA hlk hnK hKP
      go_wp2_with fail
      go_at_call 22
      refine ck.mono ?_
      rintro e w2 ⟨vK, rfl, hK, hb2⟩
      obtain ⟨aK, cK, hv, hsK, hcK, _⟩ := hK.form
      rw [← HNK.out] at hv hsK hcK
      have hT2 := hT.kept (hb2.block _ hltm)
      have hB2 := Tx.below_call hB hb2
      have hs2 : W.heap.size < w2.heap.size := Nat.lt_of_lt_of_le hltm hb2.size
      have hKo : w2.ownsRow W.heap.size 9 1 (.slice aK n cK) n (K.map sv) := by
        have this : w2.ownsRow wr.heap.size 9 1 vK K.length (K.map sv) := hK
        rw [hv, ← HNK.out] at this
        exact own_less this hB.size
      have HTV := Lib.hid (fun V (hV : Chg F w2 V) => hT2.kept (hV.block _ hs2 (fun hf => by have := HF2.out _ hf; omega)))
      have HSV := Lib.hid (fun V (hV : Chg F w2 V) => strs_row (own_chg hKo hV (fun g hg hf => by have := HF2.out _ hf; have := (hKo.lt g hg).1; omega)))
      have HB2 := Lib.hid hB2
      have o2 := (HF3.out _ hB2).mono (Nat.le_add_right M k) (Nat.le_refl N) (Nat.le_refl V)
      have HND : Hid (∀ k p, K[k]? = some p → inL (K.take k) p = false) := Lib.hid (fun k p hp => by
        have hnd : K.Nodup := HKP.out.nodup_iff.2 (List.pairwise_map.2 HG.out.keys)
        cases hin : inL (K.take k) p with
        | false => rfl
        | true =>
          obtain ⟨i, hi⟩ := List.getElem?_of_mem (inL_iff.1 hin)
          have hik : i < k := by
            have := (List.getElem?_eq_some_iff.1 hi).1
            rw [List.length_take] at this
            omega
          rw [List.getElem?_take_of_lt hik] at hi
          have := (List.getElem?_inj (List.getElem?_eq_some_iff.1 hi).1 hnd).1 (hi.trans hp.symm)
          omega)
      clear hT hK hsK ck hb2 hT2 hKo
      subst hv
      go_wp2_with fail
      go_loopw [8, 29] (fun gv iv wr => ∃ (q N' V' : Nat), q ≤ n ∧ iv = .int .i64 q ∧ gv = .int .i64 (goneN held (K.take q) : Nat) ∧ N' ≤ N + q ∧ Bo b j t m u x Z (w2, F) (many8 C held (K.take q)) (M + k) N' V' wr) (fun _ iv _ => n - (intOf iv).toNat)
      case atStart => exact ⟨0, N, V, Nat.zero_le _, rfl, rfl, Nat.le_refl _, o2⟩
      case round =>
        clear o2
        obtain ⟨q, N', V', hq, rfl, rfl, hN', o⟩ := hrel
        have hcg : goneN held (K.take q) ≤ q := by
          have := List.countP_le_length (p := fun p => decide (cnt held p = 0)) (l := K.take q)
          have h2 := List.length_take_le q K
          unfold goneN
          omega
        by_cases hlq : q < n
        · obtain ⟨p, hp⟩ : ∃ p, K[q]? = some p := ⟨_, List.getElem?_eq_getElem (by rw [← HNK.out]; exact hlq)⟩
          obtain ⟨bk, off, rfl, _, g0⟩ := Strs.at2 (HSV.out _ o.chg) hp hlq
          have hqz : (q : Int) < (n : Int) := by omega
          obtain ⟨y, hy, hye⟩ := List.mem_map.1 (HKP.out.mem_iff.1 (List.mem_of_getElem? hp))
          have hps : p.size ≤ 14 := by rw [← hye]; exact keyO_size HG.out (by omega) hy
          have hpb : beg pB2 p = true := by rw [← hye]; exact keyO_beg y
          have hlk1 := (HTV.out _ o.chg).look (p := p) (by unfold maxLen; omega)
          have htk := take_snoc hp
          have hgn : goneN held (K.take (q + 1)) = goneN held (K.take q) + if cnt held p = 0 then 1 else 0 := by
            unfold goneN
            rw [htk, List.countP_append, List.countP_singleton]
            by_cases hc : cnt held p = 0 <;> simp [hc]
          have hmn := many8_snoc C held (K.take q) p
          rw [← htk] at hmn
          unfold one8 at hmn
          have hym := many8_keep (held := held) hy (K := K.take q) (by rw [hye]; exact HND.out q p hp)
          obtain ⟨G, hG⟩ : ∃ G, G = goneN held (K.take q) := ⟨_, rfl⟩
          rw [← hG] at hgn hcg ⊢
          have hqM : cnt held p ≤ k := by
            have := List.countP_le_length (p := fun x => decide (x = p)) (l := held)
            have h2 := HL.out
            unfold cnt
            omega
          by_cases h0 : cnt held p = 0
          · rw [h0] at hlk1
            rw [if_pos h0] at hgn hmn
            have e0 : ((0 : Nat) : Int) = 0 := rfl
            rw [e0] at hlk1
            have cd := drop_any (key := p) o (by omega) hpb hps
            rw [← hmn] at cd
            have HGN := Lib.hid hgn
            clear hp hy hye hpb hps htk hmn hym hgn hG o h0 e0 hqM
            go_wp2_with fail
            go_at_call 37
            refine cd.mono ?_
            rintro e w4 ⟨rfl, o4⟩
            go_wp2_with fail
            go_roundw
            case rel => exact ⟨q + 1, N' + 1, _, by omega, by go_num, by rw [HGN.out]; go_num, by omega, o4⟩
            case measure => simp [intOf]; omega
          · rw [if_neg h0] at hgn hmn
            obtain ⟨r, hr⟩ : ∃ r, r = cnt held p := ⟨_, rfl⟩
            rw [← hr] at hlk1 hmn h0 hqM
            have hb0 : ((r : Int) == 0) = false := by simp; omega
            have HGN := Lib.hid (show goneN held (K.take (q + 1)) = G by rw [hgn]; rfl)
            have cf := bo_find_mem o (by omega) hym
            have hyr := (o.good.each y hym).2.2.1
            rw [hye] at cf
            unfold onV at cf
            have HYM := Lib.hid hym
            have HYE := Lib.hid hye
            have HMN := Lib.hid hmn
            clear hp hy hye hpb hps htk hmn hym hgn hG hr
            by_cases he : y.refs = r
            · have hbe : ((y.refs : Int) == (r : Int)) = true := by simp; omega
              have hC : many8 C held (K.take (q + 1)) = many8 C held (K.take q) := by
                rw [HMN.out, ← HYE.out, ← he]
                exact one8_id o.good HYM.out
              have HC := Lib.hid hC
              have HO := Lib.hid o
              clear hC o he
              go_wp2_with fail
              go_at_call 34
              refine cf.mono ?_
              rintro e w4 ⟨rfl, hb4⟩
              have o4 := HO.out.below (hb4.alloc hb4.size (.cells #[.int .i64 (y.refs : Nat), .string y.data] 68))
              clear hb4 cf
              go_wp2_with fail
              go_roundw
              case rel => exact ⟨q + 1, N', V', by omega, by go_num, by rw [HGN.out], by omega, by rw [HC.out]; exact o4⟩
              case measure => simp [intOf]; omega
            · have hbe : ((y.refs : Int) == (r : Int)) = false := by simp; omega
              have HO := Lib.hid o
              clear o he
              go_wp2_with fail
              go_at_call 34
              refine cf.mono ?_
              rintro e w4 ⟨rfl, hb4⟩
              have ck := keep_set (k := r) (HO.out.below (hb4.alloc hb4.size (.cells #[.int .i64 (y.refs : Nat), .string y.data] 68))) (by omega) (Nat.le_refl _) (by omega) HYM.out (by omega) (by omega)
              rw [HYE.out, ← HMN.out] at ck
              unfold onV at ck
              clear hb4 cf
              go_wp2_with fail
              go_at_call 35
              refine ck.mono ?_
              rintro e w5 ⟨rfl, o5⟩
              clear ck
              go_wp2_with fail
              go_roundw
              case rel => exact ⟨q + 1, N' + 1, _, by omega, by go_num, by rw [HGN.out], by omega, o5⟩
              case measure => simp [intOf]; omega
        · obtain rfl : q = n := by omega
          have eA : K.take q = K := List.take_of_length_le (by rw [← HNK.out]; exact Nat.le_refl _)
          have hall : ∀ y ∈ C, keyO y ∈ K := fun y hy => HKP.out.mem_iff.2 (List.mem_map.2 ⟨y, hy, rfl⟩)
          have hsw := many8_all (held := held) hall
          have hgi := gone_is (held := held) HKP.out
          rw [eA, hsw] at o
          rw [eA]
          have hG : goneN held K = C.length - (swC C held).length := by omega
          have HG2 := Lib.hid hG
          clear hsw hgi hG eA hcg
          go_wp2_with fail
          go_ret
          rw [HG2.out]
          exact ⟨rfl, V', (o.back (HCH.out.then (Chg.of_below HB2.out)) HF1.out).mono (Nat.le_refl _) (by omega) (Nat.le_refl _)⟩
end Go.Proofs.YthejpojmmokinaaGreatDoor.Bl

namespace Go.Proofs.YthejpojmmokinaaGreatDoor.Bl
open Go.RowKit Tx Pm Dk Wm Wr Wl Pl Tb
set_option linter.unusedVariables false
set_option linter.unusedSimpArgs false
set_option linter.unnecessarySimpa false
def zzK : ByteArray := ⟨#[122, 122]⟩
def otV : ByteArray := ⟨#[111, 116, 104, 101, 114]⟩
def Zz : List It := app [] ⟨zzK, otV, false⟩
theorem zz_not : beg pB2 zzK = false := by decide +kernel
section
variable {w0 : World × (Nat → Prop)} {W : World} {b j t m u M N V : Nat} {x : Tst} {C : List On} {Z : List It} {key val : ByteArray}
theorem put_other (h : Bo b j t m u x Z w0 C M N V W) (hN : N ≤ 100000000) (hb : beg pB2 key = false) (hk : key.size ≤ 1000) : Calls Tryz.prog 10 #[.pointer (some ⟨u, 0, none⟩), .string key, .string val] W fun e w' => e = .returned (.tuple #[]) ∧ Bo b j t m u x (app Z ⟨key, val, false⟩) w0 C M (N + 1) (V + key.size + val.size + 40) w' := by
  obtain ⟨l, h1, h2, h3, h4, h5, h6, h7⟩ := h
  have hf := f_facts h1
  refine (f_put (key := key) (val := val) h1 (by omega) (by omega)).mono fun e w' hh => ⟨hh.1, _, hh.2, ?_, h3, fun p hp => ?_, ?_, fun c hc => ?_, ?_⟩
  · rw [all_bat hf.1 hf.2]
    refine ⟨rises_app h2.rises _, fun p hp => ?_⟩
    rw [find_app7, if_neg (fun e => by rw [show key = p from e, hp] at hb; cases hb)]
    exact h2.look p hp
  · rw [all_bat hf.1 hf.2, find_app7, find_app7, h4 p hp]
  · have := bat_len l ⟨key, val, false⟩; omega
  · rcases bat_mem hc with rfl | hc
    · exact hk
    · exact h6 c hc
  · have h2 := wt_bat hf.2 ⟨key, val, false⟩
    simp only at h2
    omega
theorem bkeys_rise (h : Bo b j t m u x Z w0 C M N V W) (hx : Xk x) (hN : N ≤ 100000000) : ∃ K : List ByteArray, K.Perm (C.map keyO) ∧ K.Pairwise (fun a b => Op.bytesLess a.toList b.toList = true) ∧ Calls Tryz.prog 22 #[.pointer (some ⟨u, 0, none⟩), .string ⟨#[98, 47]⟩] W (ListTo K W) := by
  obtain ⟨l, h1, h2, h3, h4, h5, h6, h7⟩ := h
  exact ⟨_, keys_perm h2 h3, held_rises h2.rises, f_bkeys (p := pB2) h1 hx (by omega) h6 (by decide)⟩
end
end Go.Proofs.YthejpojmmokinaaGreatDoor.Bl

namespace Go.Proofs.YthejpojmmokinaaGreatDoor.Rg
open Go.RowKit
set_option linter.unusedVariables false
section
variable {P : Program} {S : World → Prop}
theorem y_sl2 {o : Oper} {a : Act} {T : TypeId} {x l h : Operand} {vx vl vh v : Value} (ho : o.op = .slice T x (some l) (some h) none) (hx : a.eval x = vx) (hl : a.eval l = vl) (hh : a.eval h = vh)
    (hv : ∀ w, S w → (Instr.sliceAt T vx (some vl) (some vh) none).run P w = .ok v w) : ∀ w, S w → (execOp a.eval o).run P w = .ok (.value v) w := by
  intro w hw
  obtain ⟨dst, op, ty, pos, after, guard⟩ := o
  simp only at ho
  subst ho
  have := hv w hw
  simp only [execOp, hx, hl, hh, Option.map_some, Option.map_none, Sem.run_bind]
  rw [this]
  rfl
end
end Go.Proofs.YthejpojmmokinaaGreatDoor.Rg
namespace Go.Proofs.YthejpojmmokinaaGreatDoor.Bl
open Go.RowKit Tx
set_option linter.unusedVariables false
set_option maxRecDepth 100000 in
set_option maxHeartbeats 4000000 in
theorem regKey (decB : Nat → ByteArray) (ops : Array Oper) (hops : ops = (Rg.opsOf Tryz.f16 2)) (id : Nat) (g low n : Nat) (H : ByteArray) {u0 u2 u4 u5 u6 u7 u8 u9 u10 u11 u12 u13 u14 u15 u16 u17 u18 u19 u20 u21 u22 u23 u24 u25 u26 u27 u28 : Value} (w : World) (K : World → Prop) (hl : low < 256)
    (hH : ((⟨#[98, 47]⟩ : ByteArray) ++ (⟨#[48, 49, 50, 51, 52, 53, 54, 55, 56, 57, 97, 98, 99, 100, 101, 102]⟩ : ByteArray).extract (low / 16) (low / 16 + 1)) ++ (⟨#[48, 49, 50, 51, 52, 53, 54, 55, 56, 57, 97, 98, 99, 100, 101, 102]⟩ : ByteArray).extract (low % 16) (low % 16 + 1) ++ ⟨#[47]⟩ = H) (hsum : H.size + (decB n).size ≤ 9223372036854775807)
    (hK : K w.drew) (h0 : ∀ V, K V → V.cell? ⟨g, 0, none⟩ = some (.int .i64 (low : Nat)) ∧ V.cell? ⟨g, 1, none⟩ = some (.int .i64 (n : Nat)))
    (cd0 : ∀ V, K V → Calls Tryz.prog 29 #[.int .i64 (n : Nat)] V fun e w' => e = .returned (.string (decB n)) ∧ K w') :
    (Code.region id ops true).wp Tryz.prog (Rg.Only fun a' w' => a' = ⟨#[u0, (.pointer (some ⟨g, 0, none⟩)), (.string (H ++ decB n)), (.string (⟨#[48, 49, 50, 51, 52, 53, 54, 55, 56, 57, 97, 98, 99, 100, 101, 102]⟩ : ByteArray)), (.string (⟨#[48, 49, 50, 51, 52, 53, 54, 55, 56, 57, 97, 98, 99, 100, 101, 102]⟩ : ByteArray)), (.pointer (some ⟨g, 0, none⟩)), (.int .i64 (low : Nat)), (.int .i64 ((low : Int) / 16)), (.pointer (some ⟨g, 0, none⟩)), (.int .i64 (low : Nat)), (.int .i64 ((low : Int) / 16)), (.int .i64 ((low : Int) / 16 + 1)), (.string ((⟨#[48, 49, 50, 51, 52, 53, 54, 55, 56, 57, 97, 98, 99, 100, 101, 102]⟩ : ByteArray).extract (low / 16) (low / 16 + 1))), (.string ((⟨#[98, 47]⟩ : ByteArray) ++ (⟨#[48, 49, 50, 51, 52, 53, 54, 55, 56, 57, 97, 98, 99, 100, 101, 102]⟩ : ByteArray).extract (low / 16) (low / 16 + 1))), (.string (⟨#[48, 49, 50, 51, 52, 53, 54, 55, 56, 57, 97, 98, 99, 100, 101, 102]⟩ : ByteArray)), (.pointer (some ⟨g, 0, none⟩)), (.int .i64 (low : Nat)), (.int .i64 ((low : Int) % 16)), (.pointer (some ⟨g, 0, none⟩)), (.int .i64 (low : Nat)), (.int .i64 ((low : Int) % 16)), (.int .i64 ((low : Int) % 16 + 1)), (.string ((⟨#[48, 49, 50, 51, 52, 53, 54, 55, 56, 57, 97, 98, 99, 100, 101, 102]⟩ : ByteArray).extract (low % 16) (low % 16 + 1))), (.string (((⟨#[98, 47]⟩ : ByteArray) ++ (⟨#[48, 49, 50, 51, 52, 53, 54, 55, 56, 57, 97, 98, 99, 100, 101, 102]⟩ : ByteArray).extract (low / 16) (low / 16 + 1)) ++ (⟨#[48, 49, 50, 51, 52, 53, 54, 55, 56, 57, 97, 98, 99, 100, 101, 102]⟩ : ByteArray).extract (low % 16) (low % 16 + 1))), (.string H), (.pointer (some ⟨g, 1, none⟩)), (.int .i64 (n : Nat)), (.string (decB n)), (.string (H ++ decB n))], []⟩ ∧ K w') ⟨#[u0, (.pointer (some ⟨g, 0, none⟩)), u2, (.string (⟨#[48, 49, 50, 51, 52, 53, 54, 55, 56, 57, 97, 98, 99, 100, 101, 102]⟩ : ByteArray)), u4, u5, u6, u7, u8, u9, u10, u11, u12, u13, u14, u15, u16, u17, u18, u19, u20, u21, u22, u23, u24, u25, u26, u27, u28], []⟩ w := by
  subst hops
  have hNS : Region.noSelect (Rg.opsOf Tryz.f16 2) = true := by kernel_rfl
  have cd : ∀ V, ((V.cell? ⟨g, 0, none⟩ = some (.int .i64 (low : Nat)) ∧ V.cell? ⟨g, 1, none⟩ = some (.int .i64 (n : Nat))) ∧ K V) → Calls Tryz.prog 29 #[.int .i64 (n : Nat)] V fun e w' => e = .returned (.string (decB n)) ∧ ((w'.cell? ⟨g, 0, none⟩ = some (.int .i64 (low : Nat)) ∧ w'.cell? ⟨g, 1, none⟩ = some (.int .i64 (n : Nat))) ∧ K w') := fun V hV => (cd0 V hV.2).mono fun e w' hh => ⟨hh.1, h0 _ hh.2, hh.2⟩
  refine wp_region_held_drew (S := fun V => (V.cell? ⟨g, 0, none⟩ = some (.int .i64 (low : Nat)) ∧ V.cell? ⟨g, 1, none⟩ = some (.int .i64 (n : Nat))) ∧ K V) (by kernel_rfl) ⟨h0 _ hK, hK⟩ (fun hHeld => ?_)
  rw [show (Rg.opsOf Tryz.f16 2).size = 26 by kernel_rfl]
  refine Rg.take (ops := (Rg.opsOf Tryz.f16 2)) 0 (some 4) ((.string (⟨#[48, 49, 50, 51, 52, 53, 54, 55, 56, 57, 97, 98, 99, 100, 101, 102]⟩ : ByteArray))) hNS (by kernel_rfl) (by kernel_rfl) (by kernel_rfl) (by kernel_rfl) (by kernel_rfl) hHeld (Rg.y_move (x := (Operand.tmp 3)) (Or.inl (by kernel_rfl)) (by kernel_rfl)) ?_
  refine Rg.take (ops := (Rg.opsOf Tryz.f16 2)) 1 (some 5) ((.pointer (some ⟨g, 0, none⟩))) hNS (by kernel_rfl) (by kernel_rfl) (by kernel_rfl) (by kernel_rfl) (by kernel_rfl) hHeld (Rg.y_field (T := 40) (k := 0) (x := (Operand.tmp 1)) (vx := (.pointer (some ⟨g, 0, none⟩))) (by kernel_rfl) (by kernel_rfl) ?_) ?_
  · (intro w hSw; go_simp)
  refine Rg.take (ops := (Rg.opsOf Tryz.f16 2)) 2 (some 6) ((.int .i64 (low : Nat))) hNS (by kernel_rfl) (by kernel_rfl) (by kernel_rfl) (by kernel_rfl) (by kernel_rfl) hHeld (Rg.y_load (T := 3) (x := (Operand.tmp 5)) (vx := (.pointer (some ⟨g, 0, none⟩))) (by kernel_rfl) (by kernel_rfl) ?_) ?_
  · (intro w hSw; have h1 := hSw.1.1; have h2 := hSw.1.2; go_simp)
  refine Rg.take (ops := (Rg.opsOf Tryz.f16 2)) 3 (some 7) ((.int .i64 ((low : Int) / 16))) hNS (by kernel_rfl) (by kernel_rfl) (by kernel_rfl) (by kernel_rfl) (by kernel_rfl) hHeld (Rg.y_bin (b := BinOp.quo) (T := 3) (R' := 3) (x := (Operand.tmp 6)) (y := (Operand.const (Value.int IntKind.i64 16))) (vx := (.int .i64 (low : Nat))) (vy := (Value.int IntKind.i64 16)) (by kernel_rfl) (by kernel_rfl) (by kernel_rfl) ?_) ?_
  · (intro w hSw; have ht : (low : Int).tdiv 16 = (low : Int) / 16 := Int.tdiv_eq_ediv_of_nonneg (by omega); have hw : IntKind.i64.wrap ((low : Int) / 16) = (low : Int) / 16 := (by rw [IntKind.wrap_i64]; omega); go_simp)
  refine Rg.take (ops := (Rg.opsOf Tryz.f16 2)) 4 (some 8) ((.pointer (some ⟨g, 0, none⟩))) hNS (by kernel_rfl) (by kernel_rfl) (by kernel_rfl) (by kernel_rfl) (by kernel_rfl) hHeld (Rg.y_field (T := 40) (k := 0) (x := (Operand.tmp 1)) (vx := (.pointer (some ⟨g, 0, none⟩))) (by kernel_rfl) (by kernel_rfl) ?_) ?_
  · (intro w hSw; go_simp)
  refine Rg.take (ops := (Rg.opsOf Tryz.f16 2)) 5 (some 9) ((.int .i64 (low : Nat))) hNS (by kernel_rfl) (by kernel_rfl) (by kernel_rfl) (by kernel_rfl) (by kernel_rfl) hHeld (Rg.y_load (T := 3) (x := (Operand.tmp 8)) (vx := (.pointer (some ⟨g, 0, none⟩))) (by kernel_rfl) (by kernel_rfl) ?_) ?_
  · (intro w hSw; have h1 := hSw.1.1; have h2 := hSw.1.2; go_simp)
  refine Rg.take (ops := (Rg.opsOf Tryz.f16 2)) 6 (some 10) ((.int .i64 ((low : Int) / 16))) hNS (by kernel_rfl) (by kernel_rfl) (by kernel_rfl) (by kernel_rfl) (by kernel_rfl) hHeld (Rg.y_bin (b := BinOp.quo) (T := 3) (R' := 3) (x := (Operand.tmp 9)) (y := (Operand.const (Value.int IntKind.i64 16))) (vx := (.int .i64 (low : Nat))) (vy := (Value.int IntKind.i64 16)) (by kernel_rfl) (by kernel_rfl) (by kernel_rfl) ?_) ?_
  · (intro w hSw; have ht : (low : Int).tdiv 16 = (low : Int) / 16 := Int.tdiv_eq_ediv_of_nonneg (by omega); have hw : IntKind.i64.wrap ((low : Int) / 16) = (low : Int) / 16 := (by rw [IntKind.wrap_i64]; omega); go_simp)
  refine Rg.take (ops := (Rg.opsOf Tryz.f16 2)) 7 (some 11) ((.int .i64 ((low : Int) / 16 + 1))) hNS (by kernel_rfl) (by kernel_rfl) (by kernel_rfl) (by kernel_rfl) (by kernel_rfl) hHeld (Rg.y_bin (b := BinOp.add) (T := 3) (R' := 3) (x := (Operand.tmp 10)) (y := (Operand.const (Value.int IntKind.i64 1))) (vx := (.int .i64 ((low : Int) / 16))) (vy := (Value.int IntKind.i64 1)) (by kernel_rfl) (by kernel_rfl) (by kernel_rfl) ?_) ?_
  · (intro w hSw; have h1 := hl; have hw : IntKind.i64.wrap ((low : Int) / 16 + 1) = (low : Int) / 16 + 1 := (by rw [IntKind.wrap_i64]; omega); go_simp)
  refine Rg.take (ops := (Rg.opsOf Tryz.f16 2)) 8 (some 12) ((.string ((⟨#[48, 49, 50, 51, 52, 53, 54, 55, 56, 57, 97, 98, 99, 100, 101, 102]⟩ : ByteArray).extract (low / 16) (low / 16 + 1)))) hNS (by kernel_rfl) (by kernel_rfl) (by kernel_rfl) (by kernel_rfl) (by kernel_rfl) hHeld (Rg.y_sl2 (T := 9) (x := (Operand.tmp 4)) (l := (Operand.tmp 7)) (h := (Operand.tmp 11)) (vx := (.string (⟨#[48, 49, 50, 51, 52, 53, 54, 55, 56, 57, 97, 98, 99, 100, 101, 102]⟩ : ByteArray))) (vl := (.int .i64 ((low : Int) / 16))) (vh := (.int .i64 ((low : Int) / 16 + 1))) (by kernel_rfl) (by kernel_rfl) (by kernel_rfl) (by kernel_rfl) ?_) ?_
  · (intro w hSw; have h1 : 0 ≤ (low : Int) / 16 := (by omega); have h2 : (low : Int) / 16 + 1 ≤ 16 := (by omega); have h3 : 0 ≤ (low : Int) / 16 + 1 := (by omega); go_simp; rw [if_pos (by omega), show ((low : Int) / 16).toNat = low / 16 by omega, show ((low : Int) / 16 + 1).toNat = low / 16 + 1 by omega])
  refine Rg.take (ops := (Rg.opsOf Tryz.f16 2)) 9 (some 13) ((.string ((⟨#[98, 47]⟩ : ByteArray) ++ (⟨#[48, 49, 50, 51, 52, 53, 54, 55, 56, 57, 97, 98, 99, 100, 101, 102]⟩ : ByteArray).extract (low / 16) (low / 16 + 1)))) hNS (by kernel_rfl) (by kernel_rfl) (by kernel_rfl) (by kernel_rfl) (by kernel_rfl) hHeld (Rg.y_bin (b := BinOp.add) (T := 9) (R' := 9) (x := (Operand.const (Value.string { data := #[98, 47] }))) (y := (Operand.tmp 12)) (vx := (Value.string { data := #[98, 47] })) (vy := (.string ((⟨#[48, 49, 50, 51, 52, 53, 54, 55, 56, 57, 97, 98, 99, 100, 101, 102]⟩ : ByteArray).extract (low / 16) (low / 16 + 1)))) (by kernel_rfl) (by kernel_rfl) (by kernel_rfl) ?_) ?_
  · (intro w hSw; go_simp; omega)
  refine Rg.take (ops := (Rg.opsOf Tryz.f16 2)) 10 (some 14) ((.string (⟨#[48, 49, 50, 51, 52, 53, 54, 55, 56, 57, 97, 98, 99, 100, 101, 102]⟩ : ByteArray))) hNS (by kernel_rfl) (by kernel_rfl) (by kernel_rfl) (by kernel_rfl) (by kernel_rfl) hHeld (Rg.y_move (x := (Operand.tmp 3)) (Or.inl (by kernel_rfl)) (by kernel_rfl)) ?_
  refine Rg.take (ops := (Rg.opsOf Tryz.f16 2)) 11 (some 15) ((.pointer (some ⟨g, 0, none⟩))) hNS (by kernel_rfl) (by kernel_rfl) (by kernel_rfl) (by kernel_rfl) (by kernel_rfl) hHeld (Rg.y_field (T := 40) (k := 0) (x := (Operand.tmp 1)) (vx := (.pointer (some ⟨g, 0, none⟩))) (by kernel_rfl) (by kernel_rfl) ?_) ?_
  · (intro w hSw; go_simp)
  refine Rg.take (ops := (Rg.opsOf Tryz.f16 2)) 12 (some 16) ((.int .i64 (low : Nat))) hNS (by kernel_rfl) (by kernel_rfl) (by kernel_rfl) (by kernel_rfl) (by kernel_rfl) hHeld (Rg.y_load (T := 3) (x := (Operand.tmp 15)) (vx := (.pointer (some ⟨g, 0, none⟩))) (by kernel_rfl) (by kernel_rfl) ?_) ?_
  · (intro w hSw; have h1 := hSw.1.1; have h2 := hSw.1.2; go_simp)
  refine Rg.take (ops := (Rg.opsOf Tryz.f16 2)) 13 (some 17) ((.int .i64 ((low : Int) % 16))) hNS (by kernel_rfl) (by kernel_rfl) (by kernel_rfl) (by kernel_rfl) (by kernel_rfl) hHeld (Rg.y_bin (b := BinOp.rem) (T := 3) (R' := 3) (x := (Operand.tmp 16)) (y := (Operand.const (Value.int IntKind.i64 16))) (vx := (.int .i64 (low : Nat))) (vy := (Value.int IntKind.i64 16)) (by kernel_rfl) (by kernel_rfl) (by kernel_rfl) ?_) ?_
  · (intro w hSw; have ht : (low : Int).tmod 16 = (low : Int) % 16 := Int.tmod_eq_emod_of_nonneg (by omega); have h1 := hl; go_simp)
  refine Rg.take (ops := (Rg.opsOf Tryz.f16 2)) 14 (some 18) ((.pointer (some ⟨g, 0, none⟩))) hNS (by kernel_rfl) (by kernel_rfl) (by kernel_rfl) (by kernel_rfl) (by kernel_rfl) hHeld (Rg.y_field (T := 40) (k := 0) (x := (Operand.tmp 1)) (vx := (.pointer (some ⟨g, 0, none⟩))) (by kernel_rfl) (by kernel_rfl) ?_) ?_
  · (intro w hSw; go_simp)
  refine Rg.take (ops := (Rg.opsOf Tryz.f16 2)) 15 (some 19) ((.int .i64 (low : Nat))) hNS (by kernel_rfl) (by kernel_rfl) (by kernel_rfl) (by kernel_rfl) (by kernel_rfl) hHeld (Rg.y_load (T := 3) (x := (Operand.tmp 18)) (vx := (.pointer (some ⟨g, 0, none⟩))) (by kernel_rfl) (by kernel_rfl) ?_) ?_
  · (intro w hSw; have h1 := hSw.1.1; have h2 := hSw.1.2; go_simp)
  refine Rg.take (ops := (Rg.opsOf Tryz.f16 2)) 16 (some 20) ((.int .i64 ((low : Int) % 16))) hNS (by kernel_rfl) (by kernel_rfl) (by kernel_rfl) (by kernel_rfl) (by kernel_rfl) hHeld (Rg.y_bin (b := BinOp.rem) (T := 3) (R' := 3) (x := (Operand.tmp 19)) (y := (Operand.const (Value.int IntKind.i64 16))) (vx := (.int .i64 (low : Nat))) (vy := (Value.int IntKind.i64 16)) (by kernel_rfl) (by kernel_rfl) (by kernel_rfl) ?_) ?_
  · (intro w hSw; have ht : (low : Int).tmod 16 = (low : Int) % 16 := Int.tmod_eq_emod_of_nonneg (by omega); have h1 := hl; go_simp)
  refine Rg.take (ops := (Rg.opsOf Tryz.f16 2)) 17 (some 21) ((.int .i64 ((low : Int) % 16 + 1))) hNS (by kernel_rfl) (by kernel_rfl) (by kernel_rfl) (by kernel_rfl) (by kernel_rfl) hHeld (Rg.y_bin (b := BinOp.add) (T := 3) (R' := 3) (x := (Operand.tmp 20)) (y := (Operand.const (Value.int IntKind.i64 1))) (vx := (.int .i64 ((low : Int) % 16))) (vy := (Value.int IntKind.i64 1)) (by kernel_rfl) (by kernel_rfl) (by kernel_rfl) ?_) ?_
  · (intro w hSw; have h1 := hl; have hw : IntKind.i64.wrap ((low : Int) % 16 + 1) = (low : Int) % 16 + 1 := (by rw [IntKind.wrap_i64]; omega); go_simp)
  refine Rg.take (ops := (Rg.opsOf Tryz.f16 2)) 18 (some 22) ((.string ((⟨#[48, 49, 50, 51, 52, 53, 54, 55, 56, 57, 97, 98, 99, 100, 101, 102]⟩ : ByteArray).extract (low % 16) (low % 16 + 1)))) hNS (by kernel_rfl) (by kernel_rfl) (by kernel_rfl) (by kernel_rfl) (by kernel_rfl) hHeld (Rg.y_sl2 (T := 9) (x := (Operand.tmp 14)) (l := (Operand.tmp 17)) (h := (Operand.tmp 21)) (vx := (.string (⟨#[48, 49, 50, 51, 52, 53, 54, 55, 56, 57, 97, 98, 99, 100, 101, 102]⟩ : ByteArray))) (vl := (.int .i64 ((low : Int) % 16))) (vh := (.int .i64 ((low : Int) % 16 + 1))) (by kernel_rfl) (by kernel_rfl) (by kernel_rfl) (by kernel_rfl) ?_) ?_
  · (intro w hSw; have h1 : 0 ≤ (low : Int) % 16 := (by omega); have h2 : (low : Int) % 16 + 1 ≤ 16 := (by omega); have h3 : 0 ≤ (low : Int) % 16 + 1 := (by omega); go_simp; rw [if_pos (by omega), show ((low : Int) % 16).toNat = low % 16 by omega, show ((low : Int) % 16 + 1).toNat = low % 16 + 1 by omega])
  refine Rg.take (ops := (Rg.opsOf Tryz.f16 2)) 19 (some 23) ((.string (((⟨#[98, 47]⟩ : ByteArray) ++ (⟨#[48, 49, 50, 51, 52, 53, 54, 55, 56, 57, 97, 98, 99, 100, 101, 102]⟩ : ByteArray).extract (low / 16) (low / 16 + 1)) ++ (⟨#[48, 49, 50, 51, 52, 53, 54, 55, 56, 57, 97, 98, 99, 100, 101, 102]⟩ : ByteArray).extract (low % 16) (low % 16 + 1)))) hNS (by kernel_rfl) (by kernel_rfl) (by kernel_rfl) (by kernel_rfl) (by kernel_rfl) hHeld (Rg.y_bin (b := BinOp.add) (T := 9) (R' := 9) (x := (Operand.tmp 13)) (y := (Operand.tmp 22)) (vx := (.string ((⟨#[98, 47]⟩ : ByteArray) ++ (⟨#[48, 49, 50, 51, 52, 53, 54, 55, 56, 57, 97, 98, 99, 100, 101, 102]⟩ : ByteArray).extract (low / 16) (low / 16 + 1)))) (vy := (.string ((⟨#[48, 49, 50, 51, 52, 53, 54, 55, 56, 57, 97, 98, 99, 100, 101, 102]⟩ : ByteArray).extract (low % 16) (low % 16 + 1)))) (by kernel_rfl) (by kernel_rfl) (by kernel_rfl) ?_) ?_
  · (intro w hSw; go_simp; omega)
  refine Rg.take (ops := (Rg.opsOf Tryz.f16 2)) 20 (some 24) ((.string H)) hNS (by kernel_rfl) (by kernel_rfl) (by kernel_rfl) (by kernel_rfl) (by kernel_rfl) hHeld (Rg.y_bin (b := BinOp.add) (T := 9) (R' := 9) (x := (Operand.tmp 23)) (y := (Operand.const (Value.string { data := #[47] }))) (vx := (.string (((⟨#[98, 47]⟩ : ByteArray) ++ (⟨#[48, 49, 50, 51, 52, 53, 54, 55, 56, 57, 97, 98, 99, 100, 101, 102]⟩ : ByteArray).extract (low / 16) (low / 16 + 1)) ++ (⟨#[48, 49, 50, 51, 52, 53, 54, 55, 56, 57, 97, 98, 99, 100, 101, 102]⟩ : ByteArray).extract (low % 16) (low % 16 + 1)))) (vy := (Value.string { data := #[47] })) (by kernel_rfl) (by kernel_rfl) (by kernel_rfl) ?_) ?_
  · (intro w hSw; have h1 := hH; go_simp; omega)
  refine Rg.take (ops := (Rg.opsOf Tryz.f16 2)) 21 (some 25) ((.pointer (some ⟨g, 1, none⟩))) hNS (by kernel_rfl) (by kernel_rfl) (by kernel_rfl) (by kernel_rfl) (by kernel_rfl) hHeld (Rg.y_field (T := 40) (k := 1) (x := (Operand.tmp 1)) (vx := (.pointer (some ⟨g, 0, none⟩))) (by kernel_rfl) (by kernel_rfl) ?_) ?_
  · (intro w hSw; go_simp)
  refine Rg.take (ops := (Rg.opsOf Tryz.f16 2)) 22 (some 26) ((.int .i64 (n : Nat))) hNS (by kernel_rfl) (by kernel_rfl) (by kernel_rfl) (by kernel_rfl) (by kernel_rfl) hHeld (Rg.y_load (T := 3) (x := (Operand.tmp 25)) (vx := (.pointer (some ⟨g, 1, none⟩))) (by kernel_rfl) (by kernel_rfl) ?_) ?_
  · (intro w hSw; have h1 := hSw.1.1; have h2 := hSw.1.2; go_simp)
  refine Rg.call (ops := (Rg.opsOf Tryz.f16 2)) (fn := Tryz.f29) (xs := #[Operand.tmp 26]) (ats := #[3]) 23 (some 27) 29 #[(.int .i64 (n : Nat))] (by kernel_rfl) (by kernel_rfl) (by kernel_rfl) (by kernel_rfl) (by kernel_rfl) Tryz.func29 (by kernel_rfl) (by kernel_rfl) (by kernel_rfl) ?_
  refine (cd _ hHeld).mono ?_
  rintro e w9 ⟨rfl, hS9⟩
  refine ⟨_, rfl, hS9, fun hHeld => ?_⟩
  refine Rg.take (ops := (Rg.opsOf Tryz.f16 2)) 24 (some 28) ((.string (H ++ decB n))) hNS (by kernel_rfl) (by kernel_rfl) (by kernel_rfl) (by kernel_rfl) (by kernel_rfl) hHeld (Rg.y_bin (b := BinOp.add) (T := 9) (R' := 9) (x := (Operand.tmp 24)) (y := (Operand.tmp 27)) (vx := (.string H)) (vy := (.string (decB n))) (by kernel_rfl) (by kernel_rfl) (by kernel_rfl) ?_) ?_
  · (intro w hSw; have h1 := hsum; go_simp)
  refine Rg.take (ops := (Rg.opsOf Tryz.f16 2)) 25 (some 2) ((.string (H ++ decB n))) hNS (by kernel_rfl) (by kernel_rfl) (by kernel_rfl) (by kernel_rfl) (by kernel_rfl) hHeld (Rg.y_move (x := (Operand.tmp 28)) (Or.inr (by kernel_rfl)) (by kernel_rfl)) ?_
  refine Rg.done (ops := (Rg.opsOf Tryz.f16 2)) (by kernel_rfl) ?_
  exact ⟨by kernel_rfl, hHeld.2⟩
end Go.Proofs.YthejpojmmokinaaGreatDoor.Bl

namespace Go.Proofs.YthejpojmmokinaaGreatDoor.Bl
open Go.RowKit Tx Pm Dk Wm Wr Wl Pl Tb
set_option linter.unusedVariables false
set_option linter.unusedSimpArgs false
set_option linter.unnecessarySimpa false
def onS (x : On) : Value := .agg #[.int .i64 (x.low : Nat), .int .i64 (x.n : Nat), .int .i64 (x.refs : Nat), .string x.data]
def cellsO (x : On) : List Value := [.int .i64 (x.low : Nat), .int .i64 (x.n : Nat), .int .i64 (x.refs : Nat), .string x.data]
def on0 : On := ⟨0, 0, 0, ⟨#[]⟩⟩
theorem infoO : (Tryz.prog.info? 40).map (fun i => (i.zero, i.size, i.bytes)) = some (some (onS on0), 4, 40) := by kernel_rfl
def Osl (w : World) (a : Option Addr) (n : Nat) (C : List On) : Prop := C.length = n ∧ (n = 0 ∨ ∃ g off, a = some ⟨g, off, none⟩ ∧ g < w.heap.size ∧ ∀ k x, C[k]? = some x →
  w.cell? ⟨g, off + k * 4, none⟩ = some (.int .i64 (x.low : Nat)) ∧ w.cell? ⟨g, off + k * 4 + 1, none⟩ = some (.int .i64 (x.n : Nat)) ∧ w.cell? ⟨g, off + k * 4 + 1 + 1, none⟩ = some (.int .i64 (x.refs : Nat)) ∧ w.cell? ⟨g, off + k * 4 + 1 + 1 + 1, none⟩ = some (.string x.data))
theorem Osl.below {w w1 : World} {a : Option Addr} {n : Nat} {C : List On} (h : Osl w a n C) (hb : Below w.heap.size w w1) : Osl w1 a n C := by
  refine ⟨h.1, ?_⟩
  rcases h.2 with h0 | ⟨g, off, ha, hlt, hc⟩
  · exact .inl h0
  · refine .inr ⟨g, off, ha, Nat.lt_of_lt_of_le hlt hb.size, fun k x hx => ?_⟩
    obtain ⟨h1, h2, h3, h4⟩ := hc k x hx
    exact ⟨(hb.cell (p := ⟨g, _, none⟩) hlt).trans h1, (hb.cell (p := ⟨g, _, none⟩) hlt).trans h2, (hb.cell (p := ⟨g, _, none⟩) hlt).trans h3, (hb.cell (p := ⟨g, _, none⟩) hlt).trans h4⟩
theorem Osl.nth {w : World} {a : Option Addr} {n : Nat} {C : List On} (h : Osl w a n C) {k : Nat} {x : On} (hx : C[k]? = some x) : ∃ g off, a = some ⟨g, off, none⟩ ∧ g < w.heap.size ∧ w.cell? ⟨g, off + k * 4, none⟩ = some (.int .i64 (x.low : Nat)) ∧ w.cell? ⟨g, off + k * 4 + 1, none⟩ = some (.int .i64 (x.n : Nat)) ∧ w.cell? ⟨g, off + k * 4 + 1 + 1, none⟩ = some (.int .i64 (x.refs : Nat)) ∧ w.cell? ⟨g, off + k * 4 + 1 + 1 + 1, none⟩ = some (.string x.data) := by
  have hk := (List.getElem?_eq_some_iff.1 hx).1
  rcases h.2 with h0 | ⟨g, off, ha, hlt, hc⟩
  · rw [h.1] at hk; omega
  · exact ⟨g, off, ha, hlt, hc k x hx⟩
def OwO (w : World) (B : Nat) (v : Value) (C : List On) : Prop := w.ownsRow B 40 4 v C.length (C.flatMap cellsO)
theorem OwO.form {w : World} {B : Nat} {v : Value} {C : List On} (h : OwO w B v C) : ∃ a c, v = .slice a C.length c ∧ Osl w a C.length C ∧ C.length ≤ c ∧ c ≤ maxLen := by
  have hh := h
  rcases h.2 with ⟨rfl, h0⟩ | ⟨g, cap, cur, rfl, hg, hh2, hn, hc, _⟩
  · exact ⟨none, 0, by rw [h0], ⟨rfl, .inl h0⟩, by omega, Nat.zero_le _⟩
  · refine ⟨some ⟨g, 0, none⟩, cap, rfl, ⟨rfl, .inr ⟨g, 0, rfl, (Array.getElem?_eq_some_iff.1 hh2).1, fun k x hx => ?_⟩⟩, hn, hc⟩
    have hc : ∀ j u, j < 4 → (cellsO x)[j]? = some u → w.cell? ⟨g, 0 + k * 4 + j, none⟩ = some u := by
      intro j u hj hu
      have := hh.cells (g := g) rfl (k * 4 + j) u ((flat_at cellsO 4 (fun _ => rfl) C k x j hx hj).trans hu)
      rw [WideShapes.add_plain, Nat.zero_add] at this
      rw [Nat.zero_add]
      exact this
    exact ⟨hc 0 _ (by omega) rfl, hc 1 _ (by omega) rfl, hc 2 _ (by omega) rfl, hc 3 _ (by omega) rfl⟩
theorem hex_piece (k : Nat) (h : k < 16) : hexB.extract k (k + 1) = ⟨#[hexd k]⟩ := by
  have : ∀ i : Fin 16, hexB.extract i.val (i.val + 1) = ⟨#[hexd i.val]⟩ := by decide +kernel
  exact this ⟨k, h⟩
theorem head_is (low : Nat) (h : low < 256) : (⟨#[98, 47]⟩ : ByteArray) ++ hexB.extract (low / 16) (low / 16 + 1) ++ hexB.extract (low % 16) (low % 16 + 1) ++ ⟨#[47]⟩ = grp low := by
  rw [hex_piece _ (by omega), hex_piece _ (by omega)]
  exact ba_ext (by rw [app_l, app_l, app_l]; rfl)
set_option maxRecDepth 100000 in
set_option maxHeartbeats 4000000 in
theorem key8_any (x : On) (w : World) (hl : x.low < 256) (hn : x.n ≤ 100000000) : Calls Tryz.prog 16 #[onS x] w fun e w' => e = .returned (.string (keyO x)) ∧ Below w.heap.size w w' := by
  obtain ⟨low, n, refs, data⟩ := x
  simp only at hl hn
  unfold onS keyO keyN
  simp only
  have hH := head_is low hl
  unfold hexB at hH
  have hx1 : (low : Int) / 16 + 1 ≤ 16 := by omega
  have hx2 : (low : Int) % 16 + 1 ≤ 16 := by omega
  have hx3 : 0 ≤ (low : Int) / 16 := by omega
  have hx4 : 0 ≤ (low : Int) % 16 := by omega
  have cd := fun V => dec_any n V (by omega)
  have hsd := decB_size (n := n) (by omega)
  have hgs : (grp low).size = 5 := rfl
  have hsum : (grp low).size + (decB n).size ≤ 9223372036854775807 := by omega
  have HB := Lib.hid (((Below.refl w.heap.size w).alloc (Nat.le_refl _) (.cells #[.int .i64 (low : Nat), .int .i64 (n : Nat), .int .i64 (refs : Nat), .string data] 40)))
  generalize grp low = G at hH hsum hgs ⊢
  go_enter Tryz.func16, Tryz.ntmps16
  go_wp2_with fail
  have c0 : (w.alloc (.cells #[.int .i64 (low : Nat), .int .i64 (n : Nat), .int .i64 (refs : Nat), .string data] 40)).cell? ⟨w.heap.size, 0, none⟩ = some (.int .i64 (low : Nat)) := by go_simp
  have c1 : (w.alloc (.cells #[.int .i64 (low : Nat), .int .i64 (n : Nat), .int .i64 (refs : Nat), .string data] 40)).cell? ⟨w.heap.size, 1, none⟩ = some (.int .i64 (n : Nat)) := by go_simp
  generalize w.alloc (.cells #[.int .i64 (low : Nat), .int .i64 (n : Nat), .int .i64 (refs : Nat), .string data] 40) = W1 at HB c0 c1 ⊢
  refine Rg.wp_only ?_ (regKey decB _ (by kernel_rfl) _ w.heap.size low n G W1 (fun V => Below W1.heap.size W1 V) hl hH hsum (Below.refl _ W1).drew (fun V hV => ⟨(hV.cell (p := ⟨w.heap.size, 0, none⟩) (World.block_lt_of_cell? W1 _ c0)).trans c0, (hV.cell (p := ⟨w.heap.size, 1, none⟩) (World.block_lt_of_cell? W1 _ c1)).trans c1⟩) (fun V hV => (cd V).mono fun e w' hh => ⟨hh.1, Tx.below_call hV hh.2⟩))
  rintro _ w9 ⟨rfl, hB9⟩
  go_wp2_with fail
  go_ret
  exact ⟨rfl, Tx.below_call HB.out hB9⟩
def Fine (C : List On) : Prop := C.length ≤ 1000000 ∧ ∀ x ∈ C, x.low < 256 ∧ x.n ≤ 1000000 ∧ x.refs ≤ 1000000
theorem Good8.fine {C : List On} {M : Nat} (h : Good8 C M) (hM : M ≤ 1000000) : Fine C := ⟨by have := h.len; omega, fun x hx => by
  obtain ⟨h1, h2, h3, h4, _⟩ := h.each x hx
  exact ⟨by rw [h1]; exact lowO_lt _, by omega, by omega⟩⟩
def placeC (C : List On) (p : ByteArray) : Int := match C.findIdx? (fun x => decide (keyO x = p)) with
  | some i => (i : Nat)
  | none => -1
set_option maxRecDepth 100000 in
set_option maxHeartbeats 2000000 in
theorem place8_any (a : Option Addr) (n c : Nat) (C : List On) (p : ByteArray) (w : World) (h : Osl w a n C) (hf : Fine C) (hc : n ≤ c) : Calls Tryz.prog 32 #[.slice a n c, .string p] w fun e w' => e = .returned (.int .i64 (placeC C p)) ∧ Below w.heap.size w w' := by
  have HST := Lib.hid (fun V (hV : Below w.heap.size w V) => h.below hV)
  have HL := Lib.hid h.1
  have HF := Lib.hid hf
  have hn : n ≤ 1000000 := by have := hf.1; have := h.1; omega
  clear h hf
  go_enter Tryz.func32, Tryz.ntmps32
  go_wp2_with fail
  go_loopw [5] (fun iv wr => ∃ i : Nat, i ≤ n ∧ iv = .int .i64 i ∧ Hid (∀ x ∈ C.take i, keyO x ≠ p) ∧ Below w.heap.size w wr) (fun iv _ => n - (intOf iv).toNat)
  case atStart => exact ⟨0, Nat.zero_le _, rfl, (fun x hx => by cases hx), Below.refl _ _⟩
  case round =>
    obtain ⟨i, hi, rfl, hno, hB⟩ := hrel
    by_cases hlt : i < n
    · obtain ⟨x, hx⟩ : ∃ x, C[i]? = some x := ⟨_, List.getElem?_eq_getElem (by rw [HL.out]; exact hlt)⟩
      obtain ⟨g, off, rfl, hg, g0, g1, g2, g3⟩ := (HST.out _ hB).nth hx
      have hiz : (i : Int) < (n : Int) := by omega
      obtain ⟨f1, f2, f3⟩ := HF.out.2 x (List.mem_of_getElem? hx)
      have ck := key8_any x wr f1 (by omega)
      have HX := Lib.hid hx
      unfold onS at ck
      by_cases he : keyO x = p
      · have hpl : placeC C p = (i : Nat) := by
          unfold placeC
          have : C.findIdx? (fun x => decide (keyO x = p)) = some i := by
            have hil := (List.getElem?_eq_some_iff.1 hx).1
            refine (List.findIdx?_eq_some_iff_getElem).2 ⟨hil, ?_, fun k hk => ?_⟩
            · rw [List.getElem?_eq_getElem hil] at hx
              injection hx with hx
              rw [hx]
              simpa using he
            · have hm : C[k]'(by omega) ∈ C.take i := by
                rw [List.mem_take_iff_getElem]
                exact ⟨k, by omega, rfl⟩
              simpa using hno.out _ hm
          rw [this]
        have HPL := Lib.hid hpl
        have hb : ((keyO x).toList == p.toList) = true := by rw [he]; exact beq_self_eq_true _
        generalize keyO x = KX at ck hb
        clear hx he hpl hno
        go_wp2_with fail
        go_at_call 16
        refine ck.mono ?_
        rintro e w5 ⟨rfl, hb5⟩
        have hB5 := Tx.below_call hB hb5
        go_wp2_with fail
        go_ret
        rw [HPL.out]
        exact ⟨rfl, hB5⟩
      · have hno2 : Hid (∀ y ∈ C.take (i + 1), keyO y ≠ p) := Lib.hid (fun y hy => by
          rw [take_snoc hx] at hy
          rcases List.mem_append.1 hy with hy | hy
          · exact hno.out y hy
          · rw [List.mem_singleton.1 hy]; exact he)
        have hb : ((keyO x).toList == p.toList) = false := bytes_ne he
        generalize keyO x = KX at ck hb
        clear hx he hno
        go_wp2_with fail
        go_at_call 16
        refine ck.mono ?_
        rintro e w5 ⟨rfl, hb5⟩
        have hB5 := Tx.below_call hB hb5
        go_wp2_with fail
        go_roundw
        case rel => exact ⟨i + 1, by omega, by go_num, hno2, hB5⟩
        case measure => simp [intOf]; omega
    · obtain rfl : i = n := by omega
      have hpl : placeC C p = -1 := by
        unfold placeC
        have eA : C.take i = C := List.take_of_length_le (by rw [HL.out]; exact Nat.le_refl _)
        have : C.findIdx? (fun x => decide (keyO x = p)) = none := List.findIdx?_eq_none_iff.2 (fun x hx => by
          have := hno.out x (by rw [eA]; exact hx)
          simpa using this)
        rw [this]
      have HPL := Lib.hid hpl
      clear hpl
      go_wp2_with fail
      go_ret
      rw [HPL.out]
      exact ⟨rfl, hB⟩
end Go.Proofs.YthejpojmmokinaaGreatDoor.Bl

namespace Go.Proofs.YthejpojmmokinaaGreatDoor.Bl
open Go.RowKit Tx Pm Dk Wm Wr Wl Pl Tb
set_option linter.unusedVariables false
set_option linter.unusedSimpArgs false
set_option linter.unnecessarySimpa false
theorem onecell (x : On) : ∀ u ∈ cellsO x, u.oneCell' = true := by
  intro u hu
  simp only [cellsO, List.mem_cons, List.not_mem_nil, or_false] at hu
  rcases hu with rfl | rfl | rfl | rfl <;> rfl
theorem onecells (C : List On) : ∀ u ∈ C.flatMap cellsO, u.oneCell' = true := by
  intro u hu
  obtain ⟨x, _, hx⟩ := List.mem_flatMap.1 hu
  exact onecell x u hx
theorem flat_len (C : List On) : (C.flatMap cellsO).length = C.length * 4 := by
  induction C with
  | nil => rfl
  | cons x C ih => rw [List.flatMap_cons, List.length_append, ih, List.length_cons]; show 4 + _ = _; omega
theorem flat_setN : ∀ (C : List On) (k : Nat) (x y : On), C[k]? = some x → y.low = x.low → y.n = x.n → y.data = x.data → (C.flatMap cellsO).set (k * 4 + 1 + 1) (.int .i64 (y.refs : Nat)) = (C.set k y).flatMap cellsO
  | [], k, x, y, h, _, _, _ => by cases h
  | z :: C, 0, x, y, h, h1, h2, h3 => by
    injection h with h
    subst h
    simp [cellsO, h1, h2, h3]
  | z :: C, k + 1, x, y, h, h1, h2, h3 => by
    have ih := flat_setN C k x y (by simpa using h) h1 h2 h3
    rw [List.flatMap_cons, List.set_cons_succ, List.flatMap_cons, ← ih]
    have e : (k + 1) * 4 + 1 + 1 = (k * 4 + 1 + 1) + 4 := by omega
    rw [e]
    simp [cellsO]
theorem wp_copy {w : World} {ops : Array Oper} {rest : List Oper} {o : Oper} {a : Act} {Q : Exit → Act → World → Prop} {B : Nat} {v vs : Value} {C : List On} (hgd : o.guard = none) (s x : Operand)
    (ho : o.op = .call { callee := .builtin .append, args := #[s, x], argTypes := #[27, 27] }) (base : Nat) (hs : a.eval s = vs) (hown : w.ownsRow base 40 4 vs 0 []) (hx : a.eval x = v) (hO : OwO w B v C) (hC : C.length ≤ 1000000) (hb : base ≤ w.heap.size)
    (h : ∀ v' w', w'.ownsRow base 40 4 v' C.length (C.flatMap cellsO) → Below base w w' → wpList Tryz.prog ops Q rest (a.put o.dst v') w') : wpList Tryz.prog ops Q (o :: rest) a w := by
  obtain ⟨i0, hi, hz0, hz1, hz2⟩ := info_parts infoO
  have hO2 := hO
  rcases hO.2 with ⟨rfl, h0⟩ | ⟨g, cap, cur, rfl, hg, hh2, hn, hc, _⟩
  · have hC0 : C = [] := List.eq_nil_of_length_eq_zero h0
    subst hC0
    exact wpList_append_own_none hgd s x 27 ho base 40 i0 4 Tryz.underlying27 hi vs 0 [] hs hown hx (h vs w hown (Below.refl _ _))
  · refine wpList_append_own w hgd s x 27 ho base 40 i0 (onS on0) 4 40 Tryz.underlying27 hi hz0 hz1 hz2 rfl (by decide) vs 0 [] hs hown ⟨g, 0, none⟩ C.length cap (C.flatMap cellsO) hx (flat_len C) (fun j u hu => hO2.cells (g := g) rfl j u hu) (onecells C) (by unfold maxLen; omega) (by omega) hb ?_
    intro v' w' h1 h2 _
    rw [List.nil_append, Nat.zero_add] at h1
    exact h v' w' h1 ((Below.refl _ _).grown h2 hb (fun k hk => (hown.lt k hk).1))
theorem OwO.at {w : World} {B n c : Nat} {a : Option Addr} {C : List On} (h : OwO w B (.slice a n c) C) {k : Nat} {x : On} (hx : C[k]? = some x) : ∃ g, a = some ⟨g, 0, none⟩ ∧ B ≤ g ∧ g < w.heap.size ∧
    w.cell? ⟨g, k * 4, none⟩ = some (.int .i64 (x.low : Nat)) ∧ w.cell? ⟨g, k * 4 + 1, none⟩ = some (.int .i64 (x.n : Nat)) ∧ w.cell? ⟨g, k * 4 + 1 + 1, none⟩ = some (.int .i64 (x.refs : Nat)) ∧ w.cell? ⟨g, k * 4 + 1 + 1 + 1, none⟩ = some (.string x.data) := by
  have hk := (List.getElem?_eq_some_iff.1 hx).1
  have hh := h
  rcases h.2 with ⟨hv, h0⟩ | ⟨g, cap, cur, hv, hg, hh2, hn, hc, _⟩
  · rw [h0] at hk; omega
  · injection hv with hv _ _
    subst hv
    have hc : ∀ j u, j < 4 → (cellsO x)[j]? = some u → w.cell? ⟨g, k * 4 + j, none⟩ = some u := by
      intro j u hj hu
      have := hh.cells (g := g) rfl (k * 4 + j) u ((flat_at cellsO 4 (fun _ => rfl) C k x j hx hj).trans hu)
      rw [WideShapes.add_plain, Nat.zero_add] at this
      exact this
    exact ⟨g, rfl, hg, (Array.getElem?_eq_some_iff.1 hh2).1, hc 0 _ (by omega) rfl, hc 1 _ (by omega) rfl, hc 2 _ (by omega) rfl, hc 3 _ (by omega) rfl⟩
theorem new4 (W : World) (x : On) {z : Nat} (hz : z = W.heap.size) : ∀ (j : Nat) (u : Value), (cellsO x)[j]? = some u → (W.alloc (.cells #[.int .i64 (x.low : Nat), .int .i64 (x.n : Nat), .int .i64 (x.refs : Nat), .string x.data] 40)).cell? (Addr.add ⟨z, 0, none⟩ j) = some u := by
  subst hz
  intro j u hu
  rw [WideShapes.add_plain, Nat.zero_add, World.cell?_alloc_at _ _ _ _ rfl]
  match j, hu with
  | 0, hu => simpa [cellsO] using hu
  | 1, hu => simpa [cellsO] using hu
  | 2, hu => simpa [cellsO] using hu
  | 3, hu => simpa [cellsO] using hu
  | j + 4, hu => simp [cellsO] at hu
def numAt (w : World) (p : Addr) : Nat := match w.cell? p with
  | some (.int _ z) => z.toNat
  | _ => 0
theorem OwO.one {w : World} {B g : Nat} {x : On} (h : OwO w B (.slice (some ⟨g, 0, none⟩) 1 1) [x]) : w.cell? ⟨g, 0, none⟩ = some (.int .i64 (x.low : Nat)) ∧ w.cell? ⟨g, 1, none⟩ = some (.int .i64 (x.n : Nat)) ∧ w.cell? ⟨g, 2, none⟩ = some (.int .i64 (x.refs : Nat)) ∧ w.cell? ⟨g, 3, none⟩ = some (.string x.data) ∧ w.frozen? ⟨g, 1, none⟩ = false := by
  obtain ⟨g', hge, _, _, k0, k1, k2, k3⟩ := h.at (k := 0) (x := x) rfl
  injection hge with hge
  injection hge with hge
  subst hge
  exact ⟨k0, k1, k2, k3, World.ownsRow.frozenAt (show w.ownsRow B 40 4 (.slice (some ⟨g, 0, none⟩) 1 1) 1 ([x].flatMap cellsO) from h) 1⟩
theorem OwO.bump {w : World} {B g : Nat} {x : On} (h : OwO w B (.slice (some ⟨g, 0, none⟩) 1 1) [x]) : OwO (w.setCell ⟨g, 1, none⟩ (.int .i64 ((x.n : Int) + 1))) B (.slice (some ⟨g, 0, none⟩) 1 1) [{ x with n := x.n + 1 }] ∧ w.grownBy (w.setCell ⟨g, 1, none⟩ (.int .i64 ((x.n : Int) + 1))) (some g) :=
  World.ownsRow.stored (show w.ownsRow B 40 4 (.slice (some ⟨g, 0, none⟩) 1 1) 1 ([x].flatMap cellsO) from h) 1 (.int .i64 ((x.n : Int) + 1))
theorem OwO.num {w : World} {B g : Nat} {x : On} (h : OwO w B (.slice (some ⟨g, 0, none⟩) 1 1) [x]) : numAt w ⟨g, 1, none⟩ = x.n := by
  unfold numAt
  rw [h.one.2.1]
  rfl
theorem OwO.fresh (w : World) (x : On) : OwO (w.alloc (.cells #[.int .i64 (x.low : Nat), .int .i64 (x.n : Nat), .int .i64 (x.refs : Nat), .string x.data] 40)) w.heap.size (.slice (some ⟨w.heap.size, 0, none⟩) 1 1) [x] :=
  World.ownsRow_lit w #[.int .i64 (x.low : Nat), .int .i64 (x.n : Nat), .int .i64 (x.refs : Nat), .string x.data] 1 (Nat.le_refl _) (by unfold maxLen; omega) rfl
theorem place_taken {C : List On} {low k : Nat} (h : takenB C low k = true) : 0 ≤ placeC C (keyN low k) := by
  unfold placeC
  cases hf : C.findIdx? (fun x => decide (keyO x = keyN low k)) with
  | some i => exact Int.natCast_nonneg i
  | none =>
    obtain ⟨x, hx, he⟩ := List.any_eq_true.1 h
    have := List.findIdx?_eq_none_iff.1 hf x hx
    rw [this] at he
    cases he
theorem place_free {C : List On} {low k : Nat} (h : takenB C low k = false) : placeC C (keyN low k) = -1 := by
  unfold placeC
  have : C.findIdx? (fun x => decide (keyO x = keyN low k)) = none := List.findIdx?_eq_none_iff.2 (fun x hx => by
    have := List.any_eq_false.1 h x hx
    simpa using this)
  rw [this]
theorem setR_is {C : List On} {M : Nat} (hg : Good8 C M) {i : Nat} {x : On} (hx : C[i]? = some x) (k : Nat) : setR C (keyO x) k = C.set i { x with refs := k } := by
  refine List.ext_getElem? (fun j => ?_)
  unfold setR
  rw [List.getElem?_map, List.getElem?_set]
  by_cases hj : i = j
  · subst hj
    have hil := (List.getElem?_eq_some_iff.1 hx).1
    rw [hx, if_pos rfl, if_pos hil]
    show some (if keyO x = keyO x then _ else _) = _
    rw [if_pos rfl]
  · rw [if_neg hj]
    cases hy : C[j]? with
    | none => rfl
    | some y =>
      show some (if keyO y = keyO x then _ else y) = _
      rw [if_neg (fun e => ?_)]
      have hp := List.pairwise_iff_getElem.1 hg.keys
      have hil := List.getElem?_eq_some_iff.1 hx
      have hjl := List.getElem?_eq_some_iff.1 hy
      rcases Nat.lt_or_ge i j with hlt | hge
      · exact hp i j hil.1 hjl.1 hlt (by rw [hil.2, hjl.2]; exact e.symm)
      · exact hp j i hjl.1 hil.1 (by omega) (by rw [hil.2, hjl.2]; exact e)
set_option maxRecDepth 100000 in
set_option maxHeartbeats 8000000 in
theorem put8_any {M : Nat} (v : Value) (B : Nat) (C : List On) (d : ByteArray) (w : World) (hO : OwO w B v C) (hg : Good8 C M) (hM : M ≤ 900000) (hd : d.size ≤ 140737488351232) :
    Calls Tryz.prog 12 #[v, .string d] w fun e w' => ∃ v', e = .returned (.tuple #[v', .string (putC C d).2]) ∧ OwO w' w.heap.size v' (putC C d).1 ∧ Below w.heap.size w w' := by
  obtain ⟨i0, hI, hz0, hz1, hz2⟩ := info_parts infoO
  have hlen := hg.len
  have HG := Lib.hid hg
  have hO1 : OwO (w.alloc (.cells #[] 40)) B v C := hO.alloc _
  have hE : (w.alloc (.cells #[] 40)).ownsRow w.heap.size 40 4 (.slice (some ⟨w.heap.size, 0, none⟩) 0 0) 0 [] := ⟨rfl, .inr ⟨w.heap.size, 0, #[], rfl, Nat.le_refl _, heap_alloc_new w _, Nat.le_refl _, Nat.zero_le _, rfl, rfl⟩⟩
  have hB1 : Below w.heap.size w (w.alloc (.cells #[] 40)) := (Below.refl _ w).alloc (Nat.le_refl _) _
  have cs := fun V => Fr.refSum_any d V (by unfold maxLen; omega)
  have hlow := lowO_lt d
  have HLO := Lib.hid (show Fm.fsum d.data.toList % 256 = lowO d from rfl)
  generalize Fm.fsum d.data.toList = X at cs HLO
  go_enter Tryz.func12, Tryz.ntmps12
  go_wp2_with (at_builtin; refine wp_copy rfl _ _ rfl w.heap.size rfl hE rfl hO1 (by omega) hB1.size ?_)
  intro v1 w1 h1 hb1
  have hB2 := hB1.trans hb1
  clear hO1 hE hB1 hb1 hO hg
  go_wp2_with fail
  go_at_call 31
  refine (cs _).mono ?_
  rintro e w2 ⟨rfl, rfl⟩
  obtain ⟨a, c, rfl, hS, hnc, hcm⟩ := OwO.form h1
  have H1 := Lib.hid h1
  have HS := Lib.hid (fun V (hV : Below w1.heap.size w1 V) => hS.below hV)
  have hn : C.length ≤ 900000 := by omega
  have hXL : (X : Int) % 256 = ((lowO d : Nat) : Int) := by have := HLO.out; omega
  clear h1 hS hcm cs
  go_wp2_with fail
  rw [hXL]
  go_loopw [8] (fun iv wr => ∃ i : Nat, i ≤ C.length ∧ iv = .int .i64 i ∧ Hid (∀ x ∈ C.take i, x.data ≠ d) ∧ Below w1.heap.size w1 wr) (fun iv _ => C.length - (intOf iv).toNat)
  case atStart => exact ⟨0, Nat.zero_le _, rfl, (fun x hx => by cases hx), Below.refl _ _⟩
  case round =>
    obtain ⟨i, hi, rfl, hno, hB⟩ := hrel
    by_cases hlt : i < C.length
    · obtain ⟨x, hx⟩ : ∃ x, C[i]? = some x := ⟨_, List.getElem?_eq_getElem hlt⟩
      have hO : OwO wr w.heap.size (.slice a C.length c) C := own_belowT H1.out hB
      obtain ⟨g, rfl, hg, hgl, g0, g1, g2, g3⟩ := hO.at hx
      have hiz : (i : Int) < (C.length : Int) := by omega
      by_cases he : x.data = d
      · have hof : of8 C d = some x := by rw [← he]; exact HG.out.of (List.mem_of_getElem? hx)
        have hput : putC C d = (C.set i { x with refs := x.refs + 1 }, keyO x) := by
          unfold putC
          rw [hof]
          show (setR C (keyO x) (x.refs + 1), keyO x) = _
          rw [setR_is HG.out hx]
        obtain ⟨f1, f2, f3, f4, _⟩ := HG.out.each x (List.mem_of_getElem? hx)
        have hst := World.ownsRow.stored (show wr.ownsRow w.heap.size 40 4 (.slice (some ⟨g, 0, none⟩) C.length c) C.length (C.flatMap cellsO) from hO) (i * 4 + 1 + 1) (.int .i64 ((x.refs : Int) + 1))
        have hfr := World.ownsRow.frozenAt (show wr.ownsRow w.heap.size 40 4 (.slice (some ⟨g, 0, none⟩) C.length c) C.length (C.flatMap cellsO) from hO) (i * 4 + 1 + 1)
        have hO2 : OwO (wr.setCell ⟨g, i * 4 + 1 + 1, none⟩ (.int .i64 ((x.refs : Int) + 1))) w.heap.size (.slice (some ⟨g, 0, none⟩) C.length c) (C.set i { x with refs := x.refs + 1 }) := by
          have := hst.1
          unfold OwO
          rw [List.length_set, ← flat_setN C i x { x with refs := x.refs + 1 } hx rfl rfl rfl]
          exact this
        have hB4 : Below w.heap.size w (wr.setCell ⟨g, i * 4 + 1 + 1, none⟩ (.int .i64 ((x.refs : Int) + 1))) := (Tx.below_call hB2 hB).grown hst.2 (Tx.below_call hB2 hB).size (fun k hk => by cases hk; exact hg)
        obtain ⟨g', hge, _, hgl2, k0, k1, k2, k3⟩ := hO2.at (k := i) (x := { x with refs := x.refs + 1 }) (by rw [List.getElem?_set_self hlt])
        injection hge with hge
        injection hge with hge
        subst hge
        have hb : (x.data.toList == d.toList) = true := by rw [he]; exact beq_self_eq_true _
        have ck := fun V => key8_any { x with refs := x.refs + 1 } V (by show x.low < 256; rw [f1]; exact lowO_lt _) (by show x.n ≤ 100000000; omega)
        have hkx : keyO { x with refs := x.refs + 1 } = keyO x := rfl
        rw [hkx] at ck
        have HP := Lib.hid hput
        have HO2 := Lib.hid hO2
        have HB4 := Lib.hid hB4
        clear hput hof hno hO hO2 hB4 hst
        obtain ⟨low, n, refs, data⟩ := x
        simp only at g0 g1 g2 g3 hb k0 k1 k2 k3 f1 f2 f3 f4
        have HX := Lib.hid hx
        have hr64 : (refs : Int) + 1 ≤ 9223372036854775807 := by omega
        unfold onS at ck
        simp only at ck
        generalize keyO { low := low, n := n, refs := refs, data := data } = KX at ck HP
        clear hx he hkx f1 f2 f4
        go_wp2_with fail
        go_at_call 16
        refine (ck _).mono ?_
        rintro e w5 ⟨rfl, hb5⟩
        have hB5 := Tx.below_call HB4.out hb5
        have hO5 := own_belowT HO2.out hb5
        go_wp2_with fail
        go_ret2
        rw [HP.out]
        exact ⟨_, rfl, hO5, hB5⟩
      · have hno2 : Hid (∀ y ∈ C.take (i + 1), y.data ≠ d) := Lib.hid (fun y hy => by
          rw [take_snoc hx] at hy
          rcases List.mem_append.1 hy with hy | hy
          · exact hno.out y hy
          · rw [List.mem_singleton.1 hy]; exact he)
        have hb : (x.data.toList == d.toList) = false := bytes_ne he
        obtain ⟨low, n, refs, data⟩ := x
        simp only at g0 g1 g2 g3 hb
        have HX := Lib.hid hx
        clear hx he hno hO
        go_wp2_with fail
        go_roundw
        case rel => exact ⟨i + 1, by omega, by go_num, hno2, hB⟩
        case measure => simp [intOf]; omega
    · obtain rfl : i = C.length := by omega
      have hof : of8 C d = none := List.find?_eq_none.2 (fun x hx => by
        have := hno.out x (by rw [List.take_of_length_le (Nat.le_refl _)]; exact hx)
        simpa using this)
      have hput : putC C d = (C ++ [newO C d], keyO (newO C d)) := by unfold putC; rw [hof]
      have hF := free_lt HG.out hlow
      have HF0 : Hid (∀ k, k < freeN C (lowO d) → takenB C (lowO d) k = true) := Lib.hid (fun k hk => free_below hk)
      have HF1 : Hid (takenB C (lowO d) (freeN C (lowO d)) = false) := Lib.hid (free_not HG.out hlow)
      have hfine := HG.out.fine (by omega)
      have HP := Lib.hid hput
      have HFI := Lib.hid hfine
      have hO : OwO wr w.heap.size (.slice a C.length c) C := own_belowT H1.out hB
      have HO := Lib.hid hO
      have hB3 := Tx.below_call hB2 hB
      have hfr := OwO.fresh wr ⟨lowO d, 0, 1, d⟩
      have HFR := Lib.hid hfr
      clear hput hof hno hfine hO hfr
      unfold newO at HP
      generalize freeN C (lowO d) = F at HP HF0 HF1 hF
      generalize lowO d = L at HP HF0 HF1 HFR hlow ⊢
      go_wp2_with fail
      go_loopw [] (fun wr2 => ∃ k : Nat, k ≤ F ∧ OwO wr2 wr.heap.size (.slice (some ⟨wr.heap.size, 0, none⟩) 1 1) [⟨L, k, 1, d⟩] ∧ Below wr.heap.size wr wr2) (fun wr2 => F - numAt wr2 ⟨wr.heap.size, 1, none⟩)
      case atStart => exact ⟨0, Nat.zero_le _, HFR.out, (Below.refl _ _).alloc (Nat.le_refl _) _⟩
      case round =>
        obtain ⟨k, hk, hx, hBk⟩ := hrel
        obtain ⟨c0, c1, c2, c3, cf⟩ := hx.one
        have HX := Lib.hid hx
        have hxl := hx.lt _ rfl
        simp only at c0 c1 c2 c3
        have ck := fun V => key8_any ⟨L, k, 1, d⟩ V hlow (by show k ≤ 100000000; omega)
        unfold onS at ck
        simp only at ck
        have hk0 : keyO ⟨L, k, 1, d⟩ = keyN L k := rfl
        rw [hk0] at ck
        by_cases hlt2 : k < F
        · have cp := fun V (hV : Below w1.heap.size w1 V) => place8_any a C.length c C (keyN L k) V (HS.out V hV) HFI.out hnc
          have hp := place_taken (HF0.out k hlt2)
          generalize placeC C (keyN L k) = pl at cp hp
          generalize keyN L k = KX at ck cp
          clear hx hk0
          go_wp2_with fail
          go_at_call 16
          refine (ck _).mono ?_
          rintro e w5 ⟨rfl, hb5⟩
          have hB5 := Tx.below_call hBk hb5
          have hX5 := own_belowT HX.out hb5
          go_wp2_with fail
          go_at_call 32
          refine (cp _ (Tx.below_call hB hB5)).mono ?_
          rintro e w6 ⟨rfl, hb6⟩
          have hB6 := Tx.below_call hB5 hb6
          have hX6 := own_belowT hX5 hb6
          obtain ⟨d0, d1, d2, d3, df⟩ := OwO.one hX6
          have hbump := OwO.bump hX6
          have HX6 := Lib.hid hX6
          simp only at d0 d1 d2 d3 hbump
          have hB7 := hB6.grown hbump.2 hB6.size (fun q hq => by cases hq; exact Nat.le_refl _)
          have HBU := Lib.hid hbump.1
          clear hX6 hX5 hbump ck cp
          go_wp2_with fail
          have m0 := OwO.num HX.out
          have m1 := OwO.num HBU.out
          simp only at m0 m1
          go_roundw
          case rel => exact ⟨k + 1, by omega, HBU.out, hB7⟩
          case measure => rw [m0, m1]; omega
        · obtain rfl : k = F := by omega
          have cp := fun V (hV : Below w1.heap.size w1 V) => place8_any a C.length c C (keyN L k) V (HS.out V hV) HFI.out hnc
          rw [place_free HF1.out] at cp
          have HK := Lib.hid (show keyO ⟨L, k, 1, d⟩ = keyN L k from rfl)
          rw [HK.out] at HP
          generalize keyN L k = KX at ck cp HP
          clear hx hk0 HK
          go_wp2_with fail
          go_at_call 16
          refine (ck _).mono ?_
          rintro e w5 ⟨rfl, hb5⟩
          have hB5 := Tx.below_call hBk hb5
          have hX5 := own_belowT HX.out hb5
          go_wp2_with fail
          go_at_call 32
          refine (cp _ (Tx.below_call hB hB5)).mono ?_
          rintro e w6 ⟨rfl, hb6⟩
          have hB6 := Tx.below_call hB5 hb6
          have hX6 := own_belowT hX5 hb6
          obtain ⟨d0, d1, d2, d3, df⟩ := OwO.one hX6
          have HX6 := Lib.hid hX6
          simp only at d0 d1 d2 d3
          have HO6 := own_belowT HO.out hB6
          have hBw := Tx.below_call hB3 hB6
          have HL := HO.out.lt
          clear hX5 hX6 cp
          go_wp2_with (at_builtin; refine wpList_append_own _ rfl _ _ 27 rfl w.heap.size 40 i0 (onS on0) 4 40 Tryz.underlying27 hI hz0 hz1 hz2 rfl (by decide) _ _ _ rfl (HO6.alloc (.cells #[.int .i64 (L : Nat), .int .i64 (k : Nat), .int .i64 1, .string d] 40)) ⟨w6.heap.size, 0, none⟩ 1 1 (cellsO ⟨L, k, 1, d⟩) rfl rfl ?c1 ?c2 ?c3 ?c4 ?c5 ?_)
          case c1 => exact new4 w6 ⟨L, k, 1, d⟩ rfl
          case c2 => exact onecell _
          case c3 => unfold maxLen; omega
          case c4 => omega
          case c5 => have := hBw.size; simp; omega
          intro v' w7 hown7 hgrow7 _
          have hX7 := World.ownsRow.kept (HX6.out.alloc (.cells #[.int .i64 (L : Nat), .int .i64 (k : Nat), .int .i64 1, .string d] 40)) hgrow7 (.inr (fun e => absurd (HL _ e.symm).2 (Nat.lt_irrefl _)))
          have hB7 : Below w.heap.size w w7 := (hBw.alloc hBw.size _).grown hgrow7 (by simp; have := hBw.size; omega) (fun q hq => (HL q hq).1)
          have hO7 : OwO w7 w.heap.size v' (C ++ [⟨L, k, 1, d⟩]) := by
            unfold OwO
            rw [List.flatMap_append, List.length_append]
            exact hown7
          obtain ⟨e0, e1, e2, e3, _⟩ := OwO.one hX7
          have HO7 := Lib.hid hO7
          simp only at e0 e1 e2 e3
          clear hX7 hown7 hgrow7 hO7 HO6 d0 d1 d2 d3 c0 c1 c2 c3 df cf
          go_wp2_with fail
          go_at_call 16
          refine (ck _).mono ?_
          rintro e w8 ⟨rfl, hb8⟩
          have hB8 := Tx.below_call hB7 hb8
          have hO8 := own_belowT HO7.out hb8
          go_wp2_with fail
          go_ret2
          rw [HP.out]
          exact ⟨_, rfl, hO8, hB8⟩
end Go.Proofs.YthejpojmmokinaaGreatDoor.Bl

namespace Go.Proofs.YthejpojmmokinaaGreatDoor.Bl
open Go.RowKit Tx Pm Dk Wm Wr Wl Pl Tb
set_option linter.unusedVariables false
set_option linter.unusedSimpArgs false
set_option linter.unnecessarySimpa false
theorem OwO.base {w : World} {B B' : Nat} {v : Value} {C : List On} (h : OwO w B v C) (hB : B' ≤ B) : OwO w B' v C := by
  refine ⟨h.1, ?_⟩
  rcases h.2 with h0 | ⟨g, cap, cur, hv, hg, r⟩
  · exact .inl h0
  · exact .inr ⟨g, cap, cur, hv, Nat.le_trans hB hg, r⟩
theorem OwO.refsAt {w : World} {B g : Nat} {x : On} (h : OwO w B (.slice (some ⟨g, 0, none⟩) 1 1) [x]) (k : Nat) (z : Int) (hz : z = (k : Int)) : OwO (w.setCell ⟨g, 2, none⟩ (.int .i64 z)) B (.slice (some ⟨g, 0, none⟩) 1 1) [{ x with refs := k }] ∧ w.grownBy (w.setCell ⟨g, 2, none⟩ (.int .i64 z)) (some g) := by
  subst hz
  exact World.ownsRow.stored (show w.ownsRow B 40 4 (.slice (some ⟨g, 0, none⟩) 1 1) 1 ([x].flatMap cellsO) from h) 2 (.int .i64 (k : Int))
theorem OwO.hard {w : World} {B g : Nat} {x : On} (h : OwO w B (.slice (some ⟨g, 0, none⟩) 1 1) [x]) : w.frozen? ⟨g, 2, none⟩ = false := World.ownsRow.frozenAt (show w.ownsRow B 40 4 (.slice (some ⟨g, 0, none⟩) 1 1) 1 ([x].flatMap cellsO) from h) 2
theorem OwO.more {w : World} {B : Nat} {v : Value} {C : List On} {x : On} (h : w.ownsRow B 40 4 v (C.length + 1) (C.flatMap cellsO ++ cellsO x)) : OwO w B v (C ++ [x]) := by
  unfold OwO
  rw [List.flatMap_append, List.length_append]
  have e : [x].flatMap cellsO = cellsO x := by simp
  rw [e]
  exact h
def cellsZ (l n : Nat) (z : Int) (d : ByteArray) : List Value := [.int .i64 (l : Nat), .int .i64 (n : Nat), .int .i64 z, .string d]
theorem new4z (W : World) (l n : Nat) (r : Int) (d : ByteArray) {z : Nat} (hz : z = W.heap.size) : ∀ (j : Nat) (u : Value), (cellsZ l n r d)[j]? = some u → (W.alloc (.cells #[.int .i64 (l : Nat), .int .i64 (n : Nat), .int .i64 r, .string d] 40)).cell? (Addr.add ⟨z, 0, none⟩ j) = some u := by
  subst hz
  intro j u hu
  rw [WideShapes.add_plain, Nat.zero_add, World.cell?_alloc_at _ _ _ _ rfl]
  match j, hu with
  | 0, hu => simpa [cellsZ] using hu
  | 1, hu => simpa [cellsZ] using hu
  | 2, hu => simpa [cellsZ] using hu
  | 3, hu => simpa [cellsZ] using hu
  | j + 4, hu => simp [cellsZ] at hu
theorem cells4z (l n : Nat) (r : Int) (d : ByteArray) : ∀ u ∈ cellsZ l n r d, u.oneCell' = true := by
  intro u hu
  simp only [cellsZ, List.mem_cons, List.not_mem_nil, or_false] at hu
  rcases hu with rfl | rfl | rfl | rfl <;> rfl
theorem more4 {wr w6 w7 w : World} {vo v' : Value} {O : List On} {l n r k : Nat} {z : Int} {d : ByteArray} (hO : OwO w6 w.heap.size vo O) (hB : Below w.heap.size w w6) (hz : z = (k : Int)) (o : Obj)
    (hown : w7.ownsRow w.heap.size 40 4 v' (O.length + 1) (O.flatMap cellsO ++ cellsZ l n z d)) (hg : (w6.alloc o).grownBy w7 vo.ownBlock) :
    OwO w7 w.heap.size v' (O ++ [⟨l, n, k, d⟩]) ∧ Below w.heap.size w w7 := by
  subst hz
  exact ⟨OwO.more hown, (hB.alloc hB.size o).grown hg (by simp; have := hB.size; omega) (fun q hq => (hO.lt q hq).1)⟩
theorem place_none {C : List On} {p : ByteArray} (h : at8 C p = none) : placeC C p = -1 := by
  unfold placeC
  rw [List.findIdx?_eq_none_iff.2 (fun x hx => by simpa using at8_none h x hx)]
theorem place_some {C : List On} {M : Nat} (hg : Good8 C M) {p : ByteArray} {x : On} (h : at8 C p = some x) : ∃ i : Nat, placeC C p = (i : Nat) ∧ C[i]? = some x := by
  unfold placeC
  cases hf : C.findIdx? (fun x => decide (keyO x = p)) with
  | none =>
    obtain ⟨h1, h2⟩ := at8_some h
    have := List.findIdx?_eq_none_iff.1 hf x h1
    simp [h2] at this
  | some i =>
    obtain ⟨hil, hp, _⟩ := (List.findIdx?_eq_some_iff_getElem).1 hf
    refine ⟨i, rfl, ?_⟩
    have := hg.at (List.getElem_mem hil)
    rw [of_decide_eq_true hp, h] at this
    injection this with this
    rw [List.getElem?_eq_getElem hil, this]
def posO (x : On) : Bool := decide (0 < x.refs)
theorem filter_pos {C : List On} (h : ∀ x ∈ C, 1 ≤ x.refs) : C.filter posO = C := List.filter_eq_self.2 (fun x hx => by have := h x hx; unfold posO; simp; omega)
theorem filter_set : ∀ {C : List On} {i : Nat} {x : On}, C.Pairwise (fun x y => keyO x ≠ keyO y) → (∀ y ∈ C, 1 ≤ y.refs) → C[i]? = some x → (C.set i { x with refs := 0 }).filter posO = delR C (keyO x)
  | [], i, x, _, _, h => by cases h
  | y :: C, 0, x, hp, h1, h => by
    injection h with h
    subst h
    obtain ⟨hp1, hp2⟩ := List.pairwise_cons.1 hp
    unfold delR
    rw [List.set_cons_zero, List.filter_cons_of_neg (by simp [posO]), List.filter_cons_of_neg (by simp), filter_pos (fun z hz => h1 z (List.mem_cons_of_mem _ hz))]
    exact (List.filter_eq_self.2 (fun z hz => by have := hp1 z hz; simp [Ne.symm this])).symm
  | y :: C, i + 1, x, hp, h1, h => by
    obtain ⟨hp1, hp2⟩ := List.pairwise_cons.1 hp
    have hx : C[i]? = some x := by simpa using h
    have ih := filter_set hp2 (fun z hz => h1 z (List.mem_cons_of_mem _ hz)) hx
    have hy : keyO y ≠ keyO x := hp1 x (List.mem_of_getElem? hx)
    have hy1 := h1 y List.mem_cons_self
    unfold delR at ih ⊢
    rw [List.set_cons_succ, List.filter_cons_of_pos (by simp [posO]; omega), List.filter_cons_of_pos (by simp [hy]), ih]
theorem rel_filter {C : List On} {M : Nat} (hg : Good8 C M) {i : Nat} {x : On} (hx : C[i]? = some x) (ha : at8 C (keyO x) = some x) : (C.set i { x with refs := x.refs - 1 }).filter posO = (relC C (keyO x)).1 := by
  have h1 : ∀ y ∈ C, 1 ≤ y.refs := fun y hy => (hg.each y hy).2.1
  unfold relC
  rw [ha]
  show _ = if x.refs = 1 then delR C (keyO x) else setR C (keyO x) (x.refs - 1)
  by_cases h : x.refs = 1
  · rw [if_pos h, h]
    exact filter_set hg.keys h1 hx
  · rw [if_neg h, setR_is hg hx, filter_pos]
    intro y hy
    have hx1 := h1 x (List.mem_of_getElem? hx)
    rcases List.mem_or_eq_of_mem_set hy with hy | rfl
    · exact h1 y hy
    · show 1 ≤ x.refs - 1
      omega
theorem take_set_succ {D : List On} {i : Nat} {y : On} (h : D[i]? = some y) : (D.take (i + 1)).filter posO = (D.take i).filter posO ++ (if posO y = true then [y] else []) := by
  rw [take_snoc h, List.filter_append]
  congr 1
  by_cases hp : posO y = true
  · simp [hp]
  · simp [hp]
set_option maxRecDepth 100000 in
set_option maxHeartbeats 8000000 in
theorem release8_any {M : Nat} (v : Value) (B : Nat) (C : List On) (p : ByteArray) (w : World) (hO : OwO w B v C) (hg : Good8 C M) (hM : M ≤ 900000) (hB : B ≤ w.heap.size) :
    Calls Tryz.prog 14 #[v, .string p] w fun e w' => ∃ v', e = .returned (.tuple #[v', .bool (relC C p).2]) ∧ (OwO w' w.heap.size v' (relC C p).1 ∨ v' = v ∧ OwO w' B v' (relC C p).1) ∧ Below w.heap.size w w' := by
  obtain ⟨i0, hI, hz0, hz1, hz2⟩ := info_parts infoO
  have hlen := hg.len
  have hn : C.length ≤ 900000 := by omega
  have HO := Lib.hid hO
  obtain ⟨a, c, rfl, hS, hnc, hcm⟩ := OwO.form hO
  have HG := Lib.hid hg
  have HS := Lib.hid (fun V (hV : Below w.heap.size w V) => hS.below hV)
  have hfine := hg.fine (by omega)
  have HFI := Lib.hid hfine
  have cp := place8_any a C.length c C p w hS hfine hnc
  have HN := Lib.hid (World.ownsRow_nil w w.heap.size 40 4)
  clear hO hg hS hfine hcm
  cases ha : at8 C p with
  | none =>
    have hr : relC C p = (C, false) := by unfold relC; rw [ha]
    rw [place_none ha] at cp
    have HR := Lib.hid hr
    clear ha hr
    go_enter Tryz.func14, Tryz.ntmps14
    go_wp2_with fail
    go_at_call 32
    refine cp.mono ?_
    rintro e w1 ⟨rfl, hB1⟩
    have hO1 := own_belowT HO.out hB1
    go_wp2_with fail
    go_ret2
    rw [HR.out]
    exact ⟨_, rfl, .inr ⟨rfl, hO1⟩, hB1⟩
  | some x =>
    obtain ⟨t, hpl, hx⟩ := place_some HG.out ha
    have hkx := (at8_some ha).2
    subst hkx
    have ht := (List.getElem?_eq_some_iff.1 hx).1
    have hr2 : (relC C (keyO x)).2 = true := by unfold relC; rw [ha]
    have hr1 := rel_filter HG.out hx ha
    have hx1 := (HG.out.each x (List.mem_of_getElem? hx)).2.1
    have hxM := (HG.out.each x (List.mem_of_getElem? hx)).2.2.1
    have hD : ∃ D : List On, D = C.set t { x with refs := x.refs - 1 } := ⟨_, rfl⟩
    obtain ⟨D, hD⟩ := hD
    rw [← hD] at hr1
    have HDD := Lib.hid hD
    have hDl : D.length = C.length := by rw [hD, List.length_set]
    have HR1 := Lib.hid hr1
    have HR2 := Lib.hid hr2
    have HX := Lib.hid hx
    have HDL := Lib.hid hDl
    rw [hpl] at cp
    generalize keyO x = p at cp HR1 HR2
    clear ha hr1 hr2 hx hD hDl hpl
    go_enter Tryz.func14, Tryz.ntmps14
    go_wp2_with fail
    go_at_call 32
    refine cp.mono ?_
    rintro e w1 ⟨rfl, hB1⟩
    have htz : ¬ ((t : Int) < 0) := by omega
    go_wp2_with fail
    go_loopw [7, 8] (fun vo iv wr => ∃ (i : Nat) (O : List On), i ≤ C.length ∧ iv = .int .i64 i ∧ Hid (O = (D.take i).filter posO) ∧ O.length ≤ i ∧ OwO wr w.heap.size vo O ∧ Below w.heap.size w wr) (fun _ iv _ => C.length - (intOf iv).toNat)
    case atStart => exact ⟨0, [], Nat.zero_le _, rfl, Lib.hid rfl, Nat.le_refl _, World.ownsRow_nil _ _ _ _, hB1⟩
    case round =>
      obtain ⟨i, O, hi, rfl, hOD, hOl, hO, hB2⟩ := hrel
      by_cases hlt : i < C.length
      · obtain ⟨y, hy⟩ : ∃ y, C[i]? = some y := ⟨_, List.getElem?_eq_getElem hlt⟩
        have hy1 := (HG.out.each y (List.mem_of_getElem? hy)).2.1
        have hyM := (HG.out.each y (List.mem_of_getElem? hy)).2.2.1
        obtain ⟨g, off, rfl, hgl, g0, g1, g2, g3⟩ := (HS.out _ hB2).nth hy
        have hiz : (i : Int) < (C.length : Int) := by omega
        have hfr := OwO.fresh wr y
        have HFR := Lib.hid hfr
        have HOw := Lib.hid hO
        clear hfr hO
        by_cases hit : i = t
        · subst hit
          have hyx : y = x := by have := HX.out; rw [hy] at this; injection this
          have hDi : D[i]? = some { y with refs := y.refs - 1 } := by rw [HDD.out, List.getElem?_set_self ht, hyx]
          have hnx := take_set_succ hDi
          by_cases hr : y.refs = 1
          · have hp : posO { y with refs := y.refs - 1 } = false := by simp [posO, hr]
            rw [hp, if_neg (by simp), List.append_nil] at hnx
            have HNX := Lib.hid hnx
            obtain ⟨low, n, refs, data⟩ := y
            simp only at g0 g1 g2 g3 hr hy1 hyM
            subst hr
            clear hyx
            go_wp2_with fail
            go_roundw
            case rel => exact ⟨i + 1, _, by omega, by go_num, Lib.hid (hOD.out.trans HNX.out.symm), by omega, HOw.out.alloc _, hB2.alloc hB2.size _⟩
            case measure => simp [intOf]; omega
          · have hp : posO { y with refs := y.refs - 1 } = true := by simp [posO]; omega
            rw [hp, if_pos rfl] at hnx
            have HNX := Lib.hid hnx
            obtain ⟨low, n, refs, data⟩ := y
            simp only at g0 g1 g2 g3 hr hy1 hyM
            have HO6 : OwO (wr.alloc (.cells #[.int .i64 (low : Nat), .int .i64 (n : Nat), .int .i64 ((refs : Int) - 1), .string data] 40)) w.heap.size u7 O := HOw.out.alloc _
            have hB6 := hB2.alloc hB2.size (.cells #[.int .i64 (low : Nat), .int .i64 (n : Nat), .int .i64 ((refs : Int) - 1), .string data] 40)
            have hpz : (0 : Int) < (refs : Int) - 1 := by omega
            clear hyx
            have k1 := new4z (wr.alloc (.cells #[.int .i64 (low : Nat), .int .i64 (n : Nat), .int .i64 ((refs : Int) - 1), .string data] 40)) low n ((refs : Int) - 1) data (z := wr.heap.size + 1) (by simp)
            have k2 := cells4z low n ((refs : Int) - 1) data
            have k3 : O.length + 1 ≤ maxLen := by unfold maxLen; omega
            have k4 : (O.length + 1) * 40 ≤ 140737488355328 := by omega
            have k5 : w.heap.size ≤ ((wr.alloc (.cells #[.int .i64 (low : Nat), .int .i64 (n : Nat), .int .i64 ((refs : Int) - 1), .string data] 40)).alloc (.cells #[.int .i64 (low : Nat), .int .i64 (n : Nat), .int .i64 ((refs : Int) - 1), .string data] 40)).heap.size := by have := hB2.size; simp; omega
            go_wp2_with (at_builtin; refine wpList_append_own _ rfl _ _ 27 rfl w.heap.size 40 i0 (onS on0) 4 40 Tryz.underlying27 hI hz0 hz1 hz2 rfl (by decide) _ _ _ rfl (HO6.alloc (.cells #[.int .i64 (low : Nat), .int .i64 (n : Nat), .int .i64 ((refs : Int) - 1), .string data] 40)) ⟨wr.heap.size + 1, 0, none⟩ 1 1 (cellsZ low n ((refs : Int) - 1) data) rfl rfl k1 k2 k3 k4 k5 ?_)
            intro v' w7 hown7 hgrow7 _
            obtain ⟨hO7, hB7⟩ := more4 (wr := wr) (r := 0) HO6 hB6 (show ((refs : Int) - 1) = ((refs - 1 : Nat) : Int) by omega) _ hown7 hgrow7
            have HO7 := Lib.hid hO7
            clear hown7 hgrow7 hO7
            go_wp2_with fail
            go_roundw
            case rel => exact ⟨i + 1, _, by omega, by go_num, Lib.hid HNX.out.symm, by rw [← hOD.out, List.length_append]; show O.length + 1 ≤ i + 1; omega, by rw [← hOD.out]; exact HO7.out, hB7⟩
            case measure => simp [intOf]; omega
        · have hDi : D[i]? = some y := by rw [HDD.out, List.getElem?_set_ne (Ne.symm hit)]; exact hy
          have hnx := take_set_succ hDi
          have hp : posO y = true := by simp [posO]; omega
          rw [hp, if_pos rfl] at hnx
          have HNX := Lib.hid hnx
          have hitz : ¬ ((i : Int) = (t : Int)) := by omega
          obtain ⟨low, n, refs, data⟩ := y
          simp only at g0 g1 g2 g3 hy1 hyM
          have HO6 : OwO (wr.alloc (.cells #[.int .i64 (low : Nat), .int .i64 (n : Nat), .int .i64 (refs : Int), .string data] 40)) w.heap.size u7 O := HOw.out.alloc _
          have hB6 := hB2.alloc hB2.size (.cells #[.int .i64 (low : Nat), .int .i64 (n : Nat), .int .i64 (refs : Int), .string data] 40)
          have hpz : (0 : Int) < (refs : Int) := by omega
          have k1 := new4z (wr.alloc (.cells #[.int .i64 (low : Nat), .int .i64 (n : Nat), .int .i64 (refs : Int), .string data] 40)) low n (refs : Int) data (z := wr.heap.size + 1) (by simp)
          have k2 := cells4z low n (refs : Int) data
          have k3 : O.length + 1 ≤ maxLen := by unfold maxLen; omega
          have k4 : (O.length + 1) * 40 ≤ 140737488355328 := by omega
          have k5 : w.heap.size ≤ ((wr.alloc (.cells #[.int .i64 (low : Nat), .int .i64 (n : Nat), .int .i64 (refs : Int), .string data] 40)).alloc (.cells #[.int .i64 (low : Nat), .int .i64 (n : Nat), .int .i64 (refs : Int), .string data] 40)).heap.size := by have := hB2.size; simp; omega
          go_wp2_with (at_builtin; refine wpList_append_own _ rfl _ _ 27 rfl w.heap.size 40 i0 (onS on0) 4 40 Tryz.underlying27 hI hz0 hz1 hz2 rfl (by decide) _ _ _ rfl (HO6.alloc (.cells #[.int .i64 (low : Nat), .int .i64 (n : Nat), .int .i64 (refs : Int), .string data] 40)) ⟨wr.heap.size + 1, 0, none⟩ 1 1 (cellsZ low n (refs : Int) data) rfl rfl k1 k2 k3 k4 k5 ?_)
          intro v' w7 hown7 hgrow7 _
          obtain ⟨hO7, hB7⟩ := more4 (wr := wr) (r := 0) HO6 hB6 rfl _ hown7 hgrow7
          have HO7 := Lib.hid hO7
          clear hown7 hgrow7 hO7
          go_wp2_with fail
          go_roundw
          case rel => exact ⟨i + 1, _, by omega, by go_num, Lib.hid HNX.out.symm, by rw [← hOD.out, List.length_append]; show O.length + 1 ≤ i + 1; omega, by rw [← hOD.out]; exact HO7.out, hB7⟩
          case measure => simp [intOf]; omega
      · obtain rfl : i = C.length := by omega
        have hE : O = (relC C p).1 := by
          rw [hOD.out, List.take_of_length_le (by rw [HDL.out]; exact Nat.le_refl _), HR1.out]
        have HOE : Hid (OwO wr w.heap.size u7 (relC C p).1) := by rw [← hE]; exact Lib.hid hO
        clear hE hO
        go_wp2_with fail
        go_ret2
        rw [HR2.out]
        exact ⟨_, rfl, .inl HOE.out, hB2⟩
end Go.Proofs.YthejpojmmokinaaGreatDoor.Bl

namespace Go.Proofs.YthejpojmmokinaaGreatDoor.Bl
open Go.RowKit Tx Pm Dk Wm Wr Wl Pl Tb
set_option linter.unusedVariables false
set_option linter.unusedSimpArgs false
set_option linter.unnecessarySimpa false
theorem swC_succ {C : List On} {held : List ByteArray} {i : Nat} {y : On} (h : C[i]? = some y) : swC (C.take (i + 1)) held = swC (C.take i) held ++ (if cnt held (keyO y) = 0 then [] else [{ y with refs := cnt held (keyO y) }]) := by
  unfold swC
  rw [take_snoc h, List.filterMap_append]
  congr 1
  by_cases hc : cnt held (keyO y) = 0 <;> simp [List.filterMap_cons, hc]
theorem cnt_succ {l : List ByteArray} {k : Nat} {x : ByteArray} (h : l[k]? = some x) (d : ByteArray) : cnt (l.take (k + 1)) d = cnt (l.take k) d + if x = d then 1 else 0 := by rw [take_snoc h, cnt_snoc]
theorem cnt_le (l : List ByteArray) (d : ByteArray) : cnt l d ≤ l.length := List.countP_le_length
set_option maxRecDepth 100000 in
set_option maxHeartbeats 8000000 in
theorem sweep8_any {M : Nat} (v : Value) (B : Nat) (C : List On) (A : Option Addr) (hn hc : Nat) (held : List ByteArray) (w : World) (hO : OwO w B v C) (hg : Good8 C M) (hM : M ≤ 900000) (hS : Strs w A hn held) (hcap : hn ≤ hc) (hhn : hn ≤ 900000) :
    Calls Tryz.prog 17 #[v, .slice A hn hc] w fun e w' => ∃ v', e = .returned (.tuple #[v', .int .i64 ((C.length - (swC C held).length : Nat) : Nat)]) ∧ OwO w' w.heap.size v' (swC C held) ∧ Below w.heap.size w w' := by
  obtain ⟨i0, hI, hz0, hz1, hz2⟩ := info_parts infoO
  have hlen := hg.len
  have hn9 : C.length ≤ 900000 := by omega
  obtain ⟨a, c, rfl, hSl, hnc, hcm⟩ := OwO.form hO
  have HG := Lib.hid hg
  have HS := Lib.hid (fun V (hV : Below w.heap.size w V) => hSl.below hV)
  have HH := Lib.hid (fun V (hV : Below w.heap.size w V) => hS.below hV)
  have HHL := Lib.hid hS.1
  clear hO hg hSl hS hcm
  go_enter Tryz.func17, Tryz.ntmps17
  go_wp2_with fail
  go_loopw [6, 7] (fun vo iv wr => ∃ (i : Nat) (O : List On), i ≤ C.length ∧ iv = .int .i64 i ∧ Hid (O = swC (C.take i) held) ∧ O.length ≤ i ∧ OwO wr w.heap.size vo O ∧ Below w.heap.size w wr) (fun _ iv _ => C.length - (intOf iv).toNat)
  case atStart => exact ⟨0, [], Nat.zero_le _, rfl, Lib.hid rfl, Nat.le_refl _, World.ownsRow_nil _ _ _ _, Below.refl _ _⟩
  case round =>
    obtain ⟨i, O, hi, rfl, hOD, hOl, hO, hB2⟩ := hrel
    by_cases hlt : i < C.length
    · obtain ⟨y, hy⟩ : ∃ y, C[i]? = some y := ⟨_, List.getElem?_eq_getElem hlt⟩
      have hsu := swC_succ (held := held) hy
      have HSU := Lib.hid hsu
      obtain ⟨f1, f2, f3, f4, _⟩ := HG.out.each y (List.mem_of_getElem? hy)
      obtain ⟨g, off, rfl, hgl, g0, g1, g2, g3⟩ := (HS.out _ hB2).nth hy
      have hiz : (i : Int) < (C.length : Int) := by omega
      have hfr := OwO.fresh wr { y with refs := 0 }
      have HFR := Lib.hid hfr
      have HOw := Lib.hid hO
      have hl : y.low < 256 := by rw [f1]; exact lowO_lt _
      have ck := fun (r : Nat) V => key8_any { y with refs := r } V hl (by show y.n ≤ 100000000; omega)
      have HK : ∀ r : Nat, keyO { y with refs := r } = keyO y := fun r => rfl
      clear hsu hfr hO f1 f2 f3 hy
      obtain ⟨low, n, refs, data⟩ := y
      simp only at g0 g1 g2 g3 f4 hl
      simp only [HK] at ck
      unfold onS at ck
      simp only at ck HFR HSU
      clear HK
      generalize keyO { low := low, n := n, refs := refs, data := data } = KX at ck HSU
      go_wp2_with fail
      go_loopw [9] (fun kv wk => ∃ k : Nat, k ≤ hn ∧ kv = .int .i64 k ∧ OwO wk wr.heap.size (.slice (some ⟨wr.heap.size, 0, none⟩) 1 1) [⟨low, n, cnt (held.take k) KX, data⟩] ∧ Below wr.heap.size wr wk) (fun kv _ => hn - (intOf kv).toNat)
      case atStart => exact ⟨0, Nat.zero_le _, rfl, HFR.out, (Below.refl _ wr).alloc (Nat.le_refl _) _⟩
      case round =>
        obtain ⟨k, hk, rfl, hx, hBk⟩ := hrel
        obtain ⟨c0, c1, c2, c3, _⟩ := hx.one
        have cf := OwO.hard hx
        simp only at c0 c1 c2 c3
        have HX := Lib.hid hx
        by_cases hkl : k < hn
        · obtain ⟨s, hs⟩ : ∃ s, held[k]? = some s := ⟨_, List.getElem?_eq_getElem (by rw [HHL.out]; exact hkl)⟩
          obtain ⟨gb, go, rfl, hgb, gs⟩ := Strs.at2 (HH.out _ (Tx.below_call hB2 hBk)) hs hkl
          have hkz : (k : Int) < (hn : Int) := by omega
          have hcs := cnt_succ hs KX
          have hcl : cnt (held.take k) KX ≤ 900000 := by have := cnt_le (held.take k) KX; rw [List.length_take] at this; omega
          have HCS := Lib.hid hcs
          clear hcs hx
          generalize hq : cnt (held.take k) KX = q at c2 hcl HX HCS
          by_cases he : s = KX
          · have hb : (s.toList == KX.toList) = true := by rw [he]; exact beq_self_eq_true _
            rw [if_pos he] at HCS
            clear hq he
            go_wp2_with fail
            go_region_with (go_at_call 16; refine (ck _ _).mono ?_; rintro e w5 ⟨rfl, hb5⟩; have h5s : w5.cell? ⟨gb, go + k, none⟩ = some (.string s) := (hb5.cell (p := ⟨gb, go + k, none⟩) hgb).trans gs)
            all_goals (
              have hB5 := Tx.below_call ((Below.refl wr.heap.size wr).drew) hb5
              have hX5 := own_belowT HX.out hB5
              obtain ⟨d0, d1, d2, d3, _⟩ := OwO.one hX5
              have df := OwO.hard hX5
              have hst := OwO.refsAt hX5 (q + 1) ((q : Int) + 1) (by omega)
              have hbk5 := Tx.below_call hBk hB5
              have hB6 := hbk5.grown hst.2 hbk5.size (fun p hp => by cases hp; exact Nat.le_refl _)
              have HST := Lib.hid hst.1
              simp only at d0 d1 d2 d3
              clear hX5 hst c0 c1 c2 c3 cf gs h5s ck
              go_wp2_with fail
              go_roundw
              case rel => exact ⟨k + 1, by omega, by go_num, by rw [HCS.out]; exact HST.out, hB6⟩
              case measure => simp [intOf]; omega)
          · have hb : (s.toList == KX.toList) = false := bytes_ne he
            rw [if_neg he, Nat.add_zero] at HCS
            clear hq he
            go_wp2_with fail
            go_region_with (go_at_call 16; refine (ck _ _).mono ?_; rintro e w5 ⟨rfl, hb5⟩; have h5s : w5.cell? ⟨gb, go + k, none⟩ = some (.string s) := (hb5.cell (p := ⟨gb, go + k, none⟩) hgb).trans gs)
            all_goals (
              have hB5 := Tx.below_call ((Below.refl wr.heap.size wr).drew) hb5
              have hX5 := own_belowT HX.out hB5
              have hbk5 := Tx.below_call hBk hB5
              have HX5 := Lib.hid hX5
              clear hX5 c0 c1 c2 c3 cf gs h5s ck
              go_wp2_with fail
              go_roundw
              case rel => exact ⟨k + 1, by omega, by go_num, by rw [HCS.out]; exact HX5.out, hbk5⟩
              case measure => simp [intOf]; omega)
        · obtain rfl : k = hn := by omega
          rw [List.take_of_length_le (by rw [HHL.out]; exact Nat.le_refl _)] at c2 HX
          clear hx
          generalize cnt held KX = q at c2 HX HSU
          have hBw := Tx.below_call hB2 hBk
          have hOk := own_belowT HOw.out hBk
          have HOk := Lib.hid hOk
          clear hOk
          by_cases hq : q = 0
          · subst hq
            rw [if_pos rfl, List.append_nil] at HSU
            go_wp2_with fail
            go_roundw
            case rel => exact ⟨i + 1, O, by omega, by go_num, Lib.hid (hOD.out.trans HSU.out.symm), by omega, HOk.out, hBw⟩
            case measure => simp [intOf]; omega
          · rw [if_neg hq] at HSU
            have hqz : (0 : Int) < (q : Int) := by omega
            have hqn : ¬ (q = 0) := hq
            have hqp : 0 < q := by omega
            have k1 := new4z wr low n (q : Int) data (z := wr.heap.size) rfl
            have k2 := cells4z low n (q : Int) data
            have k3 : O.length + 1 ≤ maxLen := by unfold maxLen; omega
            have k4 : (O.length + 1) * 40 ≤ 140737488355328 := by omega
            have k5 : w.heap.size ≤ (wr.alloc (.cells #[.int .i64 (low : Nat), .int .i64 (n : Nat), .int .i64 (q : Int), .string data] 40)).heap.size := by have := hBw.size; simp; omega
            go_wp2_with (at_builtin; refine wpList_append_own _ rfl _ _ 27 rfl w.heap.size 40 i0 (onS on0) 4 40 Tryz.underlying27 hI hz0 hz1 hz2 rfl (by decide) _ _ _ rfl (HOk.out.alloc (.cells #[.int .i64 (low : Nat), .int .i64 (n : Nat), .int .i64 (q : Int), .string data] 40)) ⟨wr.heap.size, 0, none⟩ 1 1 (cellsZ low n (q : Int) data) rfl rfl k1 k2 k3 k4 k5 ?_)
            intro v' w7 hown7 hgrow7 _
            obtain ⟨hO7, hB7⟩ := more4 (wr := wr) (r := 0) HOk.out hBw rfl _ hown7 hgrow7
            have HO7 := Lib.hid hO7
            clear hown7 hgrow7 hO7
            go_wp2_with fail
            go_roundw
            case rel => exact ⟨i + 1, _, by omega, by go_num, Lib.hid HSU.out.symm, by rw [← hOD.out, List.length_append]; show O.length + 1 ≤ i + 1; omega, by rw [← hOD.out]; exact HO7.out, hB7⟩
            case measure => simp [intOf]; omega
    · obtain rfl : i = C.length := by omega
      have hE : O = swC C held := by rw [hOD.out, List.take_of_length_le (Nat.le_refl _)]
      obtain ⟨a2, c2, rfl, _, _, _⟩ := OwO.form hO
      have HO9 := Lib.hid hO
      have hz : (C.length : Int) - (O.length : Int) = ((C.length - (swC C held).length : Nat) : Int) := by rw [← hE]; omega
      have HE := Lib.hid hE
      clear hO hE
      go_wp2_with fail
      go_ret2
      exact ⟨_, rfl, by rw [← HE.out]; exact HO9.out, hB2⟩
end Go.Proofs.YthejpojmmokinaaGreatDoor.Bl

namespace Go.Proofs.YthejpojmmokinaaGreatDoor.Bl
open Go.RowKit Tx Pm Dk Wm Wr Wl Pl Tb
set_option linter.unusedVariables false
set_option linter.unusedSimpArgs false
set_option linter.unnecessarySimpa false
def Bl (b j t m u : Nat) (x : Tst) (Z : List It) (w : World) (C D : List On) (M N V : Nat) (v : Value) (W : World) : Prop :=
  ∃ F : Nat → Prop, Bo b j t m u x Z (W, F) C M N V W ∧ (∀ i, F i → w.heap.size ≤ i) ∧ (∀ i, F i → i < W.heap.size) ∧ Below w.heap.size w W ∧ OwO W w.heap.size v D ∧ ∀ g, v.ownBlock = some g → ¬ F g
section
variable {w W : World} {b j t m u M N V M' N' V' : Nat} {x : Tst} {C C' D D' : List On} {Z : List It} {v v' : Value}
theorem Bl.bel (h : Bl b j t m u x Z w C D M N V v W) : Below w.heap.size w W := by
  obtain ⟨F, _, _, _, h4, _⟩ := h
  exact h4
theorem Bl.row (h : Bl b j t m u x Z w C D M N V v W) : OwO W w.heap.size v D := by
  obtain ⟨F, _, _, _, _, h5, _⟩ := h
  exact h5
theorem Bl.bo (h : Bl b j t m u x Z w C D M N V v W) : ∃ F, Bo b j t m u x Z (W, F) C M N V W := by
  obtain ⟨F, h1, _⟩ := h
  exact ⟨F, h1⟩
theorem Bl.good (h : Bl b j t m u x Z w C D M N V v W) : Good8 C M := by
  obtain ⟨F, h1, _⟩ := h
  exact h1.good
theorem Bl.call {f : FuncId} {args : Array Value} {P : Ending → Prop} (h : Bl b j t m u x Z w C D M N V v W) (ht : Tab w) (hc : ∀ F, TabZ (W, F) → Bo b j t m u x Z (W, F) C M N V W → Calls Tryz.prog f args W fun e w' => P e ∧ ∃ V', Bo b j t m u x Z (W, F) C' M' N' V' w') :
    Calls Tryz.prog f args W fun e w' => P e ∧ ∃ V', Bl b j t m u x Z w C' D M' N' V' v w' := by
  obtain ⟨F, h1, h2, h3, h4, h5, h6⟩ := h
  refine (hc F (tabz ht h4 h2) h1).mono fun e w' ⟨hp, V', hB⟩ => ⟨hp, V', ?_⟩
  obtain ⟨F', q1, q2, q3, q4⟩ := hB.rebase
  have hs := h4.size
  refine ⟨F', q4, fun i hi => (q1 i hi).elim (h2 i) (fun hh => Nat.le_trans hs hh), q2, h4.trans (q3.below hs h2), own_chg h5 q3 h6, fun g hg hF => ?_⟩
  rcases q1 g hF with hh | hh
  · exact h6 g hg hh
  · have := (h5.lt g hg).2
    have hh : W.heap.size ≤ g := hh
    omega
theorem Bl.ref {W' : World} (h : Bl b j t m u x Z w C D M N V v W) (hb : Below W.heap.size W W') (ho : OwO W' W.heap.size v' D' ∨ v' = v ∧ OwO W' w.heap.size v' D') : Bl b j t m u x Z w C D' M N V v' W' := by
  obtain ⟨F, h1, h2, h3, h4, h5, h6⟩ := h
  obtain ⟨l, ⟨F1, g1, g2, g3⟩, hh⟩ := h1
  have hlt := tu_lt g1
  have hsub : ∀ i, F1 i → F i := fun i hi => (g3 i hi).elim id (fun hh => by have := hlt i hi; have hh : W.heap.size ≤ i := hh; omega)
  refine ⟨F1, ⟨l, ⟨F1, tb_below g1 hb, Chg.refl F1 W', fun g hg => .inl hg⟩, hh⟩, fun i hi => h2 i (hsub i hi), fun i hi => Nat.lt_of_lt_of_le (hlt i hi) hb.size, Tx.below_call h4 hb, ?_, fun g hg hF => ?_⟩
  · rcases ho with ho | ⟨_, ho⟩
    · exact ho.base h4.size
    · exact ho
  · rcases ho with ho | ⟨rfl, ho⟩
    · have h9 := (ho.lt g hg).1
      have := hlt g hF
      omega
    · exact h6 g hg (hsub g hF)
theorem Bl.below {W' : World} (h : Bl b j t m u x Z w C D M N V v W) (hb : Below W.heap.size W W') : Bl b j t m u x Z w C D M N V v W' := h.ref hb (.inr ⟨rfl, own_belowT h.row hb⟩)
theorem Bl.mono (h : Bl b j t m u x Z w C D M N V v W) (hM : M ≤ M') (hN : N ≤ N') : Bl b j t m u x Z w C D M' N' V v W := by
  obtain ⟨F, h1, h2⟩ := h
  exact ⟨F, h1.mono hM hN (Nat.le_refl _), h2⟩
theorem Bl.regood (h : Bl b j t m u x Z w C D M N V v W) (hg : Good8 C M') : Bl b j t m u x Z w C D M' N V v W := by
  obtain ⟨F, ⟨l, h1, h2, h3, h4⟩, h5⟩ := h
  exact ⟨F, ⟨l, h1, h2, hg, h4⟩, h5⟩
theorem Bl.first {w0 : World × (Nat → Prop)} (hB : Bo b j t m u x Z w0 [] M N V W) (hF : ∀ i, w0.2 i → w.heap.size ≤ i) (hs : w.heap.size ≤ w0.1.heap.size) (hb : Below w.heap.size w W) : Bl b j t m u x Z w [] [] M N V (.slice none 0 0) W := by
  obtain ⟨F', q1, q2, q3, q4⟩ := hB.rebase
  exact ⟨F', q4, fun i hi => (q1 i hi).elim (hF i) (fun hh => Nat.le_trans hs hh), q2, hb, World.ownsRow_nil _ _ _ _, fun g hg => by cases hg⟩
theorem bo_zz {w0 : World × (Nat → Prop)} (hB : Bo b j t m u x Zz w0 C M N V W) : Calls Tryz.prog 38 #[.pointer (some ⟨u, 0, none⟩), .string zzK] W fun e w' => e = .returned (.tuple #[.string otV, .bool true]) ∧ Below W.heap.size W w' := by
  obtain ⟨l, h1, h2, h3, h4, _⟩ := hB
  have hf := h4 zzK zz_not
  have h := f_bget (key := zzK) h1 (by decide)
  have hz : find Zz zzK = some (rw7 zzK otV) := rfl
  rw [hz] at hf
  rw [over_val hf, over_find, hf] at h
  exact h
end
def keyL (C : List On) (s : ByteArray) : ByteArray := match of8 C s with
  | some x => keyO x
  | none => s
set_option maxRecDepth 100000 in
set_option maxHeartbeats 2000000 in
theorem lkey_any {M : Nat} (a : Option Addr) (n c : Nat) (C : List On) (s : ByteArray) (w : World) (h : Osl w a n C) (hg : Good8 C M) (hM : M ≤ 900000) (hc : n ≤ c) : Calls Tryz.prog 11 #[.slice a n c, .string s] w fun e w' => e = .returned (.string (keyL C s)) ∧ Below w.heap.size w w' := by
  have HST := Lib.hid (fun V (hV : Below w.heap.size w V) => h.below hV)
  have HL := Lib.hid h.1
  have HG := Lib.hid hg
  have hn : n ≤ 900000 := by have := hg.len; have := h.1; omega
  clear h hg
  go_enter Tryz.func11, Tryz.ntmps11
  go_wp2_with fail
  go_loopw [5] (fun iv wr => ∃ i : Nat, i ≤ n ∧ iv = .int .i64 i ∧ Hid (∀ x ∈ C.take i, x.data ≠ s) ∧ Below w.heap.size w wr) (fun iv _ => n - (intOf iv).toNat)
  case atStart => exact ⟨0, Nat.zero_le _, rfl, (fun x hx => by cases hx), Below.refl _ _⟩
  case round =>
    obtain ⟨i, hi, rfl, hno, hB⟩ := hrel
    by_cases hlt : i < n
    · obtain ⟨x, hx⟩ : ∃ x, C[i]? = some x := ⟨_, List.getElem?_eq_getElem (by rw [HL.out]; exact hlt)⟩
      obtain ⟨g, off, rfl, hgl, g0, g1, g2, g3⟩ := (HST.out _ hB).nth hx
      have hiz : (i : Int) < (n : Int) := by omega
      obtain ⟨f1, _, _, f4, _⟩ := HG.out.each x (List.mem_of_getElem? hx)
      have ck := fun V => key8_any x V (by rw [f1]; exact lowO_lt _) (by omega)
      by_cases he : x.data = s
      · have hof : of8 C s = some x := by rw [← he]; exact HG.out.of (List.mem_of_getElem? hx)
        have hkl : keyL C s = keyO x := by unfold keyL; rw [hof]
        have HK := Lib.hid hkl
        have hb : (x.data.toList == s.toList) = true := by rw [he]; exact beq_self_eq_true _
        unfold onS at ck
        generalize keyO x = KX at ck HK
        obtain ⟨low, nn, refs, data⟩ := x
        simp only at g0 g1 g2 g3 hb ck
        clear hx he hkl hof hno f1 f4
        go_wp2_with fail
        go_at_call 16
        refine (ck _).mono ?_
        rintro e w5 ⟨rfl, hb5⟩
        have hB5 := Tx.below_call hB hb5
        go_wp2_with fail
        go_ret
        rw [HK.out]
        exact ⟨rfl, hB5⟩
      · have hno2 : Hid (∀ y ∈ C.take (i + 1), y.data ≠ s) := Lib.hid (fun y hy => by
          rw [take_snoc hx] at hy
          rcases List.mem_append.1 hy with hy | hy
          · exact hno.out y hy
          · rw [List.mem_singleton.1 hy]; exact he)
        have hb : (x.data.toList == s.toList) = false := bytes_ne he
        obtain ⟨low, nn, refs, data⟩ := x
        simp only at g0 g1 g2 g3 hb
        clear hx he hno ck f1 f4
        go_wp2_with fail
        go_roundw
        case rel => exact ⟨i + 1, by omega, by go_num, hno2, hB⟩
        case measure => simp [intOf]; omega
    · obtain rfl : i = n := by omega
      have hof : of8 C s = none := List.find?_eq_none.2 (fun x hx => by
        have := hno.out x (by rw [List.take_of_length_le (by rw [HL.out]; exact Nat.le_refl _)]; exact hx)
        simpa using this)
      have hkl : keyL C s = s := by unfold keyL; rw [hof]
      have HK := Lib.hid hkl
      clear hkl hof hno
      go_wp2_with fail
      go_ret
      rw [HK.out]
      exact ⟨rfl, hB⟩
end Go.Proofs.YthejpojmmokinaaGreatDoor.Bl

namespace Go.Proofs.YthejpojmmokinaaGreatDoor.Bl
open Go.RowKit Tx
set_option linter.unusedVariables false
set_option maxRecDepth 100000 in
set_option maxHeartbeats 2000000 in
theorem regAlike (ops : Array Oper) (hops : ops = (Rg.opsOf Tryz.f21 8)) (id : Nat) (u g off n c i r : Nat) (K d : ByteArray) {u2 u3 u4 u9 u10 u11 u12 u13 u14 u15 u16 u17 u18 u19 u20 u21 u22 u23 u24 u25 u26 u27 u28 u29 u30 u31 u32 u33 u34 u35 u36 u37 u38 u39 u40 u41 u42 u43 u44 u45 u46 u47 u48 u49 u50 u51 u52 u53 u54 u55 u56 u57 u58 u59 u60 u61 u62 u63 u64 u65 : Value} (w : World) (hin : (i : Int) < (n : Int)) (hb : (d.toList == d.toList) = true) (hg : g < w.heap.size)
    (g2 : w.cell? ⟨g, off + i * 4 + 2, none⟩ = some (.int .i64 (r : Nat))) (g3 : w.cell? ⟨g, off + i * 4 + 3, none⟩ = some (.string d))
    (cr : ∀ V, Below w.heap.size w V → Calls Tryz.prog 20 #[.pointer (some ⟨u, 0, none⟩), .string K] V fun e w' => e = .returned (.int .i64 (r : Nat)) ∧ Below V.heap.size V w') :
    (Code.region id ops true).wp Tryz.prog (Rg.Only fun a' w' => a' = ⟨#[(.pointer (some ⟨u, 0, none⟩)), (.slice (some ⟨g, off, none⟩) n c), u2, u3, u4, (.int .i64 (i : Nat)), (.string K), (.string d), (.int .i64 0), u9, u10, u11, u12, u13, u14, u15, u16, u17, u18, u19, u20, u21, u22, u23, u24, u25, u26, u27, u28, u29, u30, u31, u32, u33, (.string d), (.slice (some ⟨g, off, none⟩) n c), (.int .i64 (i : Nat)), (.pointer (some ⟨g, off + i * 4, none⟩)), (.pointer (some ⟨g, off + i * 4 + 3, none⟩)), (.string d), (.bool false), (.bool false), (.int .i64 0), (.bool false), (.bool false), (.bool false), (.pointer (some ⟨u, 0, none⟩)), (.string K), (.int .i64 (r : Nat)), (.slice (some ⟨g, off, none⟩) n c), (.int .i64 (i : Nat)), (.pointer (some ⟨g, off + i * 4, none⟩)), (.pointer (some ⟨g, off + i * 4 + 2, none⟩)), (.int .i64 (r : Nat)), (.bool false), (.bool false), u56, u57, u58, u59, u60, u61, u62, u63, u64, u65], []⟩ ∧ Below w.heap.size w w') ⟨#[(.pointer (some ⟨u, 0, none⟩)), (.slice (some ⟨g, off, none⟩) n c), u2, u3, u4, (.int .i64 (i : Nat)), (.string K), (.string d), (.int .i64 0), u9, u10, u11, u12, u13, u14, u15, u16, u17, u18, u19, u20, u21, u22, u23, u24, u25, u26, u27, u28, u29, u30, u31, u32, u33, u34, u35, u36, u37, u38, u39, u40, u41, u42, u43, u44, u45, u46, u47, u48, u49, u50, u51, u52, u53, u54, u55, u56, u57, u58, u59, u60, u61, u62, u63, u64, u65], []⟩ w := by
  subst hops
  have hNS : Region.noSelect (Rg.opsOf Tryz.f21 8) = true := by kernel_rfl
  refine wp_region_held_drew (S := fun V => Below w.heap.size w V) (by kernel_rfl) ((Below.refl _ w).drew) (fun hHeld => ?_)
  rw [show (Rg.opsOf Tryz.f21 8).size = 22 by kernel_rfl]
  refine Rg.take (ops := (Rg.opsOf Tryz.f21 8)) 0 (some 34) ((.string d)) hNS (by kernel_rfl) (by kernel_rfl) (by kernel_rfl) (by kernel_rfl) (by kernel_rfl) hHeld (Rg.y_move (x := (Operand.tmp 7)) (Or.inl (by kernel_rfl)) (by kernel_rfl)) ?_
  refine Rg.take (ops := (Rg.opsOf Tryz.f21 8)) 1 (some 35) ((.slice (some ⟨g, off, none⟩) n c)) hNS (by kernel_rfl) (by kernel_rfl) (by kernel_rfl) (by kernel_rfl) (by kernel_rfl) hHeld (Rg.y_move (x := (Operand.tmp 1)) (Or.inl (by kernel_rfl)) (by kernel_rfl)) ?_
  refine Rg.take (ops := (Rg.opsOf Tryz.f21 8)) 2 (some 36) ((.int .i64 (i : Nat))) hNS (by kernel_rfl) (by kernel_rfl) (by kernel_rfl) (by kernel_rfl) (by kernel_rfl) hHeld (Rg.y_move (x := (Operand.tmp 5)) (Or.inl (by kernel_rfl)) (by kernel_rfl)) ?_
  refine Rg.take (ops := (Rg.opsOf Tryz.f21 8)) 3 (some 37) ((.pointer (some ⟨g, off + i * 4, none⟩))) hNS (by kernel_rfl) (by kernel_rfl) (by kernel_rfl) (by kernel_rfl) (by kernel_rfl) hHeld (Rg.y_at (T := 27) (x := (Operand.tmp 35)) (y := (Operand.tmp 36)) (vx := (.slice (some ⟨g, off, none⟩) n c)) (vy := (.int .i64 (i : Nat))) (by kernel_rfl) (by kernel_rfl) (by kernel_rfl) ?_) ?_
  · (intro w hSw; have h1 := hin; go_simp)
  refine Rg.take (ops := (Rg.opsOf Tryz.f21 8)) 4 (some 38) ((.pointer (some ⟨g, off + i * 4 + 3, none⟩))) hNS (by kernel_rfl) (by kernel_rfl) (by kernel_rfl) (by kernel_rfl) (by kernel_rfl) hHeld (Rg.y_field (T := 40) (k := 3) (x := (Operand.tmp 37)) (vx := (.pointer (some ⟨g, off + i * 4, none⟩))) (by kernel_rfl) (by kernel_rfl) ?_) ?_
  · (intro w hSw; go_simp)
  refine Rg.take (ops := (Rg.opsOf Tryz.f21 8)) 5 (some 39) ((.string d)) hNS (by kernel_rfl) (by kernel_rfl) (by kernel_rfl) (by kernel_rfl) (by kernel_rfl) hHeld (Rg.y_load (T := 9) (x := (Operand.tmp 38)) (vx := (.pointer (some ⟨g, off + i * 4 + 3, none⟩))) (by kernel_rfl) (by kernel_rfl) ?_) ?_
  · (intro w hSw; have h1 := (hSw.cell (p := ⟨g, off + i * 4 + 3, none⟩) hg).trans g3; go_simp)
  refine Rg.take (ops := (Rg.opsOf Tryz.f21 8)) 6 (some 40) ((.bool false)) hNS (by kernel_rfl) (by kernel_rfl) (by kernel_rfl) (by kernel_rfl) (by kernel_rfl) hHeld (Rg.y_bin (b := BinOp.neq) (T := 9) (R' := 9) (x := (Operand.tmp 34)) (y := (Operand.tmp 39)) (vx := (.string d)) (vy := (.string d)) (by kernel_rfl) (by kernel_rfl) (by kernel_rfl) ?_) ?_
  · (intro w hSw; have h1 := hb; go_simp)
  refine Rg.take (ops := (Rg.opsOf Tryz.f21 8)) 7 (some 41) ((.bool false)) hNS (by kernel_rfl) (by kernel_rfl) (by kernel_rfl) (by kernel_rfl) (by kernel_rfl) hHeld (Rg.y_move (x := (Operand.tmp 40)) (Or.inl (by kernel_rfl)) (by kernel_rfl)) ?_
  refine Rg.take (ops := (Rg.opsOf Tryz.f21 8)) 8 (some 42) ((.int .i64 0)) hNS (by kernel_rfl) (by kernel_rfl) (by kernel_rfl) (by kernel_rfl) (by kernel_rfl) hHeld (Rg.y_move (x := (Operand.tmp 8)) (Or.inl (by kernel_rfl)) (by kernel_rfl)) ?_
  refine Rg.take (ops := (Rg.opsOf Tryz.f21 8)) 9 (some 43) ((.bool false)) hNS (by kernel_rfl) (by kernel_rfl) (by kernel_rfl) (by kernel_rfl) (by kernel_rfl) hHeld (Rg.y_bin (b := BinOp.neq) (T := 36) (R' := 36) (x := (Operand.tmp 42)) (y := (Operand.const (Value.int IntKind.i64 0))) (vx := (.int .i64 0)) (vy := (Value.int IntKind.i64 0)) (by kernel_rfl) (by kernel_rfl) (by kernel_rfl) ?_) ?_
  · (intro w hSw; have h1 := hb; go_simp)
  refine Rg.take (ops := (Rg.opsOf Tryz.f21 8)) 10 (some 44) ((.bool false)) hNS (by kernel_rfl) (by kernel_rfl) (by kernel_rfl) (by kernel_rfl) (by kernel_rfl) hHeld (Rg.y_pick (c := (Operand.tmp 41)) (x := (Operand.const (Value.bool true))) (y := (Operand.tmp 43)) (b := false) (by kernel_rfl) (by kernel_rfl) (by kernel_rfl)) ?_
  refine Rg.take (ops := (Rg.opsOf Tryz.f21 8)) 11 (some 45) ((.bool false)) hNS (by kernel_rfl) (by kernel_rfl) (by kernel_rfl) (by kernel_rfl) (by kernel_rfl) hHeld (Rg.y_move (x := (Operand.tmp 44)) (Or.inl (by kernel_rfl)) (by kernel_rfl)) ?_
  refine Rg.take (ops := (Rg.opsOf Tryz.f21 8)) 12 (some 46) ((.pointer (some ⟨u, 0, none⟩))) hNS (by kernel_rfl) (by kernel_rfl) (by kernel_rfl) (by kernel_rfl) (by kernel_rfl) hHeld (Rg.y_move (x := (Operand.tmp 0)) (Or.inl (by kernel_rfl)) (by kernel_rfl)) ?_
  refine Rg.take (ops := (Rg.opsOf Tryz.f21 8)) 13 (some 47) ((.string K)) hNS (by kernel_rfl) (by kernel_rfl) (by kernel_rfl) (by kernel_rfl) (by kernel_rfl) hHeld (Rg.y_move (x := (Operand.tmp 6)) (Or.inl (by kernel_rfl)) (by kernel_rfl)) ?_
  refine Rg.take (ops := (Rg.opsOf Tryz.f21 8)) 15 (some 49) ((.slice (some ⟨g, off, none⟩) n c)) hNS (by kernel_rfl) (by kernel_rfl) (by kernel_rfl) (by kernel_rfl) (by kernel_rfl) hHeld (Rg.y_move (x := (Operand.tmp 1)) (Or.inl (by kernel_rfl)) (by kernel_rfl)) ?_
  refine Rg.take (ops := (Rg.opsOf Tryz.f21 8)) 16 (some 50) ((.int .i64 (i : Nat))) hNS (by kernel_rfl) (by kernel_rfl) (by kernel_rfl) (by kernel_rfl) (by kernel_rfl) hHeld (Rg.y_move (x := (Operand.tmp 5)) (Or.inl (by kernel_rfl)) (by kernel_rfl)) ?_
  refine Rg.take (ops := (Rg.opsOf Tryz.f21 8)) 17 (some 51) ((.pointer (some ⟨g, off + i * 4, none⟩))) hNS (by kernel_rfl) (by kernel_rfl) (by kernel_rfl) (by kernel_rfl) (by kernel_rfl) hHeld (Rg.y_at (T := 27) (x := (Operand.tmp 49)) (y := (Operand.tmp 50)) (vx := (.slice (some ⟨g, off, none⟩) n c)) (vy := (.int .i64 (i : Nat))) (by kernel_rfl) (by kernel_rfl) (by kernel_rfl) ?_) ?_
  · (intro w hSw; have h1 := hin; go_simp)
  refine Rg.take (ops := (Rg.opsOf Tryz.f21 8)) 18 (some 52) ((.pointer (some ⟨g, off + i * 4 + 2, none⟩))) hNS (by kernel_rfl) (by kernel_rfl) (by kernel_rfl) (by kernel_rfl) (by kernel_rfl) hHeld (Rg.y_field (T := 40) (k := 2) (x := (Operand.tmp 51)) (vx := (.pointer (some ⟨g, off + i * 4, none⟩))) (by kernel_rfl) (by kernel_rfl) ?_) ?_
  · (intro w hSw; go_simp)
  refine Rg.take (ops := (Rg.opsOf Tryz.f21 8)) 19 (some 53) ((.int .i64 (r : Nat))) hNS (by kernel_rfl) (by kernel_rfl) (by kernel_rfl) (by kernel_rfl) (by kernel_rfl) hHeld (Rg.y_load (T := 3) (x := (Operand.tmp 52)) (vx := (.pointer (some ⟨g, off + i * 4 + 2, none⟩))) (by kernel_rfl) (by kernel_rfl) ?_) ?_
  · (intro w hSw; have h1 := (hSw.cell (p := ⟨g, off + i * 4 + 2, none⟩) hg).trans g2; go_simp)
  refine Rg.call (ops := (Rg.opsOf Tryz.f21 8)) (fn := Tryz.f20) (xs := #[Operand.tmp 46, Operand.tmp 47]) (ats := #[23, 9]) 14 (some 48) 20 #[(.pointer (some ⟨u, 0, none⟩)), (.string K)] (by kernel_rfl) (by kernel_rfl) (by kernel_rfl) (by kernel_rfl) (by kernel_rfl) Tryz.func20 (by kernel_rfl) (by kernel_rfl) (by kernel_rfl) ?_
  refine (cr _ hHeld).mono ?_
  rintro e w9 ⟨rfl, hb9⟩
  refine ⟨_, rfl, Tx.below_call hHeld hb9, fun hHeld => ?_⟩
  refine Rg.take (ops := (Rg.opsOf Tryz.f21 8)) 20 (some 54) ((.bool false)) hNS (by kernel_rfl) (by kernel_rfl) (by kernel_rfl) (by kernel_rfl) (by kernel_rfl) hHeld (Rg.y_bin (b := BinOp.neq) (T := 3) (R' := 3) (x := (Operand.tmp 48)) (y := (Operand.tmp 53)) (vx := (.int .i64 (r : Nat))) (vy := (.int .i64 (r : Nat))) (by kernel_rfl) (by kernel_rfl) (by kernel_rfl) ?_) ?_
  · (intro w hSw; have h1 := hb; go_simp)
  refine Rg.take (ops := (Rg.opsOf Tryz.f21 8)) 21 (some 55) ((.bool false)) hNS (by kernel_rfl) (by kernel_rfl) (by kernel_rfl) (by kernel_rfl) (by kernel_rfl) hHeld (Rg.y_pick (c := (Operand.tmp 45)) (x := (Operand.const (Value.bool true))) (y := (Operand.tmp 54)) (b := false) (by kernel_rfl) (by kernel_rfl) (by kernel_rfl)) ?_
  refine Rg.done (ops := (Rg.opsOf Tryz.f21 8)) (by kernel_rfl) ?_
  exact ⟨by kernel_rfl, hHeld⟩
end Go.Proofs.YthejpojmmokinaaGreatDoor.Bl

namespace Go.Proofs.YthejpojmmokinaaGreatDoor.Bl
open Go.RowKit Tx Pm Dk Wm Wr Wl Pl Tb
set_option linter.unusedVariables false
set_option linter.unusedSimpArgs false
set_option linter.unnecessarySimpa false
set_option maxRecDepth 100000 in
set_option maxHeartbeats 8000000 in
theorem alike_any {b j t m u M N V : Nat} {x : Tst} {F : Nat → Prop} {C : List On} (a : Option Addr) (n c : Nat) (w : World) (hB : Bo b j t m u x Zz (w, F) C M N V w) (hx : Xk x) (hM : M ≤ 900000) (hN : N ≤ 900000) (h : Osl w a n C) (hc : n ≤ c) :
    Calls Tryz.prog 21 #[.pointer (some ⟨u, 0, none⟩), .slice a n c] w fun e w' => e = .returned (.bool true) ∧ Below w.heap.size w w' := by
  have HST := Lib.hid (fun V (hV : Below w.heap.size w V) => h.below hV)
  have HBO := Lib.hid (fun V (hV : Below w.heap.size w V) => hB.below hV)
  have HL := Lib.hid h.1
  have HG := Lib.hid hB.good
  have hn : n ≤ 900000 := by have := hB.good.len; have := h.1; omega
  obtain ⟨K, hKP, _, ck⟩ := bkeys_rise hB hx (by omega)
  have hKn : K.length = n := by rw [hKP.length_eq, List.length_map, h.1]
  have HKN := Lib.hid hKn
  clear hB h hKP hKn
  go_enter Tryz.func21, Tryz.ntmps21
  go_wp2_with fail
  go_at_call 22
  refine ck.mono ?_
  rintro e w5 ⟨vW, rfl, hWt, hb5⟩
  obtain ⟨aW, cW, hv, _, _, _⟩ := hWt.form
  rw [HKN.out] at hv
  subst hv
  clear hWt ck
  go_wp2_with fail
  go_loopw [5] (fun iv wr => ∃ i : Nat, i ≤ n ∧ iv = .int .i64 i ∧ Below w.heap.size w wr) (fun iv _ => n - (intOf iv).toNat)
  case atStart => exact ⟨0, Nat.zero_le _, rfl, hb5⟩
  case round =>
    obtain ⟨i, hi, rfl, hBl⟩ := hrel
    by_cases hlt : i < n
    · obtain ⟨y, hy⟩ : ∃ y, C[i]? = some y := ⟨_, List.getElem?_eq_getElem (by rw [HL.out]; exact hlt)⟩
      obtain ⟨g, off, rfl, hgl, g0, g1, g2, g3⟩ := (HST.out _ hBl).nth hy
      have hiz : (i : Int) < (n : Int) := by omega
      have hm := List.mem_of_getElem? hy
      obtain ⟨f1, _, f3, f4, _⟩ := HG.out.each y hm
      have ck := fun V => key8_any y V (by rw [f1]; exact lowO_lt _) (by omega)
      have hsz := keyO_size HG.out (by omega) hm
      have cg := fun V (hV : Below w.heap.size w V) => get_any (key := keyO y) (HBO.out V hV) (by omega) (by omega)
      have cr := fun V (hV : Below w.heap.size w V) => refs_any (key := keyO y) (HBO.out V hV) (by omega) (by omega)
      rw [HG.out.at hm] at cg cr
      simp only at cg cr
      unfold onS at ck
      generalize keyO y = KX at ck cg cr
      obtain ⟨low, nn, refs, data⟩ := y
      simp only at g0 g1 g2 g3 ck cg cr f3
      have HGC := Lib.hid hgl
      have HG2 := Lib.hid g2
      have HG3 := Lib.hid g3
      clear hy hm f1 f4 hsz
      go_wp2_with fail
      go_at_call 16
      refine (ck _).mono ?_
      rintro e w6 ⟨rfl, hb6⟩
      have hB6 := Tx.below_call hBl hb6
      clear ck
      go_wp2_with fail
      go_at_call 19
      refine (cg _ hB6).mono ?_
      rintro e w7 ⟨rfl, hb7⟩
      have hB7 := Tx.below_call hB6 hb7
      have hw7 := Tx.below_call hb6 hb7
      have e2 := (hw7.cell (p := ⟨g, off + i * 4 + 2, none⟩) HGC.out).trans HG2.out
      have e3 := (hw7.cell (p := ⟨g, off + i * 4 + 3, none⟩) HGC.out).trans HG3.out
      have hg7 : g < w7.heap.size := Nat.lt_of_lt_of_le HGC.out hw7.size
      clear cg g0 g1 g2 g3
      go_wp2_with fail
      refine Rg.wp_only ?_ (regAlike _ (by kernel_rfl) _ u g off n c i refs KX data w7 hiz (beq_self_eq_true _) hg7 e2 e3 (fun V hV => cr V (Tx.below_call hB7 hV)))
      rintro _ w9 ⟨rfl, hb9⟩
      have hB9 := Tx.below_call hB7 hb9
      clear cr
      go_wp2_with fail
      go_roundw
      case rel => exact ⟨i + 1, by omega, by go_num, hB9⟩
      case measure => simp [intOf]; omega
    · obtain rfl : i = n := by omega
      have cz := bo_zz (HBO.out _ hBl)
      unfold zzK otV at cz
      go_wp2_with fail
      go_at_call 38
      refine cz.mono ?_
      rintro e w6 ⟨rfl, hb6⟩
      have hB6 := Tx.below_call hBl hb6
      go_wp2_with fail
      go_ret
      exact ⟨rfl, hB6⟩
end Go.Proofs.YthejpojmmokinaaGreatDoor.Bl

namespace Go.Proofs.YthejpojmmokinaaGreatDoor.Bp
open Go.ChangeMaps (open_string shut_string)
open Go.ChangeShapes Go.WideShapes Go.ChangeAt Go.RowKit Tx
set_option linter.unusedVariables false
structure Sp where
  k : Int
  t : ByteArray
def dS {H : Type} (x : Sp) : DataW H := .agg [.lit (.int .i64 x.k), .lit (.string x.t.data.toList)]
def int64 (k : Int) : Prop := -9223372036854775808 ≤ k ∧ k ≤ 9223372036854775807
theorem cells9 : Tryz.prog.cellsOf 9 = 1 := by kernel_rfl
theorem cells3 : Tryz.prog.cellsOf 3 = 1 := by kernel_rfl
theorem cellsS : Tryz.prog.cellsOf 29 = 2 := by kernel_rfl
theorem wf_int {k : Int} (h : (Lit.int .i64 k).wf = true) : int64 k := by
  unfold int64
  simpa [Lit.wf, IntKind.min, IntKind.max, IntKind.signed, IntKind.bits] using h
def Script (w : World) (a : Option Addr) (n : Nat) (l : List Sp) : Prop := l.length = n ∧ (n = 0 ∨ ∃ b off, a = some ⟨b, off, none⟩ ∧ b < w.heap.size ∧ ∀ k x, l[k]? = some x → w.cell? ⟨b, off + k * 2, none⟩ = some (.int .i64 x.k) ∧ w.cell? ⟨b, off + k * 2 + 1, none⟩ = some (.string x.t))
theorem step_open {H : Type} {enc : TypeId × Value → H} {w : World} {base : Nat} {spare : Nat → Bool} {held : Bool} {m : Nat} {c0 c1 : Value} {y : DataW H × List MemPlace} (h : DataW.trod enc Tryz.prog w base spare held m 29 [c0, c1] = some y) :
    ∃ x : Sp, c0 = .int .i64 x.k ∧ c1 = .string x.t ∧ y = (dS x, []) ∧ int64 x.k := by
  obtain ⟨ys, m2, _, hy, _, hyl, hf⟩ := DataW.trod_struct Tryz.underlying29 h
  have h0 := hf 0 _ rfl
  have h1 := hf 1 _ rfl
  match ys, hyl with
  | [y0, y1], _ =>
    have h0 : DataW.trod enc Tryz.prog w base spare held m2 3 (([c0, c1].drop 0).take (Tryz.prog.cellsOf 3)) = some y0 := h0
    have h1 : DataW.trod enc Tryz.prog w base spare held m2 9 (([c0, c1].drop 1).take (Tryz.prog.cellsOf 9)) = some y1 := h1
    rw [cells3] at h0
    rw [cells9] at h1
    obtain ⟨k, hk, hx0, hw⟩ := DataW.trod_int Tryz.underlying3 h0
    obtain ⟨p, hp, hx1, hl1⟩ := DataW.trod_string Tryz.underlying9 h1
    simp at hk hp
    refine ⟨⟨k, p⟩, hk, hp, ?_, wf_int hw⟩
    rw [hy, hx0, hx1]
    rfl
theorem step_at {H : Type} {enc : TypeId × Value → H} {w : World} {base : Nat} {spare : Nat → Bool} {held : Bool} {m : Nat} {a : Addr} {cs' : List Value} {y : DataW H × List MemPlace} (hc : w.cells? base a 2 = some cs') (h : DataW.trod enc Tryz.prog w base spare held m 29 cs' = some y) :
    ∃ x : Sp, w.cell? a = some (.int .i64 x.k) ∧ w.cell? (a.add 1) = some (.string x.t) ∧ y = (dS x, []) ∧ int64 x.k := by
  obtain ⟨_, hcl, hat⟩ := World.cells?_some hc
  match cs', hcl with
  | [c0, c1], _ =>
    obtain ⟨x, h0, h1, hy, hr⟩ := step_open h
    have a0 := hat 0 (by omega)
    have a1 := hat 1 (by omega)
    refine ⟨x, ?_, ?_, hy, hr⟩
    · have e : a.add 0 = a := by simp [Addr.add]
      rw [e] at a0
      rw [a0, h0]
      rfl
    · rw [a1, h1]; rfl
theorem open_steps {H : Type} {enc : TypeId × Value → H} {w : World} {base : Nat} {spare : Nat → Bool} {held : Bool} {fuel : Nat} {cs : List Value} {x : DataW H × List MemPlace} (h : DataW.trod enc Tryz.prog w base spare held fuel 22 cs = some x) :
    (cs = [.slice none 0 0] ∧ x = (.nil, [])) ∨ ∃ (a : Addr) (len cap : Nat) (l : List Sp) (rest : List (DataW H)) (pl : List MemPlace), cs = [.slice (some a) len cap] ∧ len ≤ cap ∧ cap ≤ maxLen ∧ x = (.slice (l.map dS) rest, pl) ∧ Script w (some a) len l ∧ ∀ e ∈ l, int64 e.k := by
  rcases Go.Deep.open_slice Tryz.underlying22 h with h0 | ⟨a, len, cap, m, n, D, Pl, rfl, hb, hl, hm, hmm, hx, hi⟩
  · exact .inl h0
  · right
    have hlm : len ≤ m := by
      rw [hmm]
      split
      · exact hl
      · exact Nat.le_refl _
    have hex : ∀ i, i < len → ∃ e : Sp, w.cell? (a.add (i * 2)) = some (.int .i64 e.k) ∧ w.cell? ((a.add (i * 2)).add 1) = some (.string e.t) ∧ D i = dS e ∧ int64 e.k := by
      intro i him
      obtain ⟨cs', hc, ht⟩ := hi i (by omega)
      rw [cellsS] at hc
      obtain ⟨e, h1, h2, h5, hr⟩ := step_at hc ht
      exact ⟨e, h1, h2, congrArg Prod.fst h5, hr⟩
    have : Inhabited Sp := ⟨⟨0, ⟨#[]⟩⟩⟩
    obtain ⟨X, hX⟩ := Go.Deep.choose_lt hex
    have hget : ∀ k y, ((List.range len).map X)[k]? = some y → k < len ∧ y = X k := by
      intro k y hk
      have hk2 := (List.getElem?_eq_some_iff.1 hk).1
      simp at hk2
      rw [List.getElem?_map, List.getElem?_range hk2] at hk
      injection hk with hk
      exact ⟨hk2, hk.symm⟩
    refine ⟨a, len, cap, (List.range len).map X, (List.range (m - len)).map fun j => D (len + j), x.2, rfl, hl, hm, ?_, ⟨by simp, ?_⟩, ?_⟩
    · rw [hx]
      refine Prod.ext ?_ rfl
      show DataW.slice _ _ = DataW.slice _ _
      congr 1
      rw [List.map_map]
      refine List.map_congr_left (fun i hi' => ?_)
      exact (hX i (List.mem_range.1 hi')).2.2.1
    · by_cases h0 : len = 0
      · exact .inl h0
      · right
        obtain ⟨b, off, spot⟩ := a
        have hc0 := (hX 0 (by omega)).1
        rw [Nat.zero_mul] at hc0
        have hspot : spot = none := by simpa [Addr.add] using World.cell?_spot hc0
        subst hspot
        refine ⟨b, off, rfl, ?_, fun k y hk => ?_⟩
        · have := World.block_lt_of_cell? w _ hc0
          simpa [Addr.add] using this
        · obtain ⟨hk2, rfl⟩ := hget k y hk
          obtain ⟨h1, h2, _⟩ := hX k hk2
          rw [add_plain] at h1 h2
          rw [add_plain] at h2
          exact ⟨h1, h2⟩
    · intro e he
      obtain ⟨k, hk⟩ := List.getElem?_of_mem he
      obtain ⟨hk2, rfl⟩ := hget k e hk
      exact (hX k hk2).2.2.2
theorem step_weights {H : Type} (x : Sp) : DataW.weights Tryz.prog 29 (dS (H := H) x) = [x.t.data.toList.length] := by
  unfold dS
  rw [DataW.weights]
  rw [show Tryz.prog.underlying 29 = _ from Tryz.underlying29]
  simp only [List.map_cons, List.map_nil, DataW.weightsEach, DataW.weights]
  rfl
theorem all_weights {H : Type} {x : Sp} {n : Nat} : ∀ {l : List Sp}, x ∈ l → n ∈ DataW.weights Tryz.prog 29 (dS (H := H) x) → n ∈ DataW.weightsAll Tryz.prog 29 (l.map (dS (H := H)))
  | y :: l, hx, hn => by
    rw [List.map_cons, DataW.weightsAll, List.mem_append]
    rcases List.mem_cons.1 hx with rfl | hx
    · exact .inl hn
    · exact .inr (all_weights hx hn)
def WideS (l : List Sp) : Prop := ∀ x ∈ l, x.t.size ≤ 140737488351232
theorem wide_of {H : Type} {ts : List TypeId} {ds : List (DataW H)} (h : (DataW.weightsEach Tryz.prog ts ds).all (· ≤ reachBytes) = true) {j : Nat} {l : List Sp} {rest : List (DataW H)} (ht : ts[j]? = some 22) (hd : ds[j]? = some (.slice (l.map dS) rest)) : WideS l := by
  intro x hx
  have hall := List.all_eq_true.1 h
  have hm := DataW.weights_mem_each (P := Tryz.prog) ht hd x.t.data.toList.length (by
    rw [DataW.weights, Tryz.underlying22]
    exact List.mem_cons_of_mem _ (List.mem_append_left _ (all_weights hx (by rw [step_weights]; simp))))
  have := of_decide_eq_true (hall _ hm)
  rw [Wm.len_l] at this
  exact this
theorem arg_steps {H : Type} {enc : TypeId × Value → H} {w : World} {base : Nat} {spare : Nat → Bool} {held : Bool} {a : Option Addr} {n c : Nat} {d : DataW H} {p : List MemPlace} (h : DataW.Trod enc Tryz.prog w base spare held 22 (.slice a n c) d p) :
    ∃ l : List Sp, Script w a n l ∧ (∀ e ∈ l, int64 e.k) ∧ n ≤ c ∧ c ≤ 9223372036854775807 ∧ ∀ {ts : List TypeId} {ds : List (DataW H)} {j : Nat}, (DataW.weightsEach Tryz.prog ts ds).all (· ≤ reachBytes) = true → ts[j]? = some 22 → ds[j]? = some d → WideS l := by
  obtain ⟨fuel, hf⟩ := h
  rcases open_steps hf with ⟨hcs, _⟩ | ⟨x, len, cap, l, rest, pl, hcs, hlc, hcm, hx, he, hall⟩
  · simp [Value.cells] at hcs
    obtain ⟨rfl, rfl, rfl⟩ := hcs
    exact ⟨[], ⟨rfl, .inl rfl⟩, (fun e he => by cases he), by omega, by omega, fun _ _ _ x hx => by cases hx⟩
  · simp [Value.cells] at hcs
    obtain ⟨rfl, rfl, rfl⟩ := hcs
    have hd : d = .slice (l.map dS) rest := congrArg Prod.fst hx
    unfold maxLen at hcm
    exact ⟨l, he, hall, hlc, by omega, fun h1 h2 h3 => wide_of h1 h2 (by rw [h3, hd])⟩
theorem Script.below {w w1 : World} {a : Option Addr} {n : Nat} {l : List Sp} (h : Script w a n l) (hb : Below w.heap.size w w1) : Script w1 a n l := by
  refine ⟨h.1, ?_⟩
  rcases h.2 with h0 | ⟨b, off, ha, hlt, hc⟩
  · exact .inl h0
  · exact .inr ⟨b, off, ha, Nat.lt_of_lt_of_le hlt hb.size, fun k x hx => ⟨(hb.cell (p := ⟨b, off + k * 2, none⟩) hlt).trans (hc k x hx).1, (hb.cell (p := ⟨b, off + k * 2 + 1, none⟩) hlt).trans (hc k x hx).2⟩⟩
end Go.Proofs.YthejpojmmokinaaGreatDoor.Bp

namespace Go.Proofs.YthejpojmmokinaaGreatDoor.Bl
open Go.RowKit Tx
set_option linter.unusedVariables false
set_option maxRecDepth 100000 in
set_option maxHeartbeats 4000000 in
theorem regShort (ops : Array Oper) (hops : ops = (Rg.opsOf Tryz.f3 27)) (id : Nat) (g off sp n c i : Nat) (B : Bool) (d T : ByteArray) {u0 u1 u2 u3 u5 u7 u8 u9 u10 u11 u12 u14 u15 u16 u17 u18 u19 u20 u21 u22 u23 u24 u25 u26 u27 u28 u29 u30 u31 u32 u33 u34 u35 u36 u37 u38 u39 u40 u41 u42 u43 u44 u45 u46 u47 u48 u49 u50 u51 u52 u53 u54 u55 u56 u57 u58 u59 u60 u61 u62 u63 u64 u65 u66 u67 u68 u69 u70 u71 u72 u73 u74 u75 u76 u77 u78 u79 u80 u81 u82 u83 u84 u85 u86 u87 u88 u89 u90 u91 u92 u93 u94 u95 u96 u97 u98 u99 u100 u101 u102 u103 u104 u105 u106 u107 u108 u109 u110 u111 u112 u113 u114 u115 u116 u117 u118 u119 u120 u121 u122 u123 u124 u125 u126 u127 u128 u129 u130 u131 u132 u133 u134 u135 u136 u137 u138 u139 u140 u141 u142 u143 u144 u145 u146 u147 u148 u149 u150 u151 u152 u153 u154 u155 u156 u157 u158 u159 u160 u161 u162 : Value} (w : World) (hin : (i : Int) < (n : Int)) (hsz : (d.size : Int) < (T.size : Int)) (hq : ((d.extract 0 T.size).toList == T.toList) = B)
    (g3 : w.cell? ⟨g, off + i * 4 + 3, none⟩ = some (.string d)) (gt : w.cell? ⟨sp, 1, none⟩ = some (.string T)) :
    (Code.region id ops true).wp Tryz.prog (Rg.Only fun a' w' => a' = ⟨#[u0, u1, u2, u3, (.slice (some ⟨g, off, none⟩) n c), u5, (.pointer (some ⟨sp, 0, none⟩)), u7, u8, u9, u10, u11, u12, (.int .i64 (i : Nat)), u14, u15, u16, u17, u18, u19, u20, u21, u22, u23, u24, u25, u26, u27, u28, u29, u30, u31, u32, u33, u34, u35, u36, u37, u38, u39, u40, u41, u42, u43, u44, u45, u46, u47, u48, u49, u50, u51, u52, u53, u54, u55, u56, u57, u58, u59, u60, u61, u62, u63, u64, u65, u66, u67, u68, u69, u70, u71, u72, u73, u74, u75, u76, u77, u78, u79, u80, u81, u82, u83, u84, u85, u86, u87, u88, u89, u90, u91, u92, (.slice (some ⟨g, off, none⟩) n c), (.int .i64 (i : Nat)), (.pointer (some ⟨g, off + i * 4, none⟩)), (.pointer (some ⟨g, off + i * 4 + 3, none⟩)), (.string d), (.int .i64 (d.size : Int)), (.pointer (some ⟨sp, 1, none⟩)), (.string T), (.int .i64 (T.size : Int)), (.bool false), (.bool false), undef, undef, undef, undef, undef, undef, undef, undef, undef, undef, undef, undef, (Value.bool false), u117, u118, u119, u120, u121, u122, u123, u124, u125, u126, u127, u128, u129, u130, u131, u132, u133, u134, u135, u136, u137, u138, u139, u140, u141, u142, u143, u144, u145, u146, u147, u148, u149, u150, u151, u152, u153, u154, u155, u156, u157, u158, u159, u160, u161, u162], []⟩ ∧ w' = w.drew) ⟨#[u0, u1, u2, u3, (.slice (some ⟨g, off, none⟩) n c), u5, (.pointer (some ⟨sp, 0, none⟩)), u7, u8, u9, u10, u11, u12, (.int .i64 (i : Nat)), u14, u15, u16, u17, u18, u19, u20, u21, u22, u23, u24, u25, u26, u27, u28, u29, u30, u31, u32, u33, u34, u35, u36, u37, u38, u39, u40, u41, u42, u43, u44, u45, u46, u47, u48, u49, u50, u51, u52, u53, u54, u55, u56, u57, u58, u59, u60, u61, u62, u63, u64, u65, u66, u67, u68, u69, u70, u71, u72, u73, u74, u75, u76, u77, u78, u79, u80, u81, u82, u83, u84, u85, u86, u87, u88, u89, u90, u91, u92, u93, u94, u95, u96, u97, u98, u99, u100, u101, u102, u103, u104, u105, u106, u107, u108, u109, u110, u111, u112, u113, u114, u115, u116, u117, u118, u119, u120, u121, u122, u123, u124, u125, u126, u127, u128, u129, u130, u131, u132, u133, u134, u135, u136, u137, u138, u139, u140, u141, u142, u143, u144, u145, u146, u147, u148, u149, u150, u151, u152, u153, u154, u155, u156, u157, u158, u159, u160, u161, u162], []⟩ w := by
  subst hops
  have hNS : Region.noSelect (Rg.opsOf Tryz.f3 27) = true := by kernel_rfl
  refine wp_region_held_drew (S := fun V => V.cell? ⟨g, off + i * 4 + 3, none⟩ = some (.string d) ∧ V.cell? ⟨sp, 1, none⟩ = some (.string T)) (by kernel_rfl) ⟨by go_simp, by go_simp⟩ (fun hHeld => ?_)
  rw [show (Rg.opsOf Tryz.f3 27).size = 24 by kernel_rfl]
  refine Rg.take (ops := (Rg.opsOf Tryz.f3 27)) 0 (some 93) ((.slice (some ⟨g, off, none⟩) n c)) hNS (by kernel_rfl) (by kernel_rfl) (by kernel_rfl) (by kernel_rfl) (by kernel_rfl) hHeld (Rg.y_move (x := (Operand.tmp 4)) (Or.inl (by kernel_rfl)) (by kernel_rfl)) ?_
  refine Rg.take (ops := (Rg.opsOf Tryz.f3 27)) 1 (some 94) ((.int .i64 (i : Nat))) hNS (by kernel_rfl) (by kernel_rfl) (by kernel_rfl) (by kernel_rfl) (by kernel_rfl) hHeld (Rg.y_move (x := (Operand.tmp 13)) (Or.inl (by kernel_rfl)) (by kernel_rfl)) ?_
  refine Rg.take (ops := (Rg.opsOf Tryz.f3 27)) 2 (some 95) ((.pointer (some ⟨g, off + i * 4, none⟩))) hNS (by kernel_rfl) (by kernel_rfl) (by kernel_rfl) (by kernel_rfl) (by kernel_rfl) hHeld (Rg.y_at (T := 27) (x := (Operand.tmp 93)) (y := (Operand.tmp 94)) (vx := (.slice (some ⟨g, off, none⟩) n c)) (vy := (.int .i64 (i : Nat))) (by kernel_rfl) (by kernel_rfl) (by kernel_rfl) ?_) ?_
  · (intro w hSw; have h1 := hSw.1; have h2 := hSw.2; have h3 := hin; go_simp)
  refine Rg.take (ops := (Rg.opsOf Tryz.f3 27)) 3 (some 96) ((.pointer (some ⟨g, off + i * 4 + 3, none⟩))) hNS (by kernel_rfl) (by kernel_rfl) (by kernel_rfl) (by kernel_rfl) (by kernel_rfl) hHeld (Rg.y_field (T := 40) (k := 3) (x := (Operand.tmp 95)) (vx := (.pointer (some ⟨g, off + i * 4, none⟩))) (by kernel_rfl) (by kernel_rfl) ?_) ?_
  · (intro w hSw; have h1 := hSw.1; have h2 := hSw.2; have h3 := hin; go_simp)
  refine Rg.take (ops := (Rg.opsOf Tryz.f3 27)) 4 (some 97) ((.string d)) hNS (by kernel_rfl) (by kernel_rfl) (by kernel_rfl) (by kernel_rfl) (by kernel_rfl) hHeld (Rg.y_load (T := 9) (x := (Operand.tmp 96)) (vx := (.pointer (some ⟨g, off + i * 4 + 3, none⟩))) (by kernel_rfl) (by kernel_rfl) ?_) ?_
  · (intro w hSw; have h1 := hSw.1; have h2 := hSw.2; have h3 := hin; go_simp)
  refine Rg.take (ops := (Rg.opsOf Tryz.f3 27)) 5 (some 98) ((.int .i64 (d.size : Int))) hNS (by kernel_rfl) (by kernel_rfl) (by kernel_rfl) (by kernel_rfl) (by kernel_rfl) hHeld (Rg.y_len (x := (Operand.tmp 97)) (ats := #[9]) (vx := (.string d)) (n := d.size) (by kernel_rfl) (by kernel_rfl) ?_) ?_
  · (intro ty w hSw; go_simp)
  refine Rg.take (ops := (Rg.opsOf Tryz.f3 27)) 6 (some 99) ((.pointer (some ⟨sp, 1, none⟩))) hNS (by kernel_rfl) (by kernel_rfl) (by kernel_rfl) (by kernel_rfl) (by kernel_rfl) hHeld (Rg.y_field (T := 29) (k := 1) (x := (Operand.tmp 6)) (vx := (.pointer (some ⟨sp, 0, none⟩))) (by kernel_rfl) (by kernel_rfl) ?_) ?_
  · (intro w hSw; have h1 := hSw.1; have h2 := hSw.2; have h3 := hin; go_simp)
  refine Rg.take (ops := (Rg.opsOf Tryz.f3 27)) 7 (some 100) ((.string T)) hNS (by kernel_rfl) (by kernel_rfl) (by kernel_rfl) (by kernel_rfl) (by kernel_rfl) hHeld (Rg.y_load (T := 9) (x := (Operand.tmp 99)) (vx := (.pointer (some ⟨sp, 1, none⟩))) (by kernel_rfl) (by kernel_rfl) ?_) ?_
  · (intro w hSw; have h1 := hSw.1; have h2 := hSw.2; have h3 := hin; go_simp)
  refine Rg.take (ops := (Rg.opsOf Tryz.f3 27)) 8 (some 101) ((.int .i64 (T.size : Int))) hNS (by kernel_rfl) (by kernel_rfl) (by kernel_rfl) (by kernel_rfl) (by kernel_rfl) hHeld (Rg.y_len (x := (Operand.tmp 100)) (ats := #[9]) (vx := (.string T)) (n := T.size) (by kernel_rfl) (by kernel_rfl) ?_) ?_
  · (intro ty w hSw; go_simp)
  refine Rg.take (ops := (Rg.opsOf Tryz.f3 27)) 9 (some 102) ((.bool false)) hNS (by kernel_rfl) (by kernel_rfl) (by kernel_rfl) (by kernel_rfl) (by kernel_rfl) hHeld (Rg.y_bin (b := BinOp.geq) (T := 3) (R' := 3) (x := (Operand.tmp 98)) (y := (Operand.tmp 101)) (vx := (.int .i64 (d.size : Int))) (vy := (.int .i64 (T.size : Int))) (by kernel_rfl) (by kernel_rfl) (by kernel_rfl) ?_) ?_
  · (intro w hSw; have h1 := hsz; (go_simp <;> omega))
  refine Rg.take (ops := (Rg.opsOf Tryz.f3 27)) 10 (some 103) ((.bool false)) hNS (by kernel_rfl) (by kernel_rfl) (by kernel_rfl) (by kernel_rfl) (by kernel_rfl) hHeld (Rg.y_move (x := (Operand.tmp 102)) (Or.inl (by kernel_rfl)) (by kernel_rfl)) ?_
  refine Rg.skip (ops := (Rg.opsOf Tryz.f3 27)) 11 (some 104) hNS (by kernel_rfl) (by kernel_rfl) (by kernel_rfl) (by kernel_rfl) (by kernel_rfl) hHeld ?_
  refine Rg.skip (ops := (Rg.opsOf Tryz.f3 27)) 12 (some 105) hNS (by kernel_rfl) (by kernel_rfl) (by kernel_rfl) (by kernel_rfl) (by kernel_rfl) hHeld ?_
  refine Rg.skip (ops := (Rg.opsOf Tryz.f3 27)) 13 (some 106) hNS (by kernel_rfl) (by kernel_rfl) (by kernel_rfl) (by kernel_rfl) (by kernel_rfl) hHeld ?_
  refine Rg.skip (ops := (Rg.opsOf Tryz.f3 27)) 14 (some 107) hNS (by kernel_rfl) (by kernel_rfl) (by kernel_rfl) (by kernel_rfl) (by kernel_rfl) hHeld ?_
  refine Rg.skip (ops := (Rg.opsOf Tryz.f3 27)) 15 (some 108) hNS (by kernel_rfl) (by kernel_rfl) (by kernel_rfl) (by kernel_rfl) (by kernel_rfl) hHeld ?_
  refine Rg.skip (ops := (Rg.opsOf Tryz.f3 27)) 16 (some 109) hNS (by kernel_rfl) (by kernel_rfl) (by kernel_rfl) (by kernel_rfl) (by kernel_rfl) hHeld ?_
  refine Rg.skip (ops := (Rg.opsOf Tryz.f3 27)) 17 (some 110) hNS (by kernel_rfl) (by kernel_rfl) (by kernel_rfl) (by kernel_rfl) (by kernel_rfl) hHeld ?_
  refine Rg.skip (ops := (Rg.opsOf Tryz.f3 27)) 18 (some 111) hNS (by kernel_rfl) (by kernel_rfl) (by kernel_rfl) (by kernel_rfl) (by kernel_rfl) hHeld ?_
  refine Rg.skip (ops := (Rg.opsOf Tryz.f3 27)) 19 (some 112) hNS (by kernel_rfl) (by kernel_rfl) (by kernel_rfl) (by kernel_rfl) (by kernel_rfl) hHeld ?_
  refine Rg.skip (ops := (Rg.opsOf Tryz.f3 27)) 20 (some 113) hNS (by kernel_rfl) (by kernel_rfl) (by kernel_rfl) (by kernel_rfl) (by kernel_rfl) hHeld ?_
  refine Rg.skip (ops := (Rg.opsOf Tryz.f3 27)) 21 (some 114) hNS (by kernel_rfl) (by kernel_rfl) (by kernel_rfl) (by kernel_rfl) (by kernel_rfl) hHeld ?_
  refine Rg.skip (ops := (Rg.opsOf Tryz.f3 27)) 22 (some 115) hNS (by kernel_rfl) (by kernel_rfl) (by kernel_rfl) (by kernel_rfl) (by kernel_rfl) hHeld ?_
  refine Rg.take (ops := (Rg.opsOf Tryz.f3 27)) 23 (some 116) ((Value.bool false)) hNS (by kernel_rfl) (by kernel_rfl) (by kernel_rfl) (by kernel_rfl) (by kernel_rfl) hHeld (Rg.y_pick (c := (Operand.tmp 103)) (x := (Operand.tmp 115)) (y := (Operand.const (Value.bool false))) (b := false) (by kernel_rfl) (by kernel_rfl) (by kernel_rfl)) ?_
  refine Rg.done (ops := (Rg.opsOf Tryz.f3 27)) (by kernel_rfl) ?_
  exact ⟨by kernel_rfl, rfl⟩
set_option maxRecDepth 100000 in
set_option maxHeartbeats 4000000 in
theorem regLong (ops : Array Oper) (hops : ops = (Rg.opsOf Tryz.f3 27)) (id : Nat) (g off sp n c i : Nat) (B : Bool) (d T : ByteArray) {u0 u1 u2 u3 u5 u7 u8 u9 u10 u11 u12 u14 u15 u16 u17 u18 u19 u20 u21 u22 u23 u24 u25 u26 u27 u28 u29 u30 u31 u32 u33 u34 u35 u36 u37 u38 u39 u40 u41 u42 u43 u44 u45 u46 u47 u48 u49 u50 u51 u52 u53 u54 u55 u56 u57 u58 u59 u60 u61 u62 u63 u64 u65 u66 u67 u68 u69 u70 u71 u72 u73 u74 u75 u76 u77 u78 u79 u80 u81 u82 u83 u84 u85 u86 u87 u88 u89 u90 u91 u92 u93 u94 u95 u96 u97 u98 u99 u100 u101 u102 u103 u104 u105 u106 u107 u108 u109 u110 u111 u112 u113 u114 u115 u116 u117 u118 u119 u120 u121 u122 u123 u124 u125 u126 u127 u128 u129 u130 u131 u132 u133 u134 u135 u136 u137 u138 u139 u140 u141 u142 u143 u144 u145 u146 u147 u148 u149 u150 u151 u152 u153 u154 u155 u156 u157 u158 u159 u160 u161 u162 : Value} (w : World) (hin : (i : Int) < (n : Int)) (hsz : (T.size : Int) ≤ (d.size : Int)) (hq : ((d.extract 0 T.size).toList == T.toList) = B)
    (g3 : w.cell? ⟨g, off + i * 4 + 3, none⟩ = some (.string d)) (gt : w.cell? ⟨sp, 1, none⟩ = some (.string T)) :
    (Code.region id ops true).wp Tryz.prog (Rg.Only fun a' w' => a' = ⟨#[u0, u1, u2, u3, (.slice (some ⟨g, off, none⟩) n c), u5, (.pointer (some ⟨sp, 0, none⟩)), u7, u8, u9, u10, u11, u12, (.int .i64 (i : Nat)), u14, u15, u16, u17, u18, u19, u20, u21, u22, u23, u24, u25, u26, u27, u28, u29, u30, u31, u32, u33, u34, u35, u36, u37, u38, u39, u40, u41, u42, u43, u44, u45, u46, u47, u48, u49, u50, u51, u52, u53, u54, u55, u56, u57, u58, u59, u60, u61, u62, u63, u64, u65, u66, u67, u68, u69, u70, u71, u72, u73, u74, u75, u76, u77, u78, u79, u80, u81, u82, u83, u84, u85, u86, u87, u88, u89, u90, u91, u92, (.slice (some ⟨g, off, none⟩) n c), (.int .i64 (i : Nat)), (.pointer (some ⟨g, off + i * 4, none⟩)), (.pointer (some ⟨g, off + i * 4 + 3, none⟩)), (.string d), (.int .i64 (d.size : Int)), (.pointer (some ⟨sp, 1, none⟩)), (.string T), (.int .i64 (T.size : Int)), (.bool true), (.bool true), (.slice (some ⟨g, off, none⟩) n c), (.int .i64 (i : Nat)), (.pointer (some ⟨g, off + i * 4, none⟩)), (.pointer (some ⟨g, off + i * 4 + 3, none⟩)), (.string d), (.pointer (some ⟨sp, 1, none⟩)), (.string T), (.int .i64 (T.size : Int)), (.string (d.extract 0 T.size)), (.pointer (some ⟨sp, 1, none⟩)), (.string T), (.bool B), (.bool B), u117, u118, u119, u120, u121, u122, u123, u124, u125, u126, u127, u128, u129, u130, u131, u132, u133, u134, u135, u136, u137, u138, u139, u140, u141, u142, u143, u144, u145, u146, u147, u148, u149, u150, u151, u152, u153, u154, u155, u156, u157, u158, u159, u160, u161, u162], []⟩ ∧ w' = w.drew) ⟨#[u0, u1, u2, u3, (.slice (some ⟨g, off, none⟩) n c), u5, (.pointer (some ⟨sp, 0, none⟩)), u7, u8, u9, u10, u11, u12, (.int .i64 (i : Nat)), u14, u15, u16, u17, u18, u19, u20, u21, u22, u23, u24, u25, u26, u27, u28, u29, u30, u31, u32, u33, u34, u35, u36, u37, u38, u39, u40, u41, u42, u43, u44, u45, u46, u47, u48, u49, u50, u51, u52, u53, u54, u55, u56, u57, u58, u59, u60, u61, u62, u63, u64, u65, u66, u67, u68, u69, u70, u71, u72, u73, u74, u75, u76, u77, u78, u79, u80, u81, u82, u83, u84, u85, u86, u87, u88, u89, u90, u91, u92, u93, u94, u95, u96, u97, u98, u99, u100, u101, u102, u103, u104, u105, u106, u107, u108, u109, u110, u111, u112, u113, u114, u115, u116, u117, u118, u119, u120, u121, u122, u123, u124, u125, u126, u127, u128, u129, u130, u131, u132, u133, u134, u135, u136, u137, u138, u139, u140, u141, u142, u143, u144, u145, u146, u147, u148, u149, u150, u151, u152, u153, u154, u155, u156, u157, u158, u159, u160, u161, u162], []⟩ w := by
  subst hops
  have hNS : Region.noSelect (Rg.opsOf Tryz.f3 27) = true := by kernel_rfl
  refine wp_region_held_drew (S := fun V => V.cell? ⟨g, off + i * 4 + 3, none⟩ = some (.string d) ∧ V.cell? ⟨sp, 1, none⟩ = some (.string T)) (by kernel_rfl) ⟨by go_simp, by go_simp⟩ (fun hHeld => ?_)
  rw [show (Rg.opsOf Tryz.f3 27).size = 24 by kernel_rfl]
  refine Rg.take (ops := (Rg.opsOf Tryz.f3 27)) 0 (some 93) ((.slice (some ⟨g, off, none⟩) n c)) hNS (by kernel_rfl) (by kernel_rfl) (by kernel_rfl) (by kernel_rfl) (by kernel_rfl) hHeld (Rg.y_move (x := (Operand.tmp 4)) (Or.inl (by kernel_rfl)) (by kernel_rfl)) ?_
  refine Rg.take (ops := (Rg.opsOf Tryz.f3 27)) 1 (some 94) ((.int .i64 (i : Nat))) hNS (by kernel_rfl) (by kernel_rfl) (by kernel_rfl) (by kernel_rfl) (by kernel_rfl) hHeld (Rg.y_move (x := (Operand.tmp 13)) (Or.inl (by kernel_rfl)) (by kernel_rfl)) ?_
  refine Rg.take (ops := (Rg.opsOf Tryz.f3 27)) 2 (some 95) ((.pointer (some ⟨g, off + i * 4, none⟩))) hNS (by kernel_rfl) (by kernel_rfl) (by kernel_rfl) (by kernel_rfl) (by kernel_rfl) hHeld (Rg.y_at (T := 27) (x := (Operand.tmp 93)) (y := (Operand.tmp 94)) (vx := (.slice (some ⟨g, off, none⟩) n c)) (vy := (.int .i64 (i : Nat))) (by kernel_rfl) (by kernel_rfl) (by kernel_rfl) ?_) ?_
  · (intro w hSw; have h1 := hSw.1; have h2 := hSw.2; have h3 := hin; go_simp)
  refine Rg.take (ops := (Rg.opsOf Tryz.f3 27)) 3 (some 96) ((.pointer (some ⟨g, off + i * 4 + 3, none⟩))) hNS (by kernel_rfl) (by kernel_rfl) (by kernel_rfl) (by kernel_rfl) (by kernel_rfl) hHeld (Rg.y_field (T := 40) (k := 3) (x := (Operand.tmp 95)) (vx := (.pointer (some ⟨g, off + i * 4, none⟩))) (by kernel_rfl) (by kernel_rfl) ?_) ?_
  · (intro w hSw; have h1 := hSw.1; have h2 := hSw.2; have h3 := hin; go_simp)
  refine Rg.take (ops := (Rg.opsOf Tryz.f3 27)) 4 (some 97) ((.string d)) hNS (by kernel_rfl) (by kernel_rfl) (by kernel_rfl) (by kernel_rfl) (by kernel_rfl) hHeld (Rg.y_load (T := 9) (x := (Operand.tmp 96)) (vx := (.pointer (some ⟨g, off + i * 4 + 3, none⟩))) (by kernel_rfl) (by kernel_rfl) ?_) ?_
  · (intro w hSw; have h1 := hSw.1; have h2 := hSw.2; have h3 := hin; go_simp)
  refine Rg.take (ops := (Rg.opsOf Tryz.f3 27)) 5 (some 98) ((.int .i64 (d.size : Int))) hNS (by kernel_rfl) (by kernel_rfl) (by kernel_rfl) (by kernel_rfl) (by kernel_rfl) hHeld (Rg.y_len (x := (Operand.tmp 97)) (ats := #[9]) (vx := (.string d)) (n := d.size) (by kernel_rfl) (by kernel_rfl) ?_) ?_
  · (intro ty w hSw; go_simp)
  refine Rg.take (ops := (Rg.opsOf Tryz.f3 27)) 6 (some 99) ((.pointer (some ⟨sp, 1, none⟩))) hNS (by kernel_rfl) (by kernel_rfl) (by kernel_rfl) (by kernel_rfl) (by kernel_rfl) hHeld (Rg.y_field (T := 29) (k := 1) (x := (Operand.tmp 6)) (vx := (.pointer (some ⟨sp, 0, none⟩))) (by kernel_rfl) (by kernel_rfl) ?_) ?_
  · (intro w hSw; have h1 := hSw.1; have h2 := hSw.2; have h3 := hin; go_simp)
  refine Rg.take (ops := (Rg.opsOf Tryz.f3 27)) 7 (some 100) ((.string T)) hNS (by kernel_rfl) (by kernel_rfl) (by kernel_rfl) (by kernel_rfl) (by kernel_rfl) hHeld (Rg.y_load (T := 9) (x := (Operand.tmp 99)) (vx := (.pointer (some ⟨sp, 1, none⟩))) (by kernel_rfl) (by kernel_rfl) ?_) ?_
  · (intro w hSw; have h1 := hSw.1; have h2 := hSw.2; have h3 := hin; go_simp)
  refine Rg.take (ops := (Rg.opsOf Tryz.f3 27)) 8 (some 101) ((.int .i64 (T.size : Int))) hNS (by kernel_rfl) (by kernel_rfl) (by kernel_rfl) (by kernel_rfl) (by kernel_rfl) hHeld (Rg.y_len (x := (Operand.tmp 100)) (ats := #[9]) (vx := (.string T)) (n := T.size) (by kernel_rfl) (by kernel_rfl) ?_) ?_
  · (intro ty w hSw; go_simp)
  refine Rg.take (ops := (Rg.opsOf Tryz.f3 27)) 9 (some 102) ((.bool true)) hNS (by kernel_rfl) (by kernel_rfl) (by kernel_rfl) (by kernel_rfl) (by kernel_rfl) hHeld (Rg.y_bin (b := BinOp.geq) (T := 3) (R' := 3) (x := (Operand.tmp 98)) (y := (Operand.tmp 101)) (vx := (.int .i64 (d.size : Int))) (vy := (.int .i64 (T.size : Int))) (by kernel_rfl) (by kernel_rfl) (by kernel_rfl) ?_) ?_
  · (intro w hSw; have h1 := hsz; (go_simp <;> omega))
  refine Rg.take (ops := (Rg.opsOf Tryz.f3 27)) 10 (some 103) ((.bool true)) hNS (by kernel_rfl) (by kernel_rfl) (by kernel_rfl) (by kernel_rfl) (by kernel_rfl) hHeld (Rg.y_move (x := (Operand.tmp 102)) (Or.inl (by kernel_rfl)) (by kernel_rfl)) ?_
  refine Rg.take (ops := (Rg.opsOf Tryz.f3 27)) 11 (some 104) ((.slice (some ⟨g, off, none⟩) n c)) hNS (by kernel_rfl) (by kernel_rfl) (by kernel_rfl) (by kernel_rfl) (by kernel_rfl) hHeld (Rg.y_move (x := (Operand.tmp 4)) (Or.inl (by kernel_rfl)) (by kernel_rfl)) ?_
  refine Rg.take (ops := (Rg.opsOf Tryz.f3 27)) 12 (some 105) ((.int .i64 (i : Nat))) hNS (by kernel_rfl) (by kernel_rfl) (by kernel_rfl) (by kernel_rfl) (by kernel_rfl) hHeld (Rg.y_move (x := (Operand.tmp 13)) (Or.inl (by kernel_rfl)) (by kernel_rfl)) ?_
  refine Rg.take (ops := (Rg.opsOf Tryz.f3 27)) 13 (some 106) ((.pointer (some ⟨g, off + i * 4, none⟩))) hNS (by kernel_rfl) (by kernel_rfl) (by kernel_rfl) (by kernel_rfl) (by kernel_rfl) hHeld (Rg.y_at (T := 27) (x := (Operand.tmp 104)) (y := (Operand.tmp 105)) (vx := (.slice (some ⟨g, off, none⟩) n c)) (vy := (.int .i64 (i : Nat))) (by kernel_rfl) (by kernel_rfl) (by kernel_rfl) ?_) ?_
  · (intro w hSw; have h1 := hSw.1; have h2 := hSw.2; have h3 := hin; go_simp)
  refine Rg.take (ops := (Rg.opsOf Tryz.f3 27)) 14 (some 107) ((.pointer (some ⟨g, off + i * 4 + 3, none⟩))) hNS (by kernel_rfl) (by kernel_rfl) (by kernel_rfl) (by kernel_rfl) (by kernel_rfl) hHeld (Rg.y_field (T := 40) (k := 3) (x := (Operand.tmp 106)) (vx := (.pointer (some ⟨g, off + i * 4, none⟩))) (by kernel_rfl) (by kernel_rfl) ?_) ?_
  · (intro w hSw; have h1 := hSw.1; have h2 := hSw.2; have h3 := hin; go_simp)
  refine Rg.take (ops := (Rg.opsOf Tryz.f3 27)) 15 (some 108) ((.string d)) hNS (by kernel_rfl) (by kernel_rfl) (by kernel_rfl) (by kernel_rfl) (by kernel_rfl) hHeld (Rg.y_load (T := 9) (x := (Operand.tmp 107)) (vx := (.pointer (some ⟨g, off + i * 4 + 3, none⟩))) (by kernel_rfl) (by kernel_rfl) ?_) ?_
  · (intro w hSw; have h1 := hSw.1; have h2 := hSw.2; have h3 := hin; go_simp)
  refine Rg.take (ops := (Rg.opsOf Tryz.f3 27)) 16 (some 109) ((.pointer (some ⟨sp, 1, none⟩))) hNS (by kernel_rfl) (by kernel_rfl) (by kernel_rfl) (by kernel_rfl) (by kernel_rfl) hHeld (Rg.y_field (T := 29) (k := 1) (x := (Operand.tmp 6)) (vx := (.pointer (some ⟨sp, 0, none⟩))) (by kernel_rfl) (by kernel_rfl) ?_) ?_
  · (intro w hSw; have h1 := hSw.1; have h2 := hSw.2; have h3 := hin; go_simp)
  refine Rg.take (ops := (Rg.opsOf Tryz.f3 27)) 17 (some 110) ((.string T)) hNS (by kernel_rfl) (by kernel_rfl) (by kernel_rfl) (by kernel_rfl) (by kernel_rfl) hHeld (Rg.y_load (T := 9) (x := (Operand.tmp 109)) (vx := (.pointer (some ⟨sp, 1, none⟩))) (by kernel_rfl) (by kernel_rfl) ?_) ?_
  · (intro w hSw; have h1 := hSw.1; have h2 := hSw.2; have h3 := hin; go_simp)
  refine Rg.take (ops := (Rg.opsOf Tryz.f3 27)) 18 (some 111) ((.int .i64 (T.size : Int))) hNS (by kernel_rfl) (by kernel_rfl) (by kernel_rfl) (by kernel_rfl) (by kernel_rfl) hHeld (Rg.y_len (x := (Operand.tmp 110)) (ats := #[9]) (vx := (.string T)) (n := T.size) (by kernel_rfl) (by kernel_rfl) ?_) ?_
  · (intro ty w hSw; go_simp)
  refine Rg.take (ops := (Rg.opsOf Tryz.f3 27)) 19 (some 112) ((.string (d.extract 0 T.size))) hNS (by kernel_rfl) (by kernel_rfl) (by kernel_rfl) (by kernel_rfl) (by kernel_rfl) hHeld (Rg.y_slice (T := 9) (x := (Operand.tmp 108)) (h := (Operand.tmp 111)) (vx := (.string d)) (vh := (.int .i64 (T.size : Int))) (by kernel_rfl) (by kernel_rfl) (by kernel_rfl) ?_) ?_
  · (intro w hSw; have h1 := hsz; (go_simp <;> omega))
  refine Rg.take (ops := (Rg.opsOf Tryz.f3 27)) 20 (some 113) ((.pointer (some ⟨sp, 1, none⟩))) hNS (by kernel_rfl) (by kernel_rfl) (by kernel_rfl) (by kernel_rfl) (by kernel_rfl) hHeld (Rg.y_field (T := 29) (k := 1) (x := (Operand.tmp 6)) (vx := (.pointer (some ⟨sp, 0, none⟩))) (by kernel_rfl) (by kernel_rfl) ?_) ?_
  · (intro w hSw; have h1 := hSw.1; have h2 := hSw.2; have h3 := hin; go_simp)
  refine Rg.take (ops := (Rg.opsOf Tryz.f3 27)) 21 (some 114) ((.string T)) hNS (by kernel_rfl) (by kernel_rfl) (by kernel_rfl) (by kernel_rfl) (by kernel_rfl) hHeld (Rg.y_load (T := 9) (x := (Operand.tmp 113)) (vx := (.pointer (some ⟨sp, 1, none⟩))) (by kernel_rfl) (by kernel_rfl) ?_) ?_
  · (intro w hSw; have h1 := hSw.1; have h2 := hSw.2; have h3 := hin; go_simp)
  refine Rg.take (ops := (Rg.opsOf Tryz.f3 27)) 22 (some 115) ((.bool B)) hNS (by kernel_rfl) (by kernel_rfl) (by kernel_rfl) (by kernel_rfl) (by kernel_rfl) hHeld (Rg.y_bin (b := BinOp.eql) (T := 9) (R' := 9) (x := (Operand.tmp 112)) (y := (Operand.tmp 114)) (vx := (.string (d.extract 0 T.size))) (vy := (.string T)) (by kernel_rfl) (by kernel_rfl) (by kernel_rfl) ?_) ?_
  · (intro w hSw; have h1 := hq; go_simp)
  refine Rg.take (ops := (Rg.opsOf Tryz.f3 27)) 23 (some 116) ((.bool B)) hNS (by kernel_rfl) (by kernel_rfl) (by kernel_rfl) (by kernel_rfl) (by kernel_rfl) hHeld (Rg.y_pick (c := (Operand.tmp 103)) (x := (Operand.tmp 115)) (y := (Operand.const (Value.bool false))) (b := true) (by kernel_rfl) (by kernel_rfl) (by kernel_rfl)) ?_
  refine Rg.done (ops := (Rg.opsOf Tryz.f3 27)) (by kernel_rfl) ?_
  exact ⟨by kernel_rfl, rfl⟩
end Go.Proofs.YthejpojmmokinaaGreatDoor.Bl

namespace Go.Proofs.YthejpojmmokinaaGreatDoor.Bl
open Go.RowKit Tx Pm Dk Wm Wr Wl Pl Tb
set_option linter.unusedVariables false
set_option linter.unusedSimpArgs false
set_option linter.unnecessarySimpa false
def hasP (T d : ByteArray) : Bool := decide (T.size ≤ d.size) && ((d.extract 0 T.size).toList == T.toList)
def heldL (C : List On) (T : ByteArray) : List ByteArray := (C.filter (fun x => hasP T x.data)).map keyO
theorem heldL_succ {C : List On} {T : ByteArray} {i : Nat} {y : On} (h : C[i]? = some y) : heldL (C.take (i + 1)) T = heldL (C.take i) T ++ (if hasP T y.data = true then [keyO y] else []) := by
  unfold heldL
  rw [take_snoc h, List.filter_append, List.map_append]
  congr 1
  by_cases hp : hasP T y.data = true <;> simp [hp]
theorem heldL_mem {C : List On} {T p : ByteArray} (h : p ∈ heldL C T) : ∃ y ∈ C, keyO y = p := by
  obtain ⟨y, hy, e⟩ := List.mem_map.1 h
  exact ⟨y, (List.mem_filter.1 hy).1, e⟩
theorem cnt_keys : ∀ {C : List On}, C.Pairwise (fun x y => keyO x ≠ keyO y) → ∀ p, cnt (C.map keyO) p ≤ 1
  | [], _, p => Nat.zero_le _
  | y :: C, h, p => by
    obtain ⟨h1, h2⟩ := List.pairwise_cons.1 h
    rw [List.map_cons, cnt_cons]
    have ih := cnt_keys h2 p
    by_cases hp : keyO y = p
    · rw [if_pos hp]
      have : cnt (C.map keyO) p = 0 := by
        refine Nat.eq_zero_of_not_pos (fun h0 => ?_)
        obtain ⟨z, hz, e⟩ := List.mem_map.1 (cnt_pos.1 h0)
        exact h1 z hz (hp.trans e.symm)
      omega
    · rw [if_neg hp]; omega
theorem sw_good {C : List On} {T : ByteArray} {M M' : Nat} (hg : Good8 C M) (hs : Good8 (swC C (heldL C T)) M') (hM : 1 ≤ M) : Good8 (swC C (heldL C T)) M := by
  refine ⟨hs.keys, hs.datas, fun x hx => ?_, ?_⟩
  · obtain ⟨h1, h2, h3, h4, h5⟩ := hs.each x hx
    obtain ⟨y, hy, e⟩ := List.mem_filterMap.1 hx
    have hn := (hg.each y hy).2.2.2.1
    have hc : cnt (heldL C T) (keyO y) ≤ 1 := cnt_keys (hg.keys.filter _) _
    by_cases h0 : cnt (heldL C T) (keyO y) = 0
    · rw [if_pos h0] at e; cases e
    · rw [if_neg h0] at e
      injection e with e
      subst e
      refine ⟨h1, h2, ?_, hn, h5⟩
      show cnt (heldL C T) (keyO y) ≤ M
      omega
  · have h1 : (swC C (heldL C T)).length ≤ C.length := List.length_filterMap_le _ _
    have := hg.len
    omega
theorem at8_zz (C : List On) : at8 C zzK = none := List.find?_eq_none.2 (fun y hy => by
  have h1 := keyO_beg y
  intro h
  rw [of_decide_eq_true h, zz_not] at h1
  cases h1)
theorem rel_zz (C : List On) : relC C zzK = (C, false) := by unfold relC; rw [at8_zz]
theorem keyL_size {C : List On} {M : Nat} (hg : Good8 C M) (hM : M ≤ 100000000) {s : ByteArray} (hs : s.size ≤ 140737488351232) : (keyL C s).size ≤ 140737488351232 := by
  unfold keyL
  cases ho : of8 C s with
  | none => exact hs
  | some x =>
    have := keyO_size hg hM (of8_some ho).1
    show (keyO x).size ≤ _
    omega
theorem steps_nth {w : World} {a : Option Addr} {n : Nat} {l : List Bp.Sp} (h : Bp.Script w a n l) {k : Nat} {x : Bp.Sp} (hx : l[k]? = some x) : ∃ b off, a = some ⟨b, off, none⟩ ∧ b < w.heap.size ∧ w.cell? ⟨b, off + k * 2, none⟩ = some (.int .i64 x.k) ∧ w.cell? ⟨b, off + k * 2 + 1, none⟩ = some (.string x.t) := by
  have hk := (List.getElem?_eq_some_iff.1 hx).1
  rcases h.2 with h0 | ⟨b, off, ha, hlt, hc⟩
  · rw [h.1] at hk; omega
  · exact ⟨b, off, ha, hlt, hc k x hx⟩
end Go.Proofs.YthejpojmmokinaaGreatDoor.Bl

namespace Go.Proofs.YthejpojmmokinaaGreatDoor.blobPlays
open Go.ChangeMaps (open_string shut_string)
open Go.ChangeShapes Go.WideShapes Go.ChangeAt Go.RowKit Tx Pm Dk Tb Wl Bl
set_option linter.unusedVariables false
set_option linter.unusedSimpArgs false
set_option linter.unnecessarySimpa false
set_option maxRecDepth 100000 in
set_option maxHeartbeats 40000000 in
theorem walk (A : Option Addr) (n c : Nat) (l : List Bp.Sp) (w : World) (hS : Bp.Script w A n l) (hKs : ∀ e ∈ l, Bp.int64 e.k) (hW : Bp.WideS l) (hc : n ≤ c) (ht : Tab w) :
    Calls Tryz.prog 3 #[.slice A n c] w fun e w' => e = .returned (.bool true) ∧ Below w.heap.size w w' := by
  obtain ⟨i0, hI, hz0, hz1, hz2⟩ := info_parts Tx.info9
  have HL := Lib.hid hS
  have HLN := Lib.hid hS.1
  have HW := Lib.hid hW
  have HK := Lib.hid hKs
  have HT := Lib.hid ht
  clear hS hW ht hKs
  go_enter Tryz.func3, Tryz.ntmps3
  go_wp2_with fail
  go_at_call 8
  refine (made_any8 w w (Below.refl _ _)).mono ?_
  rintro e w1 ⟨b, j, t, m, u, F, rfl, hb1, hF, o1⟩
  have HF := Lib.hid hF
  clear hF
  go_wp2_with fail
  go_at_call 9
  refine (awake_any8 w1 w1 (Below.refl _ _) (HT.out.below hb1)).mono ?_
  rintro e w2 ⟨rfl, hb2⟩
  have o1b := o1.below hb2
  have co := put_other (key := zzK) (val := otV) o1b (by omega) zz_not (by decide)
  unfold zzK otV at co
  clear o1 hb2
  go_wp2_with fail
  go_at_call 10
  refine (co).mono ?_
  rintro e w2a ⟨rfl, o1c⟩
  clear co o1b
  have o2 := Bl.first o1c HF.out hb1.size (hb1.trans (o1c.chg.below hb1.size HF.out))
  have o3 := o2.mono (M' := 0 + 1) (N' := 0 * 200 + 1) (by omega) (by omega)
  clear o1c o2
  go_wp2_with fail
  go_loopw [4, 5] (fun v iv wr => ∃ (i : Nat) (C : List On) (V : Nat), i ≤ n ∧ i ≤ 120 ∧ iv = .int .i64 i ∧ Bl b j t m u x0 Zz w C C (i + 1) (i * 200 + 1) V v wr) (fun _ iv _ => n - (intOf iv).toNat)
  case atStart => exact ⟨0, [], _, Nat.zero_le _, Nat.zero_le _, rfl, o3⟩
  case round =>
    clear o3
    obtain ⟨i, C, V, hi, hi2, rfl, o⟩ := hrel
    by_cases hlt : i < n
    · by_cases hlt2 : i < 120
      · obtain ⟨x, hx⟩ : ∃ x, l[i]? = some x := ⟨_, List.getElem?_eq_getElem (by have := HLN.out; omega)⟩
        obtain ⟨ba, off, rfl, hba, c1, c2⟩ := steps_nth HL.out hx
        have hts := HW.out x (List.mem_of_getElem? hx)
        have hKi := HK.out x (List.mem_of_getElem? hx)
        have hB := o.bel
        have d1 := (hB.cell (p := ⟨ba, _, none⟩) hba).trans c1
        have d2 := (hB.cell (p := ⟨ba, _, none⟩) hba).trans c2
        obtain ⟨K, T⟩ := x
        simp only at d1 d2 hts hKi
        unfold Bp.int64 at hKi
        have hltz : (i : Int) < (n : Int) := by omega
        have hltz2 : (i : Int) < 120 := by omega
        obtain ⟨aL, cL, rfl, hsl, hcl, _⟩ := OwO.form o.row
        have hg := o.good
        have hkk := keyL_size hg (by omega) hts
        have hbx : Below wr.heap.size wr (wr.alloc (.cells #[.int .i64 K, .string T] 29)) := (Below.refl _ wr).alloc (Nat.le_refl _) _
        have o1 := o.below hbx
        have ck := lkey_any aL C.length cL C T (wr.alloc (.cells #[.int .i64 K, .string T] 29)) (hsl.below hbx) hg (by omega) hcl
        have e0 : (wr.alloc (.cells #[.int .i64 K, .string T] 29)).cell? ⟨wr.heap.size, 0, none⟩ = some (.int .i64 K) := by go_simp
        have e1 : (wr.alloc (.cells #[.int .i64 K, .string T] 29)).cell? ⟨wr.heap.size, 1, none⟩ = some (.string T) := by go_simp
        have hsp1 : wr.heap.size < (wr.alloc (.cells #[.int .i64 K, .string T] 29)).heap.size := by simp
        generalize keyL C T = kk at ck hkk
        clear c1 c2 hx hB hbx hsl hcl o hg
        go_wp2_with fail
        go_at_call 11
        refine ck.mono ?_
        rintro e w2 ⟨rfl, hb2⟩
        have o2 := o1.below hb2
        have f0 := (hb2.cell (p := ⟨wr.heap.size, 0, none⟩) hsp1).trans e0
        have f1 := (hb2.cell (p := ⟨wr.heap.size, 1, none⟩) hsp1).trans e1
        have hsp : wr.heap.size < w2.heap.size := Nat.lt_of_lt_of_le hsp1 hb2.size
        clear o1 e0 e1 ck hsp1 hb2 d1 d2
        go_upto_block 2 with fail
        go_cut [4, 8, 9, 10, 11, 12, 13, 14, 15, 16] from 46 to 163 (fun lv ov _ _ _ _ _ _ _ _ wq => ov = .bool true ∧ ∃ (C2 : List On) (V2 : Nat), Bl b j t m u x0 Zz w C2 C2 (i + 1 + 1) ((i + 1) * 200 + 1) V2 lv wq)
        case first =>
          by_cases hK1 : K = 1
          · as_aux_lemma =>
              subst hK1
              have c8 := put8_any (M := i + 1) (.slice aL C.length cL) w.heap.size C T w2 o2.row o2.good (by omega) hts
              go_wp2_with fail
              go_at_call 12
              refine (c8).mono ?_
              rintro e w3 ⟨v3, rfl, ho3, hb3⟩
              have o3 := o2.ref hb3 (.inl ho3)
              have g1 := (hb3.cell (p := ⟨wr.heap.size, 1, none⟩) hsp).trans f1
              have cp := o3.call (P := fun e => e = .returned (.string (putC C T).2)) HT.out (fun F hT hB => (put_any (d := T) hB xk0 (by omega) (by omega) hts hT).mono (fun e w' hh => ⟨hh.1, _, hh.2⟩))
              generalize (putC C T).1 = C2 at cp
              generalize (putC C T).2 = KX at cp ⊢
              clear c8 o2 o3 ho3 f0 f1
              go_wp2_with fail
              go_at_call 13
              refine (cp).mono ?_
              rintro e w4 ⟨rfl, V4, o4⟩
              have o5 := o4.mono (M' := i + 1 + 1) (N' := (i + 1) * 200 + 1) (by omega) (by omega)
              have hbb : (KX.toList == KX.toList) = true := beq_self_eq_true _
              clear cp o4
              go_wp2_with fail
              go_meet
              exact ⟨rfl, _, _, o5⟩
          have n1 : ((K : Int) == 1) = false := beq_eq_false_iff_ne.2 hK1
          by_cases hK2 : K = 2
          · as_aux_lemma =>
              subst hK2
              have c8 := release8_any (M := i + 1) (.slice aL C.length cL) w.heap.size C kk w2 o2.row o2.good (by omega) o2.bel.size
              go_wp2_with fail
              go_at_call 14
              refine (c8).mono ?_
              rintro e w3 ⟨v3, rfl, ho3, hb3⟩
              have o3 := o2.ref hb3 ho3
              have cp := o3.call (P := fun e => e = .returned (.int .i64 (relE (relC C kk).2))) HT.out (fun F hT hB => (release_any (key := kk) hB (by omega) (by omega) (by omega)).mono (fun e w' hh => ⟨hh.1, _, hh.2⟩))
              generalize (relC C kk).1 = C2 at cp
              generalize (relC C kk).2 = R at cp ⊢
              clear c8 o2 o3 ho3 f0 f1
              cases R
              · simp only [relE, Bool.false_eq_true, if_false, if_true] at cp
                go_wp2_with fail
                go_at_call 15
                refine (cp).mono ?_
                rintro e w4 ⟨rfl, V4, o4⟩
                have o5 := o4.mono (M' := i + 1 + 1) (N' := (i + 1) * 200 + 1) (by omega) (by omega)
                clear cp o4
                go_wp2_with fail
                go_meet
                exact ⟨rfl, _, _, o5⟩
              · simp only [relE, Bool.false_eq_true, if_false, if_true] at cp
                go_wp2_with fail
                go_at_call 15
                refine (cp).mono ?_
                rintro e w4 ⟨rfl, V4, o4⟩
                have o5 := o4.mono (M' := i + 1 + 1) (N' := (i + 1) * 200 + 1) (by omega) (by omega)
                clear cp o4
                go_wp2_with fail
                go_meet
                exact ⟨rfl, _, _, o5⟩
          have n2 : ((K : Int) == 2) = false := beq_eq_false_iff_ne.2 hK2
          by_cases hK4 : K = 4
          · as_aux_lemma =>
              subst hK4
              clear f0
              generalize hspe : wr.heap.size = sp at f1 hsp ⊢
              have HSP := Lib.hid hspe
              clear hspe
              have hsl2 : Osl w2 aL C.length C := by
                obtain ⟨a', c', e', hs', _⟩ := OwO.form o2.row
                injection e' with e'
                subst e'
                exact hs'
              have HSL := Lib.hid (fun V (hV : Below w2.heap.size w2 V) => hsl2.below hV)
              have HO2 := Lib.hid o2
              have HG2 := Lib.hid o2.good
              have hCn : C.length ≤ 121 := by have := o2.good.len; omega
              have HF1 := Lib.hid f1
              clear hsl2 o2 f1
              go_wp2_with fail
              go_loopw [12, 13] (fun hv nv wq => ∃ (q : Nat) (H : List ByteArray), q ≤ C.length ∧ nv = .int .i64 q ∧ Hid (H = heldL (C.take q) T) ∧ H.length ≤ q ∧ wq.ownsRow w2.heap.size 9 1 hv H.length (H.map sv) ∧ Below w2.heap.size w2 wq) (fun _ nv _ => C.length - (intOf nv).toNat)
              case atStart => exact ⟨0, [], Nat.zero_le _, rfl, Lib.hid rfl, Nat.le_refl _, World.ownsRow_nil _ _ _ _, Below.refl _ _⟩
              case round =>
                obtain ⟨q, H, hq, rfl, hH, hHl, hown, hBq⟩ := hrel
                by_cases hql : q < C.length
                · obtain ⟨y, hy⟩ : ∃ y, C[q]? = some y := ⟨_, List.getElem?_eq_getElem hql⟩
                  have hsu := heldL_succ (T := T) hy
                  have HSU := Lib.hid hsu
                  obtain ⟨p1, _, _, p4, _⟩ := HG2.out.each y (List.mem_of_getElem? hy)
                  obtain ⟨g, off, rfl, hgl, g0, g1, g2, g3⟩ := (HSL.out _ hBq).nth hy
                  have hqz : (q : Int) < (C.length : Int) := by omega
                  have gT : wr.cell? ⟨sp, 1, none⟩ = some (.string T) := (hBq.cell (p := ⟨sp, 1, none⟩) hsp).trans HF1.out
                  have ck := fun V => key8_any y V (by rw [p1]; exact lowO_lt _) (by omega)
                  have hHb : H.length + 1 ≤ 1000000 := by omega
                  unfold onS at ck
                  clear hsu hy p1 p4
                  generalize keyO y = KX at ck HSU
                  obtain ⟨low, nn, refs, data⟩ := y
                  simp only at g0 g1 g2 g3 ck HSU
                  have gd : wr.cell? ⟨g, off + q * 4 + 3, none⟩ = some (.string data) := g3
                  by_cases hlen : T.size ≤ data.size
                  · have hlz : (T.size : Int) ≤ (data.size : Int) := by omega
                    by_cases hb : ((data.extract 0 T.size).toList == T.toList) = true
                    · have hp : hasP T data = true := by unfold hasP; rw [hb, decide_eq_true hlen]; rfl
                      rw [hp, if_pos rfl] at HSU
                      have HBQ := Lib.hid hb
                      clear hp hlen hb
                      go_wp2_with fail
                      refine Rg.wp_only ?_ (regLong _ (by kernel_rfl) _ g off sp C.length cL q true data T wr hqz hlz HBQ.out gd gT)
                      rintro _ w9 ⟨rfl, rfl⟩
                      clear gd gT HBQ
                      go_wp2_with fail
                      go_at_call 16
                      refine (ck _).mono ?_
                      rintro e w5 ⟨rfl, hb5⟩
                      have hB5 := Tx.below_call hBq.drew hb5
                      have hown5 := own_belowT hown.drew hb5
                      clear ck g0 g1 g2 g3 hown hb5
                      go_wp2_with (at_builtin; refine wpList_append_own _ rfl _ _ 38 rfl w2.heap.size 9 i0 (.string ⟨#[]⟩) 1 16 Tryz.underlying38 hI hz0 hz1 hz2 rfl (by decide) _ _ _ rfl (hown5.alloc _) ⟨w5.heap.size, 0, none⟩ 1 1 [sv KX] rfl rfl ?c1_2 ?c2_2 ?c3_2 ?c4_2 ?c5_2 ?_)
                      case c1_2 => first | exact cell_one_new _ _ _ | exact fun _ _ h => h
                      case c2_2 => first | exact sv_one [KX] | rfl
                      case c3_2 => unfold maxLen; omega
                      case c4_2 => omega
                      case c5_2 => first | (have := hB5.size; simp; omega) | (have := hB5.size; omega)
                      intro v' w6 hown6 hgrow6 _
                      have hB6 : Below w2.heap.size w2 w6 := (hB5.alloc hB5.size _).grown hgrow6 (by simp; have := hB5.size; omega) (fun p hp => (hown5.lt p hp).1)
                      have hO6 : w6.ownsRow w2.heap.size 9 1 v' (H ++ [KX]).length ((H ++ [KX]).map sv) := by
                        rw [List.map_append, List.length_append]
                        exact hown6
                      clear hown6 hgrow6 hown5 hB5
                      go_wp2_with fail
                      go_roundw
                      case rel => exact ⟨q + 1, H ++ [KX], by omega, by go_num, Lib.hid (by rw [HSU.out, ← hH.out]), by rw [List.length_append]; show H.length + 1 ≤ q + 1; omega, hO6, hB6⟩
                      case measure => simp [intOf]; omega
                    · have hb2 : ((data.extract 0 T.size).toList == T.toList) = false := by simpa using hb
                      have hp : hasP T data = false := by unfold hasP; rw [hb2, Bool.and_false]
                      rw [hp, if_neg (by decide), List.append_nil] at HSU
                      have HBQ := Lib.hid hb2
                      clear hp hlen hb hb2
                      go_wp2_with fail
                      refine Rg.wp_only ?_ (regLong _ (by kernel_rfl) _ g off sp C.length cL q false data T wr hqz hlz HBQ.out gd gT)
                      rintro _ w9 ⟨rfl, rfl⟩
                      clear gd gT HBQ ck g0 g1 g2 g3
                      go_wp2_with fail
                      go_roundw
                      case rel => exact ⟨q + 1, H, by omega, by go_num, Lib.hid (hH.out.trans HSU.out.symm), by omega, hown.drew, hBq.drew⟩
                      case measure => simp [intOf]; omega
                  · have hlz : (data.size : Int) < (T.size : Int) := by omega
                    have hp : hasP T data = false := by unfold hasP; rw [decide_eq_false hlen, Bool.false_and]
                    rw [hp, if_neg (by decide), List.append_nil] at HSU
                    clear hp hlen
                    go_wp2_with fail
                    refine Rg.wp_only ?_ (regShort _ (by kernel_rfl) _ g off sp C.length cL q _ data T wr hqz hlz rfl gd gT)
                    rintro _ w9 ⟨rfl, rfl⟩
                    clear gd gT ck g0 g1 g2 g3
                    go_wp2_with fail
                    go_roundw
                    case rel => exact ⟨q + 1, H, by omega, by go_num, Lib.hid (hH.out.trans HSU.out.symm), by omega, hown.drew, hBq.drew⟩
                    case measure => simp [intOf]; omega
                · obtain rfl : q = C.length := by omega
                  have hHE : H = heldL C T := by rw [hH.out, List.take_of_length_le (Nat.le_refl _)]
                  have hT2 : Texts wr w2.heap.size u12 H := own_toT hown rfl
                  obtain ⟨aH, cH, rfl, hsH, hcH, _⟩ := hT2.form
                  have o3 := HO2.out.below hBq
                  have c8 := sweep8_any (M := i + 1) (.slice aL C.length cL) w.heap.size C aH H.length cH H wr o3.row o3.good (by omega) hsH hcH (by omega)
                  have HKS : Hid (∀ p ∈ H, p.size ≤ 1000) := Lib.hid (fun p hp => by
                    rw [hHE] at hp
                    obtain ⟨z, hz, rfl⟩ := heldL_mem hp
                    have := keyO_size HG2.out (by omega) hz
                    omega)
                  have HHE := Lib.hid hHE
                  have HSH := Lib.hid hsH
                  have HO3 := Lib.hid o3
                  have hHn : H.length ≤ 121 := by have := HG2.out.len; omega
                  clear hT2 hown hHE hH hsH o3
                  go_wp2_with fail
                  go_at_call 17
                  refine c8.mono ?_
                  rintro e w5 ⟨v5, rfl, ho5, hb5⟩
                  have o5 := HO3.out.ref hb5 (.inl ho5)
                  have cp := o5.call (P := fun e => e = .returned (.int .i64 ((C.length - (swC C H).length : Nat) : Nat))) HT.out (fun F hT hB => (sweep_any aH H.length cH H hB xk0 (by omega) (by omega) (HSH.out.below hb5) hcH (by omega) HKS.out).mono (fun e w' hh => ⟨hh.1, hh.2⟩))
                  generalize C.length - (swC C H).length = gn at cp ⊢
                  clear c8 ho5 o5 hb5
                  go_wp2_with fail
                  go_at_call 18
                  refine cp.mono ?_
                  rintro e w6 ⟨rfl, V6, o6⟩
                  have o7 : Bl b j t m u x0 Zz w (swC C H) (swC C H) (i + 1 + 1) ((i + 1) * 200 + 1) V6 v5 w6 := by
                    have hgd := o6.good
                    rw [HHE.out] at hgd o6 ⊢
                    have hgd2 := sw_good HG2.out hgd (by omega)
                    exact (o6.regood hgd2).mono (by omega) (by omega)
                  clear cp o6
                  go_wp2_with fail
                  have hspe := HSP.out
                  subst hspe
                  go_meet
                  exact ⟨rfl, _, _, o7⟩
          have n4 : ((K : Int) == 4) = false := beq_eq_false_iff_ne.2 hK4
          by_cases hK5 : K = 5
          · as_aux_lemma =>
              subst hK5
              clear f0 f1
              obtain ⟨F0, hB0⟩ := o2.bo
              have cg := get_any (key := zzK) hB0 (by omega) (by decide)
              rw [at8_zz] at cg
              simp only at cg
              unfold zzK at cg
              go_wp2_with fail
              go_at_call 19
              refine (cg).mono ?_
              rintro e w3 ⟨rfl, hb3⟩
              have o3 := o2.below hb3
              obtain ⟨F1, hB1⟩ := o3.bo
              have cr := refs_any (key := zzK) hB1 (by omega) (by decide)
              rw [at8_zz] at cr
              simp only at cr
              unfold zzK at cr
              clear cg hB0 o2
              go_wp2_with fail
              go_at_call 20
              refine (cr).mono ?_
              rintro e w4 ⟨rfl, hb4⟩
              have o4 := o3.below hb4
              have cp := o4.call (P := fun e => e = .returned (.int .i64 (relE (relC C zzK).2))) HT.out (fun F hT hB => (release_any (key := zzK) hB (by omega) (by omega) (by decide)).mono (fun e w' hh => ⟨hh.1, _, hh.2⟩))
              rw [rel_zz] at cp
              simp only [relE, Bool.false_eq_true, if_false] at cp
              unfold zzK at cp
              clear cr hB1 o3 o4
              go_wp2_with fail
              go_at_call 15
              refine (cp).mono ?_
              rintro e w5 ⟨rfl, V5, o5⟩
              have o6 := o5.mono (M' := i + 1 + 1) (N' := (i + 1) * 200 + 1) (by omega) (by omega)
              clear cp o5
              go_wp2_with fail
              go_meet
              exact ⟨rfl, _, _, o6⟩
          have n5 : ((K : Int) == 5) = false := beq_eq_false_iff_ne.2 hK5
          have o5 := o2.mono (M' := i + 1 + 1) (N' := (i + 1) * 200 + 1) (by omega) (by omega)
          clear hK1 hK2 hK4 hK5 o2
          go_wp2_with fail
          go_meet
          exact ⟨rfl, _, _, o5⟩
        case rest =>
          clear o2 f0 f1
          obtain ⟨rfl, C2, V2, o⟩ := hcut
          obtain ⟨aR, cR, rfl, hsl, hcl, _⟩ := OwO.form o.row
          obtain ⟨F0, hB0⟩ := o.bo
          have ca := alike_any aR C2.length cR _ hB0 xk0 (by omega) (by omega) hsl hcl
          clear hB0 hsl
          go_wp2_with fail
          go_at_call 21
          refine ca.mono ?_
          rintro e w9 ⟨rfl, hb9⟩
          have o9 := o.below hb9
          clear ca o hb9
          go_wp2_with fail
          go_roundw
          case rel => exact ⟨i + 1, C2, V2, by omega, by omega, by go_num, o9⟩
          case measure => simp [intOf]; omega
      · obtain rfl : i = 120 := by omega
        have hltz : ((120 : Nat) : Int) < (n : Int) := by omega
        go_wp2_with fail
        go_ret
        exact ⟨rfl, o.bel⟩
    · obtain rfl : i = n := by omega
      go_wp2_with fail
      go_ret
      exact ⟨rfl, o.bel⟩
theorem tab_of {W : World} (h : laidMetH Tryz.prog Rows.blobPlaysRow.laid W) : Tab W := tab_laid h
theorem own : ownKnob Tryz.prog.godebug = none := by kernel_rfl
theorem laidOut : laidOutB Tryz.prog = true := by kernel_rfl
set_option maxRecDepth 100000 in
theorem contract (H : Type) (enc : TypeId × Value → H) (W : World) (base : Nat) (args : Array Value) (ds gs : List (DataW H)) (before : List MemPlace)
    (hval0 : ∀ (j : Nat) t v, Tryz.f3.params[j]? = some t → args[j]? = some v → Value.okWide Tryz.prog W .any base t v)
    (hW : DataW.Whole enc Tryz.prog Tryz.f3.params.toList Rows.blobPlaysSpec.vars false W args.toList ds gs before)
    (hsz0 : (DataW.weightsEach Tryz.prog (Tryz.f3.params.toList ++ Rows.blobPlaysSpec.plain.varTypes Tryz.prog) (ds ++ gs)).all (· ≤ reachBytes) = true)
    (hL : laidMetH Tryz.prog Rows.blobPlaysRow.laid W) :
    Calls Tryz.prog 3 args W fun e W' => ∃ v, e = .returned v ∧ Rows.blobPlaysSpec.post enc Tryz.prog Tryz.f3 false true false false W args v W' := by
  have hval : ∀ (j : Nat) t v, Tryz.f3.params[j]? = some t → args[j]? = some v → Value.okWide Tryz.prog W .any base t v := hval0
  have hsz := hsz0
  clear hsz0
  have hW' := hW
  obtain ⟨p, q, hA0, hV, rfl, hfz, hnd⟩ := hW
  have hA : DataW.TrodAll enc Tryz.prog W 0 (fun _ => true) true Tryz.f3.params.toList args.toList ds p := hA0
  rw [Tryz.params3] at hA hval hsz
  obtain ⟨v0, vs0, d0, ds0, p0, q0, hargs, rfl, rfl, h0, r0⟩ := trodAll_cons hA
  obtain ⟨rfl, rfl, rfl⟩ := trodAll_nil r0
  obtain rfl : args = #[v0] := by cases args; simp_all
  obtain ⟨rfl, rfl⟩ := trodVars_none hV
  obtain ⟨A0, n0, c0, rfl⟩ := okWide_slice Tryz.underlying22 (hval 0 22 v0 rfl rfl)
  have k0 := h0
  have lt0 : ∀ x ∈ p0, x.block < W.heap.size := by obtain ⟨m, hm⟩ := k0; exact DataW.trod_lt m _ _ _ hm
  clear hA0 hval0
  obtain ⟨l0, hS0, hK0, hc0, hm0, hwd⟩ := Bp.arg_steps k0
  have hw0 : Bp.WideS l0 := hwd hsz (j := 0) rfl rfl
  refine (walk A0 n0 c0 l0 W hS0 hK0 hw0 hc0 (tab_of hL)).mono fun e W' ⟨he, bel⟩ => ?_
  subst he
  exact ⟨_, rfl, _, _, _, [], _, [], hW', trodAll_mk1 (shut_bool Tryz.underlying4 _), (trodAll_cons_mk (Below.trod laidOut (by kernel_rfl) (of_decide_eq_true (by kernel_rfl)) k0 bel lt0) trodAll_mk0), rfl, bel.frame _, fun h => by cases h⟩
theorem door_met (os : Os) : laidMetH Tryz.prog Rows.blobPlaysRow.laid ((World.doorLaid Tryz.prog 400 os).forCall (fun _ _ => 0) ⟨#[], #[.slice none 0 0], []⟩).memory :=
  laidMetH_of_parts3 (fuel := 8) (laidMet_of_run' 8 (by kernel_rfl) (by kernel_rfl)) (by kernel_rfl) (by kernel_rfl)
theorem reads (os : Os) {H : Type} (enc : TypeId × Value → H) : ∃ places, DataW.whole enc Tryz.prog ((World.doorLaid Tryz.prog 400 os).forCall (fun _ _ => 0) ⟨#[], #[.slice none 0 0], []⟩).memory Tryz.f3.params.toList Rows.blobPlaysSpec.vars false (#[.slice none 0 0] : Array Value).toList 8 = some ([.nil], [], places) :=
  ⟨[], by kernel_rfl⟩
set_option maxRecDepth 100000 in
theorem lifted (os : Os) (started : os.Started) (H : Type) (enc : TypeId × Value → H) (F : Stop.Interp) :
    ReturnsInHanded {} Tryz.checked os 3 .any ((OpenSpec.ofChange Rows.blobPlaysSpec).preRow enc Tryz.prog Tryz.f3 Rows.blobPlaysRow.domain false Rows.blobPlaysRow.laid) (((OpenSpec.ofChange Rows.blobPlaysSpec).at F).post enc Tryz.prog Tryz.f3 false true false false) := by
  obtain ⟨places, hx⟩ := reads os enc
  refine returnsInHanded_of_row (C := Tryz.checked) (s := (OpenSpec.ofChange Rows.blobPlaysSpec)) own started (by kernel_rfl) Tryz.func3
    (witness_row_at (enc := enc) (C := Tryz.checked) false (World.doorLaid Tryz.prog 400 os) #[.slice none 0 0] rfl (by kernel_rfl) (by kernel_rfl) (by kernel_rfl)
      (OpenSpec.preRow_of_cond 8 hx (by kernel_rfl) (fun k hk => by cases hk) (by kernel_rfl) (door_met os))) ?_
  intro W base args ds gs before hval hW _ hcond hsz0 hL _ _
  exact contract H enc W base args ds gs before hval hW hsz0 hL
theorem over : Rows.blobPlaysRow.holds Tryz.pinned (OpenSpec.ofChange Rows.blobPlaysSpec) :=
  OpenClaim.holds_of_cond 3 Tryz.f3 rfl rfl rfl rfl rfl rfl rfl ⟨rfl, rfl, rfl, rfl, rfl⟩ rfl rfl rfl rfl rfl (by kernel_rfl) Tryz.func3 (by kernel_rfl)
    (of_decide_eq_true (by kernel_rfl)) (by unfold Func.isWrapper; first | (rw [if_pos (by decide +kernel)]; kernel_rfl) | (rw [if_neg (by decide +kernel)]; exact ⟨rfl, rfl⟩))
    (fun os started H enc _ F => by rw [OpenClaim.pre_eq_preRow]; exact lifted os started H enc F)
theorem plain (f : FuncId) (fn : Func) (hf : Tryz.pinned.checked.prog.funcNamed "tether/tetherlaw08.BlobPlays" = some f) (hfn : Tryz.pinned.checked.prog.funcs[f]? = some fn) :
    false = Tryz.pinned.checked.prog.looks [] ∧ ∀ (j : Nat) t, fn.params[j]? = some t → Tryz.pinned.checked.prog.wantsStandIn t = false := by
  obtain rfl : f = 3 := Option.some.inj ((show Tryz.prog.funcNamed "tether/tetherlaw08.BlobPlays" = some 3 by kernel_rfl).symm.trans hf) |>.symm
  obtain rfl : fn = Tryz.f3 := (Option.some.inj (Tryz.func3.symm.trans hfn)).symm
  refine ⟨by kernel_rfl, fun j t ht => ?_⟩
  rw [Tryz.params3] at ht
  have hm : t ∈ [22] := by simpa using Array.mem_of_getElem? ht
  have hall : ([22].all fun u => !Tryz.prog.wantsStandIn u) = true := by kernel_rfl
  exact (show Tryz.prog.wantsStandIn t = false by simpa using List.all_eq_true.1 hall t hm)
theorem card : Rows.BlobPlaysCardSaid :=
  Claim7.holds_tied_plain_at .later [] _ _ _ _ over (fun _ h => by cases h) (by kernel_rfl) (fun _ h => by cases h) blobPlays_row_tie rfl ⟨rfl, rfl⟩ (by kernel_rfl) rfl plain (by kernel_rfl)
end Go.Proofs.YthejpojmmokinaaGreatDoor.blobPlays
namespace Go.Proofs.YthejpojmmokinaaGreatDoor
theorem blobPlaysCard_holds : Rows.BlobPlaysCardSaid := blobPlays.card
#print axioms blobPlaysCard_holds
end Go.Proofs.YthejpojmmokinaaGreatDoor
