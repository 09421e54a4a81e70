/-
  TableHolds, up to the bound: batches of three keys each are committed until the machine stops, wherever; opened again behind any loss, the table has all committed ones, perhaps the one at which it stopped, as a whole, and nothing else: the law returns true, and writes nothing that was there. Condition: the arguments hold at most 1048576 values and letters.
-/
import Derived.Test.YtjdmbkkdnonkkaaGreatT4
import Derived.WalkKit
import Derived.Test.YtjdmbkkdnonkkaaGreatRows
import Derived.WalkLawsBesides
import Derived.WalkSpells
import Derived.LoopTactic
import Derived.Lib.Hide
import Derived.Deep.AppendLies
import Derived.Deep.QuietTactic
import Derived.BigQuiet
import Derived.Laws.Rows
import Derived.Laws.NewBlocks
import Derived.Test.YtjdmbkkdnonkkaaGreatProg
import Derived.Deep.RegionHeld3
import Derived.Deep.CutBlock
import Derived.Deep.CutRange
import Derived.Deep.RegionWith
import Derived.Maps.AppendAt
import Derived.Laws.BytesArg
import Derived.Laws.IdiomStrings
import Derived.RegionTactic
import Derived.ChangeAlike
import Derived.Maps.RangeWalk
import Derived.Lib.Strings
import Derived.Lib.Bytealg
import Derived.Lib.IndexLaws
import Derived.Laws.RangeAny
import Derived.Shelf.RegionOpenPlain
import Derived.Shelf.Strings.Builder1
import Derived.Shelf.Strings.Builder2
import Derived.Shelf.Strings.OnBuilder
import Derived.Shelf.Strings.Search1
import Derived.Shelf.Strings.Search2
import Derived.Shelf.Strings.Search3
import Derived.Shelf.Strings.Cut
import Derived.Shelf.Strings.Count
import Derived.Shelf.LaysM
import Derived.Shelf.Strings.Shaped
import Derived.Shelf.Sort.Plain
import Derived.Shelf.Slices.In.SortNone
import Derived.ProofKit
import Derived.OpenShut
import Derived.ShutString
import Derived.Deep.Slices
import Derived.Deep.Fields
import Derived.ChangeSame
import Derived.Laws.AppendOwn
import Derived.Lib.OwnBridge
import Derived.Sort.OwnSorted
import Derived.Laws.ResultCell
import Derived.BigRegion
import Derived.StillTailTactics
import Derived.Laws.OwnMore
import Derived.SliceStrings
import Derived.SizedLaws
import Derived.JoinedCond
import Derived.Deep.CondSized
import Derived.ChangeOld
namespace Go.Proofs.YtjdmbkkdnonkkaaGreat.Dk
open Go.RowKit Tx Pm
set_option linter.unusedVariables false
theorem tw_at {α : Type} (f : α → Bool) : ∀ (l : List α) (k : Nat), k ≤ l.length → (∀ y ∈ l.take k, f y = true) → (∀ y, l[k]? = some y → f y = false) → l.takeWhile f = l.take k ∧ l.dropWhile f = l.drop k
  | [], k, hk, _, _ => by simp
  | y :: l, 0, _, _, h => by
    have := h y rfl
    simp [List.takeWhile, List.dropWhile, this]
  | y :: l, k + 1, hk, h1, h2 => by
    have hy := h1 y (by simp)
    obtain ⟨e1, e2⟩ := tw_at f l k (by simpa using hk) (fun z hz => h1 z (by simp [hz])) (fun z hz => h2 z (by simpa using hz))
    simp [List.takeWhile, List.dropWhile, hy, e1, e2]
theorem ins_at {l : List It} {x : It} {k : Nat} (hk : k ≤ l.length) (h1 : ∀ y ∈ l.take k, Op.bytesLess y.path.toList x.path.toList = true) (h2 : ∀ y, l[k]? = some y → Op.bytesLess y.path.toList x.path.toList = false) :
    ins l x = l.take k ++ x :: (match l[k]? with | some y => if y.path = x.path then l.drop (k + 1) else l.drop k | none => []) := by
  obtain ⟨e1, e2⟩ := tw_at (fun y => Op.bytesLess y.path.toList x.path.toList) l k hk h1 h2
  rw [ins, e1, e2]
  cases hx : l[k]? with
  | none =>
    have : l.length ≤ k := by simpa using hx
    rw [List.drop_of_length_le this]
  | some y =>
    obtain ⟨hlt, he⟩ := List.getElem?_eq_some_iff.1 hx
    rw [List.drop_eq_getElem_cons hlt, he]
end Go.Proofs.YtjdmbkkdnonkkaaGreat.Dk

namespace Go.Proofs.YtjdmbkkdnonkkaaGreat.Dk
open Go.RowKit Tx Pm
set_option linter.unusedVariables false
theorem mixA_lt (a n : Nat) : mixA a n < 18446744073709551616 := Nat.mod_lt _ (by decide)
theorem mixB_lt (x : Nat) : mixB x < 18446744073709551616 := Nat.mod_lt _ (by decide)
theorem mixC_lt (x : Nat) : mixC x < 18446744073709551616 := Nat.mod_lt _ (by decide)
theorem mix_lt (a n : Nat) : mix a n < 18446744073709551616 := Nat.xor_lt_two_pow (n := 64) (mixC_lt _) (Nat.lt_of_le_of_lt (Nat.div_le_self _ _) (mixC_lt _))
theorem wrap_nat (x : Nat) : IntKind.u64.wrap (x : Int) = ((x % 18446744073709551616 : Nat) : Int) := by
  rw [IntKind.wrap_u64]
  omega
theorem xor_div (x d : Nat) (h : x < 18446744073709551616) : bits .xor .u64 (x : Int) ((x / d : Nat) : Int) = ((x ^^^ x / d : Nat) : Int) :=
  u64_xor_nat x (x / d) h (Nat.lt_of_le_of_lt (Nat.div_le_self _ _) h)
theorem mul_nat (x k : Nat) : IntKind.u64.wrap ((x : Int) * (k : Int)) = ((x * k % 18446744073709551616 : Nat) : Int) := by
  rw [← Int.natCast_mul, wrap_nat]
end Go.Proofs.YtjdmbkkdnonkkaaGreat.Dk

namespace Go.Proofs.YtjdmbkkdnonkkaaGreat.Dk
open Go.RowKit Tx Pm
set_option linter.unusedVariables false
theorem ins_same {a c : List It} {x x' : It} (hr : Rises (a ++ x :: c)) (hp : x'.path = x.path) : ins (a ++ x :: c) x' = a ++ x' :: c := by
  have hx : (a ++ x :: c)[a.length]? = some x := by simp
  rw [ins_at (k := a.length) (by simp) ?_ ?_, hx]
  · simp [hp]
  · intro y hy
    rw [List.take_left] at hy
    rw [hp]
    exact (List.pairwise_append.1 hr).2.2 y hy x (by simp)
  · intro y hy
    rw [hx] at hy
    injection hy with hy
    rw [← hy, hp]
    exact less_irrefl _
theorem rises_paths {a b : List It} (h : a.map (·.path) = b.map (·.path)) (hr : Rises a) : Rises b := by
  unfold Rises at *
  have h1 : (a.map (·.path)).Pairwise (fun x y => Op.bytesLess x.toList y.toList = true) := List.pairwise_map.2 hr
  rw [h] at h1
  exact List.pairwise_map.1 h1
theorem through_zero (s : St) (loss : Nat) : Through s loss 0 0 [] s.stamps :=
  ⟨Nat.zero_le _, rfl, rfl, by rw [List.drop_zero, List.nil_append], Nat.le_refl _, Nat.le_refl _⟩
theorem through_calm {s : St} {loss k n st : Nat} {pre : List It} {x : It} (h : Through s loss k n pre st) (hx : s.L[k]? = some x) (hl : x.loose = false) : Through s loss (k + 1) n (pre ++ [x]) st := by
  obtain ⟨hk, he⟩ := List.getElem?_eq_some_iff.1 hx
  refine ⟨hk, by rw [List.length_append, h.len]; rfl, by rw [take_more hx, List.map_append, List.map_append, h.paths], ?_, by have := h.num; omega, by have := h.stamp; omega⟩
  rw [h.rest, List.drop_eq_getElem_cons hk, he, restartL, if_neg (by rw [hl]; decide), List.append_assoc]
  rfl
theorem through_loose {s : St} {loss k n st : Nat} {pre : List It} {x : It} (h : Through s loss k n pre st) (hx : s.L[k]? = some x) (hl : x.loose = true) :
    Through s loss (k + 1) (n + 1) (pre ++ [{ lose (mix loss (n + 1)) x with stamp := st + 1 }]) (st + 1) := by
  obtain ⟨hk, he⟩ := List.getElem?_eq_some_iff.1 hx
  refine ⟨hk, by rw [List.length_append, h.len]; rfl, by rw [take_more hx, List.map_append, List.map_append, h.paths]; rfl, ?_, by have := h.num; omega, by have := h.stamp; omega⟩
  rw [h.rest, List.drop_eq_getElem_cons hk, he, restartL, if_pos hl, List.append_assoc]
  rfl
theorem through_end {s : St} {loss n st : Nat} {pre : List It} (h : Through s loss s.L.length n pre st) : restartL loss s.L 0 s.stamps = (pre, st) := by
  rw [h.rest, List.drop_of_length_le (Nat.le_refl _), restartL, List.append_nil]
def mid (s : St) (k : Nat) (pre : List It) (st : Nat) : St := { s with L := pre ++ s.L.drop k, stamps := st }
theorem mid_rises {s : St} {loss k n st : Nat} {pre : List It} (h : Through s loss k n pre st) (hr : Rises s.L) : Rises (mid s k pre st).L := by
  refine rises_paths ?_ hr
  show s.L.map (·.path) = (pre ++ s.L.drop k).map (·.path)
  rw [List.map_append, h.paths, ← List.map_append, List.take_append_drop]
theorem mid_at {s : St} {loss k n st : Nat} {pre : List It} {x : It} (h : Through s loss k n pre st) (hx : s.L[k]? = some x) : (mid s k pre st).L = pre ++ x :: s.L.drop (k + 1) ∧ (mid s k pre st).L[k]? = some x := by
  obtain ⟨hk, he⟩ := List.getElem?_eq_some_iff.1 hx
  have e : (mid s k pre st).L = pre ++ x :: s.L.drop (k + 1) := by
    show pre ++ s.L.drop k = _
    rw [List.drop_eq_getElem_cons hk, he]
  refine ⟨e, ?_⟩
  rw [e, ← h.len]
  simp
theorem mid_len {s : St} {loss k n st : Nat} {pre : List It} (h : Through s loss k n pre st) : (mid s k pre st).L.length = s.L.length := by
  show (pre ++ s.L.drop k).length = _
  have := h.le
  rw [List.length_append, List.length_drop, h.len]
  omega
theorem mid_calm {s : St} {loss k n st : Nat} {pre : List It} {x : It} (h : Through s loss k n pre st) (hx : s.L[k]? = some x) : mid s (k + 1) (pre ++ [x]) st = mid s k pre st := by
  have := (mid_at h hx).1
  unfold mid at *
  rw [List.append_assoc, List.singleton_append]
  simp only at this
  rw [← this]
theorem mid_put {s : St} {loss k n st : Nat} {pre : List It} {x x' : It} (h : Through s loss k n pre st) (hr : Rises s.L) (hx : s.L[k]? = some x) (hp : x'.path = x.path) :
    { mid s k pre st with L := ins (mid s k pre st).L x', stamps := st + 1 } = mid s (k + 1) (pre ++ [x']) (st + 1) := by
  have h1 := mid_rises h hr
  have h2 := (mid_at h hx).1
  have h3 : ins (mid s k pre st).L x' = pre ++ x' :: s.L.drop (k + 1) := by
    rw [h2] at h1 ⊢
    exact ins_same h1 hp
  rw [h3]
  unfold mid
  rw [List.append_assoc, List.singleton_append]
theorem u64_lt (i : Int) : u64 i < 18446744073709551616 := by
  unfold u64
  rw [IntKind.wrap_u64]
  omega
theorem u64_eq (i : Int) : IntKind.u64.wrap i = ((u64 i : Nat) : Int) := by
  unfold u64
  rw [IntKind.wrap_u64]
  omega
end Go.Proofs.YtjdmbkkdnonkkaaGreat.Dk

namespace Go.Proofs.YtjdmbkkdnonkkaaGreat.Dk
open Go.RowKit Tx Pm
set_option linter.unusedVariables false
theorem restartL_good (loss : Nat) : ∀ (l : List It) (n st : Nat), (∀ x ∈ l, x.dir = true → x.data = ⟨#[]⟩ ∧ x.kept = ⟨#[]⟩ ∧ x.loose = false ∧ x.anew = false ∧ x.stamp = 0) → (∀ x ∈ l, x.loose = false → x.anew = false) →
    (restartL loss l n st).1.map (·.path) = l.map (·.path) ∧ ∀ x ∈ (restartL loss l n st).1, (x.dir = true → x.data = ⟨#[]⟩ ∧ x.kept = ⟨#[]⟩ ∧ x.loose = false ∧ x.anew = false ∧ x.stamp = 0) ∧ (x.loose = false → x.anew = false)
  | [], n, st, _, _ => ⟨rfl, fun x hx => by cases hx⟩
  | y :: l, n, st, h1, h2 => by
    have a1 := fun x hx => h1 x (List.mem_cons_of_mem y hx)
    have a2 := fun x hx => h2 x (List.mem_cons_of_mem y hx)
    rw [restartL]
    split
    · rename_i hl
      obtain ⟨i1, i2⟩ := restartL_good loss l (n + 1) (st + 1) a1 a2
      refine ⟨congrArg (y.path :: ·) i1, fun x hx => ?_⟩
      rcases List.mem_cons.1 hx with rfl | hx
      · refine ⟨fun hd => ?_, fun _ => rfl⟩
        have := (h1 y List.mem_cons_self hd).2.2.1
        rw [hl] at this
        cases this
      · exact i2 x hx
    · obtain ⟨i1, i2⟩ := restartL_good loss l n st a1 a2
      refine ⟨congrArg (y.path :: ·) i1, fun x hx => ?_⟩
      rcases List.mem_cons.1 hx with rfl | hx
      · exact ⟨h1 x List.mem_cons_self, h2 x List.mem_cons_self⟩
      · exact i2 x hx
theorem good_restart {s : St} {loss : Int} (h : Good s) : Good (restartS s loss) := by
  obtain ⟨h1, h2⟩ := restartL_good (u64 loss) s.L 0 s.stamps h.dirs h.calm
  exact ⟨rises_paths h1.symm h.rises, fun x hx => (h2 x hx).1, fun x hx => (h2 x hx).2, h.vols⟩
end Go.Proofs.YtjdmbkkdnonkkaaGreat.Dk

namespace Go.Proofs.YtjdmbkkdnonkkaaGreat.Dk
open Go.RowKit Tx Pm
set_option linter.unusedVariables false
def pVC : ByteArray := ⟨#[118, 47, 99]⟩
def kA (x : ByteArray) : St := ⟨[dirV, raw pVA x 1], [], 2, 1, -1, false⟩
def kB (x : ByteArray) : St := ⟨[dirV, syn pVA x 1, raw pVB x 2], [], 4, 2, -1, false⟩
def kC (x : ByteArray) : St := ⟨[dirV, syn pVA x 1, syn pVB x 2, raw pVC x 3], [], 6, 3, -1, false⟩
def kD (x y : ByteArray) : St := ⟨[dirV, syn pVA x 1, ⟨pVB, false, x ++ y, x, true, false, 4⟩, syn pVC x 3], [], 8, 4, -1, false⟩
theorem restart_loose (loss : Nat) {x : It} (h : x.loose = true) (l : List It) (n st : Nat) : restartL loss (x :: l) n st = ({ lose (mix loss (n + 1)) x with stamp := st + 1 } :: (restartL loss l (n + 1) (st + 1)).1, (restartL loss l (n + 1) (st + 1)).2) := by
  rw [restartL, if_pos h]
theorem restart_synced (loss : Nat) {x : It} (h : x.loose = false) (l : List It) (n st : Nat) : restartL loss (x :: l) n st = (x :: (restartL loss l n st).1, (restartL loss l n st).2) := by
  rw [restartL, if_neg (by rw [h]; decide)]
theorem lose_stamp (pick : Nat) (p x k : ByteArray) (a : Bool) (st n : Nat) : { lose pick ⟨p, false, x, k, true, a, st⟩ with stamp := n } = syn p (lose pick ⟨p, false, x, k, true, a, st⟩).data n := by
  unfold lose syn
  rfl
theorem pre_of (t : ByteArray) (k : Nat) (hk : k ≤ t.size) : (t.extract 0 k).size = k ∧ t.extract 0 k = t.extract 0 (t.extract 0 k).size := by
  have h : (t.extract 0 k).size = k := by rw [ByteArray.size_extract]; omega
  exact ⟨h, by rw [h]⟩
theorem lose_old (n : Nat) (p x w : ByteArray) (st : Nat) (hw : x.size ≤ w.size) : ∃ b, (lose n ⟨p, false, w, x, true, false, st⟩).data = b ∧ x.size ≤ b.size ∧ b.size ≤ w.size ∧ b = w.extract 0 b.size := by
  have hm : n % (w.size - x.size + 1) < w.size - x.size + 1 := Nat.mod_lt _ (by omega)
  obtain ⟨h1, h2⟩ := pre_of w (x.size + n % (w.size - x.size + 1)) (by omega)
  refine ⟨w.extract 0 (x.size + n % (w.size - x.size + 1)), ?_, by omega, by omega, h2⟩
  unfold lose
  simp only [Bool.false_eq_true, if_false]
theorem lose_new (n : Nat) (p x z : ByteArray) (st : Nat) : ∃ c, (lose n ⟨p, false, z, x, true, true, st⟩).data = c ∧ (c = x ∨ (c.size ≤ z.size ∧ c = z.extract 0 c.size)) := by
  have hm : n % (z.size + 2) < z.size + 2 := Nat.mod_lt _ (by omega)
  have e : (lose n ⟨p, false, z, x, true, true, st⟩).data = if n % (z.size + 2) = 0 then x else z.extract 0 (n % (z.size + 2) - 1) := by
    unfold lose
    simp only [if_true]
  refine ⟨_, e, ?_⟩
  split
  · exact .inl rfl
  · obtain ⟨h1, h2⟩ := pre_of z (n % (z.size + 2) - 1) (by omega)
    exact .inr ⟨by omega, h2⟩
end Go.Proofs.YtjdmbkkdnonkkaaGreat.Dk

namespace Go.Proofs.YtjdmbkkdnonkkaaGreat.Fr
open Go.RowKit Wm Wr Fm
set_option linter.unusedVariables false
theorem cnt_snoc : ∀ (l : List ByteArray) (t : ByteArray) (b : Nat), cnt (l ++ [t]) b = if (PKl (l ++ [t])).length ≤ b then l.length + 1 else cnt l b
  | [], t, b => by
    rw [List.nil_append, cnt, PKl_cons, List.length_append, len_l]
    have : (PKl []).length = 0 := rfl
    simp only [this, Nat.add_zero, cnt, List.length_nil]
  | s :: l, t, b => by
    have ih := cnt_snoc l t (b - (pk s).size)
    rw [List.cons_append, cnt, cnt, PKl_cons, List.length_append, len_l, ih]
    by_cases h : (pk s).size ≤ b
    · rw [if_pos h, if_pos h]
      by_cases h2 : (PKl (l ++ [t])).length ≤ b - (pk s).size
      · rw [if_pos h2, if_pos (by omega)]; rfl
      · rw [if_neg h2, if_neg (by omega)]
    · rw [if_neg h, if_neg h, if_neg (by omega)]
end Go.Proofs.YtjdmbkkdnonkkaaGreat.Fr

namespace Go.Proofs.YtjdmbkkdnonkkaaGreat.Wl
open Go.RowKit Tx Pm Dk Fr
set_option linter.unusedVariables false
theorem PK_size (l : List ByteArray) : (PK l).size = (PKl l).length := by rw [PK, ByteArray.size, List.size_toArray]
theorem PK_prefix (l : List ByteArray) (k b : Nat) (h : (PKl (l.take k)).length ≤ b) : ((PK l).extract 0 b).extract 0 (PKl (l.take k)).length = PK (l.take k) := by
  rw [PK_ext]
  apply ByteArray.ext
  apply Array.toList_inj.1
  rw [ByteArray.data_extract, Array.toList_extract]
  simp only [List.extract_eq_take_drop, List.drop_zero, Nat.sub_zero, List.take_take]
  rw [Nat.min_eq_left h]
  have e : PKl l = PKl (l.take k) ++ PKl (l.drop k) := by
    unfold PKl
    rw [← List.flatten_append, ← List.map_append, List.take_append_drop]
  rw [e, List.take_left]
  rfl
end Go.Proofs.YtjdmbkkdnonkkaaGreat.Wl

namespace Go.Proofs.YtjdmbkkdnonkkaaGreat.Dk
open Go.RowKit Tx Pm Pl Pr
set_option linter.unusedVariables false
theorem grown_below {w w1 : World} (h : Below w.heap.size w w1) : w.grownBy w1 none := ⟨h.os, h.tape, h.output, h.size, fun i hi _ => h.block i hi⟩
theorem own_belowT {w w1 : World} {B n size : Nat} {e : TypeId} {v : Value} {xs : List Value} (h : w.ownsRow B e size v n xs) (hb : Below w.heap.size w w1) : w1.ownsRow B e size v n xs := own_kept h (fun g hg => hb.block g (h.lt g hg).2)
set_option maxRecDepth 100000 in
set_option maxHeartbeats 2000000 in
theorem iPaths_any (b bi bl : Nat) (l : Int) (s : St) (f : FuncId) (cap : Array Value) (φ : It → Bool) (w : World) (h : Ia b bi bl l w s) (hR : Rises s.L) (hn : s.L.length ≤ 1000000000) (hps : ∀ x ∈ s.L, x.path.size ≤ 8000000000000)
    (hen : ∀ a1 a2 W, (callFunc f (#[a1, a2] ++ cap)).run Tryz.prog W = .ok (.enter f (#[a1, a2] ++ cap)) W)
    (cf : ∀ W x, Below w.heap.size w W → x ∈ s.L → Calls Tryz.prog f (#[.string x.path, .agg #[.int .i64 (kOf x), .string x.data, .string x.kept, .int .i64 (stOf x), .int .i64 x.stamp]] ++ cap) W fun e w' => e = .returned (.bool (φ x)) ∧ Below W.heap.size W w') :
    Calls Tryz.prog 76 #[.pointer (some ⟨b, 0, none⟩), .func (.func f) #[] cap] w (ListTo (held φ s.L) w) := by
  obtain ⟨i0, hi, hz0, hz1, hz2⟩ := info_parts info9
  obtain ⟨c0, _⟩ := h.cell
  have hm := h.items
  go_enter Tryz.func76, Tryz.ntmps76
  go_wp2_with (at_range; refine range_items _ rfl _ rfl bi s.L rfl hm ?_; intro D w0 hD hrg0 hg0 hs0)
  go_frame
  have HD := Lib.hid hD
  have HR := Lib.hid hR
  have HP := Lib.hid hps
  have HF := Lib.hid cf
  have HH := Lib.hid (fun left => Nat.le_trans (held_len φ (came s.L left)) (List.Sublist.length_le (came_sub s.L left)))
  have hsm : w.heap.size < w0.heap.size := by omega
  have HS := Lib.hid hs0
  clear hD hR hps hs0 cf
  go_loopw [5] (fun v wr => ∃ (left : Lit → Bool) (cnt T : Nat) (out : List ByteArray), wr.ranges Tryz.prog 9 itemR bi w.heap.size s.L.length D left cnt ∧ Hid (out.Perm (held φ (came s.L left))) ∧ Hid (out.length = T) ∧ T ≤ 1000000000 ∧ wr.ownsRow (w.heap.size + 1) 9 1 v T (out.map sv) ∧ Below w.heap.size w wr ∧ w.heap.size < wr.heap.size) (fun _ wr => wr.rangeLeft bi w.heap.size)
  case atStart => exact ⟨_, _, 0, [], hrg0, by show List.Perm _ _; rw [came_start HD.out]; exact List.Perm.refl _, rfl, by omega, World.ownsRow_nil _ _ _ _, (Below.refl _ _).grown hg0 (Nat.le_refl _) (fun j hj => by cases hj), hsm⟩
  case round =>
    obtain ⟨left, cnt, T, out, hrg, hout, hlen, hT, hown, hB, hlt⟩ := hrel
    go_wp2_with (at_next; refine next_items _ rfl _ rfl bi w.heap.size s.L.length D left cnt s.L rfl hrg HD.out ?_ ?_)
    · intro hl
      have hp := hout.out
      rw [came_end s.L hl] at hp
      have hO : Texts wr w.heap.size _ out := own_toT (own_base hown (Nat.le_succ _)) hlen.out
      have hol : out.length ≤ 4000000000 := by rw [hlen.out]; omega
      have cs := sortS_any _ out wr w.heap.size hO hB.size hol
      have HPM := Lib.hid hp
      clear hl hp hO hrg h hout hlen hown hol
      go_wp2_with (go_at_call 118; refine cs.mono ?_; rintro e w5 ⟨rfl, ts, hts, hso, htx, hb5⟩)
      go_ret
      obtain rfl : ts = held φ s.L := rising_perm (hts.trans HPM.out) hso (held_rises HR.out)
      exact ⟨_, rfl, htx, hB.trans hb5⟩
    · intro x w1 cnt1 hx hlx hrg1 hlt1 hg1 hs1 hen1
      have hst := held_perm (φ := φ) (came_step hlx HR.out hx)
      rw [held_cons] at hst
      have hbd := HH.out (less left x.path)
      have hlen2 := hst.length_eq
      have hme : cnt1 < wr.rangeLeft bi w.heap.size := by rw [hrg.left_eq]; exact hlt1
      have hb1 : Below w.heap.size w w1 := below_grown hB hg1 (Nat.le_of_lt hlt) (Nat.le_refl _)
      have hs2 : w.heap.size < w1.heap.size := by omega
      have hrg2 := hrg1.alloc (.cells #[.int .i64 (kOf x), .string x.data, .string x.kept, .int .i64 (stOf x), .int .i64 x.stamp] 117)
      have hb3 := hb1.alloc (Nat.le_of_lt hs2) (.cells #[.int .i64 (kOf x), .string x.data, .string x.kept, .int .i64 (stOf x), .int .i64 x.stamp] 117)
      have cx := HF.out _ x hb3 hx
      have hown1 := hown.kept hg1 (.inr (fun e => by have := (hown.lt _ e).1; omega))
      have HME := Lib.hid hme
      have HS1 := Lib.hid hs1
      clear hs1
      cases hφ : φ x with
      | true =>
        rw [hφ] at cx
        rw [hφ, if_pos rfl, List.length_append, List.length_singleton] at hlen2
        rw [hφ, if_pos rfl] at hst
        have hT2 : T + 1 ≤ 1000000000 := by have := hout.out.length_eq; have := hlen.out; omega
        have hpm : (out ++ [x.path]).Perm (held φ (came s.L (less left x.path))) := (List.perm_append_comm.trans (hout.out.append_left [x.path])).trans hst.symm
        have HPM := Lib.hid hpm
        have HSZ := Lib.hid (show w.heap.size + 1 ≤ w1.heap.size by omega)
        have HLN := Lib.hid (show (out ++ [x.path]).length = T + 1 by rw [List.length_append, hlen.out]; rfl)
        have HB3 := Lib.hid hb3
        clear hst hlen2 hbd hlx hx hpm hout hlen hrg hrg1 hlt1 hg1 hme hown h
        go_wp2_with fail
        refine cx.mono ?_
        rintro e w5 ⟨rfl, hb5⟩
        have hown5 := own_belowT (hown1.alloc (.cells #[.int .i64 (kOf x), .string x.data, .string x.kept, .int .i64 (stOf x), .int .i64 x.stamp] 117)) hb5
        have hB5 := below_call HB3.out hb5
        have hrg5 := hrg2.kept (grown_below hb5) (by simp) (by simp)
        have hz5 : w1.heap.size + 1 ≤ w5.heap.size := by have := hb5.size; simpa using this
        have hS := HSZ.out
        go_wp2_with (at_builtin; refine wpList_append_own _ rfl _ _ 56 rfl (w.heap.size + 1) 9 i0 (.string ⟨#[]⟩) 1 16 Tryz.underlying56 hi hz0 hz1 hz2 rfl (by decide) _ _ _ rfl (hown5.alloc _) ⟨w5.heap.size, 0, none⟩ 1 1 [sv x.path] rfl rfl ?c1_2 ?c2_2 ?c3_2 ?c4_2 ?c5_2 ?_)
        case c1_2 => exact cell_one_new _ _ _
        case c2_2 => exact sv_one [x.path]
        case c3_2 => unfold maxLen; omega
        case c4_2 => omega
        case c5_2 => first | (simp; omega) | omega
        intro v' w6 hown' hgrow _
        have ho6 : w6.ownsRow (w.heap.size + 1) 9 1 v' (T + 1) ((out ++ [x.path]).map sv) := by
          rw [List.map_append]
          exact hown'
        have hB6 : Below w.heap.size w w6 := (hB5.alloc hB5.size _).grown hgrow (by have := hB5.size; simp; omega) (fun k hk => by have := (hown5.lt k hk).1; omega)
        have hlb : bi < w.heap.size := hm.lt
        have hrg6 := (hrg5.alloc (.cells #[.string x.path] 9)).kept hgrow (fun e => by have := (hown5.lt _ e.symm).1; omega) (fun e => by have := (hown5.lt _ e.symm).1; omega)
        have hle6 : w.heap.size < w6.heap.size := by have := hgrow.size; simp at this; omega
        have hme6 : w6.rangeLeft bi w.heap.size < wr.rangeLeft bi w.heap.size := by rw [hrg6.left_eq]; exact HME.out
        have HM6 := Lib.hid hme6
        have HO6 := Lib.hid ho6
        clear hown5 hrg5 hown' hgrow hme6 hown1 hrg2 ho6
        go_wp2_with fail
        go_roundw
        case rel => exact ⟨less left x.path, cnt1, T + 1, out ++ [x.path], hrg6, HPM, HLN, hT2, HO6.out, hB6, hle6⟩
        case measure => exact HM6.out
      | false =>
        rw [hφ] at cx
        rw [hφ, if_neg (by decide), List.nil_append] at hst
        have hpm : out.Perm (held φ (came s.L (less left x.path))) := hout.out.trans hst.symm
        have HPM := Lib.hid hpm
        have HB3 := Lib.hid hb3
        clear hst hlen2 hbd hlx hx hpm hout hrg hrg1 hlt1 hg1 hme hown h
        go_wp2_with fail
        refine cx.mono ?_
        rintro e w5 ⟨rfl, hb5⟩
        have hown5 := own_belowT (hown1.alloc (.cells #[.int .i64 (kOf x), .string x.data, .string x.kept, .int .i64 (stOf x), .int .i64 x.stamp] 117)) hb5
        have hB5 := below_call HB3.out hb5
        have hrg5 := hrg2.kept (grown_below hb5) (by simp) (by simp)
        have hz5 : w1.heap.size + 1 ≤ w5.heap.size := by have := hb5.size; simpa using this
        have hme5 : w5.rangeLeft bi w.heap.size < wr.rangeLeft bi w.heap.size := by rw [hrg5.left_eq]; exact HME.out
        have HM5 := Lib.hid hme5
        clear hme5 hown1 hrg2
        go_wp2_with fail
        go_roundw
        case rel => exact ⟨less left x.path, cnt1, T, out, hrg5, HPM, hlen, hT, hown5, hB5, by omega⟩
        case measure => exact HM5.out
set_option maxRecDepth 100000 in
theorem iRestC_any (x : It) (w : World) :
    Calls Tryz.prog 77 #[.string x.path, .agg #[.int .i64 (kOf x), .string x.data, .string x.kept, .int .i64 (stOf x), .int .i64 x.stamp]] w fun e w' => e = .returned (.bool x.loose) ∧ Below w.heap.size w w' := by
  have HB := Lib.hid (fun o => (Below.refl _ w).alloc (Nat.le_refl _) o)
  have hs : (x.loose = false ∧ stOf x = 0) ∨ (x.loose = true ∧ (stOf x = 1 ∨ stOf x = 2)) := by
    unfold stOf
    cases x.loose <;> cases x.anew <;> simp
  generalize stOf x = T at hs ⊢
  rcases hs with ⟨h1, rfl⟩ | ⟨h1, rfl | rfl⟩ <;> rw [h1]
  all_goals
    clear h1
    go_enter Tryz.func77, Tryz.ntmps77
    go_wp2
    go_ret
    exact ⟨rfl, HB.out _⟩
end Go.Proofs.YtjdmbkkdnonkkaaGreat.Dk

namespace Go.Proofs.YtjdmbkkdnonkkaaGreat.Rg
open Go.RowKit
set_option linter.unusedVariables false
section
variable {P : Program} {ops : Array Oper} {R : Act → World → Prop} {S : World → Prop}
theorem op_look (i : Nat) (d : Option Tmp) {T : TypeId} {x y : Operand} {c : Bool} {vx vy v : Value} {fuel : Nat} {listed : Array Bool} {a : Act} {w : World}
    (hi : decide (i < ops.size) = true) (hd : (opOf ops i).dst = d)
    (hw : Region.wanted (opOf ops i) (yielded ops a.tmps) = true) (ho : (opOf ops i).op = .lookup T x y c) (hx : a.eval x = vx) (hy : a.eval y = vy)
    (hv : (Instr.lookup T vx vy c).run P w = .ok v w) (hS : S w)
    (h : wpAnyH P .any ops (Only R) S fuel (listed.setIfInBounds i true) (a.put d v) w) :
    wpOp P ops (Only R) i (fun a' w' => S w' ∧ wpAnyH P .any ops (Only R) S fuel (listed.setIfInBounds i true) a' w') a w := by
  subst hd
  unfold wpOp
  rw [opOf_some hi]
  simp only [hw, if_true]
  refine .inl ?_
  have he : (execOp a.eval (opOf ops i)).run P w = .ok (.value v) w := y_look (S := fun W => W = w) ho hx hy (fun W hW => by rw [hW]; exact hv) w rfl
  unfold Oper.wp
  rw [he, Oper.upon_value]
  exact ⟨hS, h⟩
end
end Go.Proofs.YtjdmbkkdnonkkaaGreat.Rg

namespace Go.Proofs.YtjdmbkkdnonkkaaGreat.Dk
open Go.RowKit Tx Pm Pl Pr
set_option linter.unusedVariables false
set_option maxRecDepth 100000 in
theorem iArm_any (b bi bl : Nat) (l : Int) (s : St) (m : Int) (w : World) (h : Ia b bi bl l w s) (hm : -9223372036854775808 ≤ m ∧ m ≤ 9223372036854775807) :
    Calls Tryz.prog 23 #[.pointer (some ⟨b, 0, none⟩), .int .i64 m] w fun e w' => e = .returned (.tuple #[]) ∧ Ip b bi bl w { s with armed := if m < 0 then -1 else m } w' := by
  have hc := h.cell
  have hw := h.warm
  have hlow := h.low
  obtain ⟨A, hA⟩ : ∃ A : Int, A = if m < 0 then -1 else m := ⟨_, rfl⟩
  have hAm : A = max m (-1) := by rw [hA]; split <;> omega
  rw [← hA]
  have a1 : Ia b bi bl A (w.setCell ⟨b, 2, none⟩ (.int .i64 A)) { s with armed := A } := h.poke (chg_set _) (own_cells h 2 _ rfl) rfl rfl (.inr rfl) (by omega)
  rw [hAm] at a1 ⊢
  have HE := Lib.hid (show Ip b bi bl w { s with armed := max m (-1) } (w.setCell ⟨b, 2, none⟩ (.int .i64 (max m (-1)))) from ⟨_, a1, (chg_set _).mono ft_b⟩)
  clear a1 h hA hAm
  obtain ⟨c0, c1, c2, c3, c4, c5⟩ := hc
  go_enter Tryz.func23, Tryz.ntmps23
  go_wp2
  go_end0
  exact ⟨rfl, HE.out⟩
end Go.Proofs.YtjdmbkkdnonkkaaGreat.Dk

namespace Go.Proofs.YtjdmbkkdnonkkaaGreat.Dk
open Go.RowKit Tx Pm Pl Pr
set_option linter.unusedVariables false
set_option maxRecDepth 100000 in
set_option maxHeartbeats 2000000 in
theorem regRestart (ops : Array Oper) (hops : ops = (Rg.opsOf Tryz.f24 7)) (id : Nat) (b bi bl j pick : Nat) (l loss K T M : Int) (s s2 : St) (p X Y Z : ByteArray) {u2 u3 u4 u5 u8 u9 u10 u11 u12 u13 u14 u15 u16 u17 u18 u19 u20 u21 u22 u23 u24 u25 u26 u27 u28 u29 u30 u31 u32 u33 u34 u35 u36 u37 u38 u39 : Value} (w : World) (h : Ia b bi bl l w s)
    (hlk : ∀ W, Ia b bi bl l W s → (Instr.lookup 111 (.map (some bi)) (.string p) false).run Tryz.prog W = .ok (.agg #[.int .i64 K, .string X, .string Y, .int .i64 T, .int .i64 M]) W)
    (hadd : IntKind.i64.wrap ((j : Int) + 1) = ((j + 1 : Nat) : Int))
    (cm : ∀ W, Calls Tryz.prog 80 #[.int .i64 loss, .int .i64 ((j + 1 : Nat) : Int)] W fun e w' => e = .returned (.int .u64 (pick : Nat)) ∧ w' = W)
    (cl : ∀ W, Calls Tryz.prog 79 #[.agg #[.int .i64 K, .string X, .string Y, .int .i64 T, .int .i64 M], .int .u64 (pick : Nat)] W fun e w' => e = .returned (.agg #[.int .i64 K, .string Z, .string Z, .int .i64 0, .int .i64 M]) ∧ Below W.heap.size W w')
    (cs : ∀ W, Ia b bi bl l W s → Calls Tryz.prog 78 #[.pointer (some ⟨b, 0, none⟩), .string p, .agg #[.int .i64 K, .string Z, .string Z, .int .i64 0, .int .i64 M]] W fun e w' => e = .returned (.tuple #[]) ∧ Ip b bi bl W s2 w') :
    (Code.region id ops true).wp Tryz.prog (Rg.Only fun a' w' => a' = ⟨#[(.pointer (some ⟨b, 0, none⟩)), (.int .i64 loss), u2, u3, u4, u5, (.int .i64 (j : Nat)), (.string p), u8, u9, u10, u11, u12, u13, u14, u15, u16, u17, u18, (.pointer (some ⟨b, 0, none⟩)), (.string p), (.pointer (some ⟨b, 0, none⟩)), (.pointer (some ⟨b, 0, none⟩)), (.pointer (some ⟨b, 0, none⟩)), (.map (some bi)), (.string p), (.agg #[.int .i64 K, .string X, .string Y, .int .i64 T, .int .i64 M]), (.int .i64 loss), (.int .i64 (j : Nat)), (.int .i64 ((j + 1 : Nat) : Int)), (.int .u64 (pick : Nat)), (.agg #[.int .i64 K, .string Z, .string Z, .int .i64 0, .int .i64 M]), (.tuple #[]), u33, u34, u35, u36, u37, u38, u39], []⟩ ∧ Ip b bi bl w s2 w') ⟨#[(.pointer (some ⟨b, 0, none⟩)), (.int .i64 loss), u2, u3, u4, u5, (.int .i64 (j : Nat)), (.string p), u8, u9, u10, u11, u12, u13, u14, u15, u16, u17, u18, u19, u20, u21, u22, u23, u24, u25, u26, u27, u28, u29, u30, u31, u32, u33, u34, u35, u36, u37, u38, u39], []⟩ w := by
  subst hops
  have hNS : Region.noSelect (Rg.opsOf Tryz.f24 7) = true := by kernel_rfl
  have h0 : Ia b bi bl l w.drew s := h.below (Below.refl _ _).drew
  refine wp_region_held_drew (S := fun W => ∃ l2 s9, Ia b bi bl l2 W s9) (by kernel_rfl) ⟨l, s, h0⟩ (fun hHeld => ?_)
  rw [show (Rg.opsOf Tryz.f24 7).size = 14 by kernel_rfl]
  refine Rg.take (ops := (Rg.opsOf Tryz.f24 7)) 0 (some 19) ((.pointer (some ⟨b, 0, none⟩))) hNS (by kernel_rfl) (by kernel_rfl) (by kernel_rfl) (by kernel_rfl) (by kernel_rfl) hHeld (Rg.y_move (x := (Operand.tmp 0)) (Or.inl (by kernel_rfl)) (by kernel_rfl)) ?_
  refine Rg.take (ops := (Rg.opsOf Tryz.f24 7)) 1 (some 20) ((.string p)) hNS (by kernel_rfl) (by kernel_rfl) (by kernel_rfl) (by kernel_rfl) (by kernel_rfl) hHeld (Rg.y_move (x := (Operand.tmp 7)) (Or.inl (by kernel_rfl)) (by kernel_rfl)) ?_
  refine Rg.take (ops := (Rg.opsOf Tryz.f24 7)) 2 (some 21) ((.pointer (some ⟨b, 0, none⟩))) hNS (by kernel_rfl) (by kernel_rfl) (by kernel_rfl) (by kernel_rfl) (by kernel_rfl) hHeld (Rg.y_move (x := (Operand.tmp 0)) (Or.inl (by kernel_rfl)) (by kernel_rfl)) ?_
  refine Rg.take (ops := (Rg.opsOf Tryz.f24 7)) 3 (some 22) ((.pointer (some ⟨b, 0, none⟩))) hNS (by kernel_rfl) (by kernel_rfl) (by kernel_rfl) (by kernel_rfl) (by kernel_rfl) hHeld (Rg.y_nil (x := (Operand.tmp 21)) (by kernel_rfl) (by kernel_rfl)) ?_
  refine Rg.take (ops := (Rg.opsOf Tryz.f24 7)) 4 (some 23) ((.pointer (some ⟨b, 0, none⟩))) hNS (by kernel_rfl) (by kernel_rfl) (by kernel_rfl) (by kernel_rfl) (by kernel_rfl) hHeld (Rg.y_field (T := 114) (k := 0) (x := (Operand.tmp 22)) (vx := (.pointer (some ⟨b, 0, none⟩))) (by kernel_rfl) (by kernel_rfl) ?_) ?_
  · (intro w hSw; clear hSw; go_simp)
  refine Rg.take (ops := (Rg.opsOf Tryz.f24 7)) 5 (some 24) ((.map (some bi))) hNS (by kernel_rfl) (by kernel_rfl) (by kernel_rfl) (by kernel_rfl) (by kernel_rfl) hHeld (Rg.y_load (T := 111) (x := (Operand.tmp 23)) (vx := (.pointer (some ⟨b, 0, none⟩))) (by kernel_rfl) (by kernel_rfl) ?_) ?_
  · (intro w hSw; obtain ⟨_, _, hSw⟩ := hSw; have c0 := hSw.cell.1; clear hSw; go_simp)
  refine Rg.take (ops := (Rg.opsOf Tryz.f24 7)) 6 (some 25) ((.string p)) hNS (by kernel_rfl) (by kernel_rfl) (by kernel_rfl) (by kernel_rfl) (by kernel_rfl) hHeld (Rg.y_move (x := (Operand.tmp 7)) (Or.inl (by kernel_rfl)) (by kernel_rfl)) ?_
  refine Rg.take (ops := (Rg.opsOf Tryz.f24 7)) 8 (some 27) ((.int .i64 loss)) hNS (by kernel_rfl) (by kernel_rfl) (by kernel_rfl) (by kernel_rfl) (by kernel_rfl) hHeld (Rg.y_move (x := (Operand.tmp 1)) (Or.inl (by kernel_rfl)) (by kernel_rfl)) ?_
  refine Rg.take (ops := (Rg.opsOf Tryz.f24 7)) 9 (some 28) ((.int .i64 (j : Nat))) hNS (by kernel_rfl) (by kernel_rfl) (by kernel_rfl) (by kernel_rfl) (by kernel_rfl) hHeld (Rg.y_move (x := (Operand.tmp 6)) (Or.inl (by kernel_rfl)) (by kernel_rfl)) ?_
  refine Rg.take (ops := (Rg.opsOf Tryz.f24 7)) 10 (some 29) ((.int .i64 ((j + 1 : Nat) : Int))) hNS (by kernel_rfl) (by kernel_rfl) (by kernel_rfl) (by kernel_rfl) (by kernel_rfl) hHeld (Rg.y_bin (b := BinOp.add) (T := 3) (R' := 3) (x := (Operand.tmp 28)) (y := (Operand.const (Value.int IntKind.i64 1))) (vx := (.int .i64 (j : Nat))) (vy := (Value.int IntKind.i64 1)) (by kernel_rfl) (by kernel_rfl) (by kernel_rfl) ?_) ?_
  · (intro w hSw; clear hSw; go_simp <;> exact hadd)
  refine Rg.two (ops := (Rg.opsOf Tryz.f24 7)) (i := 7) (j := 11) (by kernel_rfl) ?_ ?_
  · refine Rg.op_look (ops := (Rg.opsOf Tryz.f24 7)) 7 (some 26) (T := 111) (x := (Operand.tmp 24)) (y := (Operand.tmp 25)) (c := false) (vx := (.map (some bi))) (vy := (.string p)) (v := (.agg #[.int .i64 K, .string X, .string Y, .int .i64 T, .int .i64 M])) (by kernel_rfl) (by kernel_rfl) (by kernel_rfl) (by kernel_rfl) (by kernel_rfl) (by kernel_rfl) ?_ hHeld ?_
    · (exact hlk _ h0)
    refine Rg.call (ops := (Rg.opsOf Tryz.f24 7)) (fn := Tryz.f80) (xs := #[Operand.tmp 27, Operand.tmp 29]) (ats := #[3, 3]) 11 (some 30) 80 #[(.int .i64 loss), (.int .i64 ((j + 1 : Nat) : Int))] (by kernel_rfl) (by kernel_rfl) (by kernel_rfl) (by kernel_rfl) (by kernel_rfl) Tryz.func80 (by kernel_rfl) (by kernel_rfl) (by kernel_rfl) ?_
    refine (cm _).mono ?_
    rintro e w5 ⟨rfl, rfl⟩
    refine ⟨_, rfl, hHeld, fun hHeld => ?_⟩
    refine Rg.call (ops := (Rg.opsOf Tryz.f24 7)) (fn := Tryz.f79) (xs := #[Operand.tmp 26, Operand.tmp 30]) (ats := #[117, 121]) 12 (some 31) 79 #[(.agg #[.int .i64 K, .string X, .string Y, .int .i64 T, .int .i64 M]), (.int .u64 (pick : Nat))] (by kernel_rfl) (by kernel_rfl) (by kernel_rfl) (by kernel_rfl) (by kernel_rfl) Tryz.func79 (by kernel_rfl) (by kernel_rfl) (by kernel_rfl) ?_
    refine (cl _).mono ?_
    rintro e w6 ⟨rfl, hb6⟩
    refine ⟨_, rfl, ⟨l, s, h0.below hb6⟩, fun hHeld => ?_⟩
    refine Rg.call (ops := (Rg.opsOf Tryz.f24 7)) (fn := Tryz.f78) (xs := #[Operand.tmp 19, Operand.tmp 20, Operand.tmp 31]) (ats := #[23, 9, 117]) 13 (some 32) 78 #[(.pointer (some ⟨b, 0, none⟩)), (.string p), (.agg #[.int .i64 K, .string Z, .string Z, .int .i64 0, .int .i64 M])] (by kernel_rfl) (by kernel_rfl) (by kernel_rfl) (by kernel_rfl) (by kernel_rfl) Tryz.func78 (by kernel_rfl) (by kernel_rfl) (by kernel_rfl) ?_
    refine (cs _ (h0.below hb6)).mono ?_
    rintro e w7 ⟨rfl, h7⟩
    refine ⟨_, rfl, ⟨_, _, h7.choose_spec.1⟩, fun hHeld => ?_⟩
    refine Rg.done (ops := (Rg.opsOf Tryz.f24 7)) (by kernel_rfl) ?_
    exact ⟨by kernel_rfl, Ip.after (below_call (Below.refl _ w).drew hb6) h7⟩
  · refine Rg.op_call (ops := (Rg.opsOf Tryz.f24 7)) (fn := Tryz.f80) (xs := #[Operand.tmp 27, Operand.tmp 29]) (ats := #[3, 3]) 11 (some 30) 80 #[(.int .i64 loss), (.int .i64 ((j + 1 : Nat) : Int))] (by kernel_rfl) (by kernel_rfl) (by kernel_rfl) (by kernel_rfl) Tryz.func80 (by kernel_rfl) (by kernel_rfl) (by kernel_rfl) ?_
    refine (cm _).mono ?_
    rintro e w5 ⟨rfl, rfl⟩
    refine ⟨_, rfl, hHeld, fun hHeld => ?_⟩
    refine Rg.one (ops := (Rg.opsOf Tryz.f24 7)) (i := 7) (by kernel_rfl) ?_
    refine Rg.op_look (ops := (Rg.opsOf Tryz.f24 7)) 7 (some 26) (T := 111) (x := (Operand.tmp 24)) (y := (Operand.tmp 25)) (c := false) (vx := (.map (some bi))) (vy := (.string p)) (v := (.agg #[.int .i64 K, .string X, .string Y, .int .i64 T, .int .i64 M])) (by kernel_rfl) (by kernel_rfl) (by kernel_rfl) (by kernel_rfl) (by kernel_rfl) (by kernel_rfl) ?_ hHeld ?_
    · (exact hlk _ h0)
    refine Rg.call (ops := (Rg.opsOf Tryz.f24 7)) (fn := Tryz.f79) (xs := #[Operand.tmp 26, Operand.tmp 30]) (ats := #[117, 121]) 12 (some 31) 79 #[(.agg #[.int .i64 K, .string X, .string Y, .int .i64 T, .int .i64 M]), (.int .u64 (pick : Nat))] (by kernel_rfl) (by kernel_rfl) (by kernel_rfl) (by kernel_rfl) (by kernel_rfl) Tryz.func79 (by kernel_rfl) (by kernel_rfl) (by kernel_rfl) ?_
    refine (cl _).mono ?_
    rintro e w6 ⟨rfl, hb6⟩
    refine ⟨_, rfl, ⟨l, s, h0.below hb6⟩, fun hHeld => ?_⟩
    refine Rg.call (ops := (Rg.opsOf Tryz.f24 7)) (fn := Tryz.f78) (xs := #[Operand.tmp 19, Operand.tmp 20, Operand.tmp 31]) (ats := #[23, 9, 117]) 13 (some 32) 78 #[(.pointer (some ⟨b, 0, none⟩)), (.string p), (.agg #[.int .i64 K, .string Z, .string Z, .int .i64 0, .int .i64 M])] (by kernel_rfl) (by kernel_rfl) (by kernel_rfl) (by kernel_rfl) (by kernel_rfl) Tryz.func78 (by kernel_rfl) (by kernel_rfl) (by kernel_rfl) ?_
    refine (cs _ (h0.below hb6)).mono ?_
    rintro e w7 ⟨rfl, h7⟩
    refine ⟨_, rfl, ⟨_, _, h7.choose_spec.1⟩, fun hHeld => ?_⟩
    refine Rg.done (ops := (Rg.opsOf Tryz.f24 7)) (by kernel_rfl) ?_
    exact ⟨by kernel_rfl, Ip.after (below_call (Below.refl _ w).drew hb6) h7⟩
end Go.Proofs.YtjdmbkkdnonkkaaGreat.Dk

namespace Go.Proofs.YtjdmbkkdnonkkaaGreat.Dk
open Go.RowKit Tx Pm
set_option linter.unusedVariables false
theorem div_nat (x d : Nat) : (x : Int) / (d : Int) = ((x / d : Nat) : Int) := (Int.natCast_ediv x d).symm
set_option maxRecDepth 100000 in
set_option maxHeartbeats 1000000 in
theorem iMix_any (loss : Int) (i : Nat) (w : World) (hl : -9223372036854775808 ≤ loss ∧ loss ≤ 9223372036854775807) (hi : i ≤ 2000000000) :
    Calls Tryz.prog 80 #[.int .i64 loss, .int .i64 (i : Nat)] w fun e w' => e = .returned (.int .u64 (mix (u64 loss) i : Nat)) ∧ w' = w := by
  go_enter Tryz.func80, Tryz.ntmps80
  go_wp2
  go_ret
  refine ⟨?_, rfl⟩
  have hA : IntKind.u64.wrap (IntKind.u64.wrap loss + IntKind.u64.wrap ((i : Int) * 11400714819323198485)) = ((mixA (u64 loss) i : Nat) : Int) := by
    have hu := u64_eq loss
    have hlt := u64_lt loss
    rw [hu]
    generalize u64 loss = a at hlt
    rw [IntKind.wrap_u64, IntKind.wrap_u64]
    unfold mixA
    omega
  have q1 := div_nat (mixA (u64 loss) i) 1073741824
  have x1 := xor_div (mixA (u64 loss) i) 1073741824 (mixA_lt _ i)
  have k1 := mul_nat (mixA (u64 loss) i ^^^ mixA (u64 loss) i / 1073741824) 13787848793156543929
  have q2 := div_nat (mixB (mixA (u64 loss) i)) 134217728
  have x2 := xor_div (mixB (mixA (u64 loss) i)) 134217728 (mixB_lt _)
  have k2 := mul_nat (mixB (mixA (u64 loss) i) ^^^ mixB (mixA (u64 loss) i) / 134217728) 10723151780598845931
  have q3 := div_nat (mixC (mixB (mixA (u64 loss) i))) 2147483648
  have x3 := xor_div (mixC (mixB (mixA (u64 loss) i))) 2147483648 (mixC_lt _)
  rw [show ((mixA (u64 loss) i ^^^ mixA (u64 loss) i / 1073741824) * 13787848793156543929 % 18446744073709551616) = mixB (mixA (u64 loss) i) from rfl] at k1
  rw [show ((mixB (mixA (u64 loss) i) ^^^ mixB (mixA (u64 loss) i) / 134217728) * 10723151780598845931 % 18446744073709551616) = mixC (mixB (mixA (u64 loss) i)) from rfl] at k2
  show Ending.returned (Value.int .u64 _) = _
  rw [hA]
  rw [show ((1073741824 : Nat) : Int) = 1073741824 from rfl] at q1
  rw [show ((134217728 : Nat) : Int) = 134217728 from rfl] at q2
  rw [show ((2147483648 : Nat) : Int) = 2147483648 from rfl] at q3
  rw [show ((13787848793156543929 : Nat) : Int) = 13787848793156543929 from rfl] at k1
  rw [show ((10723151780598845931 : Nat) : Int) = 10723151780598845931 from rfl] at k2
  rw [q1, x1, k1, q2, x2, k2, q3, x3]
  rfl
set_option maxRecDepth 100000 in
theorem iRest_any (m by_ : Nat) (w : World) (hm : m < 18446744073709551616) (h0 : 0 < by_) (h1 : by_ ≤ 4000000000000000000) :
    Calls Tryz.prog 132 #[.int .u64 (m : Nat), .int .i64 (by_ : Nat)] w fun e w' => e = .returned (.int .i64 (m % by_ : Nat)) ∧ w = w' := by
  have hlt : m % by_ < by_ := Nat.mod_lt _ h0
  have e1 : (m : Int).tmod (by_ : Int) = ((m % by_ : Nat) : Int) := (Int.ofNat_tmod m by_).symm
  have e2 : IntKind.u64.wrap ((m % by_ : Nat) : Int) = ((m % by_ : Nat) : Int) := by rw [wrap_nat, Nat.mod_eq_of_lt (by omega)]
  go_enter Tryz.func132, Tryz.ntmps132
  go_wp2
  go_ret
  exact ⟨ret_int (by rw [Int.natCast_emod]), rfl⟩
def loseR (X Y : ByteArray) (an : Bool) (m : Nat) : ByteArray := if an then (if m % (X.size + 2) = 0 then Y else X.extract 0 (m % (X.size + 2) - 1)) else X.extract 0 (Y.size + m % (X.size - Y.size + 1))
theorem lose_R (m : Nat) (x : It) : (lose m x).data = loseR x.data x.kept x.anew m ∧ (lose m x).kept = loseR x.data x.kept x.anew m := by
  unfold lose loseR
  exact ⟨rfl, rfl⟩
theorem infoIt : (Tryz.prog.info? 117).map (·.size) = some 5 := by kernel_rfl
set_option maxRecDepth 100000 in
set_option maxHeartbeats 1000000 in
theorem iLost_any (X Y : ByteArray) (an : Bool) (K T N : Int) (m : Nat) (w : World) (hT : T = if an then 2 else 1) (hX : X.size ≤ 1000000000000000000) (hY : an = false → Y.size ≤ X.size) (hm : m < 18446744073709551616) :
    Calls Tryz.prog 79 #[.agg #[.int .i64 K, .string X, .string Y, .int .i64 T, .int .i64 N], .int .u64 (m : Nat)] w fun e w' => e = .returned (.agg #[.int .i64 K, .string (loseR X Y an m), .string (loseR X Y an m), .int .i64 0, .int .i64 N]) ∧ Below w.heap.size w w' := by
  have hb := fun o o2 => ((Below.refl _ w).alloc (Nat.le_refl _) o).alloc (by simp) o2
  have HB := Lib.hid hb
  clear hb
  cases an with
  | true =>
    obtain rfl : T = 2 := hT
    have cr := fun W => iRest_any m (X.size + 2) W hm (by omega) (by omega)
    rw [show ((X.size + 2 : Nat) : Int) = (X.size : Int) + 2 by omega] at cr
    have hk := Nat.mod_lt m (show 0 < X.size + 2 by omega)
    obtain ⟨R, hR⟩ : ∃ R, R = loseR X Y true m := ⟨_, rfl⟩
    rw [← hR]
    unfold loseR at hR
    rw [if_pos rfl] at hR
    generalize m % (X.size + 2) = k at cr hk hR
    clear hY hm
    by_cases h0 : k = 0
    · subst h0
      rw [if_pos rfl] at hR
      subst hR
      go_enter Tryz.func79, Tryz.ntmps79
      go_wp2_with (go_at_call 132; refine (cr _).mono ?_; rintro e w' ⟨rfl, rfl⟩)
      refine bodyPost_ret (results_cell_row rfl _ _ _ _ _ _ _ rfl (new_at _ _ (by simp)) Tryz.underlying117 rfl infoIt) rfl ?_
      exact ⟨rfl, HB.out _ _⟩
    · rw [if_neg h0] at hR
      obtain ⟨j, rfl⟩ : ∃ j, k = j + 1 := ⟨k - 1, by omega⟩
      rw [Nat.add_sub_cancel] at hR
      have e0 := ne_eq h0
      have e1 : ((j + 1 : Nat) : Int) - 1 = j := by omega
      have HR := Lib.hid hR
      clear h0 hR
      go_enter Tryz.func79, Tryz.ntmps79
      go_wp2_with (go_at_call 132; refine (cr _).mono ?_; rintro e w' ⟨rfl, rfl⟩)
      refine bodyPost_ret (results_cell_row rfl _ _ _ _ _ _ _ rfl (new_at _ _ (by simp)) Tryz.underlying117 rfl infoIt) rfl ?_
      rw [HR.out]
      exact ⟨rfl, HB.out _ _⟩
  | false =>
    obtain rfl : T = 1 := hT
    have hYX := hY rfl
    have cr := fun W => iRest_any m (X.size - Y.size + 1) W hm (by omega) (by omega)
    rw [show ((X.size - Y.size + 1 : Nat) : Int) = (X.size : Int) - (Y.size : Int) + 1 by omega] at cr
    have hk := Nat.mod_lt m (show 0 < X.size - Y.size + 1 by omega)
    obtain ⟨R, hR⟩ : ∃ R, R = loseR X Y false m := ⟨_, rfl⟩
    rw [← hR]
    unfold loseR at hR
    rw [if_neg (by decide)] at hR
    generalize m % (X.size - Y.size + 1) = k at cr hk hR
    clear hY hm
    have HR := Lib.hid hR
    clear hR
    go_enter Tryz.func79, Tryz.ntmps79
    go_wp2_with (go_at_call 132; refine (cr _).mono ?_; rintro e w' ⟨rfl, rfl⟩)
    refine bodyPost_ret (results_cell_row rfl _ _ _ _ _ _ _ rfl (new_at _ _ (by simp)) Tryz.underlying117 rfl infoIt) rfl ?_
    rw [HR.out]
    exact ⟨rfl, HB.out _ _⟩
end Go.Proofs.YtjdmbkkdnonkkaaGreat.Dk

namespace Go.Proofs.YtjdmbkkdnonkkaaGreat.Dk
open Go.RowKit Tx Pm Pl Pr
set_option linter.unusedVariables false
def lse (x : It) : Bool := x.loose
theorem next_loose {s : St} {U j st : Nat} {p : ByteArray} {r : List ByteArray} : ∀ (m k : Nat) (pre : List It), s.L.length - k ≤ m → Through s U k j pre st → held lse (s.L.drop k) = p :: r →
    ∃ k2 pre2 x, Through s U k2 j pre2 st ∧ mid s k2 pre2 st = mid s k pre st ∧ s.L[k2]? = some x ∧ x.loose = true ∧ x.path = p ∧ held lse (s.L.drop (k2 + 1)) = r
  | 0, k, pre, hm, h, he => by
    rw [List.drop_of_length_le (by omega)] at he
    cases he
  | m + 1, k, pre, hm, h, he => by
    by_cases hk : k < s.L.length
    · have hx : s.L[k]? = some s.L[k] := List.getElem?_eq_getElem hk
      rw [List.drop_eq_getElem_cons hk, held_cons] at he
      cases hl : s.L[k].loose with
      | true =>
        have hl2 : lse s.L[k] = true := hl
        rw [if_pos hl2, List.singleton_append] at he
        injection he with he1 he2
        exact ⟨k, pre, s.L[k], h, rfl, hx, hl, he1, he2⟩
      | false =>
        have hl2 : ¬ lse s.L[k] = true := by unfold lse; rw [hl]; decide
        rw [if_neg hl2, List.nil_append] at he
        obtain ⟨k2, pre2, x, h1, h2, h3⟩ := next_loose m (k + 1) (pre ++ [s.L[k]]) (by omega) (through_calm h hx hl) he
        exact ⟨k2, pre2, x, h1, h2.trans (mid_calm h hx), h3⟩
    · rw [List.drop_of_length_le (by omega)] at he
      cases he
theorem end_loose {s : St} {U j st : Nat} : ∀ (m k : Nat) (pre : List It), s.L.length - k ≤ m → Through s U k j pre st → held lse (s.L.drop k) = [] →
    ∃ pre2, Through s U s.L.length j pre2 st ∧ mid s s.L.length pre2 st = mid s k pre st
  | 0, k, pre, hm, h, he => by
    have := h.le
    obtain rfl : k = s.L.length := by omega
    exact ⟨pre, h, rfl⟩
  | m + 1, k, pre, hm, h, he => by
    by_cases hk : k < s.L.length
    · have hx : s.L[k]? = some s.L[k] := List.getElem?_eq_getElem hk
      rw [List.drop_eq_getElem_cons hk, held_cons] at he
      cases hl : s.L[k].loose with
      | true =>
        have hl2 : lse s.L[k] = true := hl
        rw [if_pos hl2] at he
        cases he
      | false =>
        have hl2 : ¬ lse s.L[k] = true := by unfold lse; rw [hl]; decide
        rw [if_neg hl2, List.nil_append] at he
        obtain ⟨pre2, h1, h2⟩ := end_loose m (k + 1) (pre ++ [s.L[k]]) (by omega) (through_calm h hx hl) he
        exact ⟨pre2, h1, h2.trans (mid_calm h hx)⟩
    · have := h.le
      obtain rfl : k = s.L.length := by omega
      exact ⟨pre, h, rfl⟩
theorem restart_mid {s : St} {U j st : Nat} {pre : List It} {loss : Int} (hU : U = u64 loss) (h : Through s U s.L.length j pre st) : restartS s loss = { mid s s.L.length pre st with down := false, armed := -1 } := by
  have := through_end h
  unfold restartS mid
  rw [← hU, this, List.drop_of_length_le (Nat.le_refl _), List.append_nil]
theorem ne_dir {s : St} (hg : Good s) {x : It} (hx : x ∈ s.L) (hl : x.loose = true) : x.dir = false := by
  cases hd : x.dir with
  | false => rfl
  | true =>
    have := (hg.dirs x hx hd).2.2.1
    rw [hl] at this
    cases this
theorem mid_old {s : St} {U k j st : Nat} {pre : List It} {x : It} (hr : Rises s.L) (h : Through s U k j pre st) (hx : s.L[k]? = some x) (hd : x.dir = false) :
    old (mid s k pre st).L x.path = x ∧ kind (mid s k pre st).L x.path = 2 := by
  obtain ⟨e1, e2⟩ := mid_at h hx
  have hf := find_paths (mid_rises h hr) (List.mem_of_getElem? e2)
  refine ⟨by rw [old, hf]; rfl, ?_⟩
  unfold kind kindOf
  rw [hf]
  simp only
  rw [if_neg (by rw [hd]; decide)]
theorem mid_set {s : St} {U k j st : Nat} {pre : List It} {x : It} (hr : Rises s.L) (h : Through s U k j pre st) (hx : s.L[k]? = some x) (pick : Nat) :
    putS (mid s k pre st) (lose pick x) = mid s (k + 1) (pre ++ [{ lose pick x with stamp := st + 1 }]) (st + 1) :=
  mid_put h hr hx (x' := { lose pick x with stamp := st + 1 }) rfl
set_option maxRecDepth 100000 in
set_option maxHeartbeats 4000000 in
theorem iRestart_any (b bi bl : Nat) (l : Int) (s : St) (loss : Int) (w : World) (h : Ia b bi bl l w s) (hg : Good s) (hs : SoundW s) (hn : s.L.length ≤ 1000000000) (hps : ∀ x ∈ s.L, x.path.size ≤ 8000000000000) (hl : -9223372036854775808 ≤ loss ∧ loss ≤ 9223372036854775807) :
    Calls Tryz.prog 24 #[.pointer (some ⟨b, 0, none⟩), .int .i64 loss] w fun e w' => e = .returned (.int .i64 ((0 : Nat) : Int)) ∧ Ip b bi bl w (restartS s loss) w' := by
  obtain ⟨U, hU⟩ : ∃ U, U = u64 loss := ⟨_, rfl⟩
  have cp := iPaths_any b bi bl l s 77 #[] lse w h hg.rises hn hps (fun a1 a2 W => Rg.enters Tryz.func77 (by kernel_rfl) (by kernel_rfl) _ W) (fun W x _ _ => iRestC_any x W)
  have hll := held_len lse s.L
  have HH := Lib.hid h
  have HG := Lib.hid hg
  have HS := Lib.hid hs
  have HN := Lib.hid hn
  have HP := Lib.hid hps
  have hft := h.lt
  have HF := Lib.hid hft
  clear h hg hs hps hft
  go_enter Tryz.func24, Tryz.ntmps24
  go_wp2_with fail
  go_at_call 76
  refine cp.mono ?_
  rintro e w1 ⟨v, rfl, hT, hb1⟩
  have hlen : (held lse s.L).length ≤ 1000000000 := Nat.le_trans hll HN.out
  obtain ⟨a, c, hv, hstr, _, _⟩ := hT.form
  have hge : ∀ bb off, a = some ⟨bb, off, none⟩ → w.heap.size ≤ bb ∨ (held lse s.L).length = 0 := by
    intro bb off ha
    rcases hT.2 with ⟨hv2, h0⟩ | ⟨g, cap, cur, hv2, hgg, _⟩
    · exact .inr h0
    · rw [hv, ha] at hv2
      cases hv2
      exact .inl hgg
  have hstr2 : ∀ W, Chg (Ft b bi bl) w1 W → ∀ j p, (held lse s.L)[j]? = some p → ∃ bb off, a = some ⟨bb, off, none⟩ ∧ W.cell? ⟨bb, off + j, none⟩ = some (.string p) := by
    intro W hW j p hj
    have hjl : j < (held lse s.L).length := (List.getElem?_eq_some_iff.1 hj).1
    rcases hstr.2 with h0 | ⟨bb, off, ha, hbb, hcc⟩
    · omega
    · refine ⟨bb, off, ha, ?_⟩
      have hgb := (hge bb off ha).resolve_right (by omega)
      have hx := hcc j p hj
      unfold World.cell? at *
      rw [hW.block bb hbb (fun hf => by have := HF.out bb hf; omega)]
      exact hx
  subst hv
  have HST := Lib.hid hstr2
  have hIA : Ia b bi bl l w1 (mid s 0 [] s.stamps) := HH.out.below hb1
  have HIA := Lib.hid hIA
  obtain ⟨n, hn2⟩ : ∃ n, n = (held lse s.L).length := ⟨_, rfl⟩
  rw [← hn2] at hlen
  have HN2 := Lib.hid hn2
  rw [← hn2]
  have HT := Lib.hid hT
  clear hstr hge hstr2 hIA hT cp hll hn2
  go_wp2_with fail
  go_loopw [14] (fun i wr => ∃ (j k st : Nat) (pre : List It) (l2 : Int), j ≤ n ∧ i = .int .i64 j ∧ Hid (Through s U k j pre st ∧ (held lse s.L).drop j = held lse (s.L.drop k)) ∧ Ia b bi bl l2 wr (mid s k pre st) ∧ Chg (Ft b bi bl) w1 wr) (fun i _ => n - (intOf i).toNat)
  case atStart => exact ⟨0, 0, s.stamps, [], l, Nat.zero_le _, rfl, ⟨through_zero s U, rfl⟩, HIA.out, Chg.refl _ _⟩
  case round =>
    obtain ⟨j, k, st, pre, l2, hj, rfl, hT2, hI, hC⟩ := hrel
    by_cases hlt : j < n
    · obtain ⟨p, hp⟩ : ∃ p, (held lse s.L)[j]? = some p := ⟨_, List.getElem?_eq_getElem (by rw [← HN2.out]; exact hlt)⟩
      obtain ⟨bb, off, ha, hcl⟩ := HST.out _ hC j p hp
      obtain ⟨hjl, hpe⟩ := List.getElem?_eq_some_iff.1 hp
      have hcons : held lse (s.L.drop k) = p :: (held lse s.L).drop (j + 1) := by rw [← hT2.out.2, List.drop_eq_getElem_cons hjl, hpe]
      obtain ⟨k2, pre2, x, hth, hmid, hx, hlo, hxp, hrest⟩ := next_loose _ k pre (Nat.le_refl _) hT2.out.1 hcons
      rw [← hmid] at hI
      have hxm := List.mem_of_getElem? hx
      have hd := ne_dir HG.out hxm hlo
      obtain ⟨ho, hk⟩ := mid_old HG.out.rises hth hx hd
      have hpx := HP.out x hxm
      have hsz := HS.out.size x hxm
      have hkp := HS.out.kept x hxm
      have hpl := mix_lt U (j + 1)
      have hnk := hth.num
      have hkl := hth.le
      have hss := hth.stamp
      have hsb := HS.out.stamps
      have cm := fun W => iMix_any loss (j + 1) W hl (by omega)
      rw [← hU] at cm
      have cl := fun W => iLost_any x.data x.kept x.anew 2 (stOf x) x.stamp (mix U (j + 1)) W (by unfold stOf; rw [hlo]; rfl) hsz.1 hkp hpl
      have cs := fun W (hW : Ia b bi bl l2 W (mid s k2 pre2 st)) => iSet_any b bi bl l2 (mid s k2 pre2 st) (lose (mix U (j + 1)) x) x.stamp p W hW hxp (by rw [← hxp]; exact hpx) (by rw [mid_len hth]; exact HN.out) (by show st ≤ _; omega)
      rw [mid_set HG.out.rises hth hx] at cs
      obtain ⟨q1, q2⟩ := lose_R (mix U (j + 1)) x
      rw [q1, q2, show kOf (lose (mix U (j + 1)) x) = 2 from kOf_file hd, show stOf (lose (mix U (j + 1)) x) = 0 from rfl] at cs
      have hlk := fun W (hW : Ia b bi bl l2 W (mid s k2 pre2 st)) => hW.look (p := p) (by rw [← hxp]; exact maxLen_of hpx)
      rw [hxp] at ho hk
      rw [ho, hk] at hlk
      have HTN := Lib.hid (And.intro (through_loose hth hx hlo) hrest.symm)
      generalize loseR x.data x.kept x.anew (mix U (j + 1)) = Z at cl cs
      generalize mix U (j + 1) = PK at cm cl hpl
      subst ha
      have hadd : IntKind.i64.wrap ((j : Int) + 1) = ((j + 1 : Nat) : Int) := IntWalk.i64_in _ (by omega)
      have HAD := Lib.hid hadd
      have HI := Lib.hid hI
      have HLK := Lib.hid hlk
      clear hadd hI hlk hth hx hlo hxp hrest hmid ho hk hpx hsz hkp hpl hnk hkl hss hsb q1 q2 hd hxm hcons hp hpe hjl hT2
      go_wp2_with fail
      refine Rg.wp_only ?_ (regRestart _ (by kernel_rfl) _ b bi bl j PK l2 loss 2 (stOf x) x.stamp (mid s k2 pre2 st) _ p x.data x.kept Z _ HI.out HLK.out HAD.out cm cl cs)
      rintro _ w9 ⟨rfl, l9, hI9, hC9⟩
      go_wp2_with fail
      go_roundw
      case rel => exact ⟨j + 1, k2 + 1, st + 1, _, l9, by omega, by go_num, HTN, hI9, hC.then hC9⟩
      case measure => simp [intOf]; omega
    · obtain rfl : j = n := by omega
      have hnil : held lse (s.L.drop k) = [] := by rw [← hT2.out.2, List.drop_of_length_le (by rw [HN2.out]; exact Nat.le_refl _)]
      obtain ⟨pre3, h3, h4⟩ := end_loose _ k pre (Nat.le_refl _) hT2.out.1 hnil
      have hres := restart_mid hU h3
      rw [h4] at hres
      have HRS := Lib.hid hres
      have hc9 := hI.cell
      have hw9 := hI.warm
      have hb1' : (wr.setCell ⟨b, 5, none⟩ (.bool false)).heap[b]? = some (.cells #[.map (some bi), .map (some bl), .int .i64 l2, .int .i64 (mid s k pre st).steps, .int .i64 (mid s k pre st).stamps, .bool false] 114 (0, 0)) := own_cells hI 5 _ rfl
      have hb2' : ((wr.setCell ⟨b, 5, none⟩ (.bool false)).setCell ⟨b, 2, none⟩ (.int .i64 (-1))).heap[b]? = some (.cells #[.map (some bi), .map (some bl), .int .i64 (-1), .int .i64 (mid s k pre st).steps, .int .i64 (mid s k pre st).stamps, .bool false] 114 (0, 0)) := set_block hb1' _
      have hc2 : Chg (· = b) wr ((wr.setCell ⟨b, 5, none⟩ (.bool false)).setCell ⟨b, 2, none⟩ (.int .i64 (-1))) := (chg_set _).then (chg_set _)
      have a2 : Ia b bi bl (-1) _ { mid s k pre st with down := false, armed := -1 } := hI.poke hc2 hb2' rfl rfl (.inr rfl) (by omega)
      have HE := Lib.hid (show Ip b bi bl w { mid s k pre st with down := false, armed := -1 } _ from ⟨-1, a2, ((Chg.of_below hb1).then hC).then (hc2.mono ft_b)⟩)
      have g2 : (wr.setCell ⟨b, 5, none⟩ (.bool false)).cell? ⟨b, 2, none⟩ = some (.int .i64 l2) := by unfold World.cell?; rw [hb1']; rfl
      obtain ⟨c0, c1, c2, c3, c4, c5⟩ := hc9
      clear hI hT2 hnil h3 h4 hres hb1' hb2' hc2 a2 hC
      go_wp2
      go_ret
      exact ⟨rfl, by rw [HRS.out]; exact HE.out⟩
end Go.Proofs.YtjdmbkkdnonkkaaGreat.Dk

namespace Go.Proofs.YtjdmbkkdnonkkaaGreat.Wl
open Go.RowKit Tx Pm Pl Pr Dk Fr
set_option linter.unusedVariables false
section
variable {α β : Type} {Obj : World → (Nat → Prop) → α → Prop} {Obj' : World → (Nat → Prop) → β → Prop} {w0 W : World} {x : α} {y : β}
end
section
variable {w0 W : World} {b j k : Nat} {s s' : St} {x y : Jst}
theorem d_arm {m : Int} {F : Nat → Prop} (h : ImpAt b W F s) (hm : -9223372036854775808 ≤ m ∧ m ≤ 9223372036854775807) : Calls Tryz.prog 23 #[.pointer (some ⟨b, 0, none⟩), .int .i64 m] W fun e w' => e = .returned (.tuple #[]) ∧ Dk.Left (ImpAt b) W F { s with armed := if m < 0 then -1 else m } w' := by
  obtain ⟨bi, bl, l, hI, hg, hF⟩ := h
  exact (iArm_any b bi bl l s m W hI hm).mono fun e w' ht => ⟨ht.1, ht.2.left (good_of hg rfl rfl) hF⟩
theorem w_restart {m : Int} (h : Own (ImpAt b) w0 s W) (hs : SoundW s) (hn : s.L.length ≤ 1000000000) (hps : ∀ x ∈ s.L, x.path.size ≤ 8000000000000) (hm : -9223372036854775808 ≤ m ∧ m ≤ 9223372036854775807) (he : restartS s m = s') : Calls Tryz.prog 24 #[.pointer (some ⟨b, 0, none⟩), .int .i64 m] W fun e w' => e = .returned (.int .i64 (0 : Nat)) ∧ Own (ImpAt b) w0 s' w' :=
  h.call (fun F hh => by
    obtain ⟨bi, bl, l, hI, hg, hF⟩ := hh
    have c := iRestart_any b bi bl l s m W hI hg hs hn hps hm
    have hg' := good_restart (loss := m) hg
    rw [he] at c hg'
    exact c.mono fun e w' ht => ⟨ht.1, ht.2.left hg' hF⟩)
end
end Go.Proofs.YtjdmbkkdnonkkaaGreat.Wl

namespace Go.Proofs.YtjdmbkkdnonkkaaGreat.Tb
open Go.RowKit Tx Pm Dk Wm Wr Wl
set_option linter.unusedVariables false
set_option linter.unusedSimpArgs false
set_option linter.unnecessarySimpa false
section
variable {B BT G GT : Option Fi} {g f : Fi} {d : ByteArray} {st sm : Nat} {a : Int} {dn : Bool}
theorem t7_rises : Rises (T7 B BT G GT st sm a dn).L := by
  have full : Rises (T7 (some (sy ⟨#[]⟩ 0)) (some (sy ⟨#[]⟩ 0)) (some (sy ⟨#[]⟩ 0)) (some (sy ⟨#[]⟩ 0)) 0 0 0 false).L := by
    show List.Pairwise _ _
    decide +kernel
  have hs : ((T7 B BT G GT st sm a dn).L.map (·.path)).Sublist ((T7 (some (sy ⟨#[]⟩ 0)) (some (sy ⟨#[]⟩ 0)) (some (sy ⟨#[]⟩ 0)) (some (sy ⟨#[]⟩ 0)) 0 0 0 false).L.map (·.path)) := by
    have one : ∀ (p : ByteArray) (o : Option Fi), ((oit p o).map (·.path)).Sublist [p] := fun p o => by
      cases o with
      | none => exact List.nil_sublist _
      | some f => exact List.Sublist.refl _
    unfold T7
    simp only [List.map_cons, List.map_append]
    exact List.Sublist.cons_cons _ ((one pB B).append ((one pBT BT).append ((one pG G).append (one pGT GT))))
  unfold Rises at full ⊢
  rw [← List.pairwise_map (f := fun x : It => x.path) (R := fun x y => Op.bytesLess x.toList y.toList = true)] at full ⊢
  exact List.Pairwise.sublist hs full
theorem t7_sound (h : Sz B BT G GT st sm) : SoundW (T7 B BT G GT st sm a dn) := by
  have hl := t7_len (B := B) (BT := BT) (G := G) (GT := GT) (st := st) (sm := sm) (a := a) (dn := dn)
  have hsm := h.sm
  exact ⟨t7_rises, fun x hx => (t7_mem h hx).2.2.2, fun x hx => by have := t7_mem h hx; omega, by show sm + _ ≤ _; omega⟩
end
section
variable {B BT G GT : Option Fi} {d : ByteArray} {st sm : Nat} {a : Int}
end
def Re (o o' : Option Fi) : Prop := match o with
  | none => o' = none
  | some f => ∃ c m, o' = some (sy c m) ∧ c.size ≤ 20000000000 ∧ (f.loose = false → c = f.data ∧ m = f.stamp) ∧ (f.anew = false → f.loose = true → f.kept.size ≤ c.size ∧ c = f.data.extract 0 c.size)
theorem Re.ook {o o' : Option Fi} (h : Re o o') : Ook o' := by
  cases o with
  | none => rw [show o' = none from h]; exact ook_none
  | some f =>
    obtain ⟨c, m, rfl, hc, _⟩ := h
    exact ook_sy hc
theorem re_one (loss : Nat) (p : ByteArray) (o : Option Fi) (l : List It) (n st : Nat) (h : Ook o) : ∃ o' n' st', Re o o' ∧ st ≤ st' ∧ st' ≤ st + 1 ∧ restartL loss (oit p o ++ l) n st = (oit p o' ++ (restartL loss l n' st').1, (restartL loss l n' st').2) := by
  cases o with
  | none => exact ⟨none, n, st, rfl, Nat.le_refl _, by omega, rfl⟩
  | some f =>
    obtain ⟨data, kept, loose, anew, stamp⟩ := f
    obtain ⟨h1, h2, h3, h4⟩ := h _ rfl
    simp only at h1 h2 h3 h4
    cases loose with
    | false =>
      obtain ⟨rfl, rfl⟩ := h4 rfl
      refine ⟨some (sy kept stamp), n, st, ⟨kept, stamp, rfl, h1, fun _ => ⟨rfl, rfl⟩, fun _ e => (by cases e)⟩, Nat.le_refl _, by omega, ?_⟩
      show restartL loss (_ :: l) n st = _
      rw [restart_synced _ rfl]
      rfl
    | true =>
      have key : ∀ c, (lose (mix loss (n + 1)) ⟨p, false, data, kept, true, anew, stamp⟩).data = c → restartL loss (oit p (some ⟨data, kept, true, anew, stamp⟩) ++ l) n st = (oit p (some (sy c (st + 1))) ++ (restartL loss l (n + 1) (st + 1)).1, (restartL loss l (n + 1) (st + 1)).2) := fun c hc => by
        show restartL loss (_ :: l) n st = _
        rw [restart_loose _ rfl, lose_stamp, hc]
        rfl
      cases anew with
      | false =>
        obtain ⟨c, hc, c1, c2, c3⟩ := lose_old (mix loss (n + 1)) p kept data stamp (h3 rfl)
        exact ⟨_, n + 1, st + 1, ⟨c, st + 1, rfl, by omega, fun e => (by cases e), fun _ _ => ⟨c1, c3⟩⟩, by omega, by omega, key c hc⟩
      | true =>
        obtain ⟨c, hc, hc2⟩ := lose_new (mix loss (n + 1)) p kept data stamp
        have hcs : c.size ≤ 20000000000 := by
          rcases hc2 with rfl | ⟨h, _⟩
          · exact h2
          · omega
        exact ⟨_, n + 1, st + 1, ⟨c, st + 1, rfl, hcs, fun e => (by cases e), fun e => (by cases e)⟩, by omega, by omega, key c hc⟩
theorem t7_restart {B BT G GT : Option Fi} {st sm : Nat} (a : Int) (dn : Bool) (h : Sz B BT G GT st sm) (loss : Int) : ∃ B' BT' G' GT' sm', restartS (T7 B BT G GT st sm a dn) loss = T7 B' BT' G' GT' st sm' (-1) false ∧ Re B B' ∧ Re BT BT' ∧ Re G G' ∧ Re GT GT' ∧ sm ≤ sm' ∧ sm' ≤ sm + 4 := by
  obtain ⟨B', n1, st1, r1, a1, b1, e1⟩ := re_one (u64 loss) pB B (oit pBT BT ++ (oit pG G ++ oit pGT GT)) 0 sm h.b
  obtain ⟨BT', n2, st2, r2, a2, b2, e2⟩ := re_one (u64 loss) pBT BT (oit pG G ++ oit pGT GT) n1 st1 h.bt
  obtain ⟨G', n3, st3, r3, a3, b3, e3⟩ := re_one (u64 loss) pG G (oit pGT GT) n2 st2 h.g
  obtain ⟨GT', n4, st4, r4, a4, b4, e4⟩ := re_one (u64 loss) pGT GT [] n3 st3 h.gt
  rw [List.append_nil, restartL] at e4
  refine ⟨B', BT', G', GT', st4, ?_, r1, r2, r3, r4, by omega, by omega⟩
  unfold restartS T7
  simp only
  rw [restart_synced _ rfl, e1, e2, e3, e4]
  simp
theorem scan_torn (l : List ByteArray) (r c : ByteArray) (h : ∀ x ∈ l ++ [r], x.size ≤ 140737488351232) (h1 : (PK l).size ≤ c.size) (h2 : c = (PK (l ++ [r])).extract 0 c.size) :
    ∃ R, (R = l ∨ R = l ++ [r]) ∧ ((∃ g, Fm.sc c 0 = (R, g, 0) ∧ c = PK R) ∨ (∃ g, Fm.sc c 0 = (R, g, 2) ∧ c.extract 0 g = PK R)) := by
  have hs := scan_PK (l ++ [r]) c.size h
  rw [← h2, Fr.cnt_snoc] at hs
  rw [PK_size] at h1
  by_cases hb : (Fr.PKl (l ++ [r])).length ≤ c.size
  · rw [if_pos hb, show l.length + 1 = (l ++ [r]).length by simp, List.take_length, if_pos (by omega)] at hs
    have e : c = PK (l ++ [r]) := by
      have e2 : (PK (l ++ [r])).extract 0 c.size = PK (l ++ [r]) := by
        rw [PK_ext, List.take_of_length_le hb]
        rfl
      rw [e2] at h2
      exact h2
    exact ⟨l ++ [r], .inr rfl, .inl ⟨_, hs, e⟩⟩
  · rw [if_neg hb, Fr.cnt_all l _ h1, List.take_left] at hs
    by_cases he : (Fr.PKl l).length = min c.size (Fr.PKl (l ++ [r])).length
    · rw [if_pos he] at hs
      have hc : c.size = (Fr.PKl l).length := by omega
      have e : c = PK l := by
        have e2 := PK_prefix (l ++ [r]) l.length c.size (by rw [List.take_left]; exact h1)
        rw [List.take_left, ← h2] at e2
        rw [← e2, ← hc]
        exact (Wm.extract_all c).symm
      exact ⟨l, .inl rfl, .inl ⟨_, hs, e⟩⟩
    · rw [if_neg he] at hs
      have e2 := PK_prefix (l ++ [r]) l.length c.size (by rw [List.take_left]; exact h1)
      rw [List.take_left, ← h2] at e2
      exact ⟨l, .inl rfl, .inr ⟨_, hs, e2⟩⟩
def Torn (l : List ByteArray) (r c : ByteArray) : Prop := (PK l).size ≤ c.size ∧ c = (PK (l ++ [r])).extract 0 c.size
theorem torn_whole (l : List ByteArray) (r : ByteArray) : Torn l r (PK l) := by
  refine ⟨Nat.le_refl _, ?_⟩
  have := PK_prefix (l ++ [r]) l.length (PK l).size (by rw [List.take_left, PK_size]; exact Nat.le_refl _)
  rw [List.take_left] at this
  have e : ((PK (l ++ [r])).extract 0 (PK l).size).extract 0 (Fr.PKl l).length = (PK (l ++ [r])).extract 0 (PK l).size := by
    rw [ByteArray.extract_extract, PK_size]
    congr 1
    omega
  rw [e] at this
  exact this.symm
theorem openG {B BT GT : Option Fi} {l : List ByteArray} {r c : ByteArray} {n st sm : Nat} {a : Int} (h : Sz B BT (some (sy c n)) GT st sm) (ha : Rng a) (hl : ∀ x ∈ l ++ [r], x.size ≤ 140737488351232) (ht : Torn l r c) :
    ∃ R k x, (R = l ∨ R = l ++ [r]) ∧ openS (T7 B BT (some (sy c n)) GT st sm a false) pG = (k, x) ∧
      ((k = 0 ∧ ∃ GT' n' st' sm' a', x = ⟨T7 B BT (some (sy (PK R) n')) GT' st' sm' a' false, R, false⟩ ∧ (PK R).size ≤ c.size ∧ Ook GT' ∧ st' ≤ st + 3 ∧ sm' ≤ sm + 2 ∧ Rng a' ∧ (a = -1 → a' = -1)) ∨
       (k = 14 ∧ a ≠ -1 ∧ ∃ GT' st' sm', x.s = T7 B BT (some (sy c n)) GT' st' sm' (-1) true ∧ Ook GT' ∧ st' ≤ st + 3 ∧ sm' ≤ sm + 2)) := by
  obtain ⟨R, hR, hcase⟩ := scan_torn l r c hl ht.1 ht.2
  have hk : kind (T7 B BT (some (sy c n)) GT st sm a false).L pG ≠ 0 := by rw [k_log]; decide
  have hr : readS (T7 B BT (some (sy c n)) GT st sm a false) pG = (c, 0) := r_log
  rcases hcase with ⟨g, hs, hc⟩ | ⟨g, hs, hc⟩
  · refine ⟨R, _, _, hR, open_2 hk hr hs, .inl ⟨rfl, GT, n, st, sm, a, by rw [← hc], by rw [← hc]; exact Nat.le_refl _, h.gt, by omega, by omega, ha, id⟩⟩
  · have hsz : (c.extract 0 g).size ≤ c.size := by rw [ByteArray.size_extract]; omega
    have hcs : c.size ≤ 20000000000 := (h.g _ rfl).1
    obtain ⟨k, s', hf, hcases⟩ := fillG (d := c.extract 0 g) h (by omega) ha
    refine ⟨R, _, _, hR, open_3 hk hr hs (by decide) hf, ?_⟩
    rcases hcases with ⟨rfl, a', rfl, ra, rm⟩ | ⟨rfl, hne, GT', st', sm', rfl, o1, o2, o3⟩
    · exact .inl ⟨rfl, none, sm + 2, st + 3, sm + 2, a', by rw [← hc]; rfl, by rw [← hc]; exact hsz, ook_none, by omega, by omega, ra, rm⟩
    · exact .inr ⟨rfl, hne, GT', st', sm', rfl, o1, o2, o3⟩
end Go.Proofs.YtjdmbkkdnonkkaaGreat.Tb

namespace Go.Proofs.YtjdmbkkdnonkkaaGreat.Tb
open Go.RowKit Tx Pm Dk Wm Wr Wl Pl
set_option linter.unusedVariables false
set_option linter.unusedSimpArgs false
set_option linter.unnecessarySimpa false
section
variable {w0 W : World} {b j t m u k : Nat} {s s' : St} {x y : Tst} {l : List Ch}
theorem a_commit_any (h : Own (Tu b j t m u) w0 (x, l) W) (o : CommitOk x l pB pG) (he : commitS x l pB pG = (k, y)) : Calls Tryz.prog 51 #[.pointer (some ⟨u, 0, none⟩)] W fun e w' => e = .returned (.int .i64 (k : Nat)) ∧ Own (Tt b j t m) w0 y w' :=
  h.call (fun H hh => by
    have c := commit_any b j t m u pB pG W hh o
    rw [he] at c
    exact c.mono fun e w' q => ⟨q.1, q.2.1⟩)
theorem a_keys {p : ByteArray} (h : Own (Tt b j t m) w0 x W) (hn : x.L.length ≤ 1000000000) (hps : ∀ z ∈ x.L, z.path.size ≤ 1000000000000) (hp : p.size ≤ 1000000000000) : Calls Tryz.prog 58 #[.pointer (some ⟨t, 0, none⟩), .string p] W (ListTo (held (pre7 p) x.L) W) := by
  obtain ⟨F, ⟨Fj, h1⟩, h2, h3⟩ := h
  exact tKeys_any t m x.L p W h1.cell.2.2.2 h1.rows h1.rises hn hps hp
theorem a_disk {f : FuncId} {args : Array Value} {P : Ending → Prop} (h : Own (Tt b j t m) w0 x W) (hc : ∀ F, ImpAt b W F x.j.s → Calls Tryz.prog f args W fun e w' => P e ∧ Dk.Left (ImpAt b) W F s' w') : Calls Tryz.prog f args W fun e w' => P e ∧ Own (Tt b j t m) w0 ⟨⟨s', x.j.R, x.j.dm⟩, x.L⟩ w' :=
  h.call (fun F ⟨Fj, hh⟩ => by
    obtain ⟨v, Fd, hj⟩ := hh.jn
    refine (hc Fd hj.dsk).mono fun e w' h2 => ⟨h2.1, ?_⟩
    obtain ⟨Fd', F', q, c, n⟩ := hj.disk_left (imp_kind b) h2.2
    exact hh.jleft ⟨F', ⟨v, Fd', q⟩, c, n⟩)
theorem a_arm {n : Int} (h : Own (Tt b j t m) w0 x W) (hm : -9223372036854775808 ≤ n ∧ n ≤ 9223372036854775807) : Calls Tryz.prog 23 #[.pointer (some ⟨b, 0, none⟩), .int .i64 n] W fun e w' => e = .returned (.tuple #[]) ∧ Own (Tt b j t m) w0 ⟨⟨{ x.j.s with armed := if n < 0 then -1 else n }, x.j.R, x.j.dm⟩, x.L⟩ w' :=
  a_disk h (fun F hd => d_arm hd hm)
end
end Go.Proofs.YtjdmbkkdnonkkaaGreat.Tb

namespace Go.Proofs.YtjdmbkkdnonkkaaGreat.Tb
open Go.RowKit Tx Pm Dk Wm Wr Wl Pl
set_option linter.unusedVariables false
set_option linter.unusedSimpArgs false
set_option linter.unnecessarySimpa false
theorem recok_pre {L : List It} {l : List ByteArray} {r : ByteArray} {R : List ByteArray} (h : RecOk L (l ++ [r])) (hR : R = l ∨ R = l ++ [r]) : RecOk L R := by
  rcases hR with rfl | rfl
  · obtain ⟨h1, h2, h3⟩ := h
    rw [List.map_append, List.sum_append] at h2
    rw [List.length_append] at h3
    exact ⟨fun x hx => h1 x (List.mem_append_left _ hx), by omega, by omega⟩
  · exact h
section
variable {B BT GT : Option Fi} {L0 : List It} {l : List ByteArray} {r c : ByteArray} {n st sm : Nat} {a : Int}
theorem openok_T (h : Sz B BT (some (sy c n)) GT st sm) (ha : Rng a) (hl : ∀ x ∈ l ++ [r], x.size ≤ 140737488351232) (hll : l.length ≤ 1000) (ht : Torn l r c) (hst : st ≤ 900000) (hsm : sm ≤ 900000) : OpenOk (T7 B BT (some (sy c n)) GT st sm a false) pG := by
  have hr : readS (T7 B BT (some (sy c n)) GT st sm a false) pG = (c, 0) := r_log
  have hcs : c.size ≤ 20000000000 := (h.g _ rfl).1
  refine ⟨fun h0 => (by rw [k_log] at h0; cases h0), fun _ => ?_⟩
  rw [hr]
  obtain ⟨R, hR, hcase⟩ := scan_torn l r c hl ht.1 ht.2
  have hRl : R.length ≤ 1001 := by
    rcases hR with rfl | rfl
    · omega
    · rw [List.length_append]; exact Nat.add_le_add_right hll 1
  have hx : (c.extract 0 (Fm.sc c 0).2.1).size ≤ 20000000000 := by rw [ByteArray.size_extract]; omega
  refine ⟨by show c.size ≤ _; omega, ?_, fun _ => fillokG h hx ha hst hsm⟩
  rcases hcase with ⟨g, hs, _⟩ | ⟨g, hs, _⟩ <;> · rw [hs]; show R.length ≤ _; omega
theorem open_T (hb : Based B L0) (h : Sz B BT (some (sy c n)) GT st sm) (ha : Rng a) (hrec : RecOk L0 (l ++ [r])) (hll : l.length ≤ 1000) (ht : Torn l r c) (hst : st ≤ 900000) (hsm : sm ≤ 900000) :
    Open7Ok (T7 B BT (some (sy c n)) GT st sm a false) pS pB pG ∧ ∃ R k x, (R = l ∨ R = l ++ [r]) ∧ open7 (T7 B BT (some (sy c n)) GT st sm a false) pS pB pG = (k, x) ∧
      ((k = 0 ∧ ∃ GT' n' st' sm' a', x = ⟨⟨T7 B BT (some (sy (PK R) n')) GT' st' sm' a' false, R, false⟩, rows7 L0 R⟩ ∧ (PK R).size ≤ c.size ∧ Ook GT' ∧ st' ≤ st + 3 ∧ sm' ≤ sm + 2 ∧ Rng a' ∧ (a = -1 → a' = -1)) ∨
       (k = 14 ∧ a ≠ -1 ∧ ∃ GT' st' sm', x.j.s = T7 B BT (some (sy c n)) GT' st' sm' (-1) true ∧ Ook GT' ∧ st' ≤ st + 3 ∧ sm' ≤ sm + 2)) := by
  obtain ⟨hb1, hb2⟩ := base_T (BT := BT) (G := some (sy c n)) (GT := GT) (st := st) (sm := sm) (a := a) hb
  have hop : opened (T7 B BT (some (sy c n)) GT st sm a false) pS = (0, T7 B BT (some (sy c n)) GT st sm a false) := by
    unfold opened
    rw [if_neg (by rw [k_sys]; decide)]
  have hw := recok_wide hrec
  obtain ⟨R, k, x, hR, ho, hcases⟩ := openG h ha hw ht
  refine ⟨⟨t7_ok h ha, fun _ => ?_, by decide, by decide, by decide⟩, ?_⟩
  · rw [hop]
    refine ⟨hb2, fun _ => ⟨openok_T h ha hw hll ht hst hsm, fun h0 => ?_⟩⟩
    rw [hb1, ho]
    rw [ho] at h0
    rcases hcases with ⟨_, GT', n', st', sm', a', rfl, _⟩ | ⟨hk, _⟩
    · exact recok_pre hrec hR
    · simp only at h0; omega
  · rcases hcases with ⟨rfl, GT', n', st', sm', a', rfl, hh⟩ | ⟨rfl, hne, GT', st', sm', hx, hh⟩
    · refine ⟨R, _, _, hR, (open_n hop).trans (open1_o hb1 ho), .inl ⟨rfl, GT', n', st', sm', a', rfl, hh⟩⟩
    · refine ⟨R, _, _, hR, (open_n hop).trans (open1_l hb1 ho (by decide)), .inr ⟨rfl, hne, GT', st', sm', hx, hh⟩⟩
end
section
variable {B BT GT : Option Fi} {c : ByteArray} {n st sm : Nat} {a : Int} {R : List ByteArray} {dm : Bool} {L : List It} {l : List Ch}
end
end Go.Proofs.YtjdmbkkdnonkkaaGreat.Tb

namespace Go.Proofs.YtjdmbkkdnonkkaaGreat.Dk
open Go.RowKit Tx Pm Pl Pr
set_option linter.unusedVariables false
end Go.Proofs.YtjdmbkkdnonkkaaGreat.Dk

namespace Go.Proofs.YtjdmbkkdnonkkaaGreat.Wl
open Go.RowKit Tx Pm Pl Pr Dk Fr
set_option linter.unusedVariables false
end Go.Proofs.YtjdmbkkdnonkkaaGreat.Wl

namespace Go.Proofs.YtjdmbkkdnonkkaaGreat.Tb
open Go.RowKit Tx Pm Dk Wm Wr Wl Pl
set_option linter.unusedVariables false
set_option linter.unusedSimpArgs false
set_option linter.unnecessarySimpa false
def ws (L : List It) : Nat := (L.map fun x => x.path.size + x.data.size + 40).sum
theorem wt_whole (L : List It) : wt (whole7 L) = ws L := by
  unfold wt whole7 ws
  rw [List.map_map]
  rfl
theorem snoc7 {α : Type} {P : List α → Prop} (h0 : P []) (h1 : ∀ l x, P l → P (l ++ [x])) (l : List α) : P l := by
  rw [← List.reverse_reverse l]
  induction l.reverse with
  | nil => exact h0
  | cons x r ih => rw [List.reverse_cons]; exact h1 _ _ ih
section
variable {B BT GT : Option Fi} {c : ByteArray} {n st sm : Nat} {a : Int} {R : List ByteArray} {dm : Bool} {L : List It} {l : List Ch}
end
section
variable {BT G GT : Option Fi} {f : Fi} {st sm : Nat} {bit : Int}
end
end Go.Proofs.YtjdmbkkdnonkkaaGreat.Tb

namespace Go.Proofs.YtjdmbkkdnonkkaaGreat.Tb
open Go.RowKit Tx Pm Dk Wm Wr Wl Pl
set_option linter.unusedVariables false
set_option linter.unusedSimpArgs false
set_option linter.unnecessarySimpa false
def kA : ByteArray := ⟨#[97]⟩
def kB : ByteArray := ⟨#[98]⟩
def kC : ByteArray := ⟨#[99]⟩
def kD : ByteArray := ⟨#[100]⟩
def pv (v : ByteArray) : List Ch := [⟨kA, v, false⟩, ⟨kB, v, false⟩, ⟨kC, v, false⟩, ⟨kD, ⟨#[]⟩, true⟩]
def rv (v : ByteArray) : ByteArray := rec7 (pv v)
def V3 (v : ByteArray) : List It := [rw7 kA v, rw7 kB v, rw7 kC v]
def RowsOf : Option ByteArray → List It
  | none => []
  | some v => V3 v
theorem all_pv (o : Option ByteArray) (v : ByteArray) : all7 (RowsOf o) (pv v) = V3 v := by cases o <;> kernel_rfl
theorem pv_norm (v : ByteArray) : (pv v).map norm = pv v := rfl
theorem wt_pv (v : ByteArray) : wt (pv v) = 3 * v.size + 164 := by
  show (1 + v.size + 40) + ((1 + v.size + 40) + ((1 + v.size + 40) + ((1 + 0 + 40) + 0))) = _
  omega
theorem ops_rv {v : ByteArray} (h : v.size ≤ 10000000) : opsS (rv v) = (pv v, 0) := by
  have := ops_back (l := pv v) (by rw [wt_pv]; omega)
  rwa [pv_norm] at this
theorem rv_size {v : ByteArray} (h : v.size ≤ 10000000) : (rv v).size ≤ 3 * v.size + 174 := by
  have := rec7_le (l := pv v) (by rw [wt_pv]; omega)
  rw [wt_pv] at this
  exact this
theorem whole_V3 (v : ByteArray) : all7 [] (whole7 (V3 v)) = V3 v := by kernel_rfl
theorem ws_V3 (v : ByteArray) : ws (V3 v) = 3 * v.size + 123 := by
  show (1 + v.size + 40) + ((1 + v.size + 40) + ((1 + v.size + 40) + 0)) = _
  omega
theorem based_V3 {v : ByteArray} {n : Nat} (h : v.size ≤ 10000000) : Based (some (sy (Fm.pk (rec7 (whole7 (V3 v)))) n)) (V3 v) := by
  have hw := wt_whole (V3 v)
  rw [ws_V3] at hw
  have hb := ops_back (l := whole7 (V3 v)) (by omega)
  have hr := rec7_le (l := whole7 (V3 v)) (by omega)
  refine .inr ⟨_, n, _, rfl, hb, by omega, ?_⟩
  rw [all_norm, whole_V3]
def Vok (vs : List ByteArray) : Prop := ∀ v ∈ vs, v.size ≤ 2000000
theorem rows_rv (o : Option ByteArray) (vs : List ByteArray) (h : Vok vs) : ∃ o', rows7 (RowsOf o) (vs.map rv) = RowsOf o' := by
  refine snoc7 (P := fun vs => Vok vs → ∃ o', rows7 (RowsOf o) (vs.map rv) = RowsOf o') (fun _ => ⟨o, rfl⟩) (fun l v ih h => ?_) vs h
  obtain ⟨o', ho⟩ := ih (fun x hx => h x (List.mem_append_left _ hx))
  refine ⟨some v, ?_⟩
  have hv := h v (by simp)
  rw [List.map_append, List.map_singleton, rows7_snoc, ho, ops_rv (by omega)]
  exact all_pv o' v
theorem rows_last (o : Option ByteArray) (vs : List ByteArray) (v : ByteArray) (h : Vok vs) (hv : v.size ≤ 2000000) : rows7 (RowsOf o) (vs.map rv ++ [rv v]) = V3 v := by
  obtain ⟨o', ho⟩ := rows_rv o vs h
  rw [rows7_snoc, ho, ops_rv (by omega)]
  exact all_pv o' v
theorem rec_each {vs : List ByteArray} (h : Vok vs) : ∀ r ∈ vs.map rv, (opsS r).2 = 0 ∧ r.size ≤ 6001000 := fun r hr => by
  obtain ⟨v, hv, rfl⟩ := List.mem_map.1 hr
  have h1 := h v hv
  have := rv_size (v := v) (by omega)
  rw [ops_rv (by omega)]
  exact ⟨rfl, by omega⟩
theorem sum_bound : ∀ {l : List Nat} {N : Nat}, (∀ x ∈ l, x ≤ N) → l.sum ≤ l.length * N
  | [], _, _ => Nat.zero_le _
  | x :: l, N, h => by
    have h1 := h x List.mem_cons_self
    have h2 := sum_bound (l := l) (fun y hy => h y (List.mem_cons_of_mem _ hy))
    rw [List.sum_cons, List.length_cons, Nat.succ_mul]
    omega
theorem pk_rv {vs : List ByteArray} (h : Vok vs) : (PK (vs.map rv)).size ≤ vs.length * 6002000 := by
  refine snoc7 (P := fun vs => Vok vs → (PK (vs.map rv)).size ≤ vs.length * 6002000) (fun _ => Nat.le_refl _) (fun l v ih h => ?_) vs h
  have h1 := ih (fun x hx => h x (List.mem_append_left _ hx))
  have hv := h v (by simp)
  have h2 := rv_size (v := v) (by omega)
  have h3 := pk_bound (r := rv v) (by omega)
  rw [List.map_append, List.map_singleton, PK_snoc, ByteArray.size_append, List.length_append]
  show _ ≤ (l.length + 1) * 6002000
  omega
theorem recok_rv (o : Option ByteArray) {vs : List ByteArray} {v : ByteArray} (h : Vok vs) (hv : v.size ≤ 2000000) (hl : vs.length ≤ 29) : RecOk (RowsOf o) (vs.map rv ++ [rv v]) := by
  have e : vs.map rv ++ [rv v] = (vs ++ [v]).map rv := by rw [List.map_append, List.map_singleton]
  have hok : Vok (vs ++ [v]) := fun x hx => by
    rcases List.mem_append.1 hx with hx | hx
    · exact h x hx
    · rw [List.mem_singleton.1 hx]; exact hv
  rw [e]
  have h1 := rec_each hok
  have h2 := sum_bound (l := ((vs ++ [v]).map rv).map (·.size)) (N := 6001000) (fun x hx => by
    obtain ⟨r, hr, rfl⟩ := List.mem_map.1 hx
    exact (h1 r hr).2)
  rw [List.length_map, List.length_map, List.length_append] at h2
  have h3 : (RowsOf o).length ≤ 3 := by
    cases o with
    | none => exact Nat.zero_le _
    | some u => exact Nat.le_refl 3
  refine ⟨fun r hr => ⟨(h1 r hr).1, by have := (h1 r hr).2; omega⟩, ?_, ?_⟩
  · have : vs.length + [v].length ≤ 30 := by show vs.length + 1 ≤ 30; omega
    have := Nat.mul_le_mul_right 6001000 this
    omega
  · rw [List.length_map, List.length_append]
    show vs.length + 1 ≤ _
    omega
structure Cr (S : List It → Prop) (B BT G GT : Option Fi) (st sm : Nat) (ob : Option ByteArray) (vs : List ByteArray) (v : ByteArray) : Prop where
  sz : Sz B BT G GT st sm
  bs : B = none ∨ ∃ d n, B = some (sy d n)
  based : Based B (RowsOf ob)
  ok : Vok vs
  vok : v.size ≤ 2000000
  st : st ≤ 100000
  sm : sm ≤ 100000
  rows : S (rows7 (RowsOf ob) (vs.map rv))
  log : ∀ G', Re G G' → ∃ c n, G' = some (sy c n) ∧ Torn (vs.map rv) (rv v) c ∧ ((PK (vs.map rv ++ [rv v])).size ≤ c.size → S (rows7 (RowsOf ob) (vs.map rv ++ [rv v])))
def Crs (S : List It → Prop) (K M : Nat) (s : St) : Prop := ∃ B BT G GT st sm a dn ob vs v, s = T7 B BT G GT st sm a dn ∧ st ≤ K ∧ sm ≤ K ∧ vs.length ≤ M ∧ Cr S B BT G GT st sm ob vs v
def Rst (S : List It → Prop) (K M : Nat) (a : Int) (s : St) : Prop := ∃ B BT c n GT st sm ob vs v, s = T7 B BT (some (sy c n)) GT st sm a false ∧ st ≤ K ∧ sm ≤ K ∧ vs.length ≤ M ∧ Cr S B BT (some (sy c n)) GT st sm ob vs v
theorem re_sy {c : ByteArray} {n : Nat} {o : Option Fi} (h : Re (some (sy c n)) o) : o = some (sy c n) := by
  obtain ⟨c', m, rfl, _, h1, _⟩ := h
  obtain ⟨rfl, rfl⟩ := h1 rfl
  rfl
theorem re_bs {B o : Option Fi} (h : Re B o) (hB : B = none ∨ ∃ d n, B = some (sy d n)) : o = B := by
  rcases hB with rfl | ⟨d, n, rfl⟩
  · exact h
  · exact re_sy h
theorem crs_restart {S : List It → Prop} {K M : Nat} {s : St} (h : Crs S K M s) (hK : K ≤ 90000) (loss : Int) : SoundW s ∧ s.L.length ≤ 1000000000 ∧ (∀ x ∈ s.L, x.path.size ≤ 8000000000000) ∧ Rst S (K + 4) M (-1) (restartS s loss) := by
  obtain ⟨B, BT, G, GT, st, sm, a, dn, ob, vs, v, rfl, h1, h2, hM, hc⟩ := h
  have hl := t7_len (B := B) (BT := BT) (G := G) (GT := GT) (st := st) (sm := sm) (a := a) (dn := dn)
  refine ⟨t7_sound hc.sz, by omega, fun x hx => by have := (t7_mem hc.sz hx).1; omega, ?_⟩
  obtain ⟨B', BT', G', GT', sm', hr, r1, r2, r3, r4, b1, b2⟩ := t7_restart a dn hc.sz loss
  obtain ⟨c, n, rfl, ht, hf⟩ := hc.log _ r3
  obtain rfl := re_bs r1 hc.bs
  refine ⟨B', BT', c, n, GT', st, sm', ob, vs, v, hr, by omega, by omega, hM, ⟨hc.sz.b, r2.ook, r3.ook, r4.ook, by have := hc.sz.st; omega, by omega⟩, hc.bs, hc.based, hc.ok, hc.vok, hc.st, by omega, hc.rows, fun G' hG => ?_⟩
  rw [re_sy hG]
  exact ⟨c, n, rfl, ht, hf⟩
theorem rst_arm {S : List It → Prop} {K M : Nat} {a a' : Int} {s : St} (h : Rst S K M a s) : Rst S K M a' { s with armed := a' } := by
  obtain ⟨B, BT, c, n, GT, st, sm, ob, vs, v, rfl, h1, h2, hM, hc⟩ := h
  exact ⟨B, BT, c, n, GT, st, sm, ob, vs, v, rfl, h1, h2, hM, hc⟩
theorem vok_snoc {vs : List ByteArray} {v : ByteArray} (h : Vok vs) (hv : v.size ≤ 2000000) : Vok (vs ++ [v]) := fun x hx => by
  rcases List.mem_append.1 hx with hx | hx
  · exact h x hx
  · rw [List.mem_singleton.1 hx]; exact hv
theorem log_whole {Q : Prop} {vs : List ByteArray} {v : ByteArray} {n : Nat} : ∀ G', Re (some (sy (PK (vs.map rv)) n)) G' → ∃ c n, G' = some (sy c n) ∧ Torn (vs.map rv) (rv v) c ∧ ((PK (vs.map rv ++ [rv v])).size ≤ c.size → Q) := fun G' hG => by
  refine ⟨_, _, re_sy hG, torn_whole _ _, fun h => ?_⟩
  rw [PK_snoc, ByteArray.size_append, Fm.pk_size] at h
  omega
theorem log_loose {Q : Prop} {vs : List ByteArray} {v : ByteArray} {m : Nat} (hQ : Q) : ∀ G', Re (some ⟨PK (vs.map rv) ++ Fm.pk (rv v), PK (vs.map rv), true, false, m⟩) G' → ∃ c n, G' = some (sy c n) ∧ Torn (vs.map rv) (rv v) c ∧ ((PK (vs.map rv ++ [rv v])).size ≤ c.size → Q) := fun G' hG => by
  obtain ⟨c, n, rfl, _, _, h⟩ := hG
  obtain ⟨h1, h2⟩ := h rfl rfl
  refine ⟨c, n, rfl, ⟨h1, ?_⟩, fun _ => hQ⟩
  rw [PK_snoc]
  exact h2
theorem rst_open {S : List It → Prop} {K M : Nat} {a : Int} {s : St} (h : Rst S K M a s) (hK : K ≤ 90000) (hM : M ≤ 25) (ha : Rng a) : Open7Ok s pS pB pG ∧ ∃ k x, open7 s pS pB pG = (k, x) ∧ Crs S (K + 4) (M + 1) x.j.s ∧ ((k = 0 ∧ S x.L) ∨ (k = 14 ∧ a ≠ -1)) := by
  obtain ⟨B, BT, c, n, GT, st, sm, ob, vs, v, rfl, h1, h2, hm, hc⟩ := h
  obtain ⟨c', n', e, ht, hf⟩ := hc.log (some (sy c n)) ⟨c, n, rfl, (hc.sz.g _ rfl).1, fun _ => ⟨rfl, rfl⟩, fun _ e => (by cases e)⟩
  injection e with e
  have ec : c = c' := congrArg Fi.data e
  subst ec
  obtain ⟨o1, R, k, x, hR, o2, hcs⟩ := open_T hc.based hc.sz ha (recok_rv ob hc.ok hc.vok (by omega)) (by rw [List.length_map]; omega) ht (by have := hc.st; omega) (by have := hc.sm; omega)
  refine ⟨o1, k, x, o2, ?_⟩
  rcases hcs with ⟨rfl, GT', n2, st', sm', a', rfl, hsz, hG, b1, b2, _⟩ | ⟨rfl, hne, GT', st', sm', hx, hG, b1, b2⟩
  · have hS : S (rows7 (RowsOf ob) R) := by
      rcases hR with rfl | rfl
      · exact hc.rows
      · exact hf hsz
    refine ⟨?_, .inl ⟨rfl, hS⟩⟩
    obtain ⟨vs', hvs, hl, hok⟩ : ∃ vs', R = vs'.map rv ∧ vs'.length ≤ M + 1 ∧ Vok vs' := by
      rcases hR with rfl | rfl
      · exact ⟨vs, rfl, by omega, hc.ok⟩
      · exact ⟨vs ++ [v], by rw [List.map_append, List.map_singleton], by rw [List.length_append]; show vs.length + 1 ≤ _; omega, vok_snoc hc.ok hc.vok⟩
    subst hvs
    have hcz := (hc.sz.g _ rfl).1
    have hcz : c.size ≤ 20000000000 := hcz
    exact ⟨B, BT, _, GT', st', sm', a', false, ob, vs', v, rfl, by omega, by omega, hl, ⟨hc.sz.b, hc.sz.bt, ook_sy (by omega), hG, by omega, by omega⟩, hc.bs, hc.based, hok, hc.vok, by omega, by omega, hS, log_whole⟩
  · refine ⟨⟨B, BT, _, GT', st', sm', -1, true, ob, vs, v, hx, by omega, by omega, by omega, ⟨hc.sz.b, hc.sz.bt, hc.sz.g, hG, by omega, by omega⟩, hc.bs, hc.based, hc.ok, hc.vok, by omega, by omega, hc.rows, fun G' hG' => ?_⟩, .inr ⟨rfl, hne⟩⟩
    rw [re_sy hG']
    exact ⟨c, n, rfl, ht, hf⟩
def Tb3 (o : Option ByteArray) (K : Nat) (x : Tst) : Prop := ∃ B n st sm a ob vs, x = ⟨⟨T7 B none (some (sy (PK (vs.map rv)) n)) none st sm a false, vs.map rv, false⟩, RowsOf o⟩ ∧ (B = none ∨ ∃ d n, B = some (sy d n)) ∧ Ook B ∧ Based B (RowsOf ob) ∧ rows7 (RowsOf ob) (vs.map rv) = RowsOf o ∧ Vok vs ∧ vs.length < 16 ∧ st ≤ K ∧ sm ≤ K ∧ Rng a
theorem tb3_sz {B GT : Option Fi} {n st sm : Nat} {vs : List ByteArray} (hB : Ook B) (hv : Vok vs) (hl : vs.length ≤ 30) (h1 : st ≤ 1000000) (h2 : sm ≤ 1000000) : Sz B none (some (sy (PK (vs.map rv)) n)) none st sm := by
  have h := pk_rv hv
  have := Nat.mul_le_mul_right 6002000 hl
  exact ⟨hB, ook_none, ook_sy (by omega), ook_none, h1, h2⟩
theorem tb3_cr {S : List It → Prop} {o : Option ByteArray} {K : Nat} {x : Tst} (h : Tb3 o K x) (hK : K ≤ 90000) (hS : S (RowsOf o)) : Crs S K 17 x.j.s := by
  obtain ⟨B, n, st, sm, a, ob, vs, rfl, hb, hB, hbs, hr, hv, hl, h1, h2, ha⟩ := h
  refine ⟨B, none, _, none, st, sm, a, false, ob, vs, ⟨#[]⟩, rfl, h1, h2, by omega, tb3_sz (GT := none) hB hv (by omega) (by omega) (by omega), hb, hbs, hv, Nat.zero_le _, by omega, by omega, ?_, log_whole⟩
  rw [hr]
  exact hS
theorem tb3_new : Tb3 none 4 ⟨⟨s0T, [], false⟩, []⟩ := ⟨none, 2, 4, 2, -1, none, [], rfl, .inl rfl, ook_none, .inl ⟨rfl, rfl⟩, rfl, fun x hx => (by cases hx), by decide, by decide, by decide, rng_m1⟩
theorem tb3_arm {o : Option ByteArray} {K : Nat} {x : Tst} {a : Int} (h : Tb3 o K x) (ha : Rng a) : Tb3 o K ⟨⟨{ x.j.s with armed := a }, x.j.R, x.j.dm⟩, x.L⟩ := by
  obtain ⟨B, n, st, sm, a0, ob, vs, rfl, hb, hB, hbs, hr, hv, hl, h1, h2, _⟩ := h
  exact ⟨B, n, st, sm, a, ob, vs, rfl, hb, hB, hbs, hr, hv, hl, h1, h2, ha⟩
end Go.Proofs.YtjdmbkkdnonkkaaGreat.Tb

namespace Go.Proofs.YtjdmbkkdnonkkaaGreat.Tb
open Go.RowKit Tx Pm Dk Wm Wr Wl Pl
set_option linter.unusedVariables false
set_option linter.unusedSimpArgs false
set_option linter.unnecessarySimpa false
theorem map_snoc_rv (vs : List ByteArray) (v : ByteArray) : (vs ++ [v]).map rv = vs.map rv ++ [rv v] := by rw [List.map_append, List.map_singleton]
theorem tb3_commit {o : Option ByteArray} {K : Nat} {x : Tst} {v : ByteArray} (h : Tb3 o K x) (hK : K ≤ 80000) (hv : v.size ≤ 2000000) : CommitOk x (pv v) pB pG ∧ ∃ k y, commitS x (pv v) pB pG = (k, y) ∧
    ((k = 0 ∧ Tb3 (some v) (K + 8) y) ∨ (k = 14 ∧ ∀ S : List It → Prop, S (RowsOf o) → S (V3 v) → Crs S (K + 8) 17 y.j.s)) := by
  obtain ⟨B, n, st, sm, a, ob, vs, rfl, hb, hB, hbs, hr, hok, hl, h1, h2, ha⟩ := h
  have hsz := tb3_sz (B := B) (GT := none) (n := n) (st := st) (sm := sm) hB hok (by omega) (by omega) (by omega)
  have hpk := pk_rv hok
  have hm := Nat.mul_le_mul_right 6002000 (show vs.length ≤ 16 by omega)
  have hrs := rv_size (v := v) (by omega)
  have hp := pk_bound (r := rv v) (by omega)
  have hwt := wt_pv v
  have hlo : (RowsOf o).length ≤ 3 := by
    cases o with
    | none => exact Nat.zero_le _
    | some u => exact Nat.le_refl 3
  have hok' := vok_snoc hok hv
  have hrl := rows_last ob vs v hok hv
  obtain ⟨k1, x1, hadd, hcs⟩ := add7 (B := B) (BT := none) (GT := none) (c := PK (vs.map rv)) (r := rv v) (n := n) (st := st) (sm := sm) (R := vs.map rv) (dm := false) ha
  have hao := addok7 (B := B) (BT := none) (GT := none) (c := PK (vs.map rv)) (r := rv v) (n := n) (st := st) (sm := sm) (R := vs.map rv) (dm := false) hsz ha (by omega) (by omega) (by rw [List.length_map]; omega) (by omega) (by omega)
  have hne : pv v ≠ [] := fun e => (by cases e)
  have hL : all7 (RowsOf o) (pv v) = V3 v := all_pv o v
  have stop : ∀ (S : List It → Prop), S (RowsOf o) → S (V3 v) → ∀ G' st' sm', (G' = some (sy (PK (vs.map rv)) n) ∨ G' = some ⟨PK (vs.map rv) ++ Fm.pk (rv v), PK (vs.map rv), true, false, sm + 1⟩) → st' ≤ st + 2 → sm' ≤ sm + 1 → Crs S (K + 8) 17 (T7 B none G' none st' sm' (-1) true) := by
    intro S hS1 hS2 G' st' sm' hG b1 b2
    have hrows : S (rows7 (RowsOf ob) (vs.map rv)) := by rw [hr]; exact hS1
    rcases hG with rfl | rfl
    · exact ⟨B, none, _, none, st', sm', -1, true, ob, vs, v, rfl, by omega, by omega, by omega, tb3_sz (GT := none) hB hok (by omega) (by omega) (by omega), hb, hbs, hok, hv, by omega, by omega, hrows, log_whole⟩
    · refine ⟨B, none, _, none, st', sm', -1, true, ob, vs, v, rfl, by omega, by omega, by omega, ⟨hB, ook_none, ook_app ?_ ?_, ook_none, by omega, by omega⟩, hb, hbs, hok, hv, by omega, by omega, hrows, log_loose (by rw [hrl]; exact hS2)⟩
      · rw [ByteArray.size_append]; omega
      · rw [ByteArray.size_append]; omega
  rcases hcs with ⟨rfl, a', rfl, ra, _⟩ | ⟨rfl, _, G', st', sm', rfl, hG, b1, b2⟩
  · have ePK : PK (vs.map rv) ++ Fm.pk (rv v) = PK ((vs ++ [v]).map rv) := by rw [map_snoc_rv, PK_snoc]
    have eR : vs.map rv ++ [rv v] = (vs ++ [v]).map rv := (map_snoc_rv vs v).symm
    rw [ePK, eR] at hadd
    have hlen : (vs ++ [v]).length = vs.length + 1 := by rw [List.length_append]; rfl
    have hsz' := tb3_sz (B := B) (GT := none) (n := sm + 1) (st := st + 2) (sm := sm + 1) hB hok' (by omega) (by omega) (by omega)
    have hws := wt_whole (V3 v)
    rw [ws_V3] at hws
    obtain ⟨hpo, k2, y2, hpa, hpc⟩ := pack_T (B := B) (BT := none) (GT := none) (c := PK ((vs ++ [v]).map rv)) (n := sm + 1) (st := st + 2) (sm := sm + 1) (a := a') (R := (vs ++ [v]).map rv) (dm := false) (L := V3 v) hsz' ra (by omega) (by omega) (by omega)
    have hco : CommitOk ⟨⟨T7 B none (some (sy (PK (vs.map rv)) n)) none st sm a false, vs.map rv, false⟩, RowsOf o⟩ (pv v) pB pG := by
      refine ⟨by omega, hao, by show (RowsOf o).length + 4 ≤ _; omega, by decide, ?_, fun _ => ?_⟩
      · show (addS _ pG (rv v)).2.R.length ≤ _
        rw [hadd]
        show ((vs ++ [v]).map rv).length ≤ _
        rw [List.length_map]
        omega
      · show PackOk ⟨(addS _ pG (rv v)).2, all7 (RowsOf o) (pv v)⟩ pB pG
        rw [hadd, hL]
        exact hpo
    refine ⟨hco, ?_⟩
    by_cases h16 : 16 ≤ ((vs ++ [v]).map rv).length
    · have hc3 := commit_3 (x := ⟨⟨T7 B none (some (sy (PK (vs.map rv)) n)) none st sm a false, vs.map rv, false⟩, RowsOf o⟩) (p := pB) hne hadd h16
      rw [hL, hpa] at hc3
      refine ⟨k2, y2, hc3, ?_⟩
      rcases hpc with ⟨rfl, a2, rfl, ra2, _⟩ | ⟨rfl, _, BT', st', sm', hy, hBT, b1, b2⟩ | ⟨rfl, _, GT', st', sm', hy, hGT, b1, b2⟩
      · refine .inl ⟨rfl, _, _, _, _, a2, some v, [], rfl, .inr ⟨_, _, rfl⟩, ?_, based_V3 (by omega), rfl, fun x hx => (by cases hx), by decide, by omega, by omega, ra2⟩
        have := rec7_le (l := whole7 (V3 v)) (by omega)
        have := pk_bound (r := rec7 (whole7 (V3 v))) (by omega)
        exact ook_sy (by omega)
      · refine .inr ⟨rfl, fun S hS1 hS2 => ?_⟩
        rw [hy]
        refine ⟨B, BT', _, none, st', sm', -1, true, ob, vs ++ [v], ⟨#[]⟩, rfl, by omega, by omega, by omega, ⟨hB, hBT, hsz'.g, ook_none, by omega, by omega⟩, hb, hbs, hok', Nat.zero_le _, by omega, by omega, ?_, log_whole⟩
        rw [map_snoc_rv, hrl]
        exact hS2
      · refine .inr ⟨rfl, fun S hS1 hS2 => ?_⟩
        rw [hy]
        have hb2 : Ook (some (sy (Fm.pk (rec7 (whole7 (V3 v)))) (sm + 1 + 2))) := by
          have := rec7_le (l := whole7 (V3 v)) (by omega)
          have := pk_bound (r := rec7 (whole7 (V3 v))) (by omega)
          exact ook_sy (by omega)
        refine ⟨_, none, _, GT', st', sm', -1, true, some v, vs ++ [v], ⟨#[]⟩, rfl, by omega, by omega, by omega, ⟨hb2, ook_none, hsz'.g, hGT, by omega, by omega⟩, .inr ⟨_, _, rfl⟩, based_V3 (by omega), hok', Nat.zero_le _, by omega, by omega, ?_, log_whole⟩
        have := rows_last (some v) vs v hok hv
        rw [map_snoc_rv, this]
        exact hS2
    · have hc2 := commit_2 (x := ⟨⟨T7 B none (some (sy (PK (vs.map rv)) n)) none st sm a false, vs.map rv, false⟩, RowsOf o⟩) (p := pB) hne hadd h16
      rw [hL] at hc2
      refine ⟨0, _, hc2, .inl ⟨rfl, B, sm + 1, st + 2, sm + 1, a', ob, vs ++ [v], rfl, hb, hB, hbs, ?_, hok', ?_, by omega, by omega, ra⟩⟩
      · rw [map_snoc_rv, hrl]
        rfl
      · rw [List.length_map] at h16
        omega
  · have hc1 := commit_1 (x := ⟨⟨T7 B none (some (sy (PK (vs.map rv)) n)) none st sm a false, vs.map rv, false⟩, RowsOf o⟩) (p := pB) hne hadd (by decide)
    refine ⟨⟨by omega, hao, by show (RowsOf o).length + 4 ≤ _; omega, by decide, ?_, fun h16 => ?_⟩, 14, _, hc1, .inr ⟨rfl, fun S hS1 hS2 => stop S hS1 hS2 G' st' sm' hG b1 b2⟩⟩
    · show (addS _ pG (rv v)).2.R.length ≤ _
      rw [hadd]
      show (vs.map rv).length ≤ _
      rw [List.length_map]
      omega
    · have h16 : 16 ≤ (addS (⟨T7 B none (some (sy (PK (vs.map rv)) n)) none st sm a false, vs.map rv, false⟩ : Jst) pG (rv v)).2.R.length := h16
      rw [hadd] at h16
      have h16 : 16 ≤ (vs.map rv).length := h16
      rw [List.length_map] at h16
      omega
end Go.Proofs.YtjdmbkkdnonkkaaGreat.Tb

namespace Go.Proofs.YtjdmbkkdnonkkaaGreat.Dk
open Go.ChangeShapes Go.WideShapes Go.ChangeAt Go.RowKit Tx
set_option linter.unusedVariables false
theorem bulk_strs {H : Type} (l : List ByteArray) : Rows.uptoBulkAll (strs (H := H) l) = (l.map (·.size)).sum + l.length := by
  induction l with
  | nil => rfl
  | cons s l ih =>
    have e : Rows.uptoBulkAll (strs (H := H) (s :: l)) = (s.data.toList.length + 1) + Rows.uptoBulkAll (strs (H := H) l) := rfl
    rw [e, ih, len_l, List.map_cons, List.sum_cons, List.length_cons]
    omega
theorem str_weights {H : Type} (s : ByteArray) : DataW.weights Tryz.prog 9 (.lit (.string s.data.toList) : DataW H) = [s.data.toList.length] := by
  rw [DataW.weights]
theorem strs_weights {H : Type} {x : ByteArray} {n : Nat} : ∀ {l : List ByteArray}, x ∈ l → n ∈ DataW.weights Tryz.prog 9 (.lit (.string x.data.toList) : DataW H) → n ∈ DataW.weightsAll Tryz.prog 9 (strs (H := H) l)
  | y :: l, hx, hn => by
    have e : strs (H := H) (y :: l) = .lit (.string y.data.toList) :: strs l := rfl
    rw [e, DataW.weightsAll, List.mem_append]
    rcases List.mem_cons.1 hx with rfl | hx
    · exact .inl hn
    · exact .inr (strs_weights hx hn)
def Wide1 (l : List ByteArray) : Prop := ∀ x ∈ l, x.size ≤ 140737488351232
theorem wide_strs {H : Type} {ts : List TypeId} {ds : List (DataW H)} (h : (DataW.weightsEach Tryz.prog ts ds).all (· ≤ reachBytes) = true) {j : Nat} {l : List ByteArray} {rest : List (DataW H)} (ht : ts[j]? = some 56) (hd : ds[j]? = some (.slice (strs l) rest)) : Wide1 l := by
  intro x hx
  have hall := List.all_eq_true.1 h
  have hm := DataW.weights_mem_each (P := Tryz.prog) ht hd x.data.toList.length (by
    rw [DataW.weights, Tryz.underlying56]
    exact List.mem_cons_of_mem _ (List.mem_append_left _ (strs_weights hx (by rw [str_weights]; simp))))
  have := of_decide_eq_true (hall _ hm)
  rw [len_l] at this
  exact this
theorem arg_texts {H : Type} {enc : TypeId × Value → H} {w : World} {base : Nat} {spare : Nat → Bool} {held : Bool} {a : Option Addr} {n c : Nat} {d : DataW H} {p : List MemPlace} (h : DataW.Trod enc Tryz.prog w base spare held 56 (.slice a n c) d p) :
    ∃ l : List ByteArray, Strs w a n l ∧ (l.map (·.size)).sum ≤ Rows.uptoBulk d ∧ l.length ≤ Rows.uptoBulk d ∧ n ≤ c ∧ c ≤ 9223372036854775807 ∧ ∀ {ts : List TypeId} {ds : List (DataW H)} {j : Nat}, (DataW.weightsEach Tryz.prog ts ds).all (· ≤ reachBytes) = true → ts[j]? = some 56 → ds[j]? = some d → Wide1 l := by
  obtain ⟨fuel, hf⟩ := h
  rcases open_strings Tryz.underlying56 Tryz.underlying9 (by kernel_rfl) hf with ⟨hcs, _⟩ | ⟨x, len, cap, ss, hcs, _, hl, hm, hz, hx, hcell, _⟩
  · simp [Value.cells] at hcs
    obtain ⟨rfl, rfl, rfl⟩ := hcs
    exact ⟨[], ⟨rfl, .inl rfl⟩, Nat.zero_le _, Nat.zero_le _, by omega, by omega, fun _ _ _ x hx => by cases hx⟩
  · simp [Value.cells] at hcs
    obtain ⟨rfl, rfl, rfl⟩ := hcs
    unfold maxLen at hm
    have hz' : n ≤ ss.length := by rw [hz]; split <;> omega
    have hd : d = .slice (strs (ss.take n)) (strs (ss.drop n)) := congrArg Prod.fst hx
    have e : Rows.uptoBulk d = Rows.uptoBulkAll (strs (H := H) (ss.take n)) + Rows.uptoBulkAll (strs (H := H) (ss.drop n)) + 1 := by rw [hd]; rfl
    rw [bulk_strs] at e
    have hlen : (ss.take n).length = n := by rw [List.length_take]; omega
    refine ⟨ss.take n, ⟨hlen, ?_⟩, by omega, by omega, hl, by omega, fun h1 h2 h3 => wide_strs h1 h2 (by rw [h3, hd])⟩
    by_cases h0 : n = 0
    · exact .inl h0
    · right
      obtain ⟨b, off, spot⟩ := x
      have hc0 := hcell 0 (by omega)
      have hspot : spot = none := by simpa [Addr.add] using World.cell?_spot hc0
      subst hspot
      refine ⟨b, off, rfl, ?_, fun k y hk => ?_⟩
      · have := World.block_lt_of_cell? w _ hc0
        rwa [WideShapes.add_plain] at this
      · have hk2 := (List.getElem?_eq_some_iff.1 hk).1
        rw [hlen] at hk2
        have hk3 := hcell k (by omega)
        rw [WideShapes.add_plain] at hk3
        rw [hk3]
        rw [List.getElem?_take_of_lt hk2] at hk
        rw [List.getD_eq_getElem?_getD, hk]
        rfl
end Go.Proofs.YtjdmbkkdnonkkaaGreat.Dk

namespace Go.Proofs.YtjdmbkkdnonkkaaGreat.tableHolds
open Go.ChangeMaps (open_string shut_string)
open Go.ChangeShapes Go.WideShapes Go.ChangeAt Go.RowKit Tx Pm Dk Tb Wl
set_option linter.unusedVariables false
set_option linter.unusedSimpArgs false
set_option linter.unnecessarySimpa false
theorem le_sum {l : List Nat} {x : Nat} (h : x ∈ l) : x ≤ l.sum := by
  induction l with
  | nil => cases h
  | cons y l ih =>
    rw [List.sum_cons]
    rcases List.mem_cons.1 h with rfl | h
    · omega
    · have := ih h; omega
section
variable {w0 W : World} {b j t m : Nat} {x y : Tst}
theorem texts_len {w : World} {B : Nat} {v : Value} {l : List ByteArray} (h : Texts w B v l) : ∃ a c, v = .slice a l.length c := by
  rcases h.2 with ⟨rfl, h0⟩ | ⟨g, cap, cur, rfl, _⟩
  · exact ⟨none, 0, by rw [h0]⟩
  · exact ⟨_, cap, rfl⟩
theorem keys_n {N : Nat} (h : Own (Tt b j t m) w0 x W) (hN : (held (pre7 ⟨#[]⟩) x.L).length = N) (hn : x.L.length ≤ 3) (hps : ∀ z ∈ x.L, z.path.size ≤ 1) : Calls Tryz.prog 58 #[.pointer (some ⟨t, 0, none⟩), .string ⟨#[]⟩] W fun e w' => ∃ a c, e = .returned (.slice a N c) ∧ Own (Tt b j t m) w0 x w' := by
  refine (a_keys (p := ⟨#[]⟩) h (by omega) (fun z hz => by have := hps z hz; omega) (by decide)).mono ?_
  rintro e w' ⟨v, rfl, ht, hb⟩
  obtain ⟨a, c, rfl⟩ := texts_len ht
  rw [hN]
  exact ⟨a, c, rfl, ownT_below h hb⟩
theorem get_n {key V : ByteArray} {O : Bool} (h : Own (Tt b j t m) w0 x W) (hk : key.size ≤ 1000) (hV : (lookC x.L key).val = V) (hO : (find x.L key).isSome = O) : Calls Tryz.prog 57 #[.pointer (some ⟨t, 0, none⟩), .string key] W fun e w' => e = .returned (.tuple #[.string V, .bool O]) ∧ Own (Tt b j t m) w0 x w' := by
  refine (a_get (key := key) h (by omega)).mono ?_
  rintro e w' ⟨rfl, hb⟩
  rw [hV, hO]
  exact ⟨rfl, ownT_below h hb⟩
set_option maxRecDepth 100000 in
set_option maxHeartbeats 2000000 in
theorem put_any {v : ByteArray} {k : Nat} (h : Own (Tt b j t m) w0 x W) (hv : v.size ≤ 2000000) (co : CommitOk x (pv v) pB pG) (he : commitS x (pv v) pB pG = (k, y)) : Calls Tryz.prog 56 #[.pointer (some ⟨t, 0, none⟩), .string v] W fun e w' => e = .returned (.int .i64 (k : Nat)) ∧ Own (Tt b j t m) w0 y w' := by
  have hpv : bat (bat (bat (bat (bat [] ⟨kA, v, false⟩) ⟨kB, v, false⟩) ⟨kC, v, false⟩) ⟨kD, v, false⟩) ⟨kD, ⟨#[]⟩, true⟩ = pv v := by kernel_rfl
  have HPV := Lib.hid hpv
  clear hpv
  go_enter Tryz.func56, Tryz.ntmps56
  go_wp2_with fail
  go_at_call 47
  refine (a_begin h).mono ?_
  rintro e w1 ⟨u, rfl, o1⟩
  go_wp2_with fail
  go_at_call 48
  refine (a_put (key := kA) (val := v) o1 (by decide) (by decide)).mono ?_
  rintro e w2 ⟨rfl, o2⟩
  go_wp2_with fail
  go_at_call 48
  refine (a_put (key := kB) (val := v) o2 (by decide) (Nat.lt_of_le_of_lt (bat_len _ _) (by decide))).mono ?_
  rintro e w3 ⟨rfl, o3⟩
  have l3 : (bat (bat [] ⟨kA, v, false⟩) ⟨kB, v, false⟩).length < 1000 := Nat.lt_of_le_of_lt (bat_len _ _) (Nat.succ_lt_succ (Nat.lt_of_le_of_lt (bat_len _ _) (by decide)))
  have L3 := Lib.hid l3
  clear l3
  go_wp2_with fail
  go_at_call 48
  refine (a_put (key := kC) (val := v) o3 (by decide) (by have := L3.out; omega)).mono ?_
  rintro e w4 ⟨rfl, o4⟩
  go_wp2_with fail
  go_at_call 48
  refine (a_put (key := kD) (val := v) o4 (by decide) (by have := L3.out; have := bat_len (bat (bat [] ⟨kA, v, false⟩) ⟨kB, v, false⟩) ⟨kC, v, false⟩; omega)).mono ?_
  rintro e w5 ⟨rfl, o5⟩
  go_wp2_with fail
  go_at_call 50
  refine (a_drop (key := kD) o5 (by decide) (by have := L3.out; have := bat_len (bat (bat [] ⟨kA, v, false⟩) ⟨kB, v, false⟩) ⟨kC, v, false⟩; have := bat_len (bat (bat (bat [] ⟨kA, v, false⟩) ⟨kB, v, false⟩) ⟨kC, v, false⟩) ⟨kD, v, false⟩; omega)).mono ?_
  rintro e w6 ⟨rfl, o6⟩
  rw [HPV.out] at o6
  clear o1 o2 o3 o4 o5
  go_wp2_with fail
  go_at_call 51
  refine (a_commit_any o6 co he).mono ?_
  rintro e w7 ⟨rfl, o7⟩
  go_wp2_with fail
  go_ret
  exact ⟨rfl, o7⟩
theorem own_arm {s : St} {M : Int} (h : Own (ImpAt b) w0 s W) (hm : -9223372036854775808 ≤ M ∧ M ≤ 9223372036854775807) : Calls Tryz.prog 23 #[.pointer (some ⟨b, 0, none⟩), .int .i64 M] W fun e w' => e = .returned (.tuple #[]) ∧ Own (ImpAt b) w0 { s with armed := if M < 0 then -1 else M } w' :=
  h.call (Obj' := ImpAt b) (fun F hh => d_arm hh hm)
theorem own_open {s : St} {k : Nat} (h : Own (ImpAt b) w0 s W) (o : Open7Ok s pS pB pG) (he : open7 s pS pB pG = (k, x)) : Calls Tryz.prog 45 #[.pointer (some ⟨b, 0, none⟩), .string pS] W fun e w' => ∃ p, e = .returned (.tuple #[.pointer p, .int .i64 (k : Nat)]) ∧ Own (ImpAt b) w0 x.j.s w' := by
  by_cases hk : k = 0
  · subst hk
    refine (a_open h o he).mono ?_
    rintro e w' ⟨t, j, m, rfl, ho⟩
    exact ⟨_, rfl, own_disk ho⟩
  · refine (a_open_bad h o he hk).mono ?_
    rintro e w' ⟨rfl, ho⟩
    exact ⟨_, rfl, ho⟩
end
def lastv (l : List ByteArray) : Nat → Option ByteArray
  | 0 => none
  | k + 1 => l[k]?
def Sx (l : List ByteArray) (k : Nat) (L : List It) : Prop := L = RowsOf (lastv l k) ∨ ∃ v, l[k]? = some v ∧ L = V3 v
def Out (w : World) (l : List ByteArray) (b k : Nat) (wr : World) : Prop := ∃ s, Own (ImpAt b) w s wr ∧ Crs (Sx l k) 1000 17 s
inductive Fin (l : List ByteArray) (n k : Nat) (L : List It) : Prop where
  | none (h : k = 0) (hL : L = []) : Fin l n k L
  | first (v : ByteArray) (h : k = 0) (hn : 0 < n) (hv : l[0]? = some v) (hL : L = V3 v) : Fin l n k L
  | last (v : ByteArray) (q : Nat) (h : k = q + 1) (hn : n = k) (hv : l[q]? = some v) (hL : L = V3 v) : Fin l n k L
  | mid (v u1 u2 : ByteArray) (q : Nat) (h : k = q + 1) (hn : k < n) (h1 : l[q]? = some u1) (h2 : l[k]? = some u2) (hv : v = u1 ∨ v = u2) (hL : L = V3 v) : Fin l n k L
theorem fin_of {l : List ByteArray} {n k : Nat} {L : List It} (hl : l.length = n) (hk : k ≤ n) (h : Sx l k L) : Fin l n k L := by
  cases k with
  | zero =>
    rcases h with h | ⟨v, hv, h⟩
    · exact .none rfl h
    · have := (List.getElem?_eq_some_iff.1 hv).1
      exact .first v rfl (by omega) hv h
  | succ q =>
    have hq : q < l.length := by omega
    obtain ⟨u1, h1⟩ : ∃ u, l[q]? = some u := ⟨_, List.getElem?_eq_getElem hq⟩
    by_cases hn : q + 1 < n
    · obtain ⟨u2, h2⟩ : ∃ u, l[q + 1]? = some u := ⟨_, List.getElem?_eq_getElem (by omega)⟩
      rcases h with h | ⟨v, hv, h⟩
      · have e : lastv l (q + 1) = some u1 := h1
        rw [e] at h
        exact .mid u1 u1 u2 q rfl hn h1 h2 (.inl rfl) h
      · rw [h2] at hv
        injection hv with hv
        subst hv
        exact .mid u2 u1 u2 q rfl hn h1 h2 (.inr rfl) h
    · rcases h with h | ⟨v, hv, h⟩
      · have e : lastv l (q + 1) = some u1 := h1
        rw [e] at h
        exact .last u1 q rfl (by omega) h1 h
      · have := (List.getElem?_eq_some_iff.1 hv).1
        omega
theorem V3_held (v : ByteArray) : (held (pre7 ⟨#[]⟩) (V3 v)).length = 3 := by
  have : held (pre7 ⟨#[]⟩) (V3 v) = [Tb.kA, Tb.kB, Tb.kC] := by kernel_rfl
  rw [this]
  rfl
theorem V3_len (v : ByteArray) : (V3 v).length ≤ 3 ∧ ∀ z ∈ V3 v, z.path.size ≤ 1 := ⟨Nat.le_refl _, fun z hz => by
  simp only [V3, List.mem_cons, List.not_mem_nil, or_false] at hz
  rcases hz with rfl | rfl | rfl <;> exact Nat.le_refl _⟩
theorem V3_get (v : ByteArray) : ((lookC (V3 v) kA).val = v ∧ (find (V3 v) kA).isSome = true) ∧ ((lookC (V3 v) kB).val = v ∧ (find (V3 v) kB).isSome = true) ∧ ((lookC (V3 v) kC).val = v ∧ (find (V3 v) kC).isSome = true) :=
  ⟨⟨by kernel_rfl, by kernel_rfl⟩, ⟨by kernel_rfl, by kernel_rfl⟩, ⟨by kernel_rfl, by kernel_rfl⟩⟩
set_option maxRecDepth 100000 in
set_option maxHeartbeats 16000000 in
theorem walk (A : Option Addr) (n c : Nat) (l : List ByteArray) (M loss second : Int) (w : World) (hSt : Strs w A n l) (hB : ∀ x ∈ l, x.size ≤ 2000000) (hn0 : n ≤ 2000000) (hM : -9223372036854775808 ≤ M ∧ M ≤ 9223372036854775807) (hloss : -9223372036854775808 ≤ loss ∧ loss ≤ 9223372036854775807) (hsecond : -9223372036854775808 ≤ second ∧ second ≤ 9223372036854775807) :
    Calls Tryz.prog 9 #[.slice A n c, .int .i64 M, .int .i64 loss, .int .i64 second] w fun e w' => e = .returned (.bool true) ∧ Below w.heap.size w w' := by
  have HST := Lib.hid (fun W (hW : Below w.heap.size w W) => hSt.below hW)
  have HB := Lib.hid hB
  have HL := Lib.hid hSt.1
  clear hB hSt
  go_enter Tryz.func9, Tryz.ntmps9
  go_wp2_with fail
  go_at_call 44
  refine (w_new w (Below.refl _ _)).mono ?_
  rintro e w1 ⟨b, rfl, o1⟩
  go_wp2_with fail
  go_at_call 41
  refine (awake_any7 w1 w1 (Below.refl _ _)).mono ?_
  rintro e w2 ⟨rfl, hb2⟩
  have o2 := o1.belowD hb2
  go_wp2_with fail
  go_at_call 45
  refine (a_open o2 new_ok7 new_open7).mono ?_
  rintro e w3 ⟨t, j, m, rfl, o3⟩
  go_wp2_with fail
  go_at_call 23
  refine (a_arm o3 hM).mono ?_
  rintro e w4 ⟨rfl, o4⟩
  obtain ⟨x0, hx0, hT0⟩ : ∃ x, Own (Tt b j t m) w x w4 ∧ Tb3 (lastv l 0) 4 x := ⟨_, o4, tb3_arm tb3_new (by constructor <;> (split <;> omega))⟩
  clear o1 o2 o3 o4 hb2
  go_upto_block 0 with fail
  go_cut [12] from 25 to 181 (fun iv wq => ∃ k : Nat, k ≤ n ∧ k ≤ 60 ∧ iv = .int .i64 k ∧ Out w l b k wq)
  case rest =>
    clear hx0 hT0
    obtain ⟨k, hkn, hk60, rfl, hout⟩ := hcut
    obtain ⟨s, hO, hC⟩ := hout
    obtain ⟨g1, g2, g3, hR⟩ := crs_restart hC (by omega) loss
    have G1 := Lib.hid g1
    have G2 := Lib.hid g2
    have G3 := Lib.hid g3
    have hRa := rst_arm (a' := if second < 0 then -1 else second) hR
    obtain ⟨p1, k1, x1, p2, hC2, hk1⟩ := rst_open hRa (by omega) (by omega) (by constructor <;> (split <;> omega))
    have P1 := Lib.hid p1
    have P2 := Lib.hid p2
    obtain ⟨f1, f2, f3, hR2⟩ := crs_restart hC2 (by omega) loss
    have F1 := Lib.hid f1
    have F2 := Lib.hid f2
    have F3 := Lib.hid f3
    obtain ⟨q1, k2, x2, q2, _, hk2⟩ := rst_open hR2 (by omega) (by omega) rng_m1
    have hS : k2 = 0 ∧ Sx l k x2.L := hk2.resolve_right (fun hh => hh.2 rfl)
    obtain ⟨rfl, hS⟩ := hS
    have Q1 := Lib.hid q1
    have Q2 := Lib.hid q2
    have FIN := Lib.hid (fin_of HL.out hkn hS)
    have hk14 : k1 = 0 ∨ k1 = 14 := hk1.elim (fun h => .inl h.1) (fun h => .inr h.1)
    clear hC hR hRa hC2 hR2 hk1 hk2 hS g1 g2 g3 p1 p2 f1 f2 f3 q1 q2
    go_wp2_with fail
    go_at_call 24
    refine (w_restart (m := loss) hO G1.out G2.out G3.out hloss rfl).mono ?_
    rintro e w6 ⟨rfl, o6⟩
    clear hO
    go_wp2_with fail
    go_at_call 23
    refine (own_arm o6 hsecond).mono ?_
    rintro e w7 ⟨rfl, o7⟩
    clear o6
    go_wp2_with fail
    go_at_call 45
    refine (own_open o7 P1.out P2.out).mono ?_
    rintro e w8 ⟨pp, rfl, o8⟩
    clear o7
    rcases hk14 with rfl | rfl
    all_goals
      go_wp2_with fail
      go_at_call 24
      refine (w_restart (m := loss) o8 F1.out F2.out F3.out hloss rfl).mono ?_
      rintro e w9 ⟨rfl, o9⟩
      clear o8
      go_wp2_with fail
      go_at_call 45
      refine (a_open o9 Q1.out Q2.out).mono ?_
      rintro e w10 ⟨t2, j2, m2, rfl, o10⟩
      clear o9
      rcases FIN.out with ⟨rfl, hX⟩ | ⟨v, rfl, hn0, hv, hX⟩ | ⟨v, q, rfl, rfl, hv, hX⟩ | ⟨v, u1, u2, q, rfl, hn0, h1, h2, hv, hX⟩
      · have HX := Lib.hid hX
        have hee : ((⟨#[]⟩ : ByteArray).toList == (⟨#[]⟩ : ByteArray).toList) = true := beq_self_eq_true _
        clear hX
        go_wp2_with fail
        go_at_call 57
        refine (get_n (key := kA) (V := ⟨#[]⟩) (O := false) o10 (by decide) (by rw [HX.out]; rfl) (by rw [HX.out]; rfl)).mono ?_
        rintro e w11 ⟨rfl, o11⟩
        clear o10
        go_wp2_with fail
        go_at_call 57
        refine (get_n (key := kB) (V := ⟨#[]⟩) (O := false) o11 (by decide) (by rw [HX.out]; rfl) (by rw [HX.out]; rfl)).mono ?_
        rintro e w12 ⟨rfl, o12⟩
        clear o11
        go_wp2_with fail
        go_at_call 57
        refine (get_n (key := kC) (V := ⟨#[]⟩) (O := false) o12 (by decide) (by rw [HX.out]; rfl) (by rw [HX.out]; rfl)).mono ?_
        rintro e w13 ⟨rfl, o13⟩
        clear o12
        go_wp2_with fail
        go_at_call 58
        refine (keys_n (N := 0) o13 (by rw [HX.out]; rfl) (by rw [HX.out]; exact Nat.zero_le _) (by rw [HX.out]; exact fun z hz => by cases hz)).mono ?_
        rintro e w15 ⟨a15, c15, rfl, o15⟩
        clear o13
        go_wp2_with fail
        go_at_call 58
        refine (keys_n (N := 0) o15 (by rw [HX.out]; rfl) (by rw [HX.out]; exact Nat.zero_le _) (by rw [HX.out]; exact fun z hz => by cases hz)).mono ?_
        rintro e w14 ⟨a14, c14, rfl, o14⟩
        clear o15
        go_wp2_with fail
        all_goals (go_ret; exact ⟨rfl, o14.bel⟩)
      · have HX := Lib.hid hX
        obtain ⟨ba, off, rfl, _, _⟩ := (HST.out _ o10.bel).2.resolve_left (by omega)
        have HG : Hid (∀ W, Below w.heap.size w W → ∀ (i : Nat) (x : ByteArray), l[i]? = some x → W.cell? ⟨ba, off + i, none⟩ = some (.string x)) := Lib.hid (fun W hW i x hx => by
          obtain ⟨b2, f2, e2, _, g⟩ := (HST.out W hW).2.resolve_left (by omega)
          cases e2
          exact g i x hx)
        have hvv : (v.toList == v.toList) = true := beq_self_eq_true _
        have HV := Lib.hid hv
        have hzn : (0 : Int) < (n : Int) := by omega
        clear hX hv
        go_wp2_with fail
        go_at_call 57
        refine (get_n (key := kA) (V := v) (O := true) o10 (by decide) (by rw [HX.out]; exact (V3_get v).1.1) (by rw [HX.out]; exact (V3_get v).1.2)).mono ?_
        rintro e w11 ⟨rfl, o11⟩
        clear o10
        go_wp2_with fail
        go_at_call 57
        refine (get_n (key := kB) (V := v) (O := true) o11 (by decide) (by rw [HX.out]; exact (V3_get v).2.1.1) (by rw [HX.out]; exact (V3_get v).2.1.2)).mono ?_
        rintro e w12 ⟨rfl, o12⟩
        clear o11
        go_wp2_with fail
        go_at_call 57
        refine (get_n (key := kC) (V := v) (O := true) o12 (by decide) (by rw [HX.out]; exact (V3_get v).2.2.1) (by rw [HX.out]; exact (V3_get v).2.2.2)).mono ?_
        rintro e w13 ⟨rfl, o13⟩
        clear o12
        go_wp2_with fail
        go_at_call 58
        refine (keys_n (N := 3) o13 (by rw [HX.out]; exact V3_held v) (by rw [HX.out]; exact (V3_len v).1) (by rw [HX.out]; exact (V3_len v).2)).mono ?_
        rintro e w14 ⟨a14, c14, rfl, o14⟩
        clear o13
        have g0 := HG.out _ o14.bel 0 v HV.out
        rw [Nat.add_zero] at g0
        go_wp2_with fail
        go_ret
        exact ⟨rfl, o14.bel⟩
      · have HX := Lib.hid hX
        obtain ⟨ba, off, rfl, _, _⟩ := (HST.out _ o10.bel).2.resolve_left (by omega)
        have HG : Hid (∀ W, Below w.heap.size w W → ∀ (i : Nat) (x : ByteArray), l[i]? = some x → W.cell? ⟨ba, off + i, none⟩ = some (.string x)) := Lib.hid (fun W hW i x hx => by
          obtain ⟨b2, f2, e2, _, g⟩ := (HST.out W hW).2.resolve_left (by omega)
          cases e2
          exact g i x hx)
        have hvv : (v.toList == v.toList) = true := beq_self_eq_true _
        have HV := Lib.hid hv
        have hq : (q : Int) < (q : Int) + 1 := by omega
        clear hX hv
        go_wp2_with fail
        go_at_call 57
        refine (get_n (key := kA) (V := v) (O := true) o10 (by decide) (by rw [HX.out]; exact (V3_get v).1.1) (by rw [HX.out]; exact (V3_get v).1.2)).mono ?_
        rintro e w11 ⟨rfl, o11⟩
        clear o10
        go_wp2_with fail
        go_at_call 57
        refine (get_n (key := kB) (V := v) (O := true) o11 (by decide) (by rw [HX.out]; exact (V3_get v).2.1.1) (by rw [HX.out]; exact (V3_get v).2.1.2)).mono ?_
        rintro e w12 ⟨rfl, o12⟩
        clear o11
        go_wp2_with fail
        go_at_call 57
        refine (get_n (key := kC) (V := v) (O := true) o12 (by decide) (by rw [HX.out]; exact (V3_get v).2.2.1) (by rw [HX.out]; exact (V3_get v).2.2.2)).mono ?_
        rintro e w13 ⟨rfl, o13⟩
        clear o12
        go_wp2_with fail
        go_at_call 58
        refine (keys_n (N := 3) o13 (by rw [HX.out]; exact V3_held v) (by rw [HX.out]; exact (V3_len v).1) (by rw [HX.out]; exact (V3_len v).2)).mono ?_
        rintro e w14 ⟨a14, c14, rfl, o14⟩
        clear o13
        have g0 := HG.out _ o14.bel q v HV.out
        go_wp2_with fail
        go_ret
        exact ⟨rfl, o14.bel⟩
      · have HX := Lib.hid hX
        obtain ⟨ba, off, rfl, _, _⟩ := (HST.out _ o10.bel).2.resolve_left (by omega)
        have HG : Hid (∀ W, Below w.heap.size w W → ∀ (i : Nat) (x : ByteArray), l[i]? = some x → W.cell? ⟨ba, off + i, none⟩ = some (.string x)) := Lib.hid (fun W hW i x hx => by
          obtain ⟨b2, f2, e2, _, g⟩ := (HST.out W hW).2.resolve_left (by omega)
          cases e2
          exact g i x hx)
        have hvv : (v.toList == v.toList) = true := beq_self_eq_true _
        have H1 := Lib.hid h1
        have H2 := Lib.hid h2
        have hq : (q : Int) < (n : Int) := by omega
        have hq1 : (q : Int) + 1 < (n : Int) := by omega
        have hor : (v.toList == u1.toList) = true ∨ (v.toList == u2.toList) = true := hv.elim (fun e => .inl (by rw [e]; exact beq_self_eq_true _)) (fun e => .inr (by rw [e]; exact beq_self_eq_true _))
        clear hX h1 h2 hv
        go_wp2_with fail
        go_at_call 57
        refine (get_n (key := kA) (V := v) (O := true) o10 (by decide) (by rw [HX.out]; exact (V3_get v).1.1) (by rw [HX.out]; exact (V3_get v).1.2)).mono ?_
        rintro e w11 ⟨rfl, o11⟩
        clear o10
        go_wp2_with fail
        go_at_call 57
        refine (get_n (key := kB) (V := v) (O := true) o11 (by decide) (by rw [HX.out]; exact (V3_get v).2.1.1) (by rw [HX.out]; exact (V3_get v).2.1.2)).mono ?_
        rintro e w12 ⟨rfl, o12⟩
        clear o11
        go_wp2_with fail
        go_at_call 57
        refine (get_n (key := kC) (V := v) (O := true) o12 (by decide) (by rw [HX.out]; exact (V3_get v).2.2.1) (by rw [HX.out]; exact (V3_get v).2.2.2)).mono ?_
        rintro e w13 ⟨rfl, o13⟩
        clear o12
        go_wp2_with fail
        go_at_call 58
        refine (keys_n (N := 3) o13 (by rw [HX.out]; exact V3_held v) (by rw [HX.out]; exact (V3_len v).1) (by rw [HX.out]; exact (V3_len v).2)).mono ?_
        rintro e w14 ⟨a14, c14, rfl, o14⟩
        clear o13
        have g0 := HG.out _ o14.bel q u1 H1.out
        have g1 := HG.out _ o14.bel (q + 1) u2 H2.out
        cases hb1 : (v.toList == u1.toList) <;> cases hb2 : (v.toList == u2.toList) <;> simp only [hb1, hb2] at hor <;> first | (exact absurd hor (by decide)) | skip
        all_goals
          go_wp2_with fail
          go_ret
          exact ⟨rfl, o14.bel⟩
  case first =>
    go_wp2_with fail
    go_loopw [12] (fun iv wr => ∃ (k : Nat) (x : Tst), k ≤ n ∧ k ≤ 60 ∧ iv = .int .i64 k ∧ Own (Tt b j t m) w x wr ∧ Tb3 (lastv l k) (4 + 8 * k) x) (fun i _ => n - (intOf i).toNat)
    case atStart => exact ⟨0, x0, Nat.zero_le _, Nat.zero_le _, rfl, hx0, hT0⟩
    case round =>
      clear hx0 hT0
      obtain ⟨k, x, hkn, hk60, rfl, hO, hT⟩ := hrel
      have hsure : Crs (Sx l k) 1000 17 x.j.s := by
        obtain ⟨B, BT, G, GT, st, sm, a, dn, ob, vs, v, e, h1, h2, h3, h4⟩ := tb3_cr (S := Sx l k) hT (by omega) (.inl rfl)
        exact ⟨B, BT, G, GT, st, sm, a, dn, ob, vs, v, e, by omega, by omega, h3, h4⟩
      have HS := Lib.hid hsure
      clear hsure
      by_cases hgo : k < n ∧ k < 60
      · obtain ⟨hlt, hlt60⟩ := hgo
        obtain ⟨r, hx⟩ : ∃ r, l[k]? = some r := ⟨_, List.getElem?_eq_getElem (by rw [HL.out]; exact hlt)⟩
        have hr := HB.out r (List.mem_of_getElem? hx)
        obtain ⟨ba, off, rfl, hltb, hcc⟩ := (HST.out _ hO.bel).2.resolve_left (by omega)
        have g0 := hcc k r hx
        have hzk : (k : Int) < (n : Int) := by omega
        have hzk2 : (k : Int) < 60 := by omega
        obtain ⟨c1, kk, y, c2, c3⟩ := tb3_commit (v := r) hT (by omega) hr
        have cp := put_any hO hr c1 c2
        have hlast : lastv l (k + 1) = some r := hx
        have HLAST := Lib.hid hlast
        have HX := Lib.hid hx
        clear hx hcc hltb c1 c2 hT hlast
        rcases c3 with ⟨rfl, hT2⟩ | ⟨rfl, hC2⟩
        · have HT2 := Lib.hid hT2
          clear hT2
          go_wp2_with fail
          go_at_call 56
          refine cp.mono ?_
          rintro e w5 ⟨rfl, o5⟩
          go_wp2_with fail
          go_roundw
          case rel => exact ⟨k + 1, y, by omega, by omega, by go_num, o5, by rw [HLAST.out]; exact HT2.out⟩
          case measure => simp [intOf]; omega
        · have hsure : Crs (Sx l k) 1000 17 y.j.s := by
            obtain ⟨B, BT, G, GT, st, sm, a, dn, ob, vs, v, e, h1, h2, h3, h4⟩ := hC2 (Sx l k) (.inl rfl) (.inr ⟨r, HX.out, rfl⟩)
            exact ⟨B, BT, G, GT, st, sm, a, dn, ob, vs, v, e, by omega, by omega, h3, h4⟩
          have HS2 := Lib.hid hsure
          clear hC2 hsure
          go_wp2_with fail
          go_at_call 56
          refine cp.mono ?_
          rintro e w5 ⟨rfl, o5⟩
          have hout : Out w l b k w5 := ⟨_, own_disk o5, HS2.out⟩
          clear o5
          go_wp2_with fail
          go_meet
          exact ⟨k, hkn, hk60, rfl, hout⟩
      · have hout : Out w l b k wr := ⟨_, own_disk hO, HS.out⟩
        clear hO hT
        by_cases hlt : k < n
        · have hlt2 : ¬ (k : Int) < 60 := by omega
          have hltz : (k : Int) < (n : Int) := by omega
          go_wp2_with fail
          go_meet
          exact ⟨k, hkn, hk60, rfl, hout⟩
        · have hltz : ¬ (k : Int) < (n : Int) := by omega
          go_wp2_with fail
          go_meet
          exact ⟨k, hkn, hk60, rfl, hout⟩
theorem own : ownKnob Tryz.prog.godebug = none := by kernel_rfl
theorem laidOut : laidOutB Tryz.prog = true := by kernel_rfl
set_option maxRecDepth 100000 in
theorem contract (H : Type) (enc : TypeId × Value → H) (W : World) (base : Nat) (args : Array Value) (ds gs : List (DataW H)) (before : List MemPlace)
    (hval0 : ∀ (j : Nat) t v, Tryz.f9.params[j]? = some t → args[j]? = some v → Value.okWide Tryz.prog W .any base t v)
    (hW : DataW.Whole enc Tryz.prog Tryz.f9.params.toList Rows.tableHoldsSpec.vars false W args.toList ds gs before)
    (hk : Rows.uptoSmall H (ds ++ gs) = true)
    (hsz0 : (DataW.weightsEach Tryz.prog (Tryz.f9.params.toList ++ Rows.tableHoldsSpec.plain.varTypes Tryz.prog) (ds ++ gs)).all (· ≤ reachBytes) = true) :
    Calls Tryz.prog 9 args W fun e W' => ∃ v, e = .returned v ∧ Rows.tableHoldsSpec.post enc Tryz.prog Tryz.f9 false true false false W args v W' := by
  have hval : ∀ (j : Nat) t v, Tryz.f9.params[j]? = some t → args[j]? = some v → Value.okWide Tryz.prog W .any base t v := hval0
  have hsz := hsz0
  clear hsz0
  have hW' := hW
  obtain ⟨p, q, hA0, hV, rfl, hfz, hnd⟩ := hW
  have hA : DataW.TrodAll enc Tryz.prog W 0 (fun _ => true) true Tryz.f9.params.toList args.toList ds p := hA0
  rw [Tryz.params9] at hA hval hsz
  obtain ⟨v0, vs0, d0, ds0, p0, q0, hargs, rfl, rfl, h0, r0⟩ := trodAll_cons hA
  obtain ⟨v1, vs1, d1, ds1, p1, q1, rfl, rfl, rfl, h1, r1⟩ := trodAll_cons r0
  obtain ⟨v2, vs2, d2, ds2, p2, q2, rfl, rfl, rfl, h2, r2⟩ := trodAll_cons r1
  obtain ⟨v3, vs3, d3, ds3, p3, q3, rfl, rfl, rfl, h3, r3⟩ := trodAll_cons r2
  obtain ⟨rfl, rfl, rfl⟩ := trodAll_nil r3
  obtain rfl : args = #[v0, v1, v2, v3] := by cases args; simp_all
  obtain ⟨rfl, rfl⟩ := trodVars_none hV
  obtain ⟨A0, n0, c0, rfl⟩ := okWide_slice Tryz.underlying56 (hval 0 56 v0 rfl rfl)
  have k0 := h0
  have lt0 : ∀ x ∈ p0, x.block < W.heap.size := by obtain ⟨m, hm⟩ := k0; exact DataW.trod_lt m _ _ _ hm
  obtain ⟨a1, rfl, rfl, rfl, w1⟩ := open_int Tryz.underlying3 (hval 1 3 v1 rfl rfl) h1
  have bd1 : -9223372036854775808 ≤ a1 ∧ a1 ≤ 9223372036854775807 := by simpa [Lit.wf, IntKind.min, IntKind.max, IntKind.signed, IntKind.bits] using w1
  obtain ⟨a2, rfl, rfl, rfl, w2⟩ := open_int Tryz.underlying3 (hval 2 3 v2 rfl rfl) h2
  have bd2 : -9223372036854775808 ≤ a2 ∧ a2 ≤ 9223372036854775807 := by simpa [Lit.wf, IntKind.min, IntKind.max, IntKind.signed, IntKind.bits] using w2
  obtain ⟨a3, rfl, rfl, rfl, w3⟩ := open_int Tryz.underlying3 (hval 3 3 v3 rfl rfl) h3
  have bd3 : -9223372036854775808 ≤ a3 ∧ a3 ≤ 9223372036854775807 := by simpa [Lit.wf, IntKind.min, IntKind.max, IntKind.signed, IntKind.bits] using w3
  clear hA0 hval0
  obtain ⟨l0, e0, hs0, hl0, hc0, hcc0, hz0⟩ := arg_texts k0
  have hk1 : Rows.uptoBulk d0 ≤ 1048576 := by
    have := of_decide_eq_true hk
    simp [Rows.uptoBulkAll, Rows.uptoBulk] at this
    omega
  have hln := e0.1
  have hB0 : ∀ x ∈ l0, x.size ≤ 2000000 := fun x hx => by
    have := le_sum (l := l0.map (·.size)) (List.mem_map.2 ⟨x, hx, rfl⟩)
    omega
  refine (walk A0 n0 c0 l0 a1 a2 a3 W e0 hB0 (by omega) bd1 bd2 bd3).mono fun e W' ⟨he, bel⟩ => ?_
  subst he
  exact ⟨_, rfl, _, _, _, [], _, [], hW', trodAll_mk1 (shut_bool Tryz.underlying4 _), (trodAll_cons_mk (Below.trod laidOut (by kernel_rfl) (of_decide_eq_true (by kernel_rfl)) k0 bel lt0) (trodAll_cons_mk (shut_int Tryz.underlying3 w1) (trodAll_cons_mk (shut_int Tryz.underlying3 w2) (trodAll_cons_mk (shut_int Tryz.underlying3 w3) trodAll_mk0)))), rfl, bel.frame _, fun h => by cases h⟩
set_option maxRecDepth 100000 in
theorem lifted (os : Os) (started : os.Started) (H : Type) (enc : TypeId × Value → H) (F : Stop.Interp) :
    ReturnsInHanded {} Tryz.checked os 9 .any ((Rows.OpenSpec.upto Rows.tableHoldsSpec).pre6 enc Tryz.prog Tryz.f9 Rows.tableHoldsUptoRow.domain false) (((Rows.OpenSpec.upto Rows.tableHoldsSpec).at F).post enc Tryz.prog Tryz.f9 false true false false) := by
  refine returnsInHanded_of_cond_sized (C := Tryz.checked) (s := Rows.OpenSpec.upto Rows.tableHoldsSpec) (k := Rows.uptoSmall) rfl own started (by kernel_rfl) Tryz.func9
    (OpenSpec.witness (enc := enc) (C := Tryz.checked) (s := Rows.OpenSpec.upto Rows.tableHoldsSpec) (k := Rows.uptoSmall) rfl false ⟨#[], #[.slice none 0 0, .int .i64 0, .int .i64 0, .int .i64 0], []⟩ 8 (by kernel_rfl) (by kernel_rfl) (by kernel_rfl)
      (x := ([.nil, .lit (.int .i64 0), .lit (.int .i64 0), .lit (.int .i64 0)], [], [])) (by kernel_rfl) rfl (by kernel_rfl)) ?_
  intro W base args ds gs before hval hW _ hk hsz0 _
  exact contract H enc W base args ds gs before hval hW hk hsz0
theorem over : Rows.tableHoldsUptoRow.holds Tryz.pinned (Rows.OpenSpec.upto Rows.tableHoldsSpec) :=
  OpenClaim.holds_of_cond 9 Tryz.f9 rfl rfl rfl rfl rfl rfl rfl ⟨rfl, rfl, rfl, rfl, rfl⟩ rfl rfl rfl rfl rfl (by kernel_rfl) Tryz.func9 (by kernel_rfl)
    (of_decide_eq_true (by kernel_rfl)) (by unfold Func.isWrapper; first | (rw [if_pos (by decide +kernel)]; kernel_rfl) | (rw [if_neg (by decide +kernel)]; exact ⟨rfl, rfl⟩))
    (fun os started H enc _ F => lifted os started H enc F)
end Go.Proofs.YtjdmbkkdnonkkaaGreat.tableHolds
namespace Go.Proofs.YtjdmbkkdnonkkaaGreat
theorem tableHoldsUpto_holds : Rows.TableHoldsUptoSaid := tableHolds.over
#print axioms tableHoldsUpto_holds
end Go.Proofs.YtjdmbkkdnonkkaaGreat
