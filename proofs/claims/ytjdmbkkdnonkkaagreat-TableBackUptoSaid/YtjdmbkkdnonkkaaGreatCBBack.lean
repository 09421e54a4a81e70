/-
  TableBack, up to the bound: changes that were written are read back, where what goes has no value; bytes that are read as changes are just theirs: the law returns true, and writes nothing that was there. Condition: the arguments hold at most 1048576 values and letters.
-/
import Derived.Test.YtjdmbkkdnonkkaaGreatT4
import Derived.ProofKit
import Derived.OpenShut
import Derived.ShutString
import Derived.Deep.Slices
import Derived.Deep.Fields
import Derived.ChangeSame
import Derived.Test.YtjdmbkkdnonkkaaGreatRows
import Derived.SliceStrings
import Derived.SizedLaws
import Derived.JoinedCond
import Derived.Deep.CondSized
import Derived.ChangeOld
namespace Go.Proofs.YtjdmbkkdnonkkaaGreat.Tb
open Go.RowKit Tx Pm Dk Wm Wr
set_option linter.unusedVariables false
set_option linter.unusedSimpArgs false
set_option linter.unnecessarySimpa false
set_option maxRecDepth 100000 in
set_option maxHeartbeats 2000000 in
theorem same7 (a1 a2 : Option Addr) (n c1 c2 : Nat) (l : List Ch) (w : World) (h1 : Opl w a1 n l) (h2 : Opl w a2 n l) (hn : n ≤ 1000000000000) :
    Calls Tryz.prog 43 #[.slice a1 n c1, .slice a2 n c2] w fun e w' => e = .returned (.bool true) ∧ Below w.heap.size w w' := by
  have H1 := Lib.hid (fun W (hW : Below w.heap.size w W) => h1.below hW)
  have H2 := Lib.hid (fun W (hW : Below w.heap.size w W) => h2.below hW)
  have HL := Lib.hid h1.1
  clear h1 h2
  go_enter Tryz.func43, Tryz.ntmps43
  go_wp2_with fail
  go_loopw [5] (fun iv wr => ∃ k : Nat, k ≤ n ∧ iv = .int .i64 k ∧ Below w.heap.size w wr) (fun iv _ => n - (intOf iv).toNat)
  case atStart => exact ⟨0, Nat.zero_le _, rfl, Below.refl _ _⟩
  case round =>
    obtain ⟨k, hk, rfl, hB⟩ := hrel
    by_cases hlt : k < n
    · obtain ⟨x, hx⟩ : ∃ x, l[k]? = some x := ⟨_, List.getElem?_eq_getElem (by rw [HL.out]; exact hlt)⟩
      obtain ⟨g, off, rfl, hg, g0, g1, g2⟩ := (H1.out _ hB).nth hx
      obtain ⟨g', off', rfl, hg', k0, k1, k2⟩ := (H2.out _ hB).nth hx
      have hkz : (k : Int) < (n : Int) := by omega
      clear hx
      have hBd := hB.drew
      go_wp2_with fail
      go_region
      all_goals
        go_wp2_with fail
        go_roundw
        case rel => exact ⟨k + 1, by omega, by go_num, hBd⟩
        case measure => simp [intOf]; omega
    · obtain rfl : k = n := by omega
      go_wp2_with fail
      go_ret
      exact ⟨rfl, hB⟩
end Go.Proofs.YtjdmbkkdnonkkaaGreat.Tb

namespace Go.Proofs.YtjdmbkkdnonkkaaGreat.Tb
open Go.ChangeMaps (open_string shut_string)
open Go.ChangeShapes Go.WideShapes Go.ChangeAt Go.RowKit Tx
set_option linter.unusedVariables false
set_option linter.unusedSimpArgs false
set_option linter.unnecessarySimpa false
def dC {H : Type} (x : Ch) : DataW H := .agg [.lit (.string x.key.data.toList), .lit (.string x.val.data.toList), .lit (.bool x.gone)]
theorem cells9 : Tryz.prog.cellsOf 9 = 1 := by kernel_rfl
theorem cells4 : Tryz.prog.cellsOf 4 = 1 := by kernel_rfl
theorem cellsO : Tryz.prog.cellsOf 67 = 3 := by kernel_rfl
theorem op_open {H : Type} {enc : TypeId × Value → H} {w : World} {base : Nat} {spare : Nat → Bool} {held : Bool} {m : Nat} {c0 c1 c2 : Value} {y : DataW H × List MemPlace} (h : DataW.trod enc Tryz.prog w base spare held m 67 [c0, c1, c2] = some y) :
    ∃ x : Ch, c0 = .string x.key ∧ c1 = .string x.val ∧ c2 = .bool x.gone ∧ y = (dC x, []) := by
  obtain ⟨ys, m2, _, hy, _, hyl, hf⟩ := DataW.trod_struct Tryz.underlying67 h
  have h0 := hf 0 _ rfl
  have h1 := hf 1 _ rfl
  have h2 := hf 2 _ rfl
  match ys, hyl with
  | [y0, y1, y2], _ =>
    have h0 : DataW.trod enc Tryz.prog w base spare held m2 9 (([c0, c1, c2].drop 0).take (Tryz.prog.cellsOf 9)) = some y0 := h0
    have h1 : DataW.trod enc Tryz.prog w base spare held m2 9 (([c0, c1, c2].drop 1).take (Tryz.prog.cellsOf 9)) = some y1 := h1
    have h2 : DataW.trod enc Tryz.prog w base spare held m2 4 (([c0, c1, c2].drop 2).take (Tryz.prog.cellsOf 4)) = some y2 := h2
    rw [cells9] at h0 h1
    rw [cells4] at h2
    obtain ⟨k, hk, hx0, hl0⟩ := DataW.trod_string Tryz.underlying9 h0
    obtain ⟨p, hp, hx1, hl1⟩ := DataW.trod_string Tryz.underlying9 h1
    obtain ⟨n, hn, hx2⟩ := DataW.trod_bool Tryz.underlying4 h2
    simp at hk hp hn
    refine ⟨⟨k, p, n⟩, hk, hp, hn, ?_⟩
    rw [hy, hx0, hx1, hx2]
    rfl
theorem op_at {H : Type} {enc : TypeId × Value → H} {w : World} {base : Nat} {spare : Nat → Bool} {held : Bool} {m : Nat} {a : Addr} {cs' : List Value} {y : DataW H × List MemPlace} (hc : w.cells? base a 3 = some cs') (h : DataW.trod enc Tryz.prog w base spare held m 67 cs' = some y) :
    ∃ x : Ch, w.cell? a = some (.string x.key) ∧ w.cell? (a.add 1) = some (.string x.val) ∧ w.cell? (a.add 2) = some (.bool x.gone) ∧ y = (dC x, []) := by
  obtain ⟨_, hcl, hat⟩ := World.cells?_some hc
  match cs', hcl with
  | [c0, c1, c2], _ =>
    obtain ⟨x, h0, h1, h2, hy⟩ := op_open h
    have a0 := hat 0 (by omega)
    have a1 := hat 1 (by omega)
    have a2 := hat 2 (by omega)
    refine ⟨x, ?_, ?_, ?_, hy⟩
    · have e : a.add 0 = a := by simp [Addr.add]
      rw [e] at a0
      rw [a0, h0]
      rfl
    · rw [a1, h1]; rfl
    · rw [a2, h2]; rfl
theorem open_ops {H : Type} {enc : TypeId × Value → H} {w : World} {base : Nat} {spare : Nat → Bool} {held : Bool} {fuel : Nat} {cs : List Value} {x : DataW H × List MemPlace} (h : DataW.trod enc Tryz.prog w base spare held fuel 65 cs = some x) :
    (cs = [.slice none 0 0] ∧ x = (.nil, [])) ∨ ∃ (a : Addr) (len cap : Nat) (l : List Ch) (rest : List (DataW H)) (pl : List MemPlace), cs = [.slice (some a) len cap] ∧ len ≤ cap ∧ cap ≤ maxLen ∧ x = (.slice (l.map dC) rest, pl) ∧ Opl w (some a) len l := by
  rcases Go.Deep.open_slice Tryz.underlying65 h with h0 | ⟨a, len, cap, m, n, D, Pl, rfl, hb, hl, hm, hmm, hx, hi⟩
  · exact .inl h0
  · right
    have hlm : len ≤ m := by
      rw [hmm]
      split
      · exact hl
      · exact Nat.le_refl _
    have hex : ∀ i, i < len → ∃ e : Ch, w.cell? (a.add (i * 3)) = some (.string e.key) ∧ w.cell? ((a.add (i * 3)).add 1) = some (.string e.val) ∧ w.cell? ((a.add (i * 3)).add 2) = some (.bool e.gone) ∧ D i = dC e := by
      intro i him
      obtain ⟨cs', hc, ht⟩ := hi i (by omega)
      rw [cellsO] at hc
      obtain ⟨e, h1, h2, h3, h5⟩ := op_at hc ht
      exact ⟨e, h1, h2, h3, congrArg Prod.fst h5⟩
    have : Inhabited Ch := ⟨ch0⟩
    obtain ⟨X, hX⟩ := Go.Deep.choose_lt hex
    have hget : ∀ k y, ((List.range len).map X)[k]? = some y → k < len ∧ y = X k := by
      intro k y hk
      have hk2 := (List.getElem?_eq_some_iff.1 hk).1
      simp at hk2
      rw [List.getElem?_map, List.getElem?_range hk2] at hk
      injection hk with hk
      exact ⟨hk2, hk.symm⟩
    refine ⟨a, len, cap, (List.range len).map X, (List.range (m - len)).map fun j => D (len + j), x.2, rfl, hl, hm, ?_, ⟨by simp, ?_⟩⟩
    · rw [hx]
      refine Prod.ext ?_ rfl
      show DataW.slice _ _ = DataW.slice _ _
      congr 1
      rw [List.map_map]
      refine List.map_congr_left (fun i hi' => ?_)
      exact (hX i (List.mem_range.1 hi')).2.2.2
    · by_cases h0 : len = 0
      · exact .inl h0
      · right
        obtain ⟨b, off, spot⟩ := a
        have hc0 := (hX 0 (by omega)).1
        rw [Nat.zero_mul] at hc0
        have hspot : spot = none := by simpa [Addr.add] using World.cell?_spot hc0
        subst hspot
        refine ⟨b, off, rfl, ?_, fun k y hk => ?_⟩
        · have := World.block_lt_of_cell? w _ hc0
          simpa [Addr.add] using this
        · obtain ⟨hk2, rfl⟩ := hget k y hk
          obtain ⟨h1, h2, h3, _⟩ := hX k hk2
          rw [add_plain] at h1 h2 h3
          rw [add_plain] at h2 h3
          exact ⟨h1, h2, h3⟩
theorem bulk_op {H : Type} (x : Ch) : Rows.uptoBulk (dC (H := H) x) = x.key.size + x.val.size + 4 := by
  have e : Rows.uptoBulk (dC (H := H) x) = (x.key.data.toList.length + 1) + ((x.val.data.toList.length + 1) + (1 + 0)) + 1 := rfl
  rw [e, Wm.len_l, Wm.len_l]
  omega
theorem bulk_ops {H : Type} : ∀ l : List Ch, wt l ≤ 10 * Rows.uptoBulkAll (l.map (dC (H := H)))
  | [] => Nat.zero_le _
  | y :: l => by
    have h1 := bulk_ops (H := H) l
    have e : Rows.uptoBulkAll ((y :: l).map (dC (H := H))) = Rows.uptoBulk (dC (H := H) y) + Rows.uptoBulkAll (l.map (dC (H := H))) := rfl
    rw [e, bulk_op, wt_cons]
    omega
theorem arg_ops {H : Type} {enc : TypeId × Value → H} {w : World} {base : Nat} {spare : Nat → Bool} {held : Bool} {a : Option Addr} {n c : Nat} {d : DataW H} {p : List MemPlace} (h : DataW.Trod enc Tryz.prog w base spare held 65 (.slice a n c) d p) :
    ∃ l : List Ch, Opl w a n l ∧ wt l ≤ 10 * Rows.uptoBulk d ∧ n ≤ c ∧ c ≤ 9223372036854775807 := by
  obtain ⟨fuel, hf⟩ := h
  rcases open_ops hf with ⟨hcs, _⟩ | ⟨x, len, cap, l, rest, pl, hcs, hlc, hcm, hx, he⟩
  · simp [Value.cells] at hcs
    obtain ⟨rfl, rfl, rfl⟩ := hcs
    exact ⟨[], ⟨rfl, .inl rfl⟩, Nat.zero_le _, by omega, by omega⟩
  · simp [Value.cells] at hcs
    obtain ⟨rfl, rfl, rfl⟩ := hcs
    have hd : d = .slice (l.map dC) rest := congrArg Prod.fst hx
    have e : Rows.uptoBulk d = Rows.uptoBulkAll (l.map (dC (H := H))) + Rows.uptoBulkAll rest + 1 := by rw [hd]; rfl
    have h1 := bulk_ops (H := H) l
    unfold maxLen at hcm
    exact ⟨l, he, by omega, hlc, by omega⟩
end Go.Proofs.YtjdmbkkdnonkkaaGreat.Tb

namespace Go.Proofs.YtjdmbkkdnonkkaaGreat.Dk
open Go.ChangeShapes Go.WideShapes Go.ChangeAt Go.RowKit Tx
set_option linter.unusedVariables false
theorem bulk_strs {H : Type} (l : List ByteArray) : Rows.uptoBulkAll (strs (H := H) l) = (l.map (·.size)).sum + l.length := by
  induction l with
  | nil => rfl
  | cons s l ih =>
    have e : Rows.uptoBulkAll (strs (H := H) (s :: l)) = (s.data.toList.length + 1) + Rows.uptoBulkAll (strs (H := H) l) := rfl
    rw [e, ih, len_l, List.map_cons, List.sum_cons, List.length_cons]
    omega
theorem str_weights {H : Type} (s : ByteArray) : DataW.weights Tryz.prog 9 (.lit (.string s.data.toList) : DataW H) = [s.data.toList.length] := by
  rw [DataW.weights]
theorem strs_weights {H : Type} {x : ByteArray} {n : Nat} : ∀ {l : List ByteArray}, x ∈ l → n ∈ DataW.weights Tryz.prog 9 (.lit (.string x.data.toList) : DataW H) → n ∈ DataW.weightsAll Tryz.prog 9 (strs (H := H) l)
  | y :: l, hx, hn => by
    have e : strs (H := H) (y :: l) = .lit (.string y.data.toList) :: strs l := rfl
    rw [e, DataW.weightsAll, List.mem_append]
    rcases List.mem_cons.1 hx with rfl | hx
    · exact .inl hn
    · exact .inr (strs_weights hx hn)
def Wide1 (l : List ByteArray) : Prop := ∀ x ∈ l, x.size ≤ 140737488351232
theorem wide_strs {H : Type} {ts : List TypeId} {ds : List (DataW H)} (h : (DataW.weightsEach Tryz.prog ts ds).all (· ≤ reachBytes) = true) {j : Nat} {l : List ByteArray} {rest : List (DataW H)} (ht : ts[j]? = some 56) (hd : ds[j]? = some (.slice (strs l) rest)) : Wide1 l := by
  intro x hx
  have hall := List.all_eq_true.1 h
  have hm := DataW.weights_mem_each (P := Tryz.prog) ht hd x.data.toList.length (by
    rw [DataW.weights, Tryz.underlying56]
    exact List.mem_cons_of_mem _ (List.mem_append_left _ (strs_weights hx (by rw [str_weights]; simp))))
  have := of_decide_eq_true (hall _ hm)
  rw [len_l] at this
  exact this
theorem arg_texts {H : Type} {enc : TypeId × Value → H} {w : World} {base : Nat} {spare : Nat → Bool} {held : Bool} {a : Option Addr} {n c : Nat} {d : DataW H} {p : List MemPlace} (h : DataW.Trod enc Tryz.prog w base spare held 56 (.slice a n c) d p) :
    ∃ l : List ByteArray, Strs w a n l ∧ (l.map (·.size)).sum ≤ Rows.uptoBulk d ∧ l.length ≤ Rows.uptoBulk d ∧ n ≤ c ∧ c ≤ 9223372036854775807 ∧ ∀ {ts : List TypeId} {ds : List (DataW H)} {j : Nat}, (DataW.weightsEach Tryz.prog ts ds).all (· ≤ reachBytes) = true → ts[j]? = some 56 → ds[j]? = some d → Wide1 l := by
  obtain ⟨fuel, hf⟩ := h
  rcases open_strings Tryz.underlying56 Tryz.underlying9 (by kernel_rfl) hf with ⟨hcs, _⟩ | ⟨x, len, cap, ss, hcs, _, hl, hm, hz, hx, hcell, _⟩
  · simp [Value.cells] at hcs
    obtain ⟨rfl, rfl, rfl⟩ := hcs
    exact ⟨[], ⟨rfl, .inl rfl⟩, Nat.zero_le _, Nat.zero_le _, by omega, by omega, fun _ _ _ x hx => by cases hx⟩
  · simp [Value.cells] at hcs
    obtain ⟨rfl, rfl, rfl⟩ := hcs
    unfold maxLen at hm
    have hz' : n ≤ ss.length := by rw [hz]; split <;> omega
    have hd : d = .slice (strs (ss.take n)) (strs (ss.drop n)) := congrArg Prod.fst hx
    have e : Rows.uptoBulk d = Rows.uptoBulkAll (strs (H := H) (ss.take n)) + Rows.uptoBulkAll (strs (H := H) (ss.drop n)) + 1 := by rw [hd]; rfl
    rw [bulk_strs] at e
    have hlen : (ss.take n).length = n := by rw [List.length_take]; omega
    refine ⟨ss.take n, ⟨hlen, ?_⟩, by omega, by omega, hl, by omega, fun h1 h2 h3 => wide_strs h1 h2 (by rw [h3, hd])⟩
    by_cases h0 : n = 0
    · exact .inl h0
    · right
      obtain ⟨b, off, spot⟩ := x
      have hc0 := hcell 0 (by omega)
      have hspot : spot = none := by simpa [Addr.add] using World.cell?_spot hc0
      subst hspot
      refine ⟨b, off, rfl, ?_, fun k y hk => ?_⟩
      · have := World.block_lt_of_cell? w _ hc0
        rwa [WideShapes.add_plain] at this
      · have hk2 := (List.getElem?_eq_some_iff.1 hk).1
        rw [hlen] at hk2
        have hk3 := hcell k (by omega)
        rw [WideShapes.add_plain] at hk3
        rw [hk3]
        rw [List.getElem?_take_of_lt hk2] at hk
        rw [List.getD_eq_getElem?_getD, hk]
        rfl
end Go.Proofs.YtjdmbkkdnonkkaaGreat.Dk

namespace Go.Proofs.YtjdmbkkdnonkkaaGreat.tableBack
open Go.ChangeMaps (open_string shut_string)
open Go.ChangeShapes Go.WideShapes Go.ChangeAt Go.RowKit Tx Pm Dk Tb
set_option linter.unusedVariables false
set_option linter.unusedSimpArgs false
set_option linter.unnecessarySimpa false
set_option maxRecDepth 100000 in
set_option maxHeartbeats 4000000 in
theorem walk (A : Option Addr) (n c : Nat) (s : ByteArray) (l : List Ch) (w : World) (hO : Opl w A n l) (hw : wt l ≤ 20000000) (hs : s.size ≤ 20000000) (hc : n ≤ c) :
    Calls Tryz.prog 7 #[.slice A n c, .string s] w fun e w' => e = .returned (.bool true) ∧ Below w.heap.size w w' := by
  obtain ⟨i0, hi, hz0, hz1, hz2⟩ := info_parts infoC
  have HO := Lib.hid (fun W (hW : Below w.heap.size w W) => hO.below hW)
  have HL := Lib.hid hO.1
  have HW := Lib.hid hw
  have hn : n ≤ 1000000 := by have := wt_len l; rw [hO.1] at this; omega
  clear hO hw
  go_enter Tryz.func7, Tryz.ntmps7
  go_wp2_with fail
  go_loopw [5, 6] (fun v iv wr => ∃ k : Nat, k ≤ n ∧ iv = .int .i64 k ∧ wr.ownsRow w.heap.size 67 3 v k (((l.take k).map norm).flatMap cellsC) ∧ Below w.heap.size w wr) (fun _ iv _ => n - (intOf iv).toNat)
  case atStart => exact ⟨0, Nat.zero_le _, rfl, World.ownsRow_nil _ _ _ _, Below.refl _ _⟩
  case round =>
    obtain ⟨k, hk, rfl, hown, hB⟩ := hrel
    by_cases hlt : k < n
    · obtain ⟨x, hx⟩ : ∃ x, l[k]? = some x := ⟨_, List.getElem?_eq_getElem (by rw [HL.out]; exact hlt)⟩
      obtain ⟨g, off, rfl, hg, g0, g1, g2⟩ := (HO.out _ hB).nth hx
      have hkz : (k : Int) < (n : Int) := by omega
      have htk : (l.take (k + 1)).map norm = (l.take k).map norm ++ [norm x] := by
        have hkl := (List.getElem?_eq_some_iff.1 hx).1
        rw [List.take_succ_eq_append_getElem hkl, List.map_append]
        rw [List.getElem?_eq_getElem hkl] at hx
        injection hx with hx
        rw [hx]
        rfl
      have HTK := Lib.hid htk
      obtain ⟨key, val, gone⟩ := x
      simp only at g0 g1 g2
      have hB1 := hB.alloc hB.size (.cells #[.string key, .string val, .bool gone] 67)
      have hO1 := hown.alloc (.cells #[.string key, .string val, .bool gone] 67)
      have hn1 := new_at wr (.cells #[.string key, .string val, .bool gone] 67) rfl
      clear hx htk
      cases gone
      · skip
        obtain ⟨f0, f1, f2⟩ := cells_of hn1
        have hlt2 : wr.heap.size < (wr.alloc (.cells #[.string key, .string val, .bool false] 67)).heap.size := by simp [World.setCell]
        go_wp2_with (at_builtin; go_loud (refine wpList_append_own _ rfl _ _ 65 rfl w.heap.size 67 i0 (ov ch0) 3 40 Tryz.underlying65 hi hz0 hz1 hz2 rfl (by decide) _ _ _ rfl (hO1.alloc _) ⟨wr.heap.size + 1, 0, none⟩ 1 1 [.string key, .string val, .bool false] rfl rfl ?c1 ?c2 ?c3 ?c4 ?c5 ?_))
        case c1 => exact new3 (wr.alloc (.cells #[.string key, .string val, .bool false] 67)) ⟨key, val, false⟩ (by simp [World.setCell])
        case c2 => exact cells_one ⟨key, val, false⟩
        case c3 => unfold maxLen; omega
        case c4 => omega
        case c5 => have := hB1.size; simp [World.setCell] at this ⊢; omega
        intro v' w6 hown6 hgrow6 _
        have hB6 : Below w.heap.size w w6 := (hB1.alloc hB1.size _).grown hgrow6 (by have := hB1.size; simp [World.setCell] at this ⊢; omega) (fun g hg => (hown.lt g hg).1)
        have hO6 : w6.ownsRow w.heap.size 67 3 v' (k + 1) (((l.take (k + 1)).map norm).flatMap cellsC) := by
          rw [HTK.out, List.flatMap_append, List.map_take]
          exact hown6
        clear hown6 hgrow6 hown hB1 hO1
        go_wp2_with fail
        go_roundw
        case rel => exact ⟨k + 1, by omega, by go_num, hO6, hB6⟩
        case measure => simp [intOf]; omega
      · have q0 : (wr.alloc (.cells #[.string key, .string val, .bool true] 67)).cell? ⟨wr.heap.size, 1, none⟩ = some (.string val) := by unfold World.cell?; rw [hn1]; rfl
        have q1 : (wr.alloc (.cells #[.string key, .string val, .bool true] 67)).frozen? ⟨wr.heap.size, 1, none⟩ = false := by unfold World.frozen?; rw [hn1]; simp
        have hB2 := hB.alloc hB.size (.cells #[.string key, .string ⟨#[]⟩, .bool true] 67)
        have hO2 := hown.alloc (.cells #[.string key, .string ⟨#[]⟩, .bool true] 67)
        have hn2 := new_at wr (.cells #[.string key, .string ⟨#[]⟩, .bool true] 67) rfl
        obtain ⟨f0, f1, f2⟩ := cells_of hn2
        have hlt2 : wr.heap.size < (wr.alloc (.cells #[.string key, .string ⟨#[]⟩, .bool true] 67)).heap.size := by simp [World.setCell]
        go_wp2_with (at_builtin; go_loud (refine wpList_append_own _ rfl _ _ 65 rfl w.heap.size 67 i0 (ov ch0) 3 40 Tryz.underlying65 hi hz0 hz1 hz2 rfl (by decide) _ _ _ rfl (hO2.alloc _) ⟨wr.heap.size + 1, 0, none⟩ 1 1 [.string key, .string ⟨#[]⟩, .bool true] rfl rfl ?c1 ?c2 ?c3 ?c4 ?c5 ?_))
        case c1 => exact new3 (wr.alloc (.cells #[.string key, .string ⟨#[]⟩, .bool true] 67)) ⟨key, ⟨#[]⟩, true⟩ (by simp [World.setCell])
        case c2 => exact cells_one ⟨key, ⟨#[]⟩, true⟩
        case c3 => unfold maxLen; omega
        case c4 => omega
        case c5 => have := hB2.size; simp [World.setCell] at this ⊢; omega
        intro v' w6 hown6 hgrow6 _
        have hB6 : Below w.heap.size w w6 := (hB2.alloc hB2.size _).grown hgrow6 (by have := hB2.size; simp [World.setCell] at this ⊢; omega) (fun g hg => (hown.lt g hg).1)
        have hO6 : w6.ownsRow w.heap.size 67 3 v' (k + 1) (((l.take (k + 1)).map norm).flatMap cellsC) := by
          rw [HTK.out, List.flatMap_append, List.map_take]
          exact hown6
        clear hown6 hgrow6 hown hB1 hO1
        go_wp2_with fail
        go_roundw
        case rel => exact ⟨k + 1, by omega, by go_num, hO6, hB6⟩
        case measure => simp [intOf]; omega
    · obtain rfl : k = n := by omega
      have e : (l.take k) = l := List.take_of_length_le (by rw [HL.out]; exact Nat.le_refl _)
      rw [e] at hown
      have hlm : (l.map norm).length = k := by rw [List.length_map, HL.out]
      have hOn : OwnC wr w.heap.size u5 (l.map norm) := by unfold OwnC; rw [hlm]; exact hown
      obtain ⟨a5, c5, hv5, hl5, hc5, _⟩ := hOn.form
      rw [hlm] at hv5 hl5 hc5
      have hw7 := HW.out
      have cr := record_any A k c l wr (HO.out _ hB) (by omega) hc
      have hrs := rec7_le (l := l) (by omega)
      have cop := fun W => ops_any (rec7 l) W (by omega)
      unfold OpsTo at cop
      have hback := ops_back (l := l) (by omega)
      rw [hback] at cop
      have HL5 := Lib.hid (fun W (hW : Below wr.heap.size wr W) => hl5.below hW)
      obtain ⟨m2, e2, hops⟩ : ∃ m e, opsS s = (m, e) := ⟨_, _, rfl⟩
      have cs := fun W => ops_any s W (by omega)
      unfold OpsTo at cs
      rw [hops] at cs
      have HOPS := Lib.hid hops
      clear hOn hown hl5 e hback hops hrs hlm
      subst hv5
      go_wp2_with fail
      go_at_call 40
      refine cr.mono ?_
      rintro e w1 ⟨rfl, hb1⟩
      go_wp2_with fail
      go_at_call 38
      refine (cop _).mono ?_
      rintro e w2 ⟨v2, rfl, hO2, hb2⟩
      obtain ⟨a2, c2, hv2, hl2, _⟩ := hO2.form
      rw [List.length_map, HL.out] at hv2 hl2
      have hb12 := Tx.below_call hb1 hb2
      have HL2 := Lib.hid (fun W (hW : Below w2.heap.size w2 W) => hl2.below hW)
      clear hO2 hl2
      subst hv2
      go_wp2_with fail
      go_at_call 41
      refine (awake_any7 w2 w2 (Below.refl _ _)).mono ?_
      rintro e w3 ⟨rfl, hb3⟩
      have csm := same7 a2 a5 k c2 c5 (l.map norm) w3 (HL2.out _ hb3) (HL5.out _ (Tx.below_call hb12 hb3)) (by omega)
      have hb123 := Tx.below_call hb12 hb3
      go_wp2_with fail
      go_at_call 43
      refine csm.mono ?_
      rintro e w4 ⟨rfl, hb4⟩
      have hb123 := Tx.below_call hb123 hb4
      go_wp2_with fail
      go_at_call 38
      refine (cs _).mono ?_
      rintro e w5 ⟨v5, rfl, hO5, hb5⟩
      have hb15 := Tx.below_call hb123 hb5
      have hbf := Tx.below_call hB hb15
      obtain ⟨a6, c6, hv6, hl6, hc6, _⟩ := hO5.form
      try simp only at hv6 hl6 hc6 hO5
      by_cases he2 : e2 = 0
      · subst he2
        obtain ⟨hrec, _, _⟩ := opsS_ok HOPS.out
        have hwt := wt_ops HOPS.out
        have cr2 := record_any a6 m2.length c6 m2 w5 hl6 (by omega) hc6
        rw [hrec] at cr2
        obtain ⟨N, hN⟩ : ∃ N, N = m2.length := ⟨_, rfl⟩
        rw [← hN] at hv6 cr2
        have hss : (s.toList == s.toList) = true := beq_self_eq_true _
        clear hO5 hl6 hN hrec hwt
        subst hv6
        go_wp2_with fail
        go_at_call 40
        refine cr2.mono ?_
        rintro e w6 ⟨rfl, hb6⟩
        go_wp2_with fail
        go_ret
        exact ⟨rfl, Tx.below_call hbf hb6⟩
      · have ne := neZ he2
        obtain ⟨N, hN⟩ : ∃ N, N = m2.length := ⟨_, rfl⟩
        rw [← hN] at hv6
        clear hO5 hl6 hN
        subst hv6
        go_wp2_with fail
        all_goals first | (exact absurd (by assumption) he2) | (go_ret; exact ⟨rfl, hbf⟩)
theorem own : ownKnob Tryz.prog.godebug = none := by kernel_rfl
theorem laidOut : laidOutB Tryz.prog = true := by kernel_rfl
set_option maxRecDepth 100000 in
theorem contract (H : Type) (enc : TypeId × Value → H) (W : World) (base : Nat) (args : Array Value) (ds gs : List (DataW H)) (before : List MemPlace)
    (hval0 : ∀ (j : Nat) t v, Tryz.f7.params[j]? = some t → args[j]? = some v → Value.okWide Tryz.prog W .any base t v)
    (hW : DataW.Whole enc Tryz.prog Tryz.f7.params.toList Rows.tableBackSpec.vars false W args.toList ds gs before)
    (hk : Rows.uptoSmall H (ds ++ gs) = true)
    (hsz0 : (DataW.weightsEach Tryz.prog (Tryz.f7.params.toList ++ Rows.tableBackSpec.plain.varTypes Tryz.prog) (ds ++ gs)).all (· ≤ reachBytes) = true) :
    Calls Tryz.prog 7 args W fun e W' => ∃ v, e = .returned v ∧ Rows.tableBackSpec.post enc Tryz.prog Tryz.f7 false true false false W args v W' := by
  have hval : ∀ (j : Nat) t v, Tryz.f7.params[j]? = some t → args[j]? = some v → Value.okWide Tryz.prog W .any base t v := hval0
  have hsz := hsz0
  clear hsz0
  have hW' := hW
  obtain ⟨p, q, hA0, hV, rfl, hfz, hnd⟩ := hW
  have hA : DataW.TrodAll enc Tryz.prog W 0 (fun _ => true) true Tryz.f7.params.toList args.toList ds p := hA0
  rw [Tryz.params7] at hA hval hsz
  obtain ⟨v0, vs0, d0, ds0, p0, q0, hargs, rfl, rfl, h0, r0⟩ := trodAll_cons hA
  obtain ⟨v1, vs1, d1, ds1, p1, q1, rfl, rfl, rfl, h1, r1⟩ := trodAll_cons r0
  obtain ⟨rfl, rfl, rfl⟩ := trodAll_nil r1
  obtain rfl : args = #[v0, v1] := by cases args; simp_all
  obtain ⟨rfl, rfl⟩ := trodVars_none hV
  obtain ⟨A0, n0, c0, rfl⟩ := okWide_slice Tryz.underlying65 (hval 0 65 v0 rfl rfl)
  have k0 := h0
  have lt0 : ∀ x ∈ p0, x.block < W.heap.size := by obtain ⟨m, hm⟩ := k0; exact DataW.trod_lt m _ _ _ hm
  obtain ⟨s1, rfl, rfl, rfl, w1⟩ := open_string Tryz.underlying9 (hval 1 9 v1 rfl rfl) h1
  have hreach1 : s1.size ≤ 140737488351232 := by
    have := sized_string hsz (j := 1) (t := 9) rfl rfl
    simpa [reachBytes] using this
  clear hA0 hval0
  obtain ⟨l0, e0, hb0, hc0, hm0⟩ := arg_ops k0
  have hk1 : Rows.uptoBulk d0 + s1.size ≤ 1048576 := by
    have := of_decide_eq_true hk
    simp [Rows.uptoBulkAll, Rows.uptoBulk] at this
    omega
  refine (walk A0 n0 c0 s1 l0 W e0 (by omega) (by omega) hc0).mono fun e W' ⟨he, bel⟩ => ?_
  subst he
  exact ⟨_, rfl, _, _, _, [], _, [], hW', trodAll_mk1 (shut_bool Tryz.underlying4 _), (trodAll_cons_mk (Below.trod laidOut (by kernel_rfl) (of_decide_eq_true (by kernel_rfl)) k0 bel lt0) (trodAll_cons_mk (shut_string Tryz.underlying9 w1) trodAll_mk0)), rfl, bel.frame _, fun h => by cases h⟩
set_option maxRecDepth 100000 in
theorem lifted (os : Os) (started : os.Started) (H : Type) (enc : TypeId × Value → H) (F : Stop.Interp) :
    ReturnsInHanded {} Tryz.checked os 7 .any ((Rows.OpenSpec.upto Rows.tableBackSpec).pre6 enc Tryz.prog Tryz.f7 Rows.tableBackUptoRow.domain false) (((Rows.OpenSpec.upto Rows.tableBackSpec).at F).post enc Tryz.prog Tryz.f7 false true false false) := by
  refine returnsInHanded_of_cond_sized (C := Tryz.checked) (s := Rows.OpenSpec.upto Rows.tableBackSpec) (k := Rows.uptoSmall) rfl own started (by kernel_rfl) Tryz.func7
    (OpenSpec.witness (enc := enc) (C := Tryz.checked) (s := Rows.OpenSpec.upto Rows.tableBackSpec) (k := Rows.uptoSmall) rfl false ⟨#[], #[.slice none 0 0, .string ByteArray.empty], []⟩ 8 (by kernel_rfl) (by kernel_rfl) (by kernel_rfl)
      (x := ([.nil, .lit (.string [])], [], [])) (by kernel_rfl) rfl (by kernel_rfl)) ?_
  intro W base args ds gs before hval hW _ hk hsz0 _
  exact contract H enc W base args ds gs before hval hW hk hsz0
theorem over : Rows.tableBackUptoRow.holds Tryz.pinned (Rows.OpenSpec.upto Rows.tableBackSpec) :=
  OpenClaim.holds_of_cond 7 Tryz.f7 rfl rfl rfl rfl rfl rfl rfl ⟨rfl, rfl, rfl, rfl, rfl⟩ rfl rfl rfl rfl rfl (by kernel_rfl) Tryz.func7 (by kernel_rfl)
    (of_decide_eq_true (by kernel_rfl)) (by unfold Func.isWrapper; first | (rw [if_pos (by decide +kernel)]; kernel_rfl) | (rw [if_neg (by decide +kernel)]; exact ⟨rfl, rfl⟩))
    (fun os started H enc _ F => lifted os started H enc F)
end Go.Proofs.YtjdmbkkdnonkkaaGreat.tableBack
namespace Go.Proofs.YtjdmbkkdnonkkaaGreat
theorem tableBackUpto_holds : Rows.TableBackUptoSaid := tableBack.over
#print axioms tableBackUpto_holds
end Go.Proofs.YtjdmbkkdnonkkaaGreat
