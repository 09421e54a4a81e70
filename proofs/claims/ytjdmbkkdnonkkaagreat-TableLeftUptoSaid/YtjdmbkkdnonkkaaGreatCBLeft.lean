/-
  TableLeft, up to the bound: a batch that isn't committed leaves nothing in the table and on the disk; a committed one is just what its last changes say, key by key: the law returns true, and writes nothing that was there. Condition: the arguments hold at most 1048576 values and letters.
-/
import Derived.Test.YtjdmbkkdnonkkaaGreatT4
import Derived.ProofKit
import Derived.OpenShut
import Derived.ShutString
import Derived.Deep.Slices
import Derived.Deep.Fields
import Derived.ChangeSame
import Derived.Test.YtjdmbkkdnonkkaaGreatRows
import Derived.SliceStrings
import Derived.SizedLaws
import Derived.JoinedCond
import Derived.Deep.CondSized
import Derived.ChangeOld
namespace Go.Proofs.YtjdmbkkdnonkkaaGreat.Tb
open Go.ChangeMaps (open_string shut_string)
open Go.ChangeShapes Go.WideShapes Go.ChangeAt Go.RowKit Tx
set_option linter.unusedVariables false
set_option linter.unusedSimpArgs false
set_option linter.unnecessarySimpa false
def dC {H : Type} (x : Ch) : DataW H := .agg [.lit (.string x.key.data.toList), .lit (.string x.val.data.toList), .lit (.bool x.gone)]
theorem cells9 : Tryz.prog.cellsOf 9 = 1 := by kernel_rfl
theorem cells4 : Tryz.prog.cellsOf 4 = 1 := by kernel_rfl
theorem cellsO : Tryz.prog.cellsOf 67 = 3 := by kernel_rfl
theorem op_open {H : Type} {enc : TypeId × Value → H} {w : World} {base : Nat} {spare : Nat → Bool} {held : Bool} {m : Nat} {c0 c1 c2 : Value} {y : DataW H × List MemPlace} (h : DataW.trod enc Tryz.prog w base spare held m 67 [c0, c1, c2] = some y) :
    ∃ x : Ch, c0 = .string x.key ∧ c1 = .string x.val ∧ c2 = .bool x.gone ∧ y = (dC x, []) := by
  obtain ⟨ys, m2, _, hy, _, hyl, hf⟩ := DataW.trod_struct Tryz.underlying67 h
  have h0 := hf 0 _ rfl
  have h1 := hf 1 _ rfl
  have h2 := hf 2 _ rfl
  match ys, hyl with
  | [y0, y1, y2], _ =>
    have h0 : DataW.trod enc Tryz.prog w base spare held m2 9 (([c0, c1, c2].drop 0).take (Tryz.prog.cellsOf 9)) = some y0 := h0
    have h1 : DataW.trod enc Tryz.prog w base spare held m2 9 (([c0, c1, c2].drop 1).take (Tryz.prog.cellsOf 9)) = some y1 := h1
    have h2 : DataW.trod enc Tryz.prog w base spare held m2 4 (([c0, c1, c2].drop 2).take (Tryz.prog.cellsOf 4)) = some y2 := h2
    rw [cells9] at h0 h1
    rw [cells4] at h2
    obtain ⟨k, hk, hx0, hl0⟩ := DataW.trod_string Tryz.underlying9 h0
    obtain ⟨p, hp, hx1, hl1⟩ := DataW.trod_string Tryz.underlying9 h1
    obtain ⟨n, hn, hx2⟩ := DataW.trod_bool Tryz.underlying4 h2
    simp at hk hp hn
    refine ⟨⟨k, p, n⟩, hk, hp, hn, ?_⟩
    rw [hy, hx0, hx1, hx2]
    rfl
theorem op_at {H : Type} {enc : TypeId × Value → H} {w : World} {base : Nat} {spare : Nat → Bool} {held : Bool} {m : Nat} {a : Addr} {cs' : List Value} {y : DataW H × List MemPlace} (hc : w.cells? base a 3 = some cs') (h : DataW.trod enc Tryz.prog w base spare held m 67 cs' = some y) :
    ∃ x : Ch, w.cell? a = some (.string x.key) ∧ w.cell? (a.add 1) = some (.string x.val) ∧ w.cell? (a.add 2) = some (.bool x.gone) ∧ y = (dC x, []) := by
  obtain ⟨_, hcl, hat⟩ := World.cells?_some hc
  match cs', hcl with
  | [c0, c1, c2], _ =>
    obtain ⟨x, h0, h1, h2, hy⟩ := op_open h
    have a0 := hat 0 (by omega)
    have a1 := hat 1 (by omega)
    have a2 := hat 2 (by omega)
    refine ⟨x, ?_, ?_, ?_, hy⟩
    · have e : a.add 0 = a := by simp [Addr.add]
      rw [e] at a0
      rw [a0, h0]
      rfl
    · rw [a1, h1]; rfl
    · rw [a2, h2]; rfl
theorem open_ops {H : Type} {enc : TypeId × Value → H} {w : World} {base : Nat} {spare : Nat → Bool} {held : Bool} {fuel : Nat} {cs : List Value} {x : DataW H × List MemPlace} (h : DataW.trod enc Tryz.prog w base spare held fuel 65 cs = some x) :
    (cs = [.slice none 0 0] ∧ x = (.nil, [])) ∨ ∃ (a : Addr) (len cap : Nat) (l : List Ch) (rest : List (DataW H)) (pl : List MemPlace), cs = [.slice (some a) len cap] ∧ len ≤ cap ∧ cap ≤ maxLen ∧ x = (.slice (l.map dC) rest, pl) ∧ Opl w (some a) len l := by
  rcases Go.Deep.open_slice Tryz.underlying65 h with h0 | ⟨a, len, cap, m, n, D, Pl, rfl, hb, hl, hm, hmm, hx, hi⟩
  · exact .inl h0
  · right
    have hlm : len ≤ m := by
      rw [hmm]
      split
      · exact hl
      · exact Nat.le_refl _
    have hex : ∀ i, i < len → ∃ e : Ch, w.cell? (a.add (i * 3)) = some (.string e.key) ∧ w.cell? ((a.add (i * 3)).add 1) = some (.string e.val) ∧ w.cell? ((a.add (i * 3)).add 2) = some (.bool e.gone) ∧ D i = dC e := by
      intro i him
      obtain ⟨cs', hc, ht⟩ := hi i (by omega)
      rw [cellsO] at hc
      obtain ⟨e, h1, h2, h3, h5⟩ := op_at hc ht
      exact ⟨e, h1, h2, h3, congrArg Prod.fst h5⟩
    have : Inhabited Ch := ⟨ch0⟩
    obtain ⟨X, hX⟩ := Go.Deep.choose_lt hex
    have hget : ∀ k y, ((List.range len).map X)[k]? = some y → k < len ∧ y = X k := by
      intro k y hk
      have hk2 := (List.getElem?_eq_some_iff.1 hk).1
      simp at hk2
      rw [List.getElem?_map, List.getElem?_range hk2] at hk
      injection hk with hk
      exact ⟨hk2, hk.symm⟩
    refine ⟨a, len, cap, (List.range len).map X, (List.range (m - len)).map fun j => D (len + j), x.2, rfl, hl, hm, ?_, ⟨by simp, ?_⟩⟩
    · rw [hx]
      refine Prod.ext ?_ rfl
      show DataW.slice _ _ = DataW.slice _ _
      congr 1
      rw [List.map_map]
      refine List.map_congr_left (fun i hi' => ?_)
      exact (hX i (List.mem_range.1 hi')).2.2.2
    · by_cases h0 : len = 0
      · exact .inl h0
      · right
        obtain ⟨b, off, spot⟩ := a
        have hc0 := (hX 0 (by omega)).1
        rw [Nat.zero_mul] at hc0
        have hspot : spot = none := by simpa [Addr.add] using World.cell?_spot hc0
        subst hspot
        refine ⟨b, off, rfl, ?_, fun k y hk => ?_⟩
        · have := World.block_lt_of_cell? w _ hc0
          simpa [Addr.add] using this
        · obtain ⟨hk2, rfl⟩ := hget k y hk
          obtain ⟨h1, h2, h3, _⟩ := hX k hk2
          rw [add_plain] at h1 h2 h3
          rw [add_plain] at h2 h3
          exact ⟨h1, h2, h3⟩
theorem bulk_op {H : Type} (x : Ch) : Rows.uptoBulk (dC (H := H) x) = x.key.size + x.val.size + 4 := by
  have e : Rows.uptoBulk (dC (H := H) x) = (x.key.data.toList.length + 1) + ((x.val.data.toList.length + 1) + (1 + 0)) + 1 := rfl
  rw [e, Wm.len_l, Wm.len_l]
  omega
theorem bulk_ops {H : Type} : ∀ l : List Ch, wt l ≤ 10 * Rows.uptoBulkAll (l.map (dC (H := H)))
  | [] => Nat.zero_le _
  | y :: l => by
    have h1 := bulk_ops (H := H) l
    have e : Rows.uptoBulkAll ((y :: l).map (dC (H := H))) = Rows.uptoBulk (dC (H := H) y) + Rows.uptoBulkAll (l.map (dC (H := H))) := rfl
    rw [e, bulk_op, wt_cons]
    omega
theorem arg_ops {H : Type} {enc : TypeId × Value → H} {w : World} {base : Nat} {spare : Nat → Bool} {held : Bool} {a : Option Addr} {n c : Nat} {d : DataW H} {p : List MemPlace} (h : DataW.Trod enc Tryz.prog w base spare held 65 (.slice a n c) d p) :
    ∃ l : List Ch, Opl w a n l ∧ wt l ≤ 10 * Rows.uptoBulk d ∧ n ≤ c ∧ c ≤ 9223372036854775807 := by
  obtain ⟨fuel, hf⟩ := h
  rcases open_ops hf with ⟨hcs, _⟩ | ⟨x, len, cap, l, rest, pl, hcs, hlc, hcm, hx, he⟩
  · simp [Value.cells] at hcs
    obtain ⟨rfl, rfl, rfl⟩ := hcs
    exact ⟨[], ⟨rfl, .inl rfl⟩, Nat.zero_le _, by omega, by omega⟩
  · simp [Value.cells] at hcs
    obtain ⟨rfl, rfl, rfl⟩ := hcs
    have hd : d = .slice (l.map dC) rest := congrArg Prod.fst hx
    have e : Rows.uptoBulk d = Rows.uptoBulkAll (l.map (dC (H := H))) + Rows.uptoBulkAll rest + 1 := by rw [hd]; rfl
    have h1 := bulk_ops (H := H) l
    unfold maxLen at hcm
    exact ⟨l, he, by omega, hlc, by omega⟩
end Go.Proofs.YtjdmbkkdnonkkaaGreat.Tb

namespace Go.Proofs.YtjdmbkkdnonkkaaGreat.Dk
open Go.ChangeShapes Go.WideShapes Go.ChangeAt Go.RowKit Tx
set_option linter.unusedVariables false
theorem bulk_strs {H : Type} (l : List ByteArray) : Rows.uptoBulkAll (strs (H := H) l) = (l.map (·.size)).sum + l.length := by
  induction l with
  | nil => rfl
  | cons s l ih =>
    have e : Rows.uptoBulkAll (strs (H := H) (s :: l)) = (s.data.toList.length + 1) + Rows.uptoBulkAll (strs (H := H) l) := rfl
    rw [e, ih, len_l, List.map_cons, List.sum_cons, List.length_cons]
    omega
theorem str_weights {H : Type} (s : ByteArray) : DataW.weights Tryz.prog 9 (.lit (.string s.data.toList) : DataW H) = [s.data.toList.length] := by
  rw [DataW.weights]
theorem strs_weights {H : Type} {x : ByteArray} {n : Nat} : ∀ {l : List ByteArray}, x ∈ l → n ∈ DataW.weights Tryz.prog 9 (.lit (.string x.data.toList) : DataW H) → n ∈ DataW.weightsAll Tryz.prog 9 (strs (H := H) l)
  | y :: l, hx, hn => by
    have e : strs (H := H) (y :: l) = .lit (.string y.data.toList) :: strs l := rfl
    rw [e, DataW.weightsAll, List.mem_append]
    rcases List.mem_cons.1 hx with rfl | hx
    · exact .inl hn
    · exact .inr (strs_weights hx hn)
def Wide1 (l : List ByteArray) : Prop := ∀ x ∈ l, x.size ≤ 140737488351232
theorem wide_strs {H : Type} {ts : List TypeId} {ds : List (DataW H)} (h : (DataW.weightsEach Tryz.prog ts ds).all (· ≤ reachBytes) = true) {j : Nat} {l : List ByteArray} {rest : List (DataW H)} (ht : ts[j]? = some 56) (hd : ds[j]? = some (.slice (strs l) rest)) : Wide1 l := by
  intro x hx
  have hall := List.all_eq_true.1 h
  have hm := DataW.weights_mem_each (P := Tryz.prog) ht hd x.data.toList.length (by
    rw [DataW.weights, Tryz.underlying56]
    exact List.mem_cons_of_mem _ (List.mem_append_left _ (strs_weights hx (by rw [str_weights]; simp))))
  have := of_decide_eq_true (hall _ hm)
  rw [len_l] at this
  exact this
theorem arg_texts {H : Type} {enc : TypeId × Value → H} {w : World} {base : Nat} {spare : Nat → Bool} {held : Bool} {a : Option Addr} {n c : Nat} {d : DataW H} {p : List MemPlace} (h : DataW.Trod enc Tryz.prog w base spare held 56 (.slice a n c) d p) :
    ∃ l : List ByteArray, Strs w a n l ∧ (l.map (·.size)).sum ≤ Rows.uptoBulk d ∧ l.length ≤ Rows.uptoBulk d ∧ n ≤ c ∧ c ≤ 9223372036854775807 ∧ ∀ {ts : List TypeId} {ds : List (DataW H)} {j : Nat}, (DataW.weightsEach Tryz.prog ts ds).all (· ≤ reachBytes) = true → ts[j]? = some 56 → ds[j]? = some d → Wide1 l := by
  obtain ⟨fuel, hf⟩ := h
  rcases open_strings Tryz.underlying56 Tryz.underlying9 (by kernel_rfl) hf with ⟨hcs, _⟩ | ⟨x, len, cap, ss, hcs, _, hl, hm, hz, hx, hcell, _⟩
  · simp [Value.cells] at hcs
    obtain ⟨rfl, rfl, rfl⟩ := hcs
    exact ⟨[], ⟨rfl, .inl rfl⟩, Nat.zero_le _, Nat.zero_le _, by omega, by omega, fun _ _ _ x hx => by cases hx⟩
  · simp [Value.cells] at hcs
    obtain ⟨rfl, rfl, rfl⟩ := hcs
    unfold maxLen at hm
    have hz' : n ≤ ss.length := by rw [hz]; split <;> omega
    have hd : d = .slice (strs (ss.take n)) (strs (ss.drop n)) := congrArg Prod.fst hx
    have e : Rows.uptoBulk d = Rows.uptoBulkAll (strs (H := H) (ss.take n)) + Rows.uptoBulkAll (strs (H := H) (ss.drop n)) + 1 := by rw [hd]; rfl
    rw [bulk_strs] at e
    have hlen : (ss.take n).length = n := by rw [List.length_take]; omega
    refine ⟨ss.take n, ⟨hlen, ?_⟩, by omega, by omega, hl, by omega, fun h1 h2 h3 => wide_strs h1 h2 (by rw [h3, hd])⟩
    by_cases h0 : n = 0
    · exact .inl h0
    · right
      obtain ⟨b, off, spot⟩ := x
      have hc0 := hcell 0 (by omega)
      have hspot : spot = none := by simpa [Addr.add] using World.cell?_spot hc0
      subst hspot
      refine ⟨b, off, rfl, ?_, fun k y hk => ?_⟩
      · have := World.block_lt_of_cell? w _ hc0
        rwa [WideShapes.add_plain] at this
      · have hk2 := (List.getElem?_eq_some_iff.1 hk).1
        rw [hlen] at hk2
        have hk3 := hcell k (by omega)
        rw [WideShapes.add_plain] at hk3
        rw [hk3]
        rw [List.getElem?_take_of_lt hk2] at hk
        rw [List.getD_eq_getElem?_getD, hk]
        rfl
end Go.Proofs.YtjdmbkkdnonkkaaGreat.Dk

namespace Go.Proofs.YtjdmbkkdnonkkaaGreat.Dk
open Go.RowKit Tx Pm Pl Pr
set_option linter.unusedVariables false
set_option maxRecDepth 100000 in
set_option maxHeartbeats 2000000 in
theorem iRot_w (b bi bl : Nat) (l : Int) (s : St) (p : ByteArray) (bit : Int) (w : World) (h : Ia b bi bl l w s) (ok : Ok s) (hp : p.size ≤ 8000000000000) (hbit : -9223372036854775808 ≤ bit ∧ bit ≤ 9223372036854775807)
    (hsz : (old s.L p).data.size ≤ 1000000000000000000 ∧ (old s.L p).kept.size ≤ 1000000000000000000) :
    Calls Tryz.prog 26 #[.pointer (some ⟨b, 0, none⟩), .string p, .int .i64 bit] w fun e w' => e = .returned (.int .i64 ((rotS s p bit).1 : Nat)) ∧ Ip b bi bl w (rotS s p bit).2 w' := by
  have c1 := iMaySync_any b bi bl l s p w h hp
  have hself : ∀ w', Below w.heap.size w w' → Ip b bi bl w s w' := fun w' hb => Ip.of (h.below hb) hb
  unfold rotS
  by_cases h1 : there s p ≠ 0
  · rw [if_pos h1]
    have HS := Lib.hid hself
    have e1 := ne_eq h1
    generalize there s p = E at c1 e1 ⊢
    clear h hself h1
    go_enter Tryz.func26, Tryz.ntmps26
    go_wp2_with (go_at_call 83; refine c1.mono ?_; rintro e w1 ⟨rfl, hb1⟩)
    go_ret
    exact ⟨rfl, HS.out _ hb1⟩
  · rw [if_neg h1]
    have h0 : there s p = 0 := by omega
    rw [h0] at c1
    have hk := (there_kind h0).2
    have hod : (old s.L p).dir = false := (old_file h0).1
    have ct1 := fun W => Fr.fTurn_w (old s.L p).data bit W hsz.1 hbit.1 hbit.2
    have ct2 := fun W => Fr.fTurn_w (old s.L p).kept bit W hsz.2 hbit.1 hbit.2
    have cs := fun W (hW : Ia b bi bl l W s) => iSet_any b bi bl l s { old s.L p with data := Fr.tn (old s.L p).data bit, kept := Fr.tn (old s.L p).kept bit } (old s.L p).stamp p W hW (old_path _ _) hp ok.fit.1 ok.stamps
    rw [show kOf { old s.L p with data := Fr.tn (old s.L p).data bit, kept := Fr.tn (old s.L p).kept bit } = 2 from kOf_file hod, show stOf { old s.L p with data := Fr.tn (old s.L p).data bit, kept := Fr.tn (old s.L p).kept bit } = stOf (old s.L p) from rfl] at cs
    simp only at cs
    have hlk := fun W (hW : Below w.heap.size w W) => (h.below hW).look (p := p) (maxLen_of hp)
    rw [hk] at hlk
    have HLK := Lib.hid hlk
    have HC := Lib.hid (fun W (hW : Below w.heap.size w W) => (h.below hW).cell.1)
    have HI := Lib.hid (fun W (hW : Below w.heap.size w W) => h.below hW)
    have hft := h.lt
    have HF := Lib.hid hft
    generalize putS s { old s.L p with data := Fr.tn (old s.L p).data bit, kept := Fr.tn (old s.L p).kept bit } = s2 at cs ⊢
    generalize Fr.tn (old s.L p).data bit = TX at ct1 cs
    generalize Fr.tn (old s.L p).kept bit = TY at ct2 cs
    generalize (old s.L p).data = X at ct1 HLK
    generalize (old s.L p).kept = Y at ct2 HLK
    generalize stOf (old s.L p) = T at HLK cs
    generalize ((old s.L p).stamp : Int) = M at HLK cs
    clear h hself h1 h0 hk hod hlk hft hsz ok
    go_enter Tryz.func26, Tryz.ntmps26
    go_wp2_with (go_at_call 83; refine c1.mono ?_; rintro e w1 ⟨rfl, hb1⟩; have g0 := HC.out _ hb1; have l0 := HLK.out _ hb1; have l1 := fun o => HLK.out _ (below_call hb1 ((Below.refl _ w1).alloc (Nat.le_refl _) o)))
    have hbx : Box5 (w1.alloc (.cells #[.int .i64 2, .string X, .string Y, .int .i64 T, .int .i64 M] 117)) w1.heap.size 2 X Y T M := box5_of (new_at w1 _ rfl)
    have hblk := new_at w1 (.cells #[.int .i64 2, .string X, .string Y, .int .i64 T, .int .i64 M] 117) rfl
    have hwm : ∀ W, Below (w1.alloc (.cells #[.int .i64 2, .string X, .string Y, .int .i64 T, .int .i64 M] 117)).heap.size (w1.alloc (.cells #[.int .i64 2, .string X, .string Y, .int .i64 T, .int .i64 M] 117)) W → ∀ k, W.frozen? ⟨w1.heap.size, k, none⟩ = false := by
      intro W hW k
      unfold World.frozen?
      rw [hW.block _ (by simp), hblk]
      simp
    refine Rg.wp_only ?_ (regRot _ (by kernel_rfl) _ w1.heap.size X Y TX TY 2 T M bit _ hbx hwm ct1 ct2)
    rintro _ w9 ⟨rfl, w4, hb4, rfl⟩
    have hbox4 := hbx.below hb4
    have hI4 := HI.out _ (below_call (below_call hb1 ((Below.refl _ w1).alloc (Nat.le_refl _) _)) hb4)
    have hnf : ∀ i, Ft b bi bl i → i ≠ w1.heap.size := fun i hi => by have := HF.out i hi; have := hb1.size; omega
    have hI5 := (hI4.chg (F := (· = w1.heap.size)) (chg_set (b := w1.heap.size) (k := 1) (.string TX)) (fun i hi => hnf i hi)).chg (F := (· = w1.heap.size)) (chg_set (b := w1.heap.size) (k := 2) (.string TY)) (fun i hi => hnf i hi)
    have hcg : Chg (Ft b bi bl) w ((w4.setCell ⟨w1.heap.size, 1, none⟩ (.string TX)).setCell ⟨w1.heap.size, 2, none⟩ (.string TY)) := by
      have hb5 := below_call (below_call hb1 ((Below.refl _ w1).alloc (Nat.le_refl _) (.cells #[.int .i64 2, .string X, .string Y, .int .i64 T, .int .i64 M] 117))) hb4
      have hz := hb1.size
      exact Chg.of_below ((hb5.setCell (by exact hz) _).setCell (by exact hz) _)
    have HCG := Lib.hid hcg
    have cs5 := cs _ hI5
    obtain ⟨hlt4, m0, m1, m2, m3, m4⟩ := hbox4
    have hw4 := fun k => hwm _ hb4 k
    clear hI4 hI5 hcg cs hbx hblk hwm l1
    go_wp2_with fail
    refine cs5.mono ?_
    rintro e w6 ⟨rfl, l6, hI6, hC6⟩
    go_wp2_with fail
    go_ret
    exact ⟨rfl, l6, hI6, HCG.out.then hC6⟩
end Go.Proofs.YtjdmbkkdnonkkaaGreat.Dk

namespace Go.Proofs.YtjdmbkkdnonkkaaGreat.Wl
open Go.RowKit Tx Pm Pl Pr Dk Fr
set_option linter.unusedVariables false
theorem w_rot {w0 W : World} {b k : Nat} {s s' : St} {p : ByteArray} {bit : Int} (h : Own (ImpAt b) w0 s W) (ok : Ok s) (hp : p.size ≤ 8000000000000) (hb : -9223372036854775808 ≤ bit ∧ bit ≤ 9223372036854775807) (hz : (old s.L p).data.size ≤ 1000000000000000000 ∧ (old s.L p).kept.size ≤ 1000000000000000000) (he : rotS s p bit = (k, s')) :
    Calls Tryz.prog 26 #[.pointer (some ⟨b, 0, none⟩), .string p, .int .i64 bit] W fun e w' => e = .returned (.int .i64 (k : Nat)) ∧ Own (ImpAt b) w0 s' w' :=
  h.call (fun F hh => by
    obtain ⟨bi, bl, l, hI, hg, hF⟩ := hh
    have c := iRot_w b bi bl l s p bit W hI ok hp hb hz
    have hg' := good_rot (p := p) (bit := bit) hg
    rw [he] at c hg'
    exact c.mono fun e w' ht => ⟨ht.1, ht.2.left hg' hF⟩)
end Go.Proofs.YtjdmbkkdnonkkaaGreat.Wl

namespace Go.Proofs.YtjdmbkkdnonkkaaGreat.Tb
open Go.RowKit Tx Pm Dk Wm Wr Wl Pl
set_option linter.unusedVariables false
set_option linter.unusedSimpArgs false
set_option linter.unnecessarySimpa false
def ws (L : List It) : Nat := (L.map fun x => x.path.size + x.data.size + 40).sum
theorem ws_cons (x : It) (L : List It) : ws (x :: L) = x.path.size + x.data.size + 40 + ws L := by unfold ws; rw [List.map_cons, List.sum_cons]
theorem ws_append (a b : List It) : ws (a ++ b) = ws a + ws b := by unfold ws; rw [List.map_append, List.sum_append]
theorem wt_whole (L : List It) : wt (whole7 L) = ws L := by
  unfold wt whole7 ws
  rw [List.map_map]
  rfl
theorem ws_drop (L : List It) (p : ByteArray) : ws (drop L p) ≤ ws L := by
  induction L with
  | nil => exact Nat.le_refl _
  | cons x L ih =>
    unfold drop at ih ⊢
    rw [ws_cons, List.filter_cons]
    split
    · rw [ws_cons]; omega
    · omega
theorem ws_ins (L : List It) (x : It) : ws (ins L x) ≤ ws L + (x.path.size + x.data.size + 40) := by
  have e : ws L = ws (L.takeWhile (fun y => Op.bytesLess y.path.toList x.path.toList)) + ws (L.dropWhile (fun y => Op.bytesLess y.path.toList x.path.toList)) := by
    rw [← ws_append, List.takeWhile_append_dropWhile]
  unfold ins
  rw [ws_append, ws_cons]
  cases hd : L.dropWhile (fun y => Op.bytesLess y.path.toList x.path.toList) with
  | nil => rw [hd] at e; simp only; omega
  | cons y r =>
    rw [hd, ws_cons] at e
    simp only
    split
    · omega
    · rw [ws_cons]; omega
theorem ws_app (L : List It) (c : Ch) : ws (app L c) ≤ ws L + (c.key.size + c.val.size + 40) := by
  unfold app
  split
  · have := ws_drop L c.key; omega
  · exact ws_ins L (rw7 c.key c.val)
theorem ws_all (L : List It) (l : List Ch) : ws (all7 L l) ≤ ws L + wt l := by
  induction l generalizing L with
  | nil => exact Nat.le_add_right _ _
  | cons c l ih =>
    have h1 := ih (app L c)
    have h2 := ws_app L c
    rw [all7_cons, wt_cons]
    omega
theorem wt_set (l : List Ch) (i : Nat) (c : Ch) : wt (l.set i c) ≤ wt l + (c.key.size + c.val.size + 40) := by
  induction l generalizing i with
  | nil => exact Nat.zero_le _
  | cons x l ih =>
    cases i with
    | zero => rw [List.set_cons_zero, wt_cons, wt_cons]; omega
    | succ i => rw [List.set_cons_succ, wt_cons, wt_cons]; have := ih i; omega
theorem wt_bat {l : List Ch} (h : Once l) (c : Ch) : wt (bat l c) ≤ wt l + (c.key.size + c.val.size + 40) := by
  cases hi : at7 l c.key with
  | none =>
    rw [bat_new hi, wt_append, wt_cons]
    show wt l + (_ + 0) ≤ _
    omega
  | some i => rw [bat_set h hi]; exact wt_set l i c
def BS (l : List ByteArray) : List Ch := l.foldl (fun a v => bat a ⟨v, v, false⟩) []
theorem BS_snoc (l : List ByteArray) (v : ByteArray) : BS (l ++ [v]) = bat (BS l) ⟨v, v, false⟩ := by unfold BS; rw [List.foldl_append]; rfl
theorem snoc7 {α : Type} {P : List α → Prop} (h0 : P []) (h1 : ∀ l x, P l → P (l ++ [x])) (l : List α) : P l := by
  rw [← List.reverse_reverse l]
  induction l.reverse with
  | nil => exact h0
  | cons x r ih => rw [List.reverse_cons]; exact h1 _ _ ih
theorem BS_once (l : List ByteArray) : Once (BS l) := by
  refine snoc7 (P := fun l => Once (BS l)) List.Pairwise.nil (fun l v h => ?_) l
  rw [BS_snoc]
  exact once_bat h _
theorem BS_len (l : List ByteArray) : (BS l).length ≤ l.length := by
  refine snoc7 (P := fun l => (BS l).length ≤ l.length) (Nat.le_refl _) (fun l v h => ?_) l
  have := bat_len (BS l) ⟨v, v, false⟩
  rw [BS_snoc, List.length_append]
  show _ ≤ l.length + 1
  omega
theorem BS_wt (l : List ByteArray) : wt (BS l) ≤ 2 * (l.map (·.size)).sum + 40 * l.length := by
  refine snoc7 (P := fun l => wt (BS l) ≤ 2 * (l.map (·.size)).sum + 40 * l.length) (Nat.zero_le _) (fun l v h => ?_) l
  have := wt_bat (BS_once l) ⟨v, v, false⟩
  rw [BS_snoc, List.length_append, List.map_append, List.sum_append]
  show _ ≤ 2 * ((l.map (·.size)).sum + (v.size + 0)) + 40 * (l.length + 1)
  simp only at this
  omega
section
variable {B BT GT : Option Fi} {c : ByteArray} {n st sm : Nat} {a : Int} {R : List ByteArray} {dm : Bool} {L : List It} {l : List Ch}
theorem commit_U (h : Sz B BT (some (sy c n)) GT st sm) (hw : wt l ≤ 900000000) (hc : c.size ≤ 10000000000) (hL : L.length + l.length ≤ 1000000000) (hR : R.length + 1 < 16) (hst : st ≤ 900000) (hsm : sm ≤ 900000) :
    CommitOk ⟨⟨T7 B BT (some (sy c n)) GT st sm (-1) false, R, dm⟩, L⟩ l pB pG ∧ ∃ c' n' st' sm' R', commitS ⟨⟨T7 B BT (some (sy c n)) GT st sm (-1) false, R, dm⟩, L⟩ l pB pG = (0, ⟨⟨T7 B BT (some (sy c' n')) GT st' sm' (-1) false, R', dm⟩, all7 L l⟩) ∧
    ((l = [] ∧ c' = c ∧ R' = R) ∨ (l ≠ [] ∧ c' = c ++ Fm.pk (rec7 l) ∧ R' = R ++ [rec7 l])) ∧ c'.size ≤ c.size + wt l + 24 ∧ st' ≤ st + 2 ∧ sm' ≤ sm + 1 := by
  have hr := rec7_le (l := l) (by omega)
  have hp := pk_bound (r := rec7 l) (by omega)
  by_cases hl : l = []
  · subst hl
    obtain ⟨k, x', hadd, hcases⟩ := add7 (B := B) (BT := BT) (GT := GT) (c := c) (r := rec7 []) (n := n) (st := st) (sm := sm) (R := R) (dm := dm) rng_m1
    have hlen : x'.R.length ≤ R.length + 1 := by
      rcases hcases with ⟨_, a', rfl, _⟩ | ⟨_, _, G', st', sm', rfl, _⟩
      · show (R ++ [rec7 []]).length ≤ _; rw [List.length_append]; exact Nat.le_refl _
      · show R.length ≤ _; omega
    refine ⟨⟨by omega, addok7 h rng_m1 (by omega) (by omega) (by omega) hst hsm, hL, by decide, ?_, fun h16 => ?_⟩, c, n, st, sm, R, commit_0, .inl ⟨rfl, rfl, rfl⟩, by omega, by omega, by omega⟩
    · rw [hadd]; show x'.R.length ≤ _; omega
    · rw [hadd] at h16; have h16 : 16 ≤ x'.R.length := h16; omega
  · obtain ⟨h1, k, y, h2, hcs⟩ := commit_T (B := B) (BT := BT) (GT := GT) (c := c) (n := n) (st := st) (sm := sm) (a := -1) (R := R) (dm := dm) (L := L) (l := l) h rng_m1 hl hw hc hL hR hst hsm
    refine ⟨h1, ?_⟩
    rcases hcs with ⟨rfl, a', rfl, _, ha⟩ | ⟨_, hne, _⟩
    · rw [ha rfl] at h2
      exact ⟨_, _, _, _, _, h2, .inr ⟨hl, rfl, rfl⟩, by rw [ByteArray.size_append]; omega, by omega, by omega⟩
    · exact absurd rfl hne
theorem pack_U (h : Sz B BT (some (sy c n)) GT st sm) (hw : ws L ≤ 900000000) (hst : st ≤ 800000) (hsm : sm ≤ 800000) :
    PackOk ⟨⟨T7 B BT (some (sy c n)) GT st sm (-1) false, R, dm⟩, L⟩ pB pG ∧ packS ⟨⟨T7 B BT (some (sy c n)) GT st sm (-1) false, R, dm⟩, L⟩ pB pG = (0, ⟨⟨T7 (some (sy (Fm.pk (rec7 (whole7 L))) (sm + 2))) none (some (sy ⟨#[]⟩ (sm + 4))) none (st + 6) (sm + 4) (-1) false, [], dm⟩, L⟩) := by
  obtain ⟨h1, k, y, h2, hcs⟩ := pack_T (B := B) (BT := BT) (GT := GT) (c := c) (n := n) (st := st) (sm := sm) (a := -1) (R := R) (dm := dm) (L := L) h rng_m1 (by rw [wt_whole]; exact hw) hst hsm
  refine ⟨h1, ?_⟩
  rw [h2]
  rcases hcs with ⟨rfl, a', rfl, _, ha⟩ | ⟨_, hne, _⟩ | ⟨_, hne, _⟩
  · rw [ha rfl]
  · exact absurd rfl hne
  · exact absurd rfl hne
end
section
variable {BT G GT : Option Fi} {f : Fi} {st sm : Nat} {bit : Int}
theorem b_rot : rotS (T7 (some f) BT G GT st sm (-1) false) pB bit = (0, T7 (some ⟨Fr.tn f.data bit, Fr.tn f.kept bit, f.loose, f.anew, sm + 1⟩) BT G GT st (sm + 1) (-1) false) := by
  have h1 : there (T7 (some f) BT G GT st sm (-1) false) pB = 0 := by cases BT <;> cases G <;> cases GT <;> kernel_rfl
  have h2 : old (T7 (some f) BT G GT st sm (-1) false).L pB = ⟨pB, false, f.data, f.kept, f.loose, f.anew, f.stamp⟩ := by cases BT <;> cases G <;> cases GT <;> kernel_rfl
  unfold rotS
  rw [if_neg (by rw [h1]; decide), h2]
  simp only
  generalize Fr.tn f.data bit = u
  generalize Fr.tn f.kept bit = v
  change (_ : Nat × St) = _
  cases BT <;> cases G <;> cases GT <;> kernel_rfl
theorem o_base : old (T7 (some f) BT G GT st sm (-1) false).L pB = ⟨pB, false, f.data, f.kept, f.loose, f.anew, f.stamp⟩ := by cases BT <;> cases G <;> cases GT <;> kernel_rfl
theorem open_X {u : Fi} {t : ByteArray} {n e : Nat} (h : Sz (some u) BT G GT st sm) (hu : u.data.size ≤ 500000000) (hf : Fm.fr u.data = (t, n, e)) (he : e ≠ 0) :
    Open7Ok (T7 (some u) BT G GT st sm (-1) false) pS pB pG ∧ open7 (T7 (some u) BT G GT st sm (-1) false) pS pB pG = (e, ⟨⟨T7 (some u) BT G GT st sm (-1) false, [], false⟩, []⟩) := by
  have hop : opened (T7 (some u) BT G GT st sm (-1) false) pS = (0, T7 (some u) BT G GT st sm (-1) false) := by
    unfold opened
    rw [if_neg (by rw [k_sys]; decide)]
  have hk : kind (T7 (some u) BT G GT st sm (-1) false).L pB ≠ 0 := by rw [k_base]; decide
  have hrd : readS (T7 (some u) BT G GT st sm (-1) false) pB = (u.data, 0) := r_base
  have hb := base_2 hk hrd hf he
  refine ⟨⟨t7_ok h rng_m1, fun _ => ?_, by decide, by decide, by decide⟩, (open_n hop).trans (open1_b hb he)⟩
  rw [hop]
  refine ⟨by rw [hrd]; exact hu, fun h0 => ?_⟩
  rw [hb] at h0
  exact absurd h0 he
theorem tn_frame {r : ByteArray} {B : Nat} (hr : r.size ≤ 100000000) (h1 : 32 ≤ B) (h2 : B < 8 * (Fm.pk r).size) : (Fr.tn (Fm.pk r) (B : Int)).size = (Fm.pk r).size ∧ Fm.fr (Fr.tn (Fm.pk r) (B : Int)) = (⟨#[]⟩, 0, 6) := by
  have hv := Wm.vb_len_le 3 r.size (by omega)
  have et : Fr.tn (Fm.pk r) (B : Int) = Fr.trn (Fm.pk r) B := by
    unfold Fr.tn
    rw [if_neg (by omega), ← Int.natCast_emod, Nat.mod_eq_of_lt (by omega), Int.toNat_natCast]
  rw [et]
  refine ⟨Fr.trn_size _ _ (by omega), ?_⟩
  have := Fr.fr_turned r [] B (by omega) (by omega) h2
  rw [List.append_nil] at this
  exact this
end
theorem own_read {w0 W : World} {b : Nat} {s : St} (p : ByteArray) (h : Own (ImpAt b) w0 s W) (hp : p.size ≤ 8000000000000) : Calls Tryz.prog 31 #[.pointer (some ⟨b, 0, none⟩), .string p] W fun e w' => e = .returned (.tuple #[.string (readS s p).1, .int .i64 ((readS s p).2 : Nat)]) ∧ Below W.heap.size W w' := by
  obtain ⟨F, h1, _, _⟩ := h
  exact iw_read p h1 hp
end Go.Proofs.YtjdmbkkdnonkkaaGreat.Tb

namespace Go.Proofs.YtjdmbkkdnonkkaaGreat.Tb
open Go.RowKit Tx Pm Dk Wm Wr Wl Pl
set_option linter.unusedVariables false
set_option linter.unusedSimpArgs false
set_option linter.unnecessarySimpa false
def overV (L : List It) (l : List Ch) (p : ByteArray) : ByteArray := match lastOf l p with
  | some c => c.val
  | none => (lookC L p).val
def overB (L : List It) (l : List Ch) (p : ByteArray) : Bool := match lastOf l p with
  | some c => !c.gone
  | none => (find L p).isSome
theorem last_at {l : List Ch} (h : Once l) {p : ByteArray} {i : Nat} {c : Ch} (hi : at7 l p = some i) (hc : l[i]? = some c) : lastOf l p = some c := by
  obtain ⟨d, hd, hk, hlt⟩ := at7_lt hi
  rw [hc] at hd
  injection hd with hd
  subst hd
  have hm := List.mem_of_getElem? hc
  unfold lastOf
  have : ∀ (l : List Ch), Once l → c ∈ l → l.find? (fun x => decide (x.key = p)) = some c := by
    intro l
    induction l with
    | nil => intro _ h; cases h
    | cons x l ih =>
      intro ho h
      rcases List.mem_cons.1 h with rfl | h
      · exact List.find?_cons_of_pos (by simpa using hk)
      · have hne : x.key ≠ c.key := (List.pairwise_cons.1 ho).1 c h
        rw [List.find?_cons_of_neg (by rw [← hk]; simpa using hne)]
        exact ih (List.pairwise_cons.1 ho).2 h
  refine this _ ?_ (List.mem_reverse.2 hm)
  exact List.pairwise_reverse.2 (h.imp (fun hab => fun e => hab e.symm))
theorem last_none {l : List Ch} {p : ByteArray} (h : at7 l p = none) : lastOf l p = none := by
  unfold lastOf
  refine List.find?_eq_none.2 (fun x hx he => ?_)
  have := at7_none h
  exact absurd (List.any_eq_true.2 ⟨x, List.mem_reverse.1 hx, he⟩) (by rw [this]; decide)
set_option maxRecDepth 100000 in
set_option maxHeartbeats 4000000 in
theorem bGet_any (u t m pm : Nat) (vO : Value) (L : List It) (l : List Ch) (key : ByteArray) (w : World) {G : Nat → Prop} (hB : BAt u pm (some ⟨t, 0, none⟩) vO w G l) (ht : w.cell? ⟨t, 3, none⟩ = some (.map (some m))) (hm : Mo w m L) (hk : key.size ≤ 1000000000000) :
    Calls Tryz.prog 59 #[.pointer (some ⟨u, 0, none⟩), .string key] w fun e w' => e = .returned (.tuple #[.string (overV L l key), .bool (overB L l key)]) ∧ Below w.heap.size w w' := by
  obtain ⟨c0, c1, c2⟩ := hB.cell
  have hl := hB.plc.look (p := key) (by unfold maxLen; omega)
  unfold placeV at hl
  have HBl := Lib.hid (fun o => (Below.refl w.heap.size w).alloc (Nat.le_refl _) o)
  cases ha : at7 l key with
  | none =>
    rw [ha] at hl
    have e1 : overV L l key = (lookC L key).val := by unfold overV; rw [last_none ha]
    have e2 : overB L l key = (find L key).isSome := by unfold overB; rw [last_none ha]
    have cg := tGet_any t m L key w ht hm (by unfold maxLen; omega)
    rw [← e1, ← e2] at cg
    generalize overV L l key = V at cg ⊢
    generalize overB L l key = O at cg ⊢
    clear ha hB hm ht e1 e2
    go_enter Tryz.func59, Tryz.ntmps59
    go_wp2_with fail
    go_at_call 57
    refine cg.mono ?_
    rintro e w1 ⟨rfl, hb1⟩
    go_wp2_with fail
    go_ret2
    exact ⟨rfl, hb1⟩
  | some i =>
    obtain ⟨c, hc, hck, hlt⟩ := at7_lt ha
    rw [ha] at hl
    have e1 : overV L l key = c.val := by unfold overV; rw [last_at hB.once ha hc]
    have e2 : overB L l key = !c.gone := by unfold overB; rw [last_at hB.once ha hc]
    rw [e1, e2]
    obtain ⟨a, cp, rfl, hopl, hcp, _⟩ := hB.ops.form
    obtain ⟨g, off, rfl, hg, g0, g1, g2⟩ := hopl.nth hc
    obtain ⟨key1, val1, gone1⟩ := c
    simp only at g0 g1 g2 ⊢
    obtain ⟨N, hN⟩ : ∃ N, N = l.length := ⟨_, rfl⟩
    rw [← hN] at c1 hlt hcp
    have hiz : (i : Int) < (N : Int) := by omega
    clear ha hB hm ht e1 e2 hc hck hopl hN
    go_enter Tryz.func59, Tryz.ntmps59
    go_wp2_with fail
    go_region
    all_goals
      go_wp2_with fail
      go_ret2
      exact ⟨rfl, (HBl.out _).drew⟩
theorem a_bget {w0 W : World} {b j t m u : Nat} {x : Tst} {l : List Ch} {key : ByteArray} (h : Own (Tu b j t m u) w0 (x, l) W) (hk : key.size ≤ 1000000000000) : Calls Tryz.prog 59 #[.pointer (some ⟨u, 0, none⟩), .string key] W fun e w' => e = .returned (.tuple #[.string (overV x.L l key), .bool (overB x.L l key)]) ∧ Below W.heap.size W w' := by
  obtain ⟨H, ⟨F, G, ⟨Fj, h1⟩, ⟨pm, vO, h2⟩, hd, hH⟩, _, _⟩ := h
  exact bGet_any u t m pm vO x.L l key W h2 h1.cell.2.2.2 h1.rows hk
def FB (l : List Ch) : List Ch := l.foldl (fun a o => bat a (norm o)) []
theorem FB_snoc (l : List Ch) (o : Ch) : FB (l ++ [o]) = bat (FB l) (norm o) := by unfold FB; rw [List.foldl_append]; rfl
theorem FB_once (l : List Ch) : Once (FB l) := by
  refine snoc7 (P := fun l => Once (FB l)) List.Pairwise.nil (fun l v h => ?_) l
  rw [FB_snoc]
  exact once_bat h _
theorem FB_len (l : List Ch) : (FB l).length ≤ l.length := by
  refine snoc7 (P := fun l => (FB l).length ≤ l.length) (Nat.le_refl _) (fun l v h => ?_) l
  have := bat_len (FB l) (norm v)
  rw [FB_snoc, List.length_append]
  show _ ≤ l.length + 1
  omega
theorem norm_key (o : Ch) : (norm o).key = o.key ∧ (norm o).val.size ≤ o.val.size ∧ (norm o).gone = o.gone := by
  obtain ⟨k, v, g⟩ := o
  cases g
  · exact ⟨rfl, Nat.le_refl _, rfl⟩
  · exact ⟨rfl, Nat.zero_le _, rfl⟩
theorem FB_wt (l : List Ch) : wt (FB l) ≤ wt l := by
  refine snoc7 (P := fun l => wt (FB l) ≤ wt l) (Nat.le_refl _) (fun l v h => ?_) l
  have := wt_bat (FB_once l) (norm v)
  obtain ⟨h1, h2, _⟩ := norm_key v
  rw [FB_snoc, wt_append, wt_cons]
  show _ ≤ wt l + (_ + 0)
  rw [h1] at this
  omega
theorem FB_last (l : List Ch) (p : ByteArray) : lastOf (FB l) p = (lastOf l p).map norm := by
  refine snoc7 (P := fun l => lastOf (FB l) p = (lastOf l p).map norm) rfl (fun l v h => ?_) l
  obtain ⟨h1, _, _⟩ := norm_key v
  rw [FB_snoc, lastOf_bat (FB_once l), lastOf_snoc, h1, h]
  split <;> rfl
set_option maxRecDepth 100000 in
set_option maxHeartbeats 4000000 in
theorem fill_any7 {w0 W : World} {b j t m u : Nat} {x : Tst} (A : Option Addr) (n c : Nat) (l : List Ch) (h : Own (Tu b j t m u) w0 (x, []) W) (hO : ∀ V, Below w0.heap.size w0 V → Opl V A n l) (hw : wt l ≤ 100000000) (hc : n ≤ c) :
    Calls Tryz.prog 61 #[.pointer (some ⟨u, 0, none⟩), .slice A n c] W fun e w' => e = .returned (.pointer (some ⟨u, 0, none⟩)) ∧ Own (Tu b j t m u) w0 (x, FB l) w' := by
  have HST := Lib.hid hO
  have HL := Lib.hid (hO _ h.bel).1
  have HW := Lib.hid hw
  have hn : n ≤ 2500000 := by have := wt_len l; have := HL.out; omega
  have h0 : Own (Tu b j t m u) w0 (x, FB (l.take 0)) W := h
  clear hO hw h
  go_enter Tryz.func61, Tryz.ntmps61
  go_wp2_with fail
  go_loopw [5] (fun iv wr => ∃ k : Nat, k ≤ n ∧ iv = .int .i64 k ∧ Own (Tu b j t m u) w0 (x, FB (l.take k)) wr) (fun i _ => n - (intOf i).toNat)
  case atStart => exact ⟨0, Nat.zero_le _, rfl, h0⟩
  case round =>
    clear h0
    obtain ⟨k, hkn, rfl, hOw⟩ := hrel
    by_cases hlt : k < n
    · obtain ⟨r, hx⟩ : ∃ r, l[k]? = some r := ⟨_, List.getElem?_eq_getElem (by rw [HL.out]; exact hlt)⟩
      have hr : r.key.size ≤ 1000000000000 ∧ r.val.size ≤ 1000000000000 := by
        have := wt_mem (List.mem_of_getElem? hx)
        have := HW.out
        omega
      obtain ⟨g, off, rfl, hg, g0, g1, g2⟩ := (HST.out _ hOw.bel).nth hx
      have hzk : (k : Int) < (n : Int) := by omega
      have hlen : (FB (l.take k)).length < 1000000000 := by
        have := FB_len (l.take k)
        rw [List.length_take] at this
        omega
      have htk : l.take (k + 1) = l.take k ++ [r] := by
        have hkn2 : k < l.length := by rw [HL.out]; exact hlt
        rw [List.take_succ_eq_append_getElem hkn2]
        rw [List.getElem?_eq_getElem hkn2] at hx
        injection hx with hx
        rw [hx]
      have hFB := FB_snoc (l.take k) r
      rw [← htk] at hFB
      obtain ⟨key, val, gone⟩ := r
      simp only at g0 g1 g2 hr
      have hOd := ownB_below hOw (Below.refl _ wr).drew
      cases gone
      · have cp := a_put (key := key) (val := val) hOd hr.1 hlen
        rw [show (⟨key, val, false⟩ : Ch) = norm ⟨key, val, false⟩ from rfl, ← hFB] at cp
        clear hx htk hlen hOw hOd hFB
        go_wp2_with fail
        go_region_with (go_at_call 48; refine cp.mono ?_; rintro e w5 ⟨rfl, o5⟩)
        all_goals
          go_wp2_with fail
          go_roundw
          case rel => exact ⟨k + 1, by omega, by go_num, o5⟩
          case measure => simp [intOf]; omega
      · have cp := a_drop (key := key) hOw hr.1 hlen
        rw [show (⟨key, ⟨#[]⟩, true⟩ : Ch) = norm ⟨key, val, true⟩ from rfl, ← hFB] at cp
        clear hx htk hlen hOw hOd hFB
        go_wp2_with fail
        go_at_call 50
        refine cp.mono ?_
        rintro e w5 ⟨rfl, o5⟩
        go_wp2_with fail
        go_roundw
        case rel => exact ⟨k + 1, by omega, by go_num, o5⟩
        case measure => simp [intOf]; omega
    · obtain rfl : k = n := by omega
      have hall : l.take k = l := by rw [← HL.out]; exact List.take_length
      rw [hall] at hOw
      go_wp2_with fail
      go_ret
      exact ⟨rfl, hOw⟩
end Go.Proofs.YtjdmbkkdnonkkaaGreat.Tb

namespace Go.Proofs.YtjdmbkkdnonkkaaGreat.Tb
open Go.RowKit Tx Pm Dk Wm Wr Wl Pl
set_option linter.unusedVariables false
set_option linter.unusedSimpArgs false
set_option linter.unnecessarySimpa false
structure Gd (y : Tst) (N : Nat) : Prop where
  is : ∃ n st sm, y = ⟨⟨T7 none none (some (sy (PK y.j.R) n)) none st sm (-1) false, y.j.R, false⟩, rows7 [] y.j.R⟩ ∧ st ≤ 4 + 2 * N ∧ sm ≤ 2 + N
  len : y.j.R.length ≤ N
  each : ∀ x ∈ y.j.R, (opsS x).2 = 0 ∧ x.size ≤ 30000010
  sum : (y.j.R.map (·.size)).sum ≤ N * 30000010
  pk : (PK y.j.R).size ≤ N * 30000100
theorem gd_new : Gd ⟨⟨s0T, [], false⟩, []⟩ 0 := ⟨⟨2, 4, 2, rfl, by decide, by decide⟩, Nat.le_refl _, fun x hx => (by cases hx), Nat.le_refl _, Nat.le_refl _⟩
theorem gd_sz {y : Tst} {N n st sm : Nat} (h : Gd y N) (hN : N ≤ 10) (hst : st ≤ 4 + 2 * N) (hsm : sm ≤ 2 + N) : Sz none none (some (sy (PK y.j.R) n)) none st sm := ⟨ook_none, ook_none, ook_sy (by have := h.pk; omega), ook_none, by omega, by omega⟩
theorem gd_commit {y : Tst} {N : Nat} {l : List Ch} (h : Gd y N) (hN : N ≤ 10) (hw : wt l ≤ 30000000) : CommitOk y l pB pG ∧ ∃ y', commitS y l pB pG = (0, y') ∧ Gd y' (N + 1) ∧ y'.L = all7 y.L l := by
  obtain ⟨n, st, sm, e, hst, hsm⟩ := h.is
  have hz := gd_sz (n := n) h hN hst hsm
  have hpk := h.pk
  have hlen := h.len
  have hsum := h.sum
  have heach := h.each
  have hwl := wt_len l
  have hL := len_rows [] y.j.R
  have hL0 : ([] : List It).length = 0 := rfl
  obtain ⟨R, hR⟩ : ∃ R, R = y.j.R := ⟨_, rfl⟩
  rw [← hR] at e hz hpk hlen hsum heach hL
  subst e
  obtain ⟨h1, c', n', st', sm', R', h2, hcs, hc, hst', hsm'⟩ := commit_U (B := none) (BT := none) (GT := none) (c := PK R) (n := n) (st := st) (sm := sm) (R := R) (dm := false) (L := rows7 [] R) (l := l) hz (by omega) (by omega) (by omega) (by omega) (by omega) (by omega)
  refine ⟨h1, _, h2, ?_, rfl⟩
  have hr := rec7_le (l := l) (by omega)
  rcases hcs with ⟨rfl, rfl, rfl⟩ | ⟨hl, rfl, rfl⟩
  · exact ⟨⟨_, _, _, rfl, by omega, by omega⟩, by show R'.length ≤ _; omega, heach, Nat.le_trans hsum (Nat.mul_le_mul_right _ (Nat.le_succ _)), Nat.le_trans hpk (Nat.mul_le_mul_right _ (Nat.le_succ _))⟩
  · have hb := ops_back (l := l) (by omega)
    have hrow : rows7 [] (R ++ [rec7 l]) = all7 (rows7 [] R) l := by rw [rows7_snoc, hb]; exact all_norm _ _
    have hp := pk_bound (r := rec7 l) (by omega)
    refine ⟨⟨n', st', sm', ?_, by omega, by omega⟩, ?_, ?_, ?_, ?_⟩
    · show _ = Tst.mk ⟨T7 none none (some (sy (PK (R ++ [rec7 l])) n')) none st' sm' (-1) false, R ++ [rec7 l], false⟩ (rows7 [] (R ++ [rec7 l]))
      rw [PK_snoc, hrow]
    · show (R ++ [rec7 l]).length ≤ _
      rw [List.length_append]
      exact Nat.add_le_add_right hlen 1
    · intro x hx
      rcases List.mem_append.1 hx with hx | hx
      · exact heach x hx
      · rw [List.mem_singleton.1 hx, hb]
        exact ⟨rfl, by omega⟩
    · show ((R ++ [rec7 l]).map (·.size)).sum ≤ _
      rw [List.map_append, List.sum_append]
      show _ + ((rec7 l).size + 0) ≤ _
      omega
    · show (PK (R ++ [rec7 l])).size ≤ _
      rw [PK_snoc, ByteArray.size_append]
      omega
theorem gd_open {y : Tst} {N : Nat} (h : Gd y N) (hN : N ≤ 10) : Open7Ok y.j.s pS pB pG ∧ open7 y.j.s pS pB pG = (0, y) := by
  obtain ⟨n, st, sm, e, hst, hsm⟩ := h.is
  have hz := gd_sz (n := n) h hN hst hsm
  have hrec : RecOk [] y.j.R := ⟨fun x hx => by have := h.each x hx; exact ⟨this.1, by omega⟩, by show 0 + _ ≤ _; have := h.sum; omega, by have := h.len; omega⟩
  have hw := open_W (B := none) (BT := none) (GT := none) (L0 := []) (l := y.j.R) (n := n) (st := st) (sm := sm) (a := -1) (.inl ⟨rfl, rfl⟩) hz rng_m1 hrec (by have := h.len; omega) (by omega) (by omega)
  have es : y.j.s = T7 none none (some (sy (PK y.j.R) n)) none st sm (-1) false := congrArg (fun z : Tst => z.j.s) e
  rw [es]
  rw [← e] at hw
  exact hw
def wantV (L : List It) (l : List Ch) (p : ByteArray) : ByteArray := overV L (l.map norm) p
def wantB (L : List It) (l : List Ch) (p : ByteArray) : Bool := overB L (l.map norm) p
theorem last_norm (l : List Ch) (p : ByteArray) : lastOf (l.map norm) p = (lastOf l p).map norm := by
  refine snoc7 (P := fun l => lastOf (l.map norm) p = (lastOf l p).map norm) rfl (fun l v h => ?_) l
  rw [List.map_append, List.map_singleton, lastOf_snoc, lastOf_snoc, (norm_key v).1, h]
  split <;> rfl
theorem want_FB (L : List It) (l : List Ch) (p : ByteArray) : overV L (FB l) p = wantV L l p ∧ overB L (FB l) p = wantB L l p := by
  unfold wantV wantB overV overB
  rw [FB_last, last_norm]
  exact ⟨rfl, rfl⟩
theorem want_snoc (L : List It) (l : List Ch) (c : Ch) (p : ByteArray) : wantV L (l ++ [c]) p = (if c.key = p then (norm c).val else wantV L l p) ∧ wantB L (l ++ [c]) p = (if c.key = p then !c.gone else wantB L l p) := by
  unfold wantV wantB overV overB
  rw [last_norm, lastOf_snoc, last_norm]
  by_cases h : c.key = p
  · rw [if_pos h, if_pos h, if_pos h]
    exact ⟨rfl, by show (!(norm c).gone) = _; rw [(norm_key c).2.2]⟩
  · rw [if_neg h, if_neg h, if_neg h]
    exact ⟨rfl, rfl⟩
theorem want_0 (L : List It) (p : ByteArray) : wantV L [] p = (lookC L p).val ∧ wantB L [] p = (find L p).isSome := ⟨rfl, rfl⟩
theorem want_all (L : List It) (l : List Ch) (p : ByteArray) : (lookC (all7 L (FB l)) p).val = wantV L l p ∧ (find (all7 L (FB l)) p).isSome = wantB L l p := by
  have h := find_all L (FB l) p
  rw [FB_last] at h
  unfold wantV wantB overV overB lookC
  rw [h, last_norm]
  cases hl : lastOf l p with
  | none => exact ⟨rfl, rfl⟩
  | some c =>
    obtain ⟨k, v, g⟩ := c
    cases g <;> exact ⟨rfl, rfl⟩
theorem own_steps {w0 W : World} {b : Nat} {s : St} (h : Own (ImpAt b) w0 s W) : Calls Tryz.prog 36 #[.pointer (some ⟨b, 0, none⟩)] W fun e w' => e = .returned (.int .i64 (s.steps : Nat)) ∧ W = w' := by
  obtain ⟨F, h1, _, _⟩ := h
  obtain ⟨bi, bl, l, hI, hg, hF⟩ := h1
  exact iSteps_any b bi bl l s W hI
end Go.Proofs.YtjdmbkkdnonkkaaGreat.Tb

namespace Go.Proofs.YtjdmbkkdnonkkaaGreat.tableLeft
open Go.ChangeMaps (open_string shut_string)
open Go.ChangeShapes Go.WideShapes Go.ChangeAt Go.RowKit Tx Pm Dk Tb Wl
set_option linter.unusedVariables false
set_option linter.unusedSimpArgs false
set_option linter.unnecessarySimpa false
set_option maxRecDepth 100000 in
set_option maxHeartbeats 8000000 in
theorem walk (A A2 : Option Addr) (n n2 c c2 : Nat) (l l2 : List Ch) (key : ByteArray) (w : World) (hO : Opl w A n l) (hO2 : Opl w A2 n2 l2) (hw : wt l ≤ 20000000) (hw2 : wt l2 ≤ 20000000) (hc : n ≤ c) (hc2 : n2 ≤ c2) (hk : key.size ≤ 20000000) :
    Calls Tryz.prog 12 #[.slice A n c, .slice A2 n2 c2, .string key] w fun e w' => e = .returned (.bool true) ∧ Below w.heap.size w w' := by
  have HO := Lib.hid (fun V (hV : Below w.heap.size w V) => hO.below hV)
  have HO2 := Lib.hid (fun V (hV : Below w.heap.size w V) => hO2.below hV)
  have HL2 := Lib.hid hO2.1
  have hn2 : n2 ≤ 1000000 := by have := wt_len l2; rw [hO2.1] at this; omega
  have hws := FB_wt l
  have hws2 := FB_wt l2
  obtain ⟨k1, y1, k2, k3, k4⟩ := gd_commit (l := FB l) gd_new (by omega) (by omega)
  obtain ⟨m1, y2, m2, m3, m4⟩ := gd_commit (l := FB l2) k3 (by omega) (by omega)
  obtain ⟨p1, p2⟩ := gd_open m3 (by omega)
  have hF := want_FB y1.L l2 key
  have hA := want_all y1.L l2 key
  rw [← m4] at hA
  have HK1 := Lib.hid k1
  have HK2 := Lib.hid k2
  have HM1 := Lib.hid m1
  have HM2 := Lib.hid m2
  have HP1 := Lib.hid p1
  have HP2 := Lib.hid p2
  have HF := Lib.hid hF
  have HA := Lib.hid hA
  have HKZ := Lib.hid hk
  have HW := Lib.hid (show wt l ≤ 100000000 by omega)
  have HW2 := Lib.hid (show wt l2 ≤ 100000000 by omega)
  clear hO hO2 hw hw2 hws hws2 k1 k2 k3 k4 m1 m2 m3 m4 p1 p2 hF hA hk
  go_enter Tryz.func12, Tryz.ntmps12
  go_wp2_with fail
  go_at_call 44
  refine (w_new w (Below.refl _ _)).mono ?_
  rintro e w1 ⟨b, rfl, o1⟩
  go_wp2_with fail
  go_at_call 45
  refine (a_open o1 new_ok7 new_open7).mono ?_
  rintro e w3 ⟨t, j, m, rfl, o3⟩
  clear o1
  go_wp2_with fail
  go_at_call 41
  refine (awake_any7 w3 w3 (Below.refl _ _)).mono ?_
  rintro e w2 ⟨rfl, hb2⟩
  have o2 := ownT_below o3 hb2
  clear o3 hb2
  go_wp2_with fail
  go_at_call 47
  refine (a_begin o2).mono ?_
  rintro e w4 ⟨u, rfl, o4⟩
  clear o2
  go_wp2_with fail
  go_at_call 61
  refine (fill_any7 A n c l o4 HO.out HW.out hc).mono ?_
  rintro e w5 ⟨rfl, o5⟩
  clear o4
  go_wp2_with fail
  go_at_call 51
  refine (a_commit o5 HK1.out HK2.out).mono ?_
  rintro e w6 ⟨rfl, o6⟩
  have o6 := own_tab o6
  clear o5
  have cg1 := a_get (key := key) o6 (by have := HKZ.out; omega)
  obtain ⟨V0, hV0⟩ : ∃ V, V = (lookC y1.L key).val := ⟨_, rfl⟩
  obtain ⟨O0, hO0⟩ : ∃ O, O = (find y1.L key).isSome := ⟨_, rfl⟩
  rw [← hV0, ← hO0] at cg1
  have HV0 := Lib.hid hV0
  have HO0 := Lib.hid hO0
  clear hV0 hO0
  go_wp2_with fail
  go_at_call 57
  refine (cg1).mono ?_
  rintro e w7 ⟨rfl, hb7⟩
  have o7 := ownT_below o6 hb7
  clear o6 cg1 hb7
  have cs := own_steps (own_disk o7)
  obtain ⟨ST, hST⟩ : ∃ S, S = y1.j.s.steps := ⟨_, rfl⟩
  rw [← hST] at cs
  have HST := Lib.hid hST
  clear hST
  go_wp2_with fail
  go_at_call 36
  refine (cs).mono ?_
  rintro e w8 ⟨rfl, rfl⟩
  clear cs
  go_wp2_with fail
  go_at_call 47
  refine (a_begin o7).mono ?_
  rintro e w9 ⟨u2, rfl, o9⟩
  clear o7
  go_wp2_with fail
  go_at_call 61
  refine (fill_any7 A2 n2 c2 l2 o9 HO2.out HW2.out hc2).mono ?_
  rintro e w10 ⟨rfl, o10⟩
  clear o9
  have cg2 := a_get (key := key) (own_tab o10) (by have := HKZ.out; omega)
  rw [← HV0.out, ← HO0.out] at cg2
  go_wp2_with fail
  go_at_call 57
  refine (cg2).mono ?_
  rintro e w11 ⟨rfl, hb11⟩
  have o11 := ownB_below o10 hb11
  clear o10 cg2 hb11
  have cs := own_steps (own_disk (own_tab o11))
  rw [← HST.out] at cs
  have hvv : (V0.toList == V0.toList) = true := beq_self_eq_true _
  have hoo : (O0 == O0) = true := beq_self_eq_true _
  go_wp2_with fail
  go_at_call 36
  refine (cs).mono ?_
  rintro e w12 ⟨rfl, rfl⟩
  clear cs hvv hoo
  have e0 := (want_0 y1.L key).1
  have e1 := (want_0 y1.L key).2
  rw [← HV0.out] at e0
  rw [← HO0.out] at e1
  have EV := Lib.hid e0
  have EO := Lib.hid e1
  clear e0 e1 HV0 HO0 HST HK1 HK2 HO HW
  go_wp2_with fail
  go_loopw [16, 17, 18] (fun vv bv iv wr => ∃ (k : Nat) (V : ByteArray) (O : Bool), k ≤ n2 ∧ iv = .int .i64 k ∧ vv = .string V ∧ bv = .bool O ∧ Hid (V = wantV y1.L (l2.take k) key) ∧ Hid (O = wantB y1.L (l2.take k) key) ∧ Own (Tu b j t m u2) w (y1, FB l2) wr) (fun _ _ i _ => n2 - (intOf i).toNat)
  case atStart => exact ⟨0, V0, O0, Nat.zero_le _, rfl, rfl, rfl, EV.out.symm, EO.out.symm, o11⟩
  case round =>
    clear o11 EV EO
    obtain ⟨k, V, O, hkn, rfl, rfl, rfl, hV, hOO, o⟩ := hrel
    by_cases hlt : k < n2
    · obtain ⟨r, hx⟩ : ∃ r, l2[k]? = some r := ⟨_, List.getElem?_eq_getElem (by rw [HL2.out]; exact hlt)⟩
      obtain ⟨g, off, rfl, hg, g0, g1, g2⟩ := (HO2.out _ o.bel).nth hx
      have hzk : (k : Int) < (n2 : Int) := by omega
      have htk : l2.take (k + 1) = l2.take k ++ [r] := by
        have hkn2 : k < l2.length := by rw [HL2.out]; exact hlt
        rw [List.take_succ_eq_append_getElem hkn2]
        rw [List.getElem?_eq_getElem hkn2] at hx
        injection hx with hx
        rw [hx]
      have hws := want_snoc y1.L (l2.take k) r key
      rw [← htk] at hws
      obtain ⟨q1, q2⟩ := hws
      have HG := Lib.hid (fun V (hV : Below w.heap.size w V) => ((HO2.out V hV).nth hx))
      obtain ⟨key1, val1, gone1⟩ := r
      simp only at g0 g1 g2 q1 q2
      have od := ownB_below o (Below.refl _ wr).drew
      by_cases hkk : key1 = key
      · subst hkk
        rw [if_pos rfl] at q1 q2
        have hb : (key1.toList == key1.toList) = true := beq_self_eq_true _
        cases gone1
        · have QV : Hid (val1 = wantV y1.L (l2.take (k + 1)) key1) := Lib.hid q1.symm
          have QO : Hid (true = wantB y1.L (l2.take (k + 1)) key1) := Lib.hid q2.symm
          clear hx htk q1 q2 HG
          go_wp2_with fail
          go_region
          all_goals
            go_wp2_with fail
            go_roundw
            case rel => exact ⟨k + 1, val1, true, by omega, by go_num, rfl, rfl, QV, QO, od⟩
            case measure => simp [intOf]; omega
        · have QV : Hid (⟨#[]⟩ = wantV y1.L (l2.take (k + 1)) key1) := Lib.hid q1.symm
          have QO : Hid (false = wantB y1.L (l2.take (k + 1)) key1) := Lib.hid q2.symm
          clear hx htk q1 q2 HG
          go_wp2_with fail
          go_region
          all_goals
            go_wp2_with fail
            go_roundw
            case rel => exact ⟨k + 1, ⟨#[]⟩, false, by omega, by go_num, rfl, rfl, QV, QO, od⟩
            case measure => simp [intOf]; omega
      · rw [if_neg hkk] at q1 q2
        have hb : (key1.toList == key.toList) = false := bytes_ne hkk
        have QV : Hid (V = wantV y1.L (l2.take (k + 1)) key) := Lib.hid (hV.out.trans q1.symm)
        have QO : Hid (O = wantB y1.L (l2.take (k + 1)) key) := Lib.hid (hOO.out.trans q2.symm)
        clear hx htk q1 q2 HG hkk od hV hOO
        go_wp2_with fail
        go_roundw
        case rel => exact ⟨k + 1, V, O, by omega, by go_num, rfl, rfl, QV, QO, o⟩
        case measure => simp [intOf]; omega
    · obtain rfl : k = n2 := by omega
      have hall : l2.take k = l2 := by rw [← HL2.out]; exact List.take_length
      have hV1 : V = wantV y1.L l2 key := by rw [← hall]; exact hV.out
      have hO1 : O = wantB y1.L l2 key := by rw [← hall]; exact hOO.out
      have hvv : (V.toList == V.toList) = true := beq_self_eq_true _
      have hoo : (O == O) = true := beq_self_eq_true _
      have cb := a_bget (key := key) o (by have := HKZ.out; omega)
      rw [HF.out.1, HF.out.2, ← hV1, ← hO1] at cb
      have hA1 := HA.out.1
      have hA2 := HA.out.2
      rw [← hV1] at hA1
      rw [← hO1] at hA2
      have HA1 := Lib.hid hA1
      have HA2 := Lib.hid hA2
      clear hall hV hOO hV1 hO1 hA1 hA2 HO2
      go_wp2_with fail
      go_at_call 59
      refine (cb).mono ?_
      rintro e w13 ⟨rfl, hb13⟩
      have o13 := ownB_below o hb13
      clear o cb hb13
      go_wp2_with fail
      go_at_call 51
      refine (a_commit o13 HM1.out HM2.out).mono ?_
      rintro e w14 ⟨rfl, o14⟩
      have o14 := own_disk (own_tab o14)
      clear o13
      go_wp2_with fail
      go_at_call 45
      refine (a_open o14 HP1.out HP2.out).mono ?_
      rintro e w15 ⟨t3, j3, m3, rfl, o15⟩
      clear o14
      have cg3 := a_get (key := key) o15 (by have := HKZ.out; omega)
      rw [HA1.out, HA2.out] at cg3
      go_wp2_with fail
      go_at_call 57
      refine (cg3).mono ?_
      rintro e w16 ⟨rfl, hb16⟩
      have o16 := ownT_below o15 hb16
      clear o15 cg3 hb16
      go_wp2_with fail
      go_ret
      exact ⟨rfl, o16.bel⟩
theorem own : ownKnob Tryz.prog.godebug = none := by kernel_rfl
theorem laidOut : laidOutB Tryz.prog = true := by kernel_rfl
set_option maxRecDepth 100000 in
theorem contract (H : Type) (enc : TypeId × Value → H) (W : World) (base : Nat) (args : Array Value) (ds gs : List (DataW H)) (before : List MemPlace)
    (hval0 : ∀ (j : Nat) t v, Tryz.f12.params[j]? = some t → args[j]? = some v → Value.okWide Tryz.prog W .any base t v)
    (hW : DataW.Whole enc Tryz.prog Tryz.f12.params.toList Rows.tableLeftSpec.vars false W args.toList ds gs before)
    (hk : Rows.uptoSmall H (ds ++ gs) = true)
    (hsz0 : (DataW.weightsEach Tryz.prog (Tryz.f12.params.toList ++ Rows.tableLeftSpec.plain.varTypes Tryz.prog) (ds ++ gs)).all (· ≤ reachBytes) = true) :
    Calls Tryz.prog 12 args W fun e W' => ∃ v, e = .returned v ∧ Rows.tableLeftSpec.post enc Tryz.prog Tryz.f12 false true false false W args v W' := by
  have hval : ∀ (j : Nat) t v, Tryz.f12.params[j]? = some t → args[j]? = some v → Value.okWide Tryz.prog W .any base t v := hval0
  have hsz := hsz0
  clear hsz0
  have hW' := hW
  obtain ⟨p, q, hA0, hV, rfl, hfz, hnd⟩ := hW
  have hA : DataW.TrodAll enc Tryz.prog W 0 (fun _ => true) true Tryz.f12.params.toList args.toList ds p := hA0
  rw [Tryz.params12] at hA hval hsz
  obtain ⟨v0, vs0, d0, ds0, p0, q0, hargs, rfl, rfl, h0, r0⟩ := trodAll_cons hA
  obtain ⟨v1, vs1, d1, ds1, p1, q1, rfl, rfl, rfl, h1, r1⟩ := trodAll_cons r0
  obtain ⟨v2, vs2, d2, ds2, p2, q2, rfl, rfl, rfl, h2, r2⟩ := trodAll_cons r1
  obtain ⟨rfl, rfl, rfl⟩ := trodAll_nil r2
  obtain rfl : args = #[v0, v1, v2] := by cases args; simp_all
  obtain ⟨rfl, rfl⟩ := trodVars_none hV
  obtain ⟨A0, n0, c0, rfl⟩ := okWide_slice Tryz.underlying65 (hval 0 65 v0 rfl rfl)
  have k0 := h0
  have lt0 : ∀ x ∈ p0, x.block < W.heap.size := by obtain ⟨m, hm⟩ := k0; exact DataW.trod_lt m _ _ _ hm
  obtain ⟨A1, n1, c1, rfl⟩ := okWide_slice Tryz.underlying65 (hval 1 65 v1 rfl rfl)
  have k1 := h1
  have lt1 : ∀ x ∈ p1, x.block < W.heap.size := by obtain ⟨m, hm⟩ := k1; exact DataW.trod_lt m _ _ _ hm
  obtain ⟨s2, rfl, rfl, rfl, w2⟩ := open_string Tryz.underlying9 (hval 2 9 v2 rfl rfl) h2
  have hreach2 : s2.size ≤ 140737488351232 := by
    have := sized_string hsz (j := 2) (t := 9) rfl rfl
    simpa [reachBytes] using this
  clear hA0 hval0
  obtain ⟨l0, e0, hb0, hc0, hm0⟩ := arg_ops k0
  obtain ⟨l1, e1, hb1, hc1, hm1⟩ := arg_ops k1
  have hk1 : Rows.uptoBulk d0 + Rows.uptoBulk d1 + s2.size ≤ 1048576 := by
    have := of_decide_eq_true hk
    simp [Rows.uptoBulkAll, Rows.uptoBulk] at this
    omega
  refine (walk A0 A1 n0 n1 c0 c1 l0 l1 s2 W e0 e1 (by omega) (by omega) hc0 hc1 (by omega)).mono fun e W' ⟨he, bel⟩ => ?_
  subst he
  exact ⟨_, rfl, _, _, _, [], _, [], hW', trodAll_mk1 (shut_bool Tryz.underlying4 _), (trodAll_cons_mk (Below.trod laidOut (by kernel_rfl) (of_decide_eq_true (by kernel_rfl)) k0 bel lt0) (trodAll_cons_mk (Below.trod laidOut (by kernel_rfl) (of_decide_eq_true (by kernel_rfl)) k1 bel lt1) (trodAll_cons_mk (shut_string Tryz.underlying9 w2) trodAll_mk0))), rfl, bel.frame _, fun h => by cases h⟩
set_option maxRecDepth 100000 in
theorem lifted (os : Os) (started : os.Started) (H : Type) (enc : TypeId × Value → H) (F : Stop.Interp) :
    ReturnsInHanded {} Tryz.checked os 12 .any ((Rows.OpenSpec.upto Rows.tableLeftSpec).pre6 enc Tryz.prog Tryz.f12 Rows.tableLeftUptoRow.domain false) (((Rows.OpenSpec.upto Rows.tableLeftSpec).at F).post enc Tryz.prog Tryz.f12 false true false false) := by
  refine returnsInHanded_of_cond_sized (C := Tryz.checked) (s := Rows.OpenSpec.upto Rows.tableLeftSpec) (k := Rows.uptoSmall) rfl own started (by kernel_rfl) Tryz.func12
    (OpenSpec.witness (enc := enc) (C := Tryz.checked) (s := Rows.OpenSpec.upto Rows.tableLeftSpec) (k := Rows.uptoSmall) rfl false ⟨#[], #[.slice none 0 0, .slice none 0 0, .string ByteArray.empty], []⟩ 8 (by kernel_rfl) (by kernel_rfl) (by kernel_rfl)
      (x := ([.nil, .nil, .lit (.string [])], [], [])) (by kernel_rfl) rfl (by kernel_rfl)) ?_
  intro W base args ds gs before hval hW _ hk hsz0 _
  exact contract H enc W base args ds gs before hval hW hk hsz0
theorem over : Rows.tableLeftUptoRow.holds Tryz.pinned (Rows.OpenSpec.upto Rows.tableLeftSpec) :=
  OpenClaim.holds_of_cond 12 Tryz.f12 rfl rfl rfl rfl rfl rfl rfl ⟨rfl, rfl, rfl, rfl, rfl⟩ rfl rfl rfl rfl rfl (by kernel_rfl) Tryz.func12 (by kernel_rfl)
    (of_decide_eq_true (by kernel_rfl)) (by unfold Func.isWrapper; first | (rw [if_pos (by decide +kernel)]; kernel_rfl) | (rw [if_neg (by decide +kernel)]; exact ⟨rfl, rfl⟩))
    (fun os started H enc _ F => lifted os started H enc F)
end Go.Proofs.YtjdmbkkdnonkkaaGreat.tableLeft
namespace Go.Proofs.YtjdmbkkdnonkkaaGreat
theorem tableLeftUpto_holds : Rows.TableLeftUptoSaid := tableLeft.over
#print axioms tableLeftUpto_holds
end Go.Proofs.YtjdmbkkdnonkkaaGreat
