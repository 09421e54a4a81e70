/-
  TableRots, up to the bound: a base of which one bit behind the length has turned is refused: the law returns true, and writes nothing that was there. Condition: the arguments hold at most 1048576 values and letters.
-/
import Derived.Test.YtjdmbkkdnonkkaaGreatT4
import Derived.SliceStrings
import Derived.SizedLaws
import Derived.JoinedCond
import Derived.Deep.CondSized
import Derived.ChangeOld
namespace Go.Proofs.YtjdmbkkdnonkkaaGreat.Dk
open Go.ChangeShapes Go.WideShapes Go.ChangeAt Go.RowKit Tx
set_option linter.unusedVariables false
theorem bulk_strs {H : Type} (l : List ByteArray) : Rows.uptoBulkAll (strs (H := H) l) = (l.map (·.size)).sum + l.length := by
  induction l with
  | nil => rfl
  | cons s l ih =>
    have e : Rows.uptoBulkAll (strs (H := H) (s :: l)) = (s.data.toList.length + 1) + Rows.uptoBulkAll (strs (H := H) l) := rfl
    rw [e, ih, len_l, List.map_cons, List.sum_cons, List.length_cons]
    omega
theorem str_weights {H : Type} (s : ByteArray) : DataW.weights Tryz.prog 9 (.lit (.string s.data.toList) : DataW H) = [s.data.toList.length] := by
  rw [DataW.weights]
theorem strs_weights {H : Type} {x : ByteArray} {n : Nat} : ∀ {l : List ByteArray}, x ∈ l → n ∈ DataW.weights Tryz.prog 9 (.lit (.string x.data.toList) : DataW H) → n ∈ DataW.weightsAll Tryz.prog 9 (strs (H := H) l)
  | y :: l, hx, hn => by
    have e : strs (H := H) (y :: l) = .lit (.string y.data.toList) :: strs l := rfl
    rw [e, DataW.weightsAll, List.mem_append]
    rcases List.mem_cons.1 hx with rfl | hx
    · exact .inl hn
    · exact .inr (strs_weights hx hn)
def Wide1 (l : List ByteArray) : Prop := ∀ x ∈ l, x.size ≤ 140737488351232
theorem wide_strs {H : Type} {ts : List TypeId} {ds : List (DataW H)} (h : (DataW.weightsEach Tryz.prog ts ds).all (· ≤ reachBytes) = true) {j : Nat} {l : List ByteArray} {rest : List (DataW H)} (ht : ts[j]? = some 56) (hd : ds[j]? = some (.slice (strs l) rest)) : Wide1 l := by
  intro x hx
  have hall := List.all_eq_true.1 h
  have hm := DataW.weights_mem_each (P := Tryz.prog) ht hd x.data.toList.length (by
    rw [DataW.weights, Tryz.underlying56]
    exact List.mem_cons_of_mem _ (List.mem_append_left _ (strs_weights hx (by rw [str_weights]; simp))))
  have := of_decide_eq_true (hall _ hm)
  rw [len_l] at this
  exact this
theorem arg_texts {H : Type} {enc : TypeId × Value → H} {w : World} {base : Nat} {spare : Nat → Bool} {held : Bool} {a : Option Addr} {n c : Nat} {d : DataW H} {p : List MemPlace} (h : DataW.Trod enc Tryz.prog w base spare held 56 (.slice a n c) d p) :
    ∃ l : List ByteArray, Strs w a n l ∧ (l.map (·.size)).sum ≤ Rows.uptoBulk d ∧ l.length ≤ Rows.uptoBulk d ∧ n ≤ c ∧ c ≤ 9223372036854775807 ∧ ∀ {ts : List TypeId} {ds : List (DataW H)} {j : Nat}, (DataW.weightsEach Tryz.prog ts ds).all (· ≤ reachBytes) = true → ts[j]? = some 56 → ds[j]? = some d → Wide1 l := by
  obtain ⟨fuel, hf⟩ := h
  rcases open_strings Tryz.underlying56 Tryz.underlying9 (by kernel_rfl) hf with ⟨hcs, _⟩ | ⟨x, len, cap, ss, hcs, _, hl, hm, hz, hx, hcell, _⟩
  · simp [Value.cells] at hcs
    obtain ⟨rfl, rfl, rfl⟩ := hcs
    exact ⟨[], ⟨rfl, .inl rfl⟩, Nat.zero_le _, Nat.zero_le _, by omega, by omega, fun _ _ _ x hx => by cases hx⟩
  · simp [Value.cells] at hcs
    obtain ⟨rfl, rfl, rfl⟩ := hcs
    unfold maxLen at hm
    have hz' : n ≤ ss.length := by rw [hz]; split <;> omega
    have hd : d = .slice (strs (ss.take n)) (strs (ss.drop n)) := congrArg Prod.fst hx
    have e : Rows.uptoBulk d = Rows.uptoBulkAll (strs (H := H) (ss.take n)) + Rows.uptoBulkAll (strs (H := H) (ss.drop n)) + 1 := by rw [hd]; rfl
    rw [bulk_strs] at e
    have hlen : (ss.take n).length = n := by rw [List.length_take]; omega
    refine ⟨ss.take n, ⟨hlen, ?_⟩, by omega, by omega, hl, by omega, fun h1 h2 h3 => wide_strs h1 h2 (by rw [h3, hd])⟩
    by_cases h0 : n = 0
    · exact .inl h0
    · right
      obtain ⟨b, off, spot⟩ := x
      have hc0 := hcell 0 (by omega)
      have hspot : spot = none := by simpa [Addr.add] using World.cell?_spot hc0
      subst hspot
      refine ⟨b, off, rfl, ?_, fun k y hk => ?_⟩
      · have := World.block_lt_of_cell? w _ hc0
        rwa [WideShapes.add_plain] at this
      · have hk2 := (List.getElem?_eq_some_iff.1 hk).1
        rw [hlen] at hk2
        have hk3 := hcell k (by omega)
        rw [WideShapes.add_plain] at hk3
        rw [hk3]
        rw [List.getElem?_take_of_lt hk2] at hk
        rw [List.getD_eq_getElem?_getD, hk]
        rfl
end Go.Proofs.YtjdmbkkdnonkkaaGreat.Dk

namespace Go.Proofs.YtjdmbkkdnonkkaaGreat.Dk
open Go.RowKit Tx Pm Pl Pr
set_option linter.unusedVariables false
set_option maxRecDepth 100000 in
set_option maxHeartbeats 2000000 in
theorem iRot_w (b bi bl : Nat) (l : Int) (s : St) (p : ByteArray) (bit : Int) (w : World) (h : Ia b bi bl l w s) (ok : Ok s) (hp : p.size ≤ 8000000000000) (hbit : -9223372036854775808 ≤ bit ∧ bit ≤ 9223372036854775807)
    (hsz : (old s.L p).data.size ≤ 1000000000000000000 ∧ (old s.L p).kept.size ≤ 1000000000000000000) :
    Calls Tryz.prog 26 #[.pointer (some ⟨b, 0, none⟩), .string p, .int .i64 bit] w fun e w' => e = .returned (.int .i64 ((rotS s p bit).1 : Nat)) ∧ Ip b bi bl w (rotS s p bit).2 w' := by
  have c1 := iMaySync_any b bi bl l s p w h hp
  have hself : ∀ w', Below w.heap.size w w' → Ip b bi bl w s w' := fun w' hb => Ip.of (h.below hb) hb
  unfold rotS
  by_cases h1 : there s p ≠ 0
  · rw [if_pos h1]
    have HS := Lib.hid hself
    have e1 := ne_eq h1
    generalize there s p = E at c1 e1 ⊢
    clear h hself h1
    go_enter Tryz.func26, Tryz.ntmps26
    go_wp2_with (go_at_call 83; refine c1.mono ?_; rintro e w1 ⟨rfl, hb1⟩)
    go_ret
    exact ⟨rfl, HS.out _ hb1⟩
  · rw [if_neg h1]
    have h0 : there s p = 0 := by omega
    rw [h0] at c1
    have hk := (there_kind h0).2
    have hod : (old s.L p).dir = false := (old_file h0).1
    have ct1 := fun W => Fr.fTurn_w (old s.L p).data bit W hsz.1 hbit.1 hbit.2
    have ct2 := fun W => Fr.fTurn_w (old s.L p).kept bit W hsz.2 hbit.1 hbit.2
    have cs := fun W (hW : Ia b bi bl l W s) => iSet_any b bi bl l s { old s.L p with data := Fr.tn (old s.L p).data bit, kept := Fr.tn (old s.L p).kept bit } (old s.L p).stamp p W hW (old_path _ _) hp ok.fit.1 ok.stamps
    rw [show kOf { old s.L p with data := Fr.tn (old s.L p).data bit, kept := Fr.tn (old s.L p).kept bit } = 2 from kOf_file hod, show stOf { old s.L p with data := Fr.tn (old s.L p).data bit, kept := Fr.tn (old s.L p).kept bit } = stOf (old s.L p) from rfl] at cs
    simp only at cs
    have hlk := fun W (hW : Below w.heap.size w W) => (h.below hW).look (p := p) (maxLen_of hp)
    rw [hk] at hlk
    have HLK := Lib.hid hlk
    have HC := Lib.hid (fun W (hW : Below w.heap.size w W) => (h.below hW).cell.1)
    have HI := Lib.hid (fun W (hW : Below w.heap.size w W) => h.below hW)
    have hft := h.lt
    have HF := Lib.hid hft
    generalize putS s { old s.L p with data := Fr.tn (old s.L p).data bit, kept := Fr.tn (old s.L p).kept bit } = s2 at cs ⊢
    generalize Fr.tn (old s.L p).data bit = TX at ct1 cs
    generalize Fr.tn (old s.L p).kept bit = TY at ct2 cs
    generalize (old s.L p).data = X at ct1 HLK
    generalize (old s.L p).kept = Y at ct2 HLK
    generalize stOf (old s.L p) = T at HLK cs
    generalize ((old s.L p).stamp : Int) = M at HLK cs
    clear h hself h1 h0 hk hod hlk hft hsz ok
    go_enter Tryz.func26, Tryz.ntmps26
    go_wp2_with (go_at_call 83; refine c1.mono ?_; rintro e w1 ⟨rfl, hb1⟩; have g0 := HC.out _ hb1; have l0 := HLK.out _ hb1; have l1 := fun o => HLK.out _ (below_call hb1 ((Below.refl _ w1).alloc (Nat.le_refl _) o)))
    have hbx : Box5 (w1.alloc (.cells #[.int .i64 2, .string X, .string Y, .int .i64 T, .int .i64 M] 117)) w1.heap.size 2 X Y T M := box5_of (new_at w1 _ rfl)
    have hblk := new_at w1 (.cells #[.int .i64 2, .string X, .string Y, .int .i64 T, .int .i64 M] 117) rfl
    have hwm : ∀ W, Below (w1.alloc (.cells #[.int .i64 2, .string X, .string Y, .int .i64 T, .int .i64 M] 117)).heap.size (w1.alloc (.cells #[.int .i64 2, .string X, .string Y, .int .i64 T, .int .i64 M] 117)) W → ∀ k, W.frozen? ⟨w1.heap.size, k, none⟩ = false := by
      intro W hW k
      unfold World.frozen?
      rw [hW.block _ (by simp), hblk]
      simp
    refine Rg.wp_only ?_ (regRot _ (by kernel_rfl) _ w1.heap.size X Y TX TY 2 T M bit _ hbx hwm ct1 ct2)
    rintro _ w9 ⟨rfl, w4, hb4, rfl⟩
    have hbox4 := hbx.below hb4
    have hI4 := HI.out _ (below_call (below_call hb1 ((Below.refl _ w1).alloc (Nat.le_refl _) _)) hb4)
    have hnf : ∀ i, Ft b bi bl i → i ≠ w1.heap.size := fun i hi => by have := HF.out i hi; have := hb1.size; omega
    have hI5 := (hI4.chg (F := (· = w1.heap.size)) (chg_set (b := w1.heap.size) (k := 1) (.string TX)) (fun i hi => hnf i hi)).chg (F := (· = w1.heap.size)) (chg_set (b := w1.heap.size) (k := 2) (.string TY)) (fun i hi => hnf i hi)
    have hcg : Chg (Ft b bi bl) w ((w4.setCell ⟨w1.heap.size, 1, none⟩ (.string TX)).setCell ⟨w1.heap.size, 2, none⟩ (.string TY)) := by
      have hb5 := below_call (below_call hb1 ((Below.refl _ w1).alloc (Nat.le_refl _) (.cells #[.int .i64 2, .string X, .string Y, .int .i64 T, .int .i64 M] 117))) hb4
      have hz := hb1.size
      exact Chg.of_below ((hb5.setCell (by exact hz) _).setCell (by exact hz) _)
    have HCG := Lib.hid hcg
    have cs5 := cs _ hI5
    obtain ⟨hlt4, m0, m1, m2, m3, m4⟩ := hbox4
    have hw4 := fun k => hwm _ hb4 k
    clear hI4 hI5 hcg cs hbx hblk hwm l1
    go_wp2_with fail
    refine cs5.mono ?_
    rintro e w6 ⟨rfl, l6, hI6, hC6⟩
    go_wp2_with fail
    go_ret
    exact ⟨rfl, l6, hI6, HCG.out.then hC6⟩
end Go.Proofs.YtjdmbkkdnonkkaaGreat.Dk

namespace Go.Proofs.YtjdmbkkdnonkkaaGreat.Wl
open Go.RowKit Tx Pm Pl Pr Dk Fr
set_option linter.unusedVariables false
theorem w_rot {w0 W : World} {b k : Nat} {s s' : St} {p : ByteArray} {bit : Int} (h : Own (ImpAt b) w0 s W) (ok : Ok s) (hp : p.size ≤ 8000000000000) (hb : -9223372036854775808 ≤ bit ∧ bit ≤ 9223372036854775807) (hz : (old s.L p).data.size ≤ 1000000000000000000 ∧ (old s.L p).kept.size ≤ 1000000000000000000) (he : rotS s p bit = (k, s')) :
    Calls Tryz.prog 26 #[.pointer (some ⟨b, 0, none⟩), .string p, .int .i64 bit] W fun e w' => e = .returned (.int .i64 (k : Nat)) ∧ Own (ImpAt b) w0 s' w' :=
  h.call (fun F hh => by
    obtain ⟨bi, bl, l, hI, hg, hF⟩ := hh
    have c := iRot_w b bi bl l s p bit W hI ok hp hb hz
    have hg' := good_rot (p := p) (bit := bit) hg
    rw [he] at c hg'
    exact c.mono fun e w' ht => ⟨ht.1, ht.2.left hg' hF⟩)
end Go.Proofs.YtjdmbkkdnonkkaaGreat.Wl

namespace Go.Proofs.YtjdmbkkdnonkkaaGreat.Tb
open Go.RowKit Tx Pm Dk Wm Wr Wl Pl
set_option linter.unusedVariables false
set_option linter.unusedSimpArgs false
set_option linter.unnecessarySimpa false
def ws (L : List It) : Nat := (L.map fun x => x.path.size + x.data.size + 40).sum
theorem ws_cons (x : It) (L : List It) : ws (x :: L) = x.path.size + x.data.size + 40 + ws L := by unfold ws; rw [List.map_cons, List.sum_cons]
theorem ws_append (a b : List It) : ws (a ++ b) = ws a + ws b := by unfold ws; rw [List.map_append, List.sum_append]
theorem wt_whole (L : List It) : wt (whole7 L) = ws L := by
  unfold wt whole7 ws
  rw [List.map_map]
  rfl
theorem ws_drop (L : List It) (p : ByteArray) : ws (drop L p) ≤ ws L := by
  induction L with
  | nil => exact Nat.le_refl _
  | cons x L ih =>
    unfold drop at ih ⊢
    rw [ws_cons, List.filter_cons]
    split
    · rw [ws_cons]; omega
    · omega
theorem ws_ins (L : List It) (x : It) : ws (ins L x) ≤ ws L + (x.path.size + x.data.size + 40) := by
  have e : ws L = ws (L.takeWhile (fun y => Op.bytesLess y.path.toList x.path.toList)) + ws (L.dropWhile (fun y => Op.bytesLess y.path.toList x.path.toList)) := by
    rw [← ws_append, List.takeWhile_append_dropWhile]
  unfold ins
  rw [ws_append, ws_cons]
  cases hd : L.dropWhile (fun y => Op.bytesLess y.path.toList x.path.toList) with
  | nil => rw [hd] at e; simp only; omega
  | cons y r =>
    rw [hd, ws_cons] at e
    simp only
    split
    · omega
    · rw [ws_cons]; omega
theorem ws_app (L : List It) (c : Ch) : ws (app L c) ≤ ws L + (c.key.size + c.val.size + 40) := by
  unfold app
  split
  · have := ws_drop L c.key; omega
  · exact ws_ins L (rw7 c.key c.val)
theorem ws_all (L : List It) (l : List Ch) : ws (all7 L l) ≤ ws L + wt l := by
  induction l generalizing L with
  | nil => exact Nat.le_add_right _ _
  | cons c l ih =>
    have h1 := ih (app L c)
    have h2 := ws_app L c
    rw [all7_cons, wt_cons]
    omega
theorem wt_set (l : List Ch) (i : Nat) (c : Ch) : wt (l.set i c) ≤ wt l + (c.key.size + c.val.size + 40) := by
  induction l generalizing i with
  | nil => exact Nat.zero_le _
  | cons x l ih =>
    cases i with
    | zero => rw [List.set_cons_zero, wt_cons, wt_cons]; omega
    | succ i => rw [List.set_cons_succ, wt_cons, wt_cons]; have := ih i; omega
theorem wt_bat {l : List Ch} (h : Once l) (c : Ch) : wt (bat l c) ≤ wt l + (c.key.size + c.val.size + 40) := by
  cases hi : at7 l c.key with
  | none =>
    rw [bat_new hi, wt_append, wt_cons]
    show wt l + (_ + 0) ≤ _
    omega
  | some i => rw [bat_set h hi]; exact wt_set l i c
def BS (l : List ByteArray) : List Ch := l.foldl (fun a v => bat a ⟨v, v, false⟩) []
theorem BS_snoc (l : List ByteArray) (v : ByteArray) : BS (l ++ [v]) = bat (BS l) ⟨v, v, false⟩ := by unfold BS; rw [List.foldl_append]; rfl
theorem snoc7 {α : Type} {P : List α → Prop} (h0 : P []) (h1 : ∀ l x, P l → P (l ++ [x])) (l : List α) : P l := by
  rw [← List.reverse_reverse l]
  induction l.reverse with
  | nil => exact h0
  | cons x r ih => rw [List.reverse_cons]; exact h1 _ _ ih
theorem BS_once (l : List ByteArray) : Once (BS l) := by
  refine snoc7 (P := fun l => Once (BS l)) List.Pairwise.nil (fun l v h => ?_) l
  rw [BS_snoc]
  exact once_bat h _
theorem BS_len (l : List ByteArray) : (BS l).length ≤ l.length := by
  refine snoc7 (P := fun l => (BS l).length ≤ l.length) (Nat.le_refl _) (fun l v h => ?_) l
  have := bat_len (BS l) ⟨v, v, false⟩
  rw [BS_snoc, List.length_append]
  show _ ≤ l.length + 1
  omega
theorem BS_wt (l : List ByteArray) : wt (BS l) ≤ 2 * (l.map (·.size)).sum + 40 * l.length := by
  refine snoc7 (P := fun l => wt (BS l) ≤ 2 * (l.map (·.size)).sum + 40 * l.length) (Nat.zero_le _) (fun l v h => ?_) l
  have := wt_bat (BS_once l) ⟨v, v, false⟩
  rw [BS_snoc, List.length_append, List.map_append, List.sum_append]
  show _ ≤ 2 * ((l.map (·.size)).sum + (v.size + 0)) + 40 * (l.length + 1)
  simp only at this
  omega
section
variable {B BT GT : Option Fi} {c : ByteArray} {n st sm : Nat} {a : Int} {R : List ByteArray} {dm : Bool} {L : List It} {l : List Ch}
theorem commit_U (h : Sz B BT (some (sy c n)) GT st sm) (hw : wt l ≤ 900000000) (hc : c.size ≤ 10000000000) (hL : L.length + l.length ≤ 1000000000) (hR : R.length + 1 < 16) (hst : st ≤ 900000) (hsm : sm ≤ 900000) :
    CommitOk ⟨⟨T7 B BT (some (sy c n)) GT st sm (-1) false, R, dm⟩, L⟩ l pB pG ∧ ∃ c' n' st' sm' R', commitS ⟨⟨T7 B BT (some (sy c n)) GT st sm (-1) false, R, dm⟩, L⟩ l pB pG = (0, ⟨⟨T7 B BT (some (sy c' n')) GT st' sm' (-1) false, R', dm⟩, all7 L l⟩) ∧
    ((l = [] ∧ c' = c ∧ R' = R) ∨ (l ≠ [] ∧ c' = c ++ Fm.pk (rec7 l) ∧ R' = R ++ [rec7 l])) ∧ c'.size ≤ c.size + wt l + 24 ∧ st' ≤ st + 2 ∧ sm' ≤ sm + 1 := by
  have hr := rec7_le (l := l) (by omega)
  have hp := pk_bound (r := rec7 l) (by omega)
  by_cases hl : l = []
  · subst hl
    obtain ⟨k, x', hadd, hcases⟩ := add7 (B := B) (BT := BT) (GT := GT) (c := c) (r := rec7 []) (n := n) (st := st) (sm := sm) (R := R) (dm := dm) rng_m1
    have hlen : x'.R.length ≤ R.length + 1 := by
      rcases hcases with ⟨_, a', rfl, _⟩ | ⟨_, _, G', st', sm', rfl, _⟩
      · show (R ++ [rec7 []]).length ≤ _; rw [List.length_append]; exact Nat.le_refl _
      · show R.length ≤ _; omega
    refine ⟨⟨by omega, addok7 h rng_m1 (by omega) (by omega) (by omega) hst hsm, hL, by decide, ?_, fun h16 => ?_⟩, c, n, st, sm, R, commit_0, .inl ⟨rfl, rfl, rfl⟩, by omega, by omega, by omega⟩
    · rw [hadd]; show x'.R.length ≤ _; omega
    · rw [hadd] at h16; have h16 : 16 ≤ x'.R.length := h16; omega
  · obtain ⟨h1, k, y, h2, hcs⟩ := commit_T (B := B) (BT := BT) (GT := GT) (c := c) (n := n) (st := st) (sm := sm) (a := -1) (R := R) (dm := dm) (L := L) (l := l) h rng_m1 hl hw hc hL hR hst hsm
    refine ⟨h1, ?_⟩
    rcases hcs with ⟨rfl, a', rfl, _, ha⟩ | ⟨_, hne, _⟩
    · rw [ha rfl] at h2
      exact ⟨_, _, _, _, _, h2, .inr ⟨hl, rfl, rfl⟩, by rw [ByteArray.size_append]; omega, by omega, by omega⟩
    · exact absurd rfl hne
theorem pack_U (h : Sz B BT (some (sy c n)) GT st sm) (hw : ws L ≤ 900000000) (hst : st ≤ 800000) (hsm : sm ≤ 800000) :
    PackOk ⟨⟨T7 B BT (some (sy c n)) GT st sm (-1) false, R, dm⟩, L⟩ pB pG ∧ packS ⟨⟨T7 B BT (some (sy c n)) GT st sm (-1) false, R, dm⟩, L⟩ pB pG = (0, ⟨⟨T7 (some (sy (Fm.pk (rec7 (whole7 L))) (sm + 2))) none (some (sy ⟨#[]⟩ (sm + 4))) none (st + 6) (sm + 4) (-1) false, [], dm⟩, L⟩) := by
  obtain ⟨h1, k, y, h2, hcs⟩ := pack_T (B := B) (BT := BT) (GT := GT) (c := c) (n := n) (st := st) (sm := sm) (a := -1) (R := R) (dm := dm) (L := L) h rng_m1 (by rw [wt_whole]; exact hw) hst hsm
  refine ⟨h1, ?_⟩
  rw [h2]
  rcases hcs with ⟨rfl, a', rfl, _, ha⟩ | ⟨_, hne, _⟩ | ⟨_, hne, _⟩
  · rw [ha rfl]
  · exact absurd rfl hne
  · exact absurd rfl hne
end
section
variable {BT G GT : Option Fi} {f : Fi} {st sm : Nat} {bit : Int}
theorem b_rot : rotS (T7 (some f) BT G GT st sm (-1) false) pB bit = (0, T7 (some ⟨Fr.tn f.data bit, Fr.tn f.kept bit, f.loose, f.anew, sm + 1⟩) BT G GT st (sm + 1) (-1) false) := by
  have h1 : there (T7 (some f) BT G GT st sm (-1) false) pB = 0 := by cases BT <;> cases G <;> cases GT <;> kernel_rfl
  have h2 : old (T7 (some f) BT G GT st sm (-1) false).L pB = ⟨pB, false, f.data, f.kept, f.loose, f.anew, f.stamp⟩ := by cases BT <;> cases G <;> cases GT <;> kernel_rfl
  unfold rotS
  rw [if_neg (by rw [h1]; decide), h2]
  simp only
  generalize Fr.tn f.data bit = u
  generalize Fr.tn f.kept bit = v
  change (_ : Nat × St) = _
  cases BT <;> cases G <;> cases GT <;> kernel_rfl
theorem o_base : old (T7 (some f) BT G GT st sm (-1) false).L pB = ⟨pB, false, f.data, f.kept, f.loose, f.anew, f.stamp⟩ := by cases BT <;> cases G <;> cases GT <;> kernel_rfl
theorem open_X {u : Fi} {t : ByteArray} {n e : Nat} (h : Sz (some u) BT G GT st sm) (hu : u.data.size ≤ 500000000) (hf : Fm.fr u.data = (t, n, e)) (he : e ≠ 0) :
    Open7Ok (T7 (some u) BT G GT st sm (-1) false) pS pB pG ∧ open7 (T7 (some u) BT G GT st sm (-1) false) pS pB pG = (e, ⟨⟨T7 (some u) BT G GT st sm (-1) false, [], false⟩, []⟩) := by
  have hop : opened (T7 (some u) BT G GT st sm (-1) false) pS = (0, T7 (some u) BT G GT st sm (-1) false) := by
    unfold opened
    rw [if_neg (by rw [k_sys]; decide)]
  have hk : kind (T7 (some u) BT G GT st sm (-1) false).L pB ≠ 0 := by rw [k_base]; decide
  have hrd : readS (T7 (some u) BT G GT st sm (-1) false) pB = (u.data, 0) := r_base
  have hb := base_2 hk hrd hf he
  refine ⟨⟨t7_ok h rng_m1, fun _ => ?_, by decide, by decide, by decide⟩, (open_n hop).trans (open1_b hb he)⟩
  rw [hop]
  refine ⟨by rw [hrd]; exact hu, fun h0 => ?_⟩
  rw [hb] at h0
  exact absurd h0 he
theorem tn_frame {r : ByteArray} {B : Nat} (hr : r.size ≤ 100000000) (h1 : 32 ≤ B) (h2 : B < 8 * (Fm.pk r).size) : (Fr.tn (Fm.pk r) (B : Int)).size = (Fm.pk r).size ∧ Fm.fr (Fr.tn (Fm.pk r) (B : Int)) = (⟨#[]⟩, 0, 6) := by
  have hv := Wm.vb_len_le 3 r.size (by omega)
  have et : Fr.tn (Fm.pk r) (B : Int) = Fr.trn (Fm.pk r) B := by
    unfold Fr.tn
    rw [if_neg (by omega), ← Int.natCast_emod, Nat.mod_eq_of_lt (by omega), Int.toNat_natCast]
  rw [et]
  refine ⟨Fr.trn_size _ _ (by omega), ?_⟩
  have := Fr.fr_turned r [] B (by omega) (by omega) h2
  rw [List.append_nil] at this
  exact this
end
theorem own_read {w0 W : World} {b : Nat} {s : St} (p : ByteArray) (h : Own (ImpAt b) w0 s W) (hp : p.size ≤ 8000000000000) : Calls Tryz.prog 31 #[.pointer (some ⟨b, 0, none⟩), .string p] W fun e w' => e = .returned (.tuple #[.string (readS s p).1, .int .i64 ((readS s p).2 : Nat)]) ∧ Below W.heap.size W w' := by
  obtain ⟨F, h1, _, _⟩ := h
  exact iw_read p h1 hp
end Go.Proofs.YtjdmbkkdnonkkaaGreat.Tb

namespace Go.Proofs.YtjdmbkkdnonkkaaGreat.tableRots
open Go.ChangeMaps (open_string shut_string)
open Go.ChangeShapes Go.WideShapes Go.ChangeAt Go.RowKit Tx Pm Dk Tb Wl
set_option linter.unusedVariables false
set_option linter.unusedSimpArgs false
set_option linter.unnecessarySimpa false
theorem le_sum {l : List Nat} {x : Nat} (h : x ∈ l) : x ≤ l.sum := by
  induction l with
  | nil => cases h
  | cons y l ih =>
    rw [List.sum_cons]
    rcases List.mem_cons.1 h with rfl | h
    · omega
    · have := ih h; omega
theorem states (l : List ByteArray) (hz : (l.map (·.size)).sum ≤ 2000000) (hl : l.length ≤ 40) : ∃ y1 y2 n1 n2 st sm, CommitOk ⟨⟨s0T, [], false⟩, []⟩ (BS l) pB pG ∧ commitS ⟨⟨s0T, [], false⟩, []⟩ (BS l) pB pG = (0, y1) ∧ PackOk y1 pB pG ∧ packS y1 pB pG = (0, y2) ∧
    y2.j.s = T7 (some (sy (Fm.pk (rec7 (whole7 (all7 [] (BS l))))) n1)) none (some (sy ⟨#[]⟩ n2)) none st sm (-1) false ∧ st ≤ 100 ∧ sm ≤ 100 ∧ (rec7 (whole7 (all7 [] (BS l)))).size ≤ 10000000 := by
  have hw := BS_wt l
  have hln := BS_len l
  obtain ⟨h1, c', n', st', sm', R', h2, _, hc, hst, hsm⟩ := commit_U (B := none) (BT := none) (GT := none) (c := ⟨#[]⟩) (n := 2) (st := 4) (sm := 2) (R := []) (dm := false) (L := []) (l := BS l) sz_0T (by omega) (by decide) (by show 0 + _ ≤ _; omega) (by decide) (by decide) (by decide)
  have hc0 : (⟨#[]⟩ : ByteArray).size = 0 := rfl
  have hws := ws_all [] (BS l)
  have hw0 : ws [] = 0 := rfl
  have hr := rec7_le (l := whole7 (all7 [] (BS l))) (by rw [wt_whole]; omega)
  rw [wt_whole] at hr
  obtain ⟨h3, h4⟩ := pack_U (B := none) (BT := none) (GT := none) (c := c') (n := n') (st := st') (sm := sm') (R := R') (dm := false) (L := all7 [] (BS l)) ⟨ook_none, ook_none, ook_sy (by omega), ook_none, by omega, by omega⟩ (by omega) (by omega) (by omega)
  exact ⟨_, _, _, _, _, _, h1, h2, h3, h4, rfl, by omega, by omega, by omega⟩
set_option maxRecDepth 100000 in
set_option maxHeartbeats 4000000 in
theorem walk (A : Option Addr) (n c : Nat) (l : List ByteArray) (bit : Int) (w : World) (hSt : Strs w A n l) (hz : (l.map (·.size)).sum ≤ 2000000) (hbit : -9223372036854775808 ≤ bit ∧ bit ≤ 9223372036854775807) (hn0 : n ≤ 2000000) :
    Calls Tryz.prog 10 #[.slice A n c, .int .i64 bit] w fun e w' => e = .returned (.bool true) ∧ Below w.heap.size w w' := by
  have HST := Lib.hid (fun W (hW : Below w.heap.size w W) => hSt.below hW)
  have HZ := Lib.hid hz
  have HL := Lib.hid hSt.1
  clear hz hSt
  by_cases h2 : (40 : Int) < n
  · go_enter Tryz.func10, Tryz.ntmps10
    go_wp2_with fail
    go_at_call 44
    refine (w_new w (Below.refl _ _)).mono ?_
    rintro e w1 ⟨b, rfl, o1⟩
    go_wp2_with fail
    go_at_call 41
    refine (awake_any7 w1 w1 (Below.refl _ _)).mono ?_
    rintro e w2 ⟨rfl, hb2⟩
    have o2 := o1.belowD hb2
    clear HST HZ HL
    go_wp2_with fail
    go_at_call 41
    refine (awake_any7 w w2 o2.bel).mono ?_
    rintro e w3 ⟨rfl, hb3⟩
    go_wp2_with fail
    go_ret
    exact ⟨rfl, hb3⟩
  have hn40 : n ≤ 40 := by omega
  have hn40' : (n : Int) ≤ 40 := by omega
  clear h2
  go_enter Tryz.func10, Tryz.ntmps10
  go_wp2_with fail
  go_at_call 44
  refine (w_new w (Below.refl _ _)).mono ?_
  rintro e w1 ⟨b, rfl, o1⟩
  go_wp2_with fail
  go_at_call 41
  refine (awake_any7 w1 w1 (Below.refl _ _)).mono ?_
  rintro e w2 ⟨rfl, hb2⟩
  have o2 := o1.belowD hb2
  go_wp2_with fail
  go_at_call 45
  refine (a_open o2 new_ok7 new_open7).mono ?_
  rintro e w3 ⟨t, j, m, rfl, o3⟩
  go_wp2_with fail
  go_at_call 47
  refine (a_begin o3).mono ?_
  rintro e w4 ⟨u, rfl, o4⟩
  have o4' : Own (Tu b j t m u) w (⟨⟨s0T, [], false⟩, []⟩, BS (l.take 0)) w4 := o4
  clear o1 o2 o3 o4 hb2
  go_wp2_with fail
  go_loopw [9] (fun iv wr => ∃ k : Nat, k ≤ n ∧ iv = .int .i64 k ∧ Own (Tu b j t m u) w (⟨⟨s0T, [], false⟩, []⟩, BS (l.take k)) wr) (fun i _ => n - (intOf i).toNat)
  case atStart => exact ⟨0, Nat.zero_le _, rfl, o4'⟩
  case round =>
    obtain ⟨k, hkn, rfl, hO⟩ := hrel
    by_cases hlt : k < n
    · obtain ⟨r, hx⟩ : ∃ r, l[k]? = some r := ⟨_, List.getElem?_eq_getElem (by rw [HL.out]; exact hlt)⟩
      have hr : r.size ≤ 2000000 := by
        have h1 : r.size ∈ l.map (·.size) := List.mem_map.2 ⟨r, List.mem_of_getElem? hx, rfl⟩
        have := le_sum h1
        exact Nat.le_trans this HZ.out
      obtain ⟨ba, off, rfl, hltb, hcc⟩ := (HST.out _ hO.bel).2.resolve_left (by omega)
      have g0 := hcc k r hx
      have hzk : (k : Int) < (n : Int) := by omega
      have hlen : (BS (l.take k)).length ≤ 40 := by
        have := BS_len (l.take k)
        rw [List.length_take] at this
        omega
      have htk : l.take (k + 1) = l.take k ++ [r] := by
        have hkn2 : k < l.length := by rw [HL.out]; exact hlt
        rw [List.take_succ_eq_append_getElem hkn2]
        rw [List.getElem?_eq_getElem hkn2] at hx
        injection hx with hx
        rw [hx]
      have hOd := ownB_below hO (Below.refl _ wr).drew
      have cp := a_put (key := r) (val := r) hOd (by omega) (by omega)
      rw [← BS_snoc, ← htk] at cp
      clear hx hcc hltb htk hlen hO hOd
      go_wp2_with fail
      go_region_with (go_at_call 48; refine cp.mono ?_; rintro e w5 ⟨rfl, o5⟩)
      all_goals
        go_wp2_with fail
        go_roundw
        case rel => exact ⟨k + 1, by omega, by go_num, o5⟩
        case measure => simp [intOf]; omega
    · obtain rfl : k = n := by omega
      have hall : l.take k = l := by rw [← HL.out]; exact List.take_length
      rw [hall] at hO
      obtain ⟨y1, y2, n1, n2, st, sm, g1, g2, g3, g4, g5, hst, hsm, hrs⟩ := states l HZ.out (by rw [HL.out]; exact hn40)
      clear hall HST HZ
      generalize rec7 (whole7 (all7 [] (BS l))) = R7 at g5 hrs
      generalize BS l = bl at g1 g2 hO
      have HG3 := Lib.hid g3
      have HG4 := Lib.hid g4
      have HG5 := Lib.hid g5
      have hpk := pk_bound (r := R7) (by omega)
      have hrb : readS (T7 (some (sy (Fm.pk R7) n1)) none (some (sy ⟨#[]⟩ n2)) none st sm (-1) false) pB = (Fm.pk R7, 0) := r_base
      have HRB := Lib.hid hrb
      have HPK := Lib.hid hpk
      have HRS := Lib.hid hrs
      have hzb : (Fm.pk R7).size ≤ 100000000 := by omega
      clear hpk g3 g4 g5 hrb hrs
      go_wp2_with fail
      go_at_call 51
      refine (a_commit hO g1 g2).mono ?_
      rintro e w6 ⟨rfl, o6⟩
      have o6 := own_tab o6
      clear hO g1 g2
      go_wp2_with fail
      go_at_call 53
      refine (a_pack o6 HG3.out HG4.out).mono ?_
      rintro e w7 ⟨rfl, o7⟩
      have o7 := own_disk o7
      rw [HG5.out] at o7
      have crd := own_read pB o7 (by decide)
      rw [HRB.out] at crd
      clear o6
      go_wp2_with fail
      go_at_call 31
      refine (crd).mono ?_
      rintro e w8 ⟨rfl, hb8⟩
      have o8 := o7.belowD hb8
      clear o7 crd hb8
      obtain ⟨P, hP⟩ : ∃ P, P = Fm.pk R7 := ⟨_, rfl⟩
      have HP := Lib.hid hP
      have hzp : P.size ≤ 100000000 := by rw [hP]; exact hzb
      rw [← hP] at o8
      simp only [← hP]
      clear hP hzb
      by_cases hb1 : bit < 32
      · go_wp2_with fail
        go_ret
        exact ⟨rfl, o8.bel⟩
      · by_cases hb2 : 8 * (P.size : Int) ≤ bit
        · go_wp2_with fail
          go_ret
          exact ⟨rfl, o8.bel⟩
        · obtain ⟨N, rfl⟩ : ∃ N : Nat, bit = N := ⟨bit.toNat, by omega⟩
          have htf := tn_frame (r := R7) (B := N) (by have := HRS.out; omega) (by omega) (by rw [← HP.out]; omega)
          rw [← HP.out] at htf
          obtain ⟨t1, t2⟩ := htf
          have hzs : Sz (some (sy P n1)) none (some (sy ⟨#[]⟩ n2)) none st sm := ⟨ook_sy (by omega), ook_none, ook_sy (by decide), ook_none, by omega, by omega⟩
          have hrot := b_rot (f := sy P n1) (BT := none) (G := some (sy ⟨#[]⟩ n2)) (GT := none) (st := st) (sm := sm) (bit := (N : Int))
          have hold := o_base (f := sy P n1) (BT := none) (G := some (sy ⟨#[]⟩ n2)) (GT := none) (st := st) (sm := sm)
          have crt := w_rot (p := pB) (bit := (N : Int)) o8 (t7_ok hzs rng_m1) (by decide) hbit (by rw [hold]; exact ⟨by show P.size ≤ _; omega, by show P.size ≤ _; omega⟩) hrot
          have hzs2 : Sz (some ⟨Fr.tn P (N : Int), Fr.tn P (N : Int), false, false, sm + 1⟩) none (some (sy ⟨#[]⟩ n2)) none st (sm + 1) := ⟨ook_sy (by omega), ook_none, ook_sy (by decide), ook_none, by omega, by omega⟩
          obtain ⟨x1, x2⟩ := open_X hzs2 (by show (Fr.tn P (N : Int)).size ≤ _; omega) (show Fm.fr (Fr.tn P (N : Int)) = _ from t2) (by decide)
          have X1 := Lib.hid x1
          have X2 := Lib.hid x2
          clear hrot hold hzs hzs2 t1 t2 x1 x2 o8
          go_wp2_with fail
          go_at_call 26
          refine (crt).mono ?_
          rintro e w9 ⟨rfl, o9⟩
          go_wp2_with fail
          go_at_call 45
          refine (a_open_bad o9 X1.out X2.out (by decide)).mono ?_
          rintro e w10 ⟨rfl, o10⟩
          go_wp2_with fail
          go_ret
          exact ⟨rfl, o10.bel⟩
theorem own : ownKnob Tryz.prog.godebug = none := by kernel_rfl
theorem laidOut : laidOutB Tryz.prog = true := by kernel_rfl
set_option maxRecDepth 100000 in
theorem contract (H : Type) (enc : TypeId × Value → H) (W : World) (base : Nat) (args : Array Value) (ds gs : List (DataW H)) (before : List MemPlace)
    (hval0 : ∀ (j : Nat) t v, Tryz.f10.params[j]? = some t → args[j]? = some v → Value.okWide Tryz.prog W .any base t v)
    (hW : DataW.Whole enc Tryz.prog Tryz.f10.params.toList Rows.tableRotsSpec.vars false W args.toList ds gs before)
    (hk : Rows.uptoSmall H (ds ++ gs) = true)
    (hsz0 : (DataW.weightsEach Tryz.prog (Tryz.f10.params.toList ++ Rows.tableRotsSpec.plain.varTypes Tryz.prog) (ds ++ gs)).all (· ≤ reachBytes) = true) :
    Calls Tryz.prog 10 args W fun e W' => ∃ v, e = .returned v ∧ Rows.tableRotsSpec.post enc Tryz.prog Tryz.f10 false true false false W args v W' := by
  have hval : ∀ (j : Nat) t v, Tryz.f10.params[j]? = some t → args[j]? = some v → Value.okWide Tryz.prog W .any base t v := hval0
  have hsz := hsz0
  clear hsz0
  have hW' := hW
  obtain ⟨p, q, hA0, hV, rfl, hfz, hnd⟩ := hW
  have hA : DataW.TrodAll enc Tryz.prog W 0 (fun _ => true) true Tryz.f10.params.toList args.toList ds p := hA0
  rw [Tryz.params10] at hA hval hsz
  obtain ⟨v0, vs0, d0, ds0, p0, q0, hargs, rfl, rfl, h0, r0⟩ := trodAll_cons hA
  obtain ⟨v1, vs1, d1, ds1, p1, q1, rfl, rfl, rfl, h1, r1⟩ := trodAll_cons r0
  obtain ⟨rfl, rfl, rfl⟩ := trodAll_nil r1
  obtain rfl : args = #[v0, v1] := by cases args; simp_all
  obtain ⟨rfl, rfl⟩ := trodVars_none hV
  obtain ⟨A0, n0, c0, rfl⟩ := okWide_slice Tryz.underlying56 (hval 0 56 v0 rfl rfl)
  have k0 := h0
  have lt0 : ∀ x ∈ p0, x.block < W.heap.size := by obtain ⟨m, hm⟩ := k0; exact DataW.trod_lt m _ _ _ hm
  obtain ⟨a1, rfl, rfl, rfl, w1⟩ := open_int Tryz.underlying3 (hval 1 3 v1 rfl rfl) h1
  have bd1 : -9223372036854775808 ≤ a1 ∧ a1 ≤ 9223372036854775807 := by simpa [Lit.wf, IntKind.min, IntKind.max, IntKind.signed, IntKind.bits] using w1
  clear hA0 hval0
  obtain ⟨l0, e0, hs0, hl0, hc0, hcc0, hz0⟩ := arg_texts k0
  have hk1 : Rows.uptoBulk d0 ≤ 1048576 := by
    have := of_decide_eq_true hk
    simp [Rows.uptoBulkAll, Rows.uptoBulk] at this
    omega
  have hln := e0.1
  refine (walk A0 n0 c0 l0 a1 W e0 (by omega) bd1 (by omega)).mono fun e W' ⟨he, bel⟩ => ?_
  subst he
  exact ⟨_, rfl, _, _, _, [], _, [], hW', trodAll_mk1 (shut_bool Tryz.underlying4 _), (trodAll_cons_mk (Below.trod laidOut (by kernel_rfl) (of_decide_eq_true (by kernel_rfl)) k0 bel lt0) (trodAll_cons_mk (shut_int Tryz.underlying3 w1) trodAll_mk0)), rfl, bel.frame _, fun h => by cases h⟩
set_option maxRecDepth 100000 in
theorem lifted (os : Os) (started : os.Started) (H : Type) (enc : TypeId × Value → H) (F : Stop.Interp) :
    ReturnsInHanded {} Tryz.checked os 10 .any ((Rows.OpenSpec.upto Rows.tableRotsSpec).pre6 enc Tryz.prog Tryz.f10 Rows.tableRotsUptoRow.domain false) (((Rows.OpenSpec.upto Rows.tableRotsSpec).at F).post enc Tryz.prog Tryz.f10 false true false false) := by
  refine returnsInHanded_of_cond_sized (C := Tryz.checked) (s := Rows.OpenSpec.upto Rows.tableRotsSpec) (k := Rows.uptoSmall) rfl own started (by kernel_rfl) Tryz.func10
    (OpenSpec.witness (enc := enc) (C := Tryz.checked) (s := Rows.OpenSpec.upto Rows.tableRotsSpec) (k := Rows.uptoSmall) rfl false ⟨#[], #[.slice none 0 0, .int .i64 0], []⟩ 8 (by kernel_rfl) (by kernel_rfl) (by kernel_rfl)
      (x := ([.nil, .lit (.int .i64 0)], [], [])) (by kernel_rfl) rfl (by kernel_rfl)) ?_
  intro W base args ds gs before hval hW _ hk hsz0 _
  exact contract H enc W base args ds gs before hval hW hk hsz0
theorem over : Rows.tableRotsUptoRow.holds Tryz.pinned (Rows.OpenSpec.upto Rows.tableRotsSpec) :=
  OpenClaim.holds_of_cond 10 Tryz.f10 rfl rfl rfl rfl rfl rfl rfl ⟨rfl, rfl, rfl, rfl, rfl⟩ rfl rfl rfl rfl rfl (by kernel_rfl) Tryz.func10 (by kernel_rfl)
    (of_decide_eq_true (by kernel_rfl)) (by unfold Func.isWrapper; first | (rw [if_pos (by decide +kernel)]; kernel_rfl) | (rw [if_neg (by decide +kernel)]; exact ⟨rfl, rfl⟩))
    (fun os started H enc _ F => lifted os started H enc F)
end Go.Proofs.YtjdmbkkdnonkkaaGreat.tableRots
namespace Go.Proofs.YtjdmbkkdnonkkaaGreat
theorem tableRotsUpto_holds : Rows.TableRotsUptoSaid := tableRots.over
#print axioms tableRotsUpto_holds
end Go.Proofs.YtjdmbkkdnonkkaaGreat
