/- Texts of this seat, one behind the other. -/
import Derived.Test.YtjdfffkkpbabpaaGreatT3
import Derived.Shelf.Sort.Plain
import Derived.Test.YtjdfffkkpbabpaaGreatProg
import Derived.Lib.OwnBridge
import Derived.Shelf.Slices.In.SortNone
import Derived.Sort.OwnSorted
import Derived.Deep.QuietTactic
import Derived.BigQuiet
import Derived.Maps.AppendAt
import Derived.ProofKit
import Derived.OpenShut
import Derived.ShutString
import Derived.Deep.Slices
import Derived.Deep.Fields
import Derived.ChangeSame
import Derived.Test.YtjdfffkkpbabpaaGreatRows
namespace Go.Proofs.YtjdfffkkpbabpaaGreat.Dk
open Go.RowKit Tx Pm Pl Pr
set_option linter.unusedVariables false
set_option maxRecDepth 100000 in
set_option maxHeartbeats 2000000 in
theorem iAppendC_any (b bi bl bd bp bq : Nat) (l : Int) (s : St) (p d : ByteArray) (w : World) (h : Ia b bi bl l w s) (hd : Cap w bd (.pointer (some ⟨b, 0, none⟩))) (hp : Cap w bp (.string p)) (hq : Cap w bq (.string d)) (hps : p.size ≤ 8000000000000) (hn : s.L.length ≤ 1000000000) (hst : s.stamps ≤ 1000000000000)
    (ho : kind s.L p = 2) (hca : (old s.L p).loose = false → (old s.L p).anew = false) (hsz : (old s.L p).data.size + d.size ≤ 1000000000000000000) :
    Calls Tryz.prog 116 #[.pointer (some ⟨bd, 0, none⟩), .pointer (some ⟨bp, 0, none⟩), .pointer (some ⟨bq, 0, none⟩)] w fun e w' => e = .returned (.tuple #[]) ∧ Ip b bi bl w (putS s { old s.L p with data := (old s.L p).data ++ d, loose := true }) w' := by
  obtain ⟨c0, _⟩ := h.cell
  unfold Cap at hd hp hq
  have hbd : bd < w.heap.size := World.block_lt_of_cell? w _ hd
  have hbp : bp < w.heap.size := World.block_lt_of_cell? w _ hp
  have hbq : bq < w.heap.size := World.block_lt_of_cell? w _ hq
  have hb : b < w.heap.size := h.lt b (.inl rfl)
  have hl := (h.below (Below.refl _ w).drew).look (maxLen_of hps)
  have hl2 := fun o => (h.below ((Below.refl _ w).alloc (Nat.le_refl _) o).drew).look (maxLen_of hps)
  rw [ho] at hl hl2
  have hod : (old s.L p).dir = false := old_dir (by omega)
  have hst2 : stOf { old s.L p with data := (old s.L p).data ++ d, loose := true } = if stOf (old s.L p) = 0 then 1 else stOf (old s.L p) := by
    unfold stOf
    cases hlo : (old s.L p).loose with
    | false =>
      rw [hca hlo]
      rfl
    | true => cases (old s.L p).anew <;> rfl
  have hst3 : stOf (old s.L p) = 0 ∨ stOf (old s.L p) = 1 ∨ stOf (old s.L p) = 2 := by
    unfold stOf
    cases (old s.L p).loose <;> cases (old s.L p).anew <;> simp
  have cs := fun W (hW : Below w.heap.size w W) => iSet_any b bi bl l s { old s.L p with data := (old s.L p).data ++ d, loose := true } (old s.L p).stamp p W (h.below hW) (old_path _ _) hps hn hst
  rw [show kOf { old s.L p with data := (old s.L p).data ++ d, loose := true } = 2 from kOf_file hod, hst2] at cs
  simp only at cs
  have HE := Lib.hid (fun W w' (hW : Below w.heap.size w W) (hh : Ip b bi bl W (putS s { old s.L p with data := (old s.L p).data ++ d, loose := true }) w') => Ip.after hW hh)
  generalize (putS s { old s.L p with data := (old s.L p).data ++ d, loose := true }) = s' at cs HE ⊢
  generalize (old s.L p).data = X0 at hl hl2 cs hsz
  generalize (old s.L p).kept = X1 at hl hl2 cs
  generalize ((old s.L p).stamp : Int) = X3 at hl hl2 cs
  generalize stOf (old s.L p) = X2 at hl hl2 cs hst3
  clear h ho hca hod hst2
  have hBW : ∀ o, Below w.heap.size w (w.alloc o).drew := fun o => ((Below.refl _ w).alloc (Nat.le_refl _) o).drew
  have HC := Lib.hid cs
  have HB := Lib.hid hBW
  clear cs hBW
  rcases hst3 with rfl | rfl | rfl
  · go_enter Tryz.func116, Tryz.ntmps116
    go_wp2
    go_region
    all_goals go_wp2_with (go_at_call 52; refine (HC.out _ (HB.out _)).mono ?_; rintro e w5 ⟨rfl, h5⟩)
    all_goals (go_end0; exact ⟨rfl, HE.out _ _ (HB.out _) h5⟩)
  · go_enter Tryz.func116, Tryz.ntmps116
    go_wp2
    go_region
    all_goals go_wp2_with (go_at_call 52; refine (HC.out _ (HB.out _)).mono ?_; rintro e w5 ⟨rfl, h5⟩)
    all_goals (go_end0; exact ⟨rfl, HE.out _ _ (HB.out _) h5⟩)
  · go_enter Tryz.func116, Tryz.ntmps116
    go_wp2
    go_region
    all_goals go_wp2_with (go_at_call 52; refine (HC.out _ (HB.out _)).mono ?_; rintro e w5 ⟨rfl, h5⟩)
    all_goals (go_end0; exact ⟨rfl, HE.out _ _ (HB.out _) h5⟩)
theorem turned_cell {w w' : World} {b i : Nat} (h : w.mapTurned w' b) (hi : i ≠ b) (o : Nat) : w'.cell? ⟨i, o, none⟩ = w.cell? ⟨i, o, none⟩ := by
  unfold World.cell?
  simp only [turned_block h hi]
theorem cell_ne {w : World} {bi : Nat} {L : List It} (h : Mp w bi L) {g : Nat} {o : Nat} {v : Value} (hc : w.cell? ⟨g, o, none⟩ = some v) : g ≠ bi := by
  rintro rfl
  obtain ⟨D, ⟨es, clock, hb, _⟩, _⟩ := h
  unfold World.cell? at hc
  simp [hb] at hc
set_option maxRecDepth 100000 in
set_option maxHeartbeats 2000000 in
theorem iRenameC_any (b bi bl bd bp bq : Nat) (l : Int) (s : St) (f t : ByteArray) (w : World) (h : Ia b bi bl l w s) (hR : Rises s.L) (hd : Cap w bd (.pointer (some ⟨b, 0, none⟩))) (hp : Cap w bp (.string f)) (hq : Cap w bq (.string t)) (hfs : f.size ≤ 8000000000000) (hts : t.size ≤ 8000000000000) (hn : s.L.length ≤ 1000000000) (hst : s.stamps ≤ 1000000000000)
    (ho : kind s.L f = 2) :
    Calls Tryz.prog 125 #[.pointer (some ⟨bd, 0, none⟩), .pointer (some ⟨bp, 0, none⟩), .pointer (some ⟨bq, 0, none⟩)] w fun e w' => e = .returned (.tuple #[]) ∧ Ip b bi bl w (putS { s with L := drop s.L f } { old s.L f with path := t }) w' := by
  obtain ⟨c0, _⟩ := h.cell
  unfold Cap at hd hp hq
  have hbd : bd < w.heap.size := World.block_lt_of_cell? w _ hd
  have hbp : bp < w.heap.size := World.block_lt_of_cell? w _ hp
  have hbq : bq < w.heap.size := World.block_lt_of_cell? w _ hq
  have hb : b < w.heap.size := h.lt b (.inl rfl)
  have nd := cell_ne h.items hd
  have np := cell_ne h.items hp
  have nq := cell_ne h.items hq
  have nb := h.nb.1
  have nn : w.heap.size ≠ bi := fun e => by have := h.items.lt; omega
  have hl := (h.below (Below.refl _ w).drew).look (maxLen_of hfs)
  have hl2 := fun o => (h.below ((Below.refl _ w).alloc (Nat.le_refl _) o).drew).look (maxLen_of hfs)
  rw [ho] at hl hl2
  have hod : (old s.L f).dir = false := old_dir (by omega)
  have hB2 := ((Below.refl _ w).alloc (Nat.le_refl _) (.cells #[.int .i64 2, .string (old s.L f).data, .string (old s.L f).kept, .int .i64 (stOf (old s.L f)), .int .i64 (old s.L f).stamp] 100)).drew.drew
  have a2 := h.below hB2
  obtain ⟨w3, hrun, hm, ht⟩ := a2.items.del hR (maxLen_of hfs) 0
  have a3 : Ia b bi bl l w3 { s with L := drop s.L f } := a2.turned hm ht
  have hc3 : Chg (Ft b bi bl) w w3 := (Chg.of_below hB2).then ((turned_chg ht).mono ft_i)
  have hbox : w3.cell? ⟨w.heap.size, 0, none⟩ = some (.int .i64 2) ∧ w3.cell? ⟨w.heap.size, 1, none⟩ = some (.string (old s.L f).data) ∧ w3.cell? ⟨w.heap.size, 2, none⟩ = some (.string (old s.L f).kept) ∧ w3.cell? ⟨w.heap.size, 3, none⟩ = some (.int .i64 (stOf (old s.L f))) ∧ w3.cell? ⟨w.heap.size, 4, none⟩ = some (.int .i64 (old s.L f).stamp) := by
    refine ⟨?_, ?_, ?_, ?_, ?_⟩ <;> · rw [turned_cell ht nn]; exact World.cell?_alloc_at _ _ _ _ rfl
  have g0 : w3.cell? ⟨bd, 0, none⟩ = some (.pointer (some ⟨b, 0, none⟩)) := (turned_cell ht nd 0).trans ((World.cell?_alloc_past _ _ _ hbd).trans hd)
  have g1 : w3.cell? ⟨bq, 0, none⟩ = some (.string t) := (turned_cell ht nq 0).trans ((World.cell?_alloc_past _ _ _ hbq).trans hq)
  have cs := iSet_any b bi bl l { s with L := drop s.L f } { old s.L f with path := t } (old s.L f).stamp t w3 a3 rfl hts (Nat.le_trans (drop_in s.L f).2 hn) hst
  rw [show kOf { old s.L f with path := t } = 2 from kOf_file hod] at cs
  have cs : Calls Tryz.prog 52 #[.pointer (some ⟨b, 0, none⟩), .string t, .agg #[.int .i64 2, .string (old s.L f).data, .string (old s.L f).kept, .int .i64 (stOf (old s.L f)), .int .i64 (old s.L f).stamp]] w3 fun e w' => e = .returned (.tuple #[]) ∧ Ip b bi bl w3 (putS { s with L := drop s.L f } { old s.L f with path := t }) w' := cs
  have hfin : ∀ w', Ip b bi bl w3 (putS { s with L := drop s.L f } { old s.L f with path := t }) w' → Ip b bi bl w (putS { s with L := drop s.L f } { old s.L f with path := t }) w' := fun w' ⟨l2, h1, h2⟩ => ⟨l2, h1, hc3.then h2⟩
  have HE := Lib.hid hfin
  clear h ho hod hB2 a2 a3 hm ht hc3 hfin
  generalize (putS { s with L := drop s.L f } { old s.L f with path := t }) = s' at cs HE ⊢
  generalize (old s.L f).data = X0 at hl hl2 cs hrun hbox
  generalize (old s.L f).kept = X1 at hl hl2 cs hrun hbox
  generalize ((old s.L f).stamp : Int) = X3 at hl hl2 cs hrun hbox
  generalize stOf (old s.L f) = X2 at hl hl2 cs hrun hbox
  obtain ⟨k0, k1, k2, k3, k4⟩ := hbox
  go_enter Tryz.func125, Tryz.ntmps125
  go_wp2
  go_region
  all_goals go_wp2
  all_goals go_region
  all_goals go_wp2_with (go_at_call 52; refine cs.mono ?_; rintro e w5 ⟨rfl, h5⟩)
  all_goals (go_end0; exact ⟨rfl, HE.out _ h5⟩)
end Go.Proofs.YtjdfffkkpbabpaaGreat.Dk

namespace Go.Proofs.YtjdfffkkpbabpaaGreat.Dk
open Go.RowKit Tx Pm Pl Pr
set_option linter.unusedVariables false
theorem cap_chg {w w1 : World} {F : Nat → Prop} {g : Nat} {v : Value} (h : Cap w g v) (hc : Chg F w w1) (hn : ¬ F g) : Cap w1 g v := by
  have hg := World.block_lt_of_cell? w _ h
  unfold Cap World.cell? at *
  rw [hc.block g hg hn]
  exact h
theorem cap_below {w w1 : World} {g : Nat} {v : Value} (h : Cap w g v) (hb : Below w.heap.size w w1) : Cap w1 g v := cap_chg (F := fun _ => False) h ⟨hb.os, hb.tape, hb.output, hb.size, fun i hi _ => hb.block i hi⟩ id
theorem cap_new (w : World) (v : Value) (T : TypeId) : Cap (w.alloc (.cells #[v] T)) w.heap.size v := by
  unfold Cap
  rw [World.cell?_alloc_at _ _ _ _ rfl]
  rfl
theorem first_down {s : St} {p : ByteArray} {m : Nat} (h : first s p m = 0) : s.down = false := by
  unfold first at h
  cases hd : s.down with
  | false => rfl
  | true => rw [hd] at h; cases h
theorem mkdir_step (s : St) (p : ByteArray) : mkdirS s p = stepR s (mayMkdirS s p) { (done s).2 with L := ins (done s).2.L ⟨p, true, ⟨#[]⟩, ⟨#[]⟩, false, false, 0⟩ } := by
  unfold mkdirS mayMkdirS stepR
  by_cases h1 : first s p 0 ≠ 0
  · rw [if_pos h1, if_pos h1, if_pos h1]
  · rw [if_neg h1, if_neg h1]
    by_cases h2 : home s.L p = false
    · rw [if_pos h2, if_pos h2, if_pos (by decide)]
    · rw [if_neg h2, if_neg h2]
      by_cases h3 : kind s.L p = 2
      · rw [if_pos h3, if_pos h3, if_pos (by decide)]
      · rw [if_neg h3, if_neg h3]
        rfl
theorem mayMkdir_down {s : St} {p : ByteArray} (h : mayMkdirS s p = 0) : s.down = false := by
  unfold mayMkdirS at h
  split at h
  · rename_i h1; exact absurd h h1
  · rename_i h1; exact first_down (p := p) (m := 0) (by omega)
theorem write_step {s : St} (hg : Good s) (p d : ByteArray) : writeS s p d = stepR s (mayWriteS s p d) (putS (done s).2 { old s.L p with data := d, loose := true, anew := true }) := by
  unfold writeS mayWriteS stepR
  rw [fits_full hg]
  by_cases h1 : first s p 1 ≠ 0
  · rw [if_pos h1, if_pos h1, if_pos h1]
  · rw [if_neg h1, if_neg h1]
    by_cases h2 : home s.L p = false
    · rw [if_pos h2, if_pos h2, if_pos (by decide)]
    · rw [if_neg h2, if_neg h2]
      by_cases h3 : kind s.L p = 1
      · rw [if_pos h3, if_pos h3, if_pos (by decide)]
      · rw [if_neg h3, if_neg h3]
        cases full s (vol p) ((d.size : Int) - (old s.L p).data.size) with
        | true => rfl
        | false => rfl
theorem mayWrite_ok {s : St} {p d : ByteArray} (h : mayWriteS s p d = 0) : s.down = false ∧ kind s.L p ≠ 1 := by
  unfold mayWriteS at h
  split at h
  · rename_i h1; exact absurd h h1
  rename_i h1
  split at h
  · cases h
  split at h
  · cases h
  rename_i h3
  exact ⟨first_down (p := p) (m := 1) (by omega), h3⟩
theorem append_step {s : St} (hg : Good s) (p d : ByteArray) : appendS s p d = stepR s (mayAppendS s p d) (putS (done s).2 { old s.L p with data := (old s.L p).data ++ d, loose := true }) := by
  unfold appendS mayAppendS stepR
  rw [fits_full hg]
  by_cases h1 : there s p ≠ 0
  · rw [if_pos h1, if_pos h1, if_pos h1]
  · rw [if_neg h1, if_neg h1]
    cases full s (vol p) (d.size : Int) with
    | true => rfl
    | false => rfl
theorem there_kind {s : St} {p : ByteArray} (h : there s p = 0) : s.down = false ∧ kind s.L p = 2 := by
  unfold there at h
  split at h
  · rename_i h1; exact absurd h h1
  rename_i h1
  split at h
  · cases h
  split at h
  · cases h
  rename_i h2 h3
  refine ⟨first_down (p := p) (m := 1) (by omega), ?_⟩
  rcases kind_le s.L p with e | e | e
  · exact absurd e h2
  · exact absurd e h3
  · exact e
theorem mayAppend_ok {s : St} {p d : ByteArray} (h : mayAppendS s p d = 0) : s.down = false ∧ kind s.L p = 2 := by
  unfold mayAppendS at h
  split at h
  · rename_i h1; exact absurd h h1
  · rename_i h1; exact there_kind (by omega)
theorem sync_step (s : St) (p : ByteArray) : syncS s p = stepR s (there s p) { (done s).2 with L := ins (done s).2.L { old s.L p with kept := (old s.L p).data, loose := false, anew := false } } := rfl
theorem rename_step {s : St} (hg : Good s) (f t : ByteArray) : renameS s f t = stepR s (mayRenS s f t) (putS { (done s).2 with L := drop (done s).2.L f } { old s.L f with path := t }) := by
  unfold renameS mayRenS stepR firstR
  by_cases h1 : first s f 1 ≠ 0
  · rw [if_pos h1, if_pos h1, if_pos h1, if_pos h1]
  rw [if_neg h1, if_neg h1]
  by_cases h2 : first s t 1 ≠ 0
  · rw [if_pos h2, if_pos h2, if_pos h2]
  rw [if_neg h2, if_neg h2]
  by_cases h3 : kind s.L f = 0
  · rw [if_pos (.inl h3), if_pos h3, if_pos (by decide)]
  rw [if_neg h3]
  by_cases h4 : home s.L t = false
  · rw [if_pos (.inr h4), if_pos h4, if_pos (by decide)]
  rw [if_neg (by rintro (h | h) <;> contradiction), if_neg h4]
  by_cases h5 : kind s.L f = 1
  · rw [if_pos (.inl h5), if_pos h5, if_pos (by decide)]
  rw [if_neg h5]
  by_cases h6 : kind s.L t = 1
  · rw [if_pos (.inr h6), if_pos h6, if_pos (by decide)]
  rw [if_neg (by rintro (h | h) <;> contradiction), if_neg h6]
  have e : (f ≠ t ∧ fits s t (moreS s.L f t) = false) ↔ (vol f ≠ vol t ∧ full s (vol t) (((old s.L f).data.size : Int) - (old s.L t).data.size) = true) := by
    rw [fits_full hg]
    by_cases hv : vol f = vol t
    · have hm : moreS s.L f t ≤ 0 := by
        unfold moreS
        rw [if_pos hv]
        split <;> omega
      have hf : full s (vol t) (moreS s.L f t) = false := by
        unfold full
        cases roomOf s.rooms (vol t) with
        | none => rfl
        | some r => simp only; rw [decide_eq_false (by omega), Bool.false_and]
      constructor
      · rintro ⟨_, h⟩
        rw [hf] at h
        cases h
      · rintro ⟨h, _⟩
        exact absurd hv h
    · have hft : f ≠ t := fun e => hv (by rw [e])
      have hm : moreS s.L f t = ((old s.L f).data.size : Int) - (old s.L t).data.size := by
        unfold moreS
        rw [if_neg hv]
        rcases kind_le s.L t with k | k | k
        · have ho : old s.L t = mk t := by
            unfold old
            cases hx : find s.L t with
            | none => rfl
            | some x =>
              unfold kind at k
              rw [hx] at k
              unfold kindOf at k
              simp only at k
              split at k <;> cases k
          rw [if_neg (by omega), ho]
          rfl
        · exact absurd k h6
        · rw [if_pos k]
      rw [hm]
      constructor
      · rintro ⟨_, h⟩
        refine ⟨hv, ?_⟩
        cases hb : full s (vol t) (((old s.L f).data.size : Int) - (old s.L t).data.size) with
        | true => rfl
        | false => rw [hb] at h; cases h
      · rintro ⟨_, h⟩
        refine ⟨hft, ?_⟩
        rw [h]
        rfl
  by_cases h7 : f ≠ t ∧ fits s t (moreS s.L f t) = false
  · rw [if_pos h7, if_pos (e.1 h7), if_pos (by decide)]
  · rw [if_neg h7, if_neg (fun h => h7 (e.2 h))]
    rfl
theorem mayRen_ok {s : St} {f t : ByteArray} (h : mayRenS s f t = 0) : s.down = false ∧ kind s.L f = 2 := by
  unfold mayRenS at h
  split at h
  · rename_i h1; exact absurd h h1
  rename_i h1
  split at h
  · cases h
  rename_i h2
  split at h
  · cases h
  split at h
  · cases h
  rename_i h3
  have hf : first s f 1 = 0 := by
    unfold firstR at h1
    by_cases hq : first s f 1 = 0
    · exact hq
    · rw [if_pos hq] at h1
      omega
  refine ⟨first_down hf, ?_⟩
  rcases kind_le s.L f with e | e | e
  · exact absurd e h2
  · exact absurd e h3
  · exact e
set_option maxRecDepth 100000 in
set_option maxHeartbeats 2000000 in
theorem iMkdir_any (b bi bl : Nat) (l : Int) (s : St) (p : ByteArray) (w : World) (h : Ia b bi bl l w s) (hg : Good s) (ok : Ok s) (hp : p.size ≤ 8000000000000) :
    Calls Tryz.prog 26 #[.pointer (some ⟨b, 0, none⟩), .string p] w fun e w' => e = .returned (.int .i64 ((mkdirS s p).1 : Nat)) ∧ Ip b bi bl w (mkdirS s p).2 w' := by
  have hft := h.lt
  have hn := ok.fit.1
  have hst : (done s).2.stamps ≤ 1000000000000 := by rw [done_stamps]; exact ok.stamps
  have eL := done_L s
  rw [mkdir_step]
  obtain ⟨S', hS'⟩ : ∃ S', S' = { (done s).2 with L := ins (done s).2.L ⟨p, true, ⟨#[]⟩, ⟨#[]⟩, false, false, 0⟩ } := ⟨_, rfl⟩
  rw [← hS']
  have hb1 := (Below.refl w.heap.size w).alloc (Nat.le_refl _) (.cells #[.pointer (some ⟨b, 0, none⟩)] 23)
  have k1 := cap_new w (.pointer (some ⟨b, 0, none⟩)) 23
  have k2 := cap_new (w.alloc (.cells #[.pointer (some ⟨b, 0, none⟩)] 23)) (.string p) 9
  have hs1 : (w.alloc (.cells #[.pointer (some ⟨b, 0, none⟩)] 23)).heap.size = w.heap.size + 1 := by simp
  rw [hs1] at k2
  have hb2 := hb1.alloc (by simp) (.cells #[.string p] 9)
  have k1 := cap_below k1 ((Below.refl _ _).alloc (Nat.le_refl _) (.cells #[.string p] 9))
  obtain ⟨W1, hW1⟩ : ∃ W1, W1 = ((w.alloc (.cells #[.pointer (some ⟨b, 0, none⟩)] 23)).alloc (.cells #[.string p] 9)) := ⟨_, rfl⟩
  rw [← hW1] at k1 k2 hb2
  have hb3 : Below w.heap.size w W1.drew := hb2.drew
  have cm := iMayMkdir_any b bi bl l s p W1.drew (h.below hb3) hp
  have hen : ∀ W, (callFunc 71 #[.pointer (some ⟨w.heap.size, 0, none⟩), .pointer (some ⟨w.heap.size + 1, 0, none⟩)]).run Tryz.prog W = .ok (.enter 71 #[.pointer (some ⟨w.heap.size, 0, none⟩), .pointer (some ⟨w.heap.size + 1, 0, none⟩)]) W :=
    fun W => Rg.entersk Tryz.func71 _ W
  have ct : ∀ W, Below W1.heap.size W1 W → Calls Tryz.prog 69 #[.pointer (some ⟨b, 0, none⟩), .int .i64 (mayMkdirS s p : Nat), .func (.func 71) #[] #[.pointer (some ⟨w.heap.size, 0, none⟩), .pointer (some ⟨w.heap.size + 1, 0, none⟩)]] W fun e w' => e = .returned (.int .i64 ((stepR s (mayMkdirS s p) S').1 : Nat)) ∧
      (Ip b bi bl w (stepR s (mayMkdirS s p) S').2 w' ∧ Cap w' w.heap.size (.pointer (some ⟨b, 0, none⟩)) ∧ Cap w' (w.heap.size + 1) (.string p)) := by
    intro W hW
    have hbW := below_call hb2 hW
    have j1 := cap_below k1 hW
    have j2 := cap_below k2 hW
    have hnf : ∀ k, ¬ Ft b bi bl (w.heap.size + k) := fun k hk => by have := hft _ hk; omega
    refine (iStep_any b bi bl l s _ _ _ S' W (h.below hbW) (fun e => mayMkdir_down e) ok.steps hen (fun l1 W2 hr _ hI hc => ?_)).mono ?_
    · have m1 := cap_chg j1 hc (fun e => by have := hft b (.inl rfl); omega)
      have m2 := cap_chg j2 hc (fun e => by have := hft b (.inl rfl); omega)
      rw [hS']
      exact iMkdirC_any b bi bl _ _ l1 _ p W2 hI m1 m2 hp (by rw [eL]; exact hn)
    · rintro e w' ⟨rfl, l5, h5, hc5⟩
      exact ⟨rfl, ⟨l5, h5, (Chg.of_below hbW).then hc5⟩, cap_chg j1 hc5 (hnf 0), cap_chg j2 hc5 (hnf 1)⟩
  generalize stepR s (mayMkdirS s p) S' = RES at ct ⊢
  generalize mayMkdirS s p = r at cm ct
  have HW1 := Lib.hid hW1
  clear h hg ok hS' hst eL hn hft hb1 hb2 hb3 hen
  go_enter Tryz.func26, Tryz.ntmps26
  go_wp2_with fail
  rw [← HW1.out]
  refine Rg.wp_only ?_ (regMkdir _ (by kernel_rfl) _ w.heap.size (w.heap.size + 1) (.pointer (some ⟨b, 0, none⟩)) p r RES.1 W1 (fun W => Below W1.heap.size W1 W) (fun W => Ip b bi bl w RES.2 W ∧ Cap W w.heap.size (.pointer (some ⟨b, 0, none⟩)) ∧ Cap W (w.heap.size + 1) (.string p)) ⟨k1, k2⟩ (cm.mono (fun e w' he => ⟨he.1, (Below.refl _ W1).drew.trans he.2⟩)) (fun W hW => ⟨cap_below k1 hW, cap_below k2 hW⟩) ct (fun W hW => hW.2))
  rintro _ w9 ⟨rfl, h9⟩
  go_wp2_with fail
  go_ret
  exact ⟨rfl, h9.1⟩
set_option maxRecDepth 100000 in
set_option maxHeartbeats 2000000 in
theorem iWrite_any (b bi bl : Nat) (l : Int) (s : St) (p q : ByteArray) (w : World) (h : Ia b bi bl l w s) (hg : Good s) (ok : Ok s) (hp : p.size ≤ 8000000000000) (hq : q.size ≤ 1000000000000000000) :
    Calls Tryz.prog 91 #[.pointer (some ⟨b, 0, none⟩), .string p, .string q] w fun e w' => e = .returned (.int .i64 ((writeS s p q).1 : Nat)) ∧ Ip b bi bl w (writeS s p q).2 w' := by
  have hft := h.lt
  have hn := ok.fit.1
  have hst : (done s).2.stamps ≤ 1000000000000 := by rw [done_stamps]; exact ok.stamps
  have eL := done_L s
  rw [write_step hg]
  obtain ⟨S', hS'⟩ : ∃ S', S' = putS (done s).2 { old s.L p with data := q, loose := true, anew := true } := ⟨_, rfl⟩
  rw [← hS']
  have hb1 := (Below.refl w.heap.size w).alloc (Nat.le_refl _) (.cells #[.pointer (some ⟨b, 0, none⟩)] 23)
  have k1 := cap_new w (.pointer (some ⟨b, 0, none⟩)) 23
  have k2 := cap_new (w.alloc (.cells #[.pointer (some ⟨b, 0, none⟩)] 23)) (.string p) 9
  have hs1 : (w.alloc (.cells #[.pointer (some ⟨b, 0, none⟩)] 23)).heap.size = w.heap.size + 1 := by simp
  rw [hs1] at k2
  have hb2 := hb1.alloc (by simp) (.cells #[.string p] 9)
  have k1 := cap_below k1 ((Below.refl _ _).alloc (Nat.le_refl _) (.cells #[.string p] 9))
  have k3 := cap_new ((w.alloc (.cells #[.pointer (some ⟨b, 0, none⟩)] 23)).alloc (.cells #[.string p] 9)) (.string q) 9
  have hs2 : ((w.alloc (.cells #[.pointer (some ⟨b, 0, none⟩)] 23)).alloc (.cells #[.string p] 9)).heap.size = w.heap.size + 1 + 1 := by simp
  rw [hs2] at k3
  have hb2 := hb2.alloc (by simp; omega) (.cells #[.string q] 9)
  have k1 := cap_below k1 ((Below.refl _ _).alloc (Nat.le_refl _) (.cells #[.string q] 9))
  have k2 := cap_below k2 ((Below.refl _ _).alloc (Nat.le_refl _) (.cells #[.string q] 9))
  obtain ⟨W1, hW1⟩ : ∃ W1, W1 = ((w.alloc (.cells #[.pointer (some ⟨b, 0, none⟩)] 23)).alloc (.cells #[.string p] 9)).alloc (.cells #[.string q] 9) := ⟨_, rfl⟩
  rw [← hW1] at k1 k2 k3 hb2
  have hb3 : Below w.heap.size w W1.drew := hb2.drew
  have cm := iMayWrite_any b bi bl l s p q W1.drew (h.below hb3) hg.rises ok.fit hp hq
  have hen : ∀ W, (callFunc 123 #[.pointer (some ⟨w.heap.size, 0, none⟩), .pointer (some ⟨w.heap.size + 1, 0, none⟩), .pointer (some ⟨w.heap.size + 1 + 1, 0, none⟩)]).run Tryz.prog W = .ok (.enter 123 #[.pointer (some ⟨w.heap.size, 0, none⟩), .pointer (some ⟨w.heap.size + 1, 0, none⟩), .pointer (some ⟨w.heap.size + 1 + 1, 0, none⟩)]) W :=
    fun W => Rg.entersk Tryz.func123 _ W
  have ct : ∀ W, Below W1.heap.size W1 W → Calls Tryz.prog 69 #[.pointer (some ⟨b, 0, none⟩), .int .i64 (mayWriteS s p q : Nat), .func (.func 123) #[] #[.pointer (some ⟨w.heap.size, 0, none⟩), .pointer (some ⟨w.heap.size + 1, 0, none⟩), .pointer (some ⟨w.heap.size + 1 + 1, 0, none⟩)]] W fun e w' => e = .returned (.int .i64 ((stepR s (mayWriteS s p q) S').1 : Nat)) ∧
      (Ip b bi bl w (stepR s (mayWriteS s p q) S').2 w' ∧ Cap w' w.heap.size (.pointer (some ⟨b, 0, none⟩)) ∧ Cap w' (w.heap.size + 1) (.string p) ∧ Cap w' (w.heap.size + 1 + 1) (.string q)) := by
    intro W hW
    have hbW := below_call hb2 hW
    have j1 := cap_below k1 hW
    have j2 := cap_below k2 hW
    have j3 := cap_below k3 hW
    have hnf : ∀ k, ¬ Ft b bi bl (w.heap.size + k) := fun k hk => by have := hft _ hk; omega
    refine (iStep_any b bi bl l s _ _ _ S' W (h.below hbW) (fun e => (mayWrite_ok e).1) ok.steps hen (fun l1 W2 hr _ hI hc => ?_)).mono ?_
    · have m1 := cap_chg j1 hc (fun e => by have := hft b (.inl rfl); omega)
      have m2 := cap_chg j2 hc (fun e => by have := hft b (.inl rfl); omega)
      have m3 := cap_chg j3 hc (fun e => by have := hft b (.inl rfl); omega)
      rw [hS']
      have c9 := iWriteC_any b bi bl _ _ _ l1 _ p q W2 hI m1 m2 m3 hp (by rw [eL]; exact hn) hst (by rw [eL]; exact old_dir (mayWrite_ok hr).2)
      rw [eL] at c9
      exact c9
    · rintro e w' ⟨rfl, l5, h5, hc5⟩
      exact ⟨rfl, ⟨l5, h5, (Chg.of_below hbW).then hc5⟩, cap_chg j1 hc5 (hnf 0), cap_chg j2 hc5 (hnf 1), cap_chg j3 hc5 (hnf 2)⟩
  generalize stepR s (mayWriteS s p q) S' = RES at ct ⊢
  generalize mayWriteS s p q = r at cm ct
  have HW1 := Lib.hid hW1
  clear h hg ok hS' hst eL hn hft hb1 hb2 hb3 hen
  go_enter Tryz.func91, Tryz.ntmps91
  go_wp2_with fail
  rw [← HW1.out]
  refine Rg.wp_only ?_ (regWrite _ (by kernel_rfl) _ w.heap.size (w.heap.size + 1) (w.heap.size + 1 + 1) (.pointer (some ⟨b, 0, none⟩)) p q r RES.1 W1 (fun W => Below W1.heap.size W1 W) (fun W => Ip b bi bl w RES.2 W ∧ Cap W w.heap.size (.pointer (some ⟨b, 0, none⟩)) ∧ Cap W (w.heap.size + 1) (.string p) ∧ Cap W (w.heap.size + 1 + 1) (.string q)) ⟨k1, k2, k3⟩ (cm.mono (fun e w' he => ⟨he.1, (Below.refl _ W1).drew.trans he.2⟩)) (fun W hW => ⟨cap_below k1 hW, cap_below k2 hW, cap_below k3 hW⟩) ct (fun W hW => hW.2))
  rintro _ w9 ⟨rfl, h9⟩
  go_wp2_with fail
  go_ret
  exact ⟨rfl, h9.1⟩
set_option maxRecDepth 100000 in
set_option maxHeartbeats 2000000 in
theorem iAppend_any (b bi bl : Nat) (l : Int) (s : St) (p q : ByteArray) (w : World) (h : Ia b bi bl l w s) (hg : Good s) (ok : Ok s) (hp : p.size ≤ 8000000000000) (hq : q.size ≤ 1000000000000000000) (hsz : (old s.L p).data.size + q.size ≤ 1000000000000000000) :
    Calls Tryz.prog 84 #[.pointer (some ⟨b, 0, none⟩), .string p, .string q] w fun e w' => e = .returned (.int .i64 ((appendS s p q).1 : Nat)) ∧ Ip b bi bl w (appendS s p q).2 w' := by
  have hft := h.lt
  have hn := ok.fit.1
  have hst : (done s).2.stamps ≤ 1000000000000 := by rw [done_stamps]; exact ok.stamps
  have eL := done_L s
  rw [append_step hg]
  obtain ⟨S', hS'⟩ : ∃ S', S' = putS (done s).2 { old s.L p with data := (old s.L p).data ++ q, loose := true } := ⟨_, rfl⟩
  rw [← hS']
  have hb1 := (Below.refl w.heap.size w).alloc (Nat.le_refl _) (.cells #[.pointer (some ⟨b, 0, none⟩)] 23)
  have k1 := cap_new w (.pointer (some ⟨b, 0, none⟩)) 23
  have k2 := cap_new (w.alloc (.cells #[.pointer (some ⟨b, 0, none⟩)] 23)) (.string p) 9
  have hs1 : (w.alloc (.cells #[.pointer (some ⟨b, 0, none⟩)] 23)).heap.size = w.heap.size + 1 := by simp
  rw [hs1] at k2
  have hb2 := hb1.alloc (by simp) (.cells #[.string p] 9)
  have k1 := cap_below k1 ((Below.refl _ _).alloc (Nat.le_refl _) (.cells #[.string p] 9))
  have k3 := cap_new ((w.alloc (.cells #[.pointer (some ⟨b, 0, none⟩)] 23)).alloc (.cells #[.string p] 9)) (.string q) 9
  have hs2 : ((w.alloc (.cells #[.pointer (some ⟨b, 0, none⟩)] 23)).alloc (.cells #[.string p] 9)).heap.size = w.heap.size + 1 + 1 := by simp
  rw [hs2] at k3
  have hb2 := hb2.alloc (by simp; omega) (.cells #[.string q] 9)
  have k1 := cap_below k1 ((Below.refl _ _).alloc (Nat.le_refl _) (.cells #[.string q] 9))
  have k2 := cap_below k2 ((Below.refl _ _).alloc (Nat.le_refl _) (.cells #[.string q] 9))
  obtain ⟨W1, hW1⟩ : ∃ W1, W1 = ((w.alloc (.cells #[.pointer (some ⟨b, 0, none⟩)] 23)).alloc (.cells #[.string p] 9)).alloc (.cells #[.string q] 9) := ⟨_, rfl⟩
  rw [← hW1] at k1 k2 k3 hb2
  have hb3 : Below w.heap.size w W1.drew := hb2.drew
  have cm := iMayAppend_any b bi bl l s p q W1.drew (h.below hb3) hg.rises ok.fit hp (by omega)
  have hen : ∀ W, (callFunc 116 #[.pointer (some ⟨w.heap.size, 0, none⟩), .pointer (some ⟨w.heap.size + 1, 0, none⟩), .pointer (some ⟨w.heap.size + 1 + 1, 0, none⟩)]).run Tryz.prog W = .ok (.enter 116 #[.pointer (some ⟨w.heap.size, 0, none⟩), .pointer (some ⟨w.heap.size + 1, 0, none⟩), .pointer (some ⟨w.heap.size + 1 + 1, 0, none⟩)]) W :=
    fun W => Rg.entersk Tryz.func116 _ W
  have ct : ∀ W, Below W1.heap.size W1 W → Calls Tryz.prog 69 #[.pointer (some ⟨b, 0, none⟩), .int .i64 (mayAppendS s p q : Nat), .func (.func 116) #[] #[.pointer (some ⟨w.heap.size, 0, none⟩), .pointer (some ⟨w.heap.size + 1, 0, none⟩), .pointer (some ⟨w.heap.size + 1 + 1, 0, none⟩)]] W fun e w' => e = .returned (.int .i64 ((stepR s (mayAppendS s p q) S').1 : Nat)) ∧
      (Ip b bi bl w (stepR s (mayAppendS s p q) S').2 w' ∧ Cap w' w.heap.size (.pointer (some ⟨b, 0, none⟩)) ∧ Cap w' (w.heap.size + 1) (.string p) ∧ Cap w' (w.heap.size + 1 + 1) (.string q)) := by
    intro W hW
    have hbW := below_call hb2 hW
    have j1 := cap_below k1 hW
    have j2 := cap_below k2 hW
    have j3 := cap_below k3 hW
    have hnf : ∀ k, ¬ Ft b bi bl (w.heap.size + k) := fun k hk => by have := hft _ hk; omega
    refine (iStep_any b bi bl l s _ _ _ S' W (h.below hbW) (fun e => (mayAppend_ok e).1) ok.steps hen (fun l1 W2 hr _ hI hc => ?_)).mono ?_
    · have m1 := cap_chg j1 hc (fun e => by have := hft b (.inl rfl); omega)
      have m2 := cap_chg j2 hc (fun e => by have := hft b (.inl rfl); omega)
      have m3 := cap_chg j3 hc (fun e => by have := hft b (.inl rfl); omega)
      rw [hS']
      have c9 := iAppendC_any b bi bl _ _ _ l1 _ p q W2 hI m1 m2 m3 hp (by rw [eL]; exact hn) hst (by rw [eL]; exact (mayAppend_ok hr).2) (by rw [eL]; exact calm_old hg p) (by rw [eL]; exact hsz)
      rw [eL] at c9
      exact c9
    · rintro e w' ⟨rfl, l5, h5, hc5⟩
      exact ⟨rfl, ⟨l5, h5, (Chg.of_below hbW).then hc5⟩, cap_chg j1 hc5 (hnf 0), cap_chg j2 hc5 (hnf 1), cap_chg j3 hc5 (hnf 2)⟩
  generalize stepR s (mayAppendS s p q) S' = RES at ct ⊢
  generalize mayAppendS s p q = r at cm ct
  have HW1 := Lib.hid hW1
  clear h hg ok hS' hst eL hn hft hb1 hb2 hb3 hen
  go_enter Tryz.func84, Tryz.ntmps84
  go_wp2_with fail
  rw [← HW1.out]
  refine Rg.wp_only ?_ (regAppend _ (by kernel_rfl) _ w.heap.size (w.heap.size + 1) (w.heap.size + 1 + 1) (.pointer (some ⟨b, 0, none⟩)) p q r RES.1 W1 (fun W => Below W1.heap.size W1 W) (fun W => Ip b bi bl w RES.2 W ∧ Cap W w.heap.size (.pointer (some ⟨b, 0, none⟩)) ∧ Cap W (w.heap.size + 1) (.string p) ∧ Cap W (w.heap.size + 1 + 1) (.string q)) ⟨k1, k2, k3⟩ (cm.mono (fun e w' he => ⟨he.1, (Below.refl _ W1).drew.trans he.2⟩)) (fun W hW => ⟨cap_below k1 hW, cap_below k2 hW, cap_below k3 hW⟩) ct (fun W hW => hW.2))
  rintro _ w9 ⟨rfl, h9⟩
  go_wp2_with fail
  go_ret
  exact ⟨rfl, h9.1⟩
set_option maxRecDepth 100000 in
set_option maxHeartbeats 2000000 in
theorem iSync_any (b bi bl : Nat) (l : Int) (s : St) (p : ByteArray) (w : World) (h : Ia b bi bl l w s) (hg : Good s) (ok : Ok s) (hp : p.size ≤ 8000000000000) :
    Calls Tryz.prog 85 #[.pointer (some ⟨b, 0, none⟩), .string p] w fun e w' => e = .returned (.int .i64 ((syncS s p).1 : Nat)) ∧ Ip b bi bl w (syncS s p).2 w' := by
  have hft := h.lt
  have hn := ok.fit.1
  have hst : (done s).2.stamps ≤ 1000000000000 := by rw [done_stamps]; exact ok.stamps
  have eL := done_L s
  rw [sync_step]
  obtain ⟨S', hS'⟩ : ∃ S', S' = { (done s).2 with L := ins (done s).2.L { old s.L p with kept := (old s.L p).data, loose := false, anew := false } } := ⟨_, rfl⟩
  rw [← hS']
  have hb1 := (Below.refl w.heap.size w).alloc (Nat.le_refl _) (.cells #[.pointer (some ⟨b, 0, none⟩)] 23)
  have k1 := cap_new w (.pointer (some ⟨b, 0, none⟩)) 23
  have k2 := cap_new (w.alloc (.cells #[.pointer (some ⟨b, 0, none⟩)] 23)) (.string p) 9
  have hs1 : (w.alloc (.cells #[.pointer (some ⟨b, 0, none⟩)] 23)).heap.size = w.heap.size + 1 := by simp
  rw [hs1] at k2
  have hb2 := hb1.alloc (by simp) (.cells #[.string p] 9)
  have k1 := cap_below k1 ((Below.refl _ _).alloc (Nat.le_refl _) (.cells #[.string p] 9))
  obtain ⟨W1, hW1⟩ : ∃ W1, W1 = ((w.alloc (.cells #[.pointer (some ⟨b, 0, none⟩)] 23)).alloc (.cells #[.string p] 9)) := ⟨_, rfl⟩
  rw [← hW1] at k1 k2 hb2
  have hb3 : Below w.heap.size w W1.drew := hb2.drew
  have cm := iMaySync_any b bi bl l s p W1.drew (h.below hb3) hp
  have hen : ∀ W, (callFunc 118 #[.pointer (some ⟨w.heap.size, 0, none⟩), .pointer (some ⟨w.heap.size + 1, 0, none⟩)]).run Tryz.prog W = .ok (.enter 118 #[.pointer (some ⟨w.heap.size, 0, none⟩), .pointer (some ⟨w.heap.size + 1, 0, none⟩)]) W :=
    fun W => Rg.entersk Tryz.func118 _ W
  have ct : ∀ W, Below W1.heap.size W1 W → Calls Tryz.prog 69 #[.pointer (some ⟨b, 0, none⟩), .int .i64 (there s p : Nat), .func (.func 118) #[] #[.pointer (some ⟨w.heap.size, 0, none⟩), .pointer (some ⟨w.heap.size + 1, 0, none⟩)]] W fun e w' => e = .returned (.int .i64 ((stepR s (there s p) S').1 : Nat)) ∧
      (Ip b bi bl w (stepR s (there s p) S').2 w' ∧ Cap w' w.heap.size (.pointer (some ⟨b, 0, none⟩)) ∧ Cap w' (w.heap.size + 1) (.string p)) := by
    intro W hW
    have hbW := below_call hb2 hW
    have j1 := cap_below k1 hW
    have j2 := cap_below k2 hW
    have hnf : ∀ k, ¬ Ft b bi bl (w.heap.size + k) := fun k hk => by have := hft _ hk; omega
    refine (iStep_any b bi bl l s _ _ _ S' W (h.below hbW) (fun e => (there_kind e).1) ok.steps hen (fun l1 W2 hr _ hI hc => ?_)).mono ?_
    · have m1 := cap_chg j1 hc (fun e => by have := hft b (.inl rfl); omega)
      have m2 := cap_chg j2 hc (fun e => by have := hft b (.inl rfl); omega)
      rw [hS']
      have c9 := iSyncC_any b bi bl _ _ l1 _ p W2 hI m1 m2 hp (by rw [eL]; exact hn) (by rw [eL]; exact (there_kind hr).2)
      rw [eL] at c9 ⊢
      exact c9
    · rintro e w' ⟨rfl, l5, h5, hc5⟩
      exact ⟨rfl, ⟨l5, h5, (Chg.of_below hbW).then hc5⟩, cap_chg j1 hc5 (hnf 0), cap_chg j2 hc5 (hnf 1)⟩
  generalize stepR s (there s p) S' = RES at ct ⊢
  generalize there s p = r at cm ct
  have HW1 := Lib.hid hW1
  clear h hg ok hS' hst eL hn hft hb1 hb2 hb3 hen
  go_enter Tryz.func85, Tryz.ntmps85
  go_wp2_with fail
  rw [← HW1.out]
  refine Rg.wp_only ?_ (regSync _ (by kernel_rfl) _ w.heap.size (w.heap.size + 1) (.pointer (some ⟨b, 0, none⟩)) p r RES.1 W1 (fun W => Below W1.heap.size W1 W) (fun W => Ip b bi bl w RES.2 W ∧ Cap W w.heap.size (.pointer (some ⟨b, 0, none⟩)) ∧ Cap W (w.heap.size + 1) (.string p)) ⟨k1, k2⟩ (cm.mono (fun e w' he => ⟨he.1, (Below.refl _ W1).drew.trans he.2⟩)) (fun W hW => ⟨cap_below k1 hW, cap_below k2 hW⟩) ct (fun W hW => hW.2))
  rintro _ w9 ⟨rfl, h9⟩
  go_wp2_with fail
  go_ret
  exact ⟨rfl, h9.1⟩
set_option maxRecDepth 100000 in
set_option maxHeartbeats 2000000 in
theorem iRename_any (b bi bl : Nat) (l : Int) (s : St) (p q : ByteArray) (w : World) (h : Ia b bi bl l w s) (hg : Good s) (ok : Ok s) (hp : p.size ≤ 8000000000000) (hq : q.size ≤ 8000000000000) :
    Calls Tryz.prog 92 #[.pointer (some ⟨b, 0, none⟩), .string p, .string q] w fun e w' => e = .returned (.int .i64 ((renameS s p q).1 : Nat)) ∧ Ip b bi bl w (renameS s p q).2 w' := by
  have hft := h.lt
  have hn := ok.fit.1
  have hst : (done s).2.stamps ≤ 1000000000000 := by rw [done_stamps]; exact ok.stamps
  have eL := done_L s
  rw [rename_step hg]
  obtain ⟨S', hS'⟩ : ∃ S', S' = putS { (done s).2 with L := drop (done s).2.L p } { old s.L p with path := q } := ⟨_, rfl⟩
  rw [← hS']
  have hb1 := (Below.refl w.heap.size w).alloc (Nat.le_refl _) (.cells #[.pointer (some ⟨b, 0, none⟩)] 23)
  have k1 := cap_new w (.pointer (some ⟨b, 0, none⟩)) 23
  have k2 := cap_new (w.alloc (.cells #[.pointer (some ⟨b, 0, none⟩)] 23)) (.string p) 9
  have hs1 : (w.alloc (.cells #[.pointer (some ⟨b, 0, none⟩)] 23)).heap.size = w.heap.size + 1 := by simp
  rw [hs1] at k2
  have hb2 := hb1.alloc (by simp) (.cells #[.string p] 9)
  have k1 := cap_below k1 ((Below.refl _ _).alloc (Nat.le_refl _) (.cells #[.string p] 9))
  have k3 := cap_new ((w.alloc (.cells #[.pointer (some ⟨b, 0, none⟩)] 23)).alloc (.cells #[.string p] 9)) (.string q) 9
  have hs2 : ((w.alloc (.cells #[.pointer (some ⟨b, 0, none⟩)] 23)).alloc (.cells #[.string p] 9)).heap.size = w.heap.size + 1 + 1 := by simp
  rw [hs2] at k3
  have hb2 := hb2.alloc (by simp; omega) (.cells #[.string q] 9)
  have k1 := cap_below k1 ((Below.refl _ _).alloc (Nat.le_refl _) (.cells #[.string q] 9))
  have k2 := cap_below k2 ((Below.refl _ _).alloc (Nat.le_refl _) (.cells #[.string q] 9))
  obtain ⟨W1, hW1⟩ : ∃ W1, W1 = ((w.alloc (.cells #[.pointer (some ⟨b, 0, none⟩)] 23)).alloc (.cells #[.string p] 9)).alloc (.cells #[.string q] 9) := ⟨_, rfl⟩
  rw [← hW1] at k1 k2 k3 hb2
  have hb3 : Below w.heap.size w W1.drew := hb2.drew
  have cm := iMayRename_any b bi bl l s p q W1.drew (h.below hb3) hg.rises ok.fit hp hq
  have hen : ∀ W, (callFunc 125 #[.pointer (some ⟨w.heap.size, 0, none⟩), .pointer (some ⟨w.heap.size + 1, 0, none⟩), .pointer (some ⟨w.heap.size + 1 + 1, 0, none⟩)]).run Tryz.prog W = .ok (.enter 125 #[.pointer (some ⟨w.heap.size, 0, none⟩), .pointer (some ⟨w.heap.size + 1, 0, none⟩), .pointer (some ⟨w.heap.size + 1 + 1, 0, none⟩)]) W :=
    fun W => Rg.entersk Tryz.func125 _ W
  have ct : ∀ W, Below W1.heap.size W1 W → Calls Tryz.prog 69 #[.pointer (some ⟨b, 0, none⟩), .int .i64 (mayRenS s p q : Nat), .func (.func 125) #[] #[.pointer (some ⟨w.heap.size, 0, none⟩), .pointer (some ⟨w.heap.size + 1, 0, none⟩), .pointer (some ⟨w.heap.size + 1 + 1, 0, none⟩)]] W fun e w' => e = .returned (.int .i64 ((stepR s (mayRenS s p q) S').1 : Nat)) ∧
      (Ip b bi bl w (stepR s (mayRenS s p q) S').2 w' ∧ Cap w' w.heap.size (.pointer (some ⟨b, 0, none⟩)) ∧ Cap w' (w.heap.size + 1) (.string p) ∧ Cap w' (w.heap.size + 1 + 1) (.string q)) := by
    intro W hW
    have hbW := below_call hb2 hW
    have j1 := cap_below k1 hW
    have j2 := cap_below k2 hW
    have j3 := cap_below k3 hW
    have hnf : ∀ k, ¬ Ft b bi bl (w.heap.size + k) := fun k hk => by have := hft _ hk; omega
    refine (iStep_any b bi bl l s _ _ _ S' W (h.below hbW) (fun e => (mayRen_ok e).1) ok.steps hen (fun l1 W2 hr _ hI hc => ?_)).mono ?_
    · have m1 := cap_chg j1 hc (fun e => by have := hft b (.inl rfl); omega)
      have m2 := cap_chg j2 hc (fun e => by have := hft b (.inl rfl); omega)
      have m3 := cap_chg j3 hc (fun e => by have := hft b (.inl rfl); omega)
      rw [hS']
      have c9 := iRenameC_any b bi bl _ _ _ l1 _ p q W2 hI (by rw [eL]; exact hg.rises) m1 m2 m3 hp hq (by rw [eL]; exact hn) hst (by rw [eL]; exact (mayRen_ok hr).2)
      rw [eL] at c9 ⊢
      exact c9
    · rintro e w' ⟨rfl, l5, h5, hc5⟩
      exact ⟨rfl, ⟨l5, h5, (Chg.of_below hbW).then hc5⟩, cap_chg j1 hc5 (hnf 0), cap_chg j2 hc5 (hnf 1), cap_chg j3 hc5 (hnf 2)⟩
  generalize stepR s (mayRenS s p q) S' = RES at ct ⊢
  generalize mayRenS s p q = r at cm ct
  have HW1 := Lib.hid hW1
  clear h hg ok hS' hst eL hn hft hb1 hb2 hb3 hen
  go_enter Tryz.func92, Tryz.ntmps92
  go_wp2_with fail
  rw [← HW1.out]
  refine Rg.wp_only ?_ (regRename _ (by kernel_rfl) _ w.heap.size (w.heap.size + 1) (w.heap.size + 1 + 1) (.pointer (some ⟨b, 0, none⟩)) p q r RES.1 W1 (fun W => Below W1.heap.size W1 W) (fun W => Ip b bi bl w RES.2 W ∧ Cap W w.heap.size (.pointer (some ⟨b, 0, none⟩)) ∧ Cap W (w.heap.size + 1) (.string p) ∧ Cap W (w.heap.size + 1 + 1) (.string q)) ⟨k1, k2, k3⟩ (cm.mono (fun e w' he => ⟨he.1, (Below.refl _ W1).drew.trans he.2⟩)) (fun W hW => ⟨cap_below k1 hW, cap_below k2 hW, cap_below k3 hW⟩) ct (fun W hW => hW.2))
  rintro _ w9 ⟨rfl, h9⟩
  go_wp2_with fail
  go_ret
  exact ⟨rfl, h9.1⟩
end Go.Proofs.YtjdfffkkpbabpaaGreat.Dk

namespace Go.Proofs
open Go.Shelf
def Tryz.sortS_ren : Go.Shelf.Ren := ⟨fun | 190 => 97 | 125 => 130 | 258 => 129 | 128 => 157 | 129 => 158 | 302 => 148 | 303 => 149 | 304 => 150 | 305 => 151 | 306 => 152 | 307 => 153 | 308 => 154 | 309 => 155 | 310 => 156 | 333 => 167 | 329 => 168 | 330 => 169 | 334 => 170 | 335 => 171 | 336 => 172 | 344 => 181 | n => n, fun | 31 => 84 | 9 => 9 | 3 => 3 | 46 => 146 | 0 => 0 | 51 => 141 | 53 => 104 | 4 => 4 | 183 => 186 | 182 => 185 | 131 => 135 | 5 => 5 | 218 => 198 | 222 => 202 | 228 => 209 | 229 => 210 | n => n, fun | n => n⟩
theorem Tryz.sortS : Go.Proofs.Lays.n190 Tryz.prog Tryz.sortS_ren := {
  mixed := by kernel_rfl
  f125 := Tryz.func130.trans (congrArg some (by kernel_rfl))
  f128 := Tryz.func157.trans (congrArg some (by kernel_rfl))
  f129 := Tryz.func158.trans (congrArg some (by kernel_rfl))
  f190 := Tryz.func97.trans (congrArg some (by kernel_rfl))
  f258 := Tryz.func129.trans (congrArg some (by kernel_rfl))
  f302 := Tryz.func148.trans (congrArg some (by kernel_rfl))
  f303 := Tryz.func149.trans (congrArg some (by kernel_rfl))
  f304 := Tryz.func150.trans (congrArg some (by kernel_rfl))
  f305 := Tryz.func151.trans (congrArg some (by kernel_rfl))
  f306 := Tryz.func152.trans (congrArg some (by kernel_rfl))
  f307 := Tryz.func153.trans (congrArg some (by kernel_rfl))
  f308 := Tryz.func154.trans (congrArg some (by kernel_rfl))
  f309 := Tryz.func155.trans (congrArg some (by kernel_rfl))
  f310 := Tryz.func156.trans (congrArg some (by kernel_rfl))
  f329 := Tryz.func168.trans (congrArg some (by kernel_rfl))
  f330 := Tryz.func169.trans (congrArg some (by kernel_rfl))
  f333 := Tryz.func167.trans (congrArg some (by kernel_rfl))
  f334 := Tryz.func170.trans (congrArg some (by kernel_rfl))
  f335 := Tryz.func171.trans (congrArg some (by kernel_rfl))
  f336 := Tryz.func172.trans (congrArg some (by kernel_rfl))
  f344 := Tryz.func181.trans (congrArg some (by kernel_rfl))
  t0 := Tryz.underlying0
  a0 := Tryz.isAgg0
  z0 := Tryz.sizeOf0
  v0 := Tryz.zeroValue0
  t3 := Tryz.underlying3
  a3 := Tryz.isAgg3
  z3 := Tryz.sizeOf3
  v3 := Tryz.zeroValue3
  t4 := Tryz.underlying4
  a4 := Tryz.isAgg4
  z4 := Tryz.sizeOf4
  v4 := Tryz.zeroValue4
  t5 := Tryz.underlying5
  a5 := Tryz.isAgg5
  z5 := Tryz.sizeOf5
  v5 := Tryz.zeroValue5
  t9 := Tryz.underlying9
  a9 := Tryz.isAgg9
  z9 := Tryz.sizeOf9
  v9 := Tryz.zeroValue9
  t31 := Tryz.underlying84
  a31 := Tryz.isAgg84
  z31 := Tryz.sizeOf84
  v31 := Tryz.zeroValue84
  t46 := Tryz.underlying146
  a46 := Tryz.isAgg146
  z46 := Tryz.sizeOf146
  v46 := Tryz.zeroValue146
  t51 := Tryz.underlying141
  a51 := Tryz.isAgg141
  z51 := Tryz.sizeOf141
  v51 := Tryz.zeroValue141
  t53 := Tryz.underlying104
  a53 := Tryz.isAgg104
  z53 := Tryz.sizeOf104
  v53 := Tryz.zeroValue104
  t131 := Tryz.underlying135
  a131 := Tryz.isAgg135
  z131 := Tryz.sizeOf135
  v131 := Tryz.zeroValue135
  t182 := Tryz.underlying185
  a182 := Tryz.isAgg185
  z182 := Tryz.sizeOf185
  v182 := Tryz.zeroValue185
  t183 := Tryz.underlying186
  a183 := Tryz.isAgg186
  z183 := Tryz.sizeOf186
  v183 := Tryz.zeroValue186
  t218 := Tryz.underlying198
  a218 := Tryz.isAgg198
  z218 := Tryz.sizeOf198
  v218 := Tryz.zeroValue198
  t222 := Tryz.underlying202
  a222 := Tryz.isAgg202
  z222 := Tryz.sizeOf202
  v222 := Tryz.zeroValue202
  t228 := Tryz.underlying209
  a228 := Tryz.isAgg209
  z228 := Tryz.sizeOf209
  v228 := Tryz.zeroValue209
  t229 := Tryz.underlying210
  a229 := Tryz.isAgg210
  z229 := Tryz.sizeOf210
  v229 := Tryz.zeroValue210 }
end Go.Proofs

namespace Go.Proofs.YtjdfffkkpbabpaaGreat.Dk
open Go.RowKit Tx Pm Go.Sort Go.Lib Go.Shelf
set_option linter.unusedVariables false
theorem rising_perm : ∀ {ts l : List ByteArray}, ts.Perm l → ts.Pairwise (fun a b => Op.bytesLess b.toList a.toList = false) → l.Pairwise (fun a b => Op.bytesLess a.toList b.toList = true) → ts = l
  | ts, [], hp, _, _ => hp.eq_nil
  | [], x :: l, hp, _, _ => absurd hp.symm.eq_nil (by simp)
  | y :: t, x :: l, hp, h1, h2 => by
    obtain ⟨a1, a2⟩ := List.pairwise_cons.1 h1
    obtain ⟨b1, b2⟩ := List.pairwise_cons.1 h2
    have hyx : y = x := by
      rcases List.mem_cons.1 (hp.mem_iff.1 (List.mem_cons_self : y ∈ y :: t)) with e | hy
      · exact e
      · rcases List.mem_cons.1 (hp.mem_iff.2 (List.mem_cons_self : x ∈ x :: l)) with e | hx
        · exact e.symm
        · have := a1 x hx
          rw [b1 y hy] at this
          cases this
    subst hyx
    rw [rising_perm (List.Perm.cons_inv hp) a2 b2]
theorem less_iffS (a b : ByteArray) : Op.bytesLess a.toList b.toList = decide (a.data.toList < b.data.toList) := by
  rw [bytesLess_eq, ByteArray.toList_eq, ByteArray.toList_eq]
theorem merge_sortedS (l : List (List UInt8)) : (l.mergeSort fun x y => decide (x ≤ y)).Pairwise (fun a b => ¬ b < a) := by
  have h := List.pairwise_mergeSort (le := fun x y : List UInt8 => decide (x ≤ y)) (fun a b c h1 h2 => decide_eq_true (List.le_trans (of_decide_eq_true h1) (of_decide_eq_true h2))) (fun a b => by
    rcases List.le_total a b with h | h
    · simp [h]
    · simp [h]) l
  exact h.imp (fun hab => of_decide_eq_true hab)
theorem encSS (l : List ByteArray) : (l.map (·.data.toList)).map encStr = l.map sv := by
  rw [List.map_map]
  refine List.map_congr_left (fun x _ => ?_)
  rfl
theorem encTS (l : List (List UInt8)) : l.map encStr = (l.map tb).map sv := by
  rw [List.map_map]
  rfl
theorem below_sortSS {w : World} {B g q : Nat} {d : Array (List UInt8)} {os : Array Obj} (hg : B ≤ g) (hB : B ≤ w.heap.size) : RowKit.Below B w (grow (putRow encStr (Sort.ahead w q) g 0 d) os) := by
  have h1 : RowKit.Below B w (putRow encStr (Sort.ahead w q) g 0 d) := Lib.below_putRow (RowKit.Below.refl B w) hg
  refine ⟨h1.os, h1.tape, h1.output, by simp, fun k hk => ?_⟩
  rw [heap_grow_old _ _ (by have h2 : (putRow encStr (Sort.ahead w q) g 0 d).heap.size = w.heap.size := by simp
                            omega)]
  exact h1.block k hk
set_option maxRecDepth 100000 in
set_option maxHeartbeats 1000000 in
theorem sortS_any (v : Value) (ss : List ByteArray) (w : World) (B : Nat) (hT : Texts w B v ss) (hB : B ≤ w.heap.size) (hn : ss.length ≤ 4000000000) :
    Calls Tryz.prog 97 #[v] w fun e w' => e = .returned (.tuple #[]) ∧ ∃ ts : List ByteArray, ts.Perm ss ∧ ts.Pairwise (fun a b => Op.bytesLess b.toList a.toList = false) ∧ Texts w' B v ts ∧ RowKit.Below B w w' := by
  have hT2 := hT
  obtain ⟨hlen, h2⟩ := hT2
  rcases h2 with ⟨hv, h0⟩ | ⟨g, cap, cur, hv, hb, hg, hc, hm, hs, ht⟩
  · subst hv
    obtain rfl : ss = [] := List.length_eq_zero_iff.1 h0
    have h := Any.slices_Sort_string_none Tryz.sortS none 0 w
    change Calls Tryz.prog 97 _ _ _ at h
    refine h.mono ?_
    rintro e w' ⟨rfl, rfl⟩
    exact ⟨rfl, [], List.Perm.refl _, List.Pairwise.nil, hT, RowKit.Below.refl _ _⟩
  · subst hv
    have hlt : g < w.heap.size := (Array.getElem?_eq_some_iff.1 hg).1
    obtain ⟨zs, hz⟩ : ∃ zs, zs = ss.map (·.data.toList) := ⟨_, rfl⟩
    have hzl : zs.length = ss.length := by rw [hz, List.length_map]
    have hH : Holds encStr w g 0 zs.toArray := holds_of_block hg (by
      rw [Nat.mul_one] at ht
      rw [hzl, ht, hz, encSS])
    have h := Any.slices_Sort_string Tryz.sortS g 0 cap zs w hH hlt (by omega)
    change Calls Tryz.prog 97 _ _ _ at h
    rw [hzl] at h
    refine h.mono ?_
    rintro e w' ⟨rfl, q, os, rfl⟩
    have hml : (zs.mergeSort fun x y => decide (x ≤ y)).length = zs.length := List.length_mergeSort zs
    refine ⟨rfl, (zs.mergeSort fun x y => decide (x ≤ y)).map tb, ?_, ?_, ?_, below_sortSS hb hB⟩
    · have h1 := (List.mergeSort_perm zs (fun x y => decide (x ≤ y))).map tb
      have h2 : zs.map tb = ss := by
        rw [hz, List.map_map]
        conv => rhs; rw [← List.map_id ss]
        exact List.map_congr_left (fun x _ => tb_of x)
      rwa [h2] at h1
    · rw [List.pairwise_map]
      refine (merge_sortedS zs).imp (fun hab => ?_)
      rw [less_iffS]
      exact decide_eq_false hab
    · have h1 := ownsRow_sorted (ss := zs) (ts := zs.mergeSort fun x y => decide (x ≤ y)) (n := q) (os := os) hml hb hg (by rw [hzl]; exact hc) hm hs
      unfold Texts
      rw [List.length_map, hml, ← encTS, hzl]
      rw [hzl] at h1
      exact h1
end Go.Proofs.YtjdfffkkpbabpaaGreat.Dk

namespace Go.Proofs.YtjdfffkkpbabpaaGreat.Dk
open Go.RowKit Tx Pm Pl Pr
set_option linter.unusedVariables false
theorem own_base {w : World} {B C n size : Nat} {e : TypeId} {v : Value} {xs : List Value} (h : w.ownsRow C e size v n xs) (hB : B ≤ C) : w.ownsRow B e size v n xs := by
  refine ⟨h.1, ?_⟩
  rcases h.2 with h0 | ⟨g, cap, cur, hv, hg, hh, r⟩
  · exact .inl h0
  · exact .inr ⟨g, cap, cur, hv, Nat.le_trans hB hg, hh, r⟩
theorem grown_below {w w1 : World} (h : Below w.heap.size w w1) : w.grownBy w1 none := ⟨h.os, h.tape, h.output, h.size, fun i hi _ => h.block i hi⟩
theorem own_belowT {w w1 : World} {B n size : Nat} {e : TypeId} {v : Value} {xs : List Value} (h : w.ownsRow B e size v n xs) (hb : Below w.heap.size w w1) : w1.ownsRow B e size v n xs := own_kept h (fun g hg => hb.block g (h.lt g hg).2)
def xv (x : It) : Value := .agg #[.int .i64 (kOf x), .string x.data, .string x.kept, .int .i64 (stOf x), .int .i64 x.stamp]
def held (φ : It → Bool) (l : List It) : List ByteArray := (l.filter φ).map (·.path)
theorem held_cons (φ : It → Bool) (x : It) (l : List It) : held φ (x :: l) = (if φ x = true then [x.path] else []) ++ held φ l := by
  unfold held
  cases h : φ x <;> simp [h]
theorem held_perm {φ : It → Bool} {a b : List It} (h : a.Perm b) : (held φ a).Perm (held φ b) := (h.filter φ).map _
theorem held_rises {φ : It → Bool} {l : List It} (h : Rises l) : (held φ l).Pairwise (fun a b => Op.bytesLess a.toList b.toList = true) := by
  unfold held
  rw [List.pairwise_map]
  exact List.Pairwise.filter _ h
theorem held_len (φ : It → Bool) (l : List It) : (held φ l).length ≤ l.length := by
  unfold held
  rw [List.length_map]
  exact List.length_filter_le _ _
set_option maxRecDepth 100000 in
set_option maxHeartbeats 2000000 in
theorem iPaths_any (b bi bl : Nat) (l : Int) (s : St) (f : FuncId) (cap : Array Value) (φ : It → Bool) (w : World) (h : Ia b bi bl l w s) (hR : Rises s.L) (hn : s.L.length ≤ 1000000000) (hps : ∀ x ∈ s.L, x.path.size ≤ 8000000000000)
    (hen : ∀ a1 a2 W, (callFunc f (#[a1, a2] ++ cap)).run Tryz.prog W = .ok (.enter f (#[a1, a2] ++ cap)) W)
    (cf : ∀ W x, Below w.heap.size w W → x ∈ s.L → Calls Tryz.prog f (#[.string x.path, .agg #[.int .i64 (kOf x), .string x.data, .string x.kept, .int .i64 (stOf x), .int .i64 x.stamp]] ++ cap) W fun e w' => e = .returned (.bool (φ x)) ∧ Below W.heap.size W w') :
    Calls Tryz.prog 50 #[.pointer (some ⟨b, 0, none⟩), .func (.func f) #[] cap] w (ListTo (held φ s.L) w) := by
  obtain ⟨i0, hi, hz0, hz1, hz2⟩ := info_parts info9
  obtain ⟨c0, _⟩ := h.cell
  have hm := h.items
  go_enter Tryz.func50, Tryz.ntmps50
  go_wp2_with (at_range; refine range_items _ rfl _ rfl bi s.L rfl hm ?_; intro D w0 hD hrg0 hg0 hs0)
  go_frame
  have HD := Lib.hid hD
  have HR := Lib.hid hR
  have HP := Lib.hid hps
  have HF := Lib.hid cf
  have HH := Lib.hid (fun left => Nat.le_trans (held_len φ (came s.L left)) (List.Sublist.length_le (came_sub s.L left)))
  have hsm : w.heap.size < w0.heap.size := by omega
  have HS := Lib.hid hs0
  clear hD hR hps hs0 cf
  go_loopw [5] (fun v wr => ∃ (left : Lit → Bool) (cnt T : Nat) (out : List ByteArray), wr.ranges Tryz.prog 9 itemR bi w.heap.size s.L.length D left cnt ∧ Hid (out.Perm (held φ (came s.L left))) ∧ Hid (out.length = T) ∧ T ≤ 1000000000 ∧ wr.ownsRow (w.heap.size + 1) 9 1 v T (out.map sv) ∧ Below w.heap.size w wr ∧ w.heap.size < wr.heap.size) (fun _ wr => wr.rangeLeft bi w.heap.size)
  case atStart => exact ⟨_, _, 0, [], hrg0, by show List.Perm _ _; rw [came_start HD.out]; exact List.Perm.refl _, rfl, by omega, World.ownsRow_nil _ _ _ _, (Below.refl _ _).grown hg0 (Nat.le_refl _) (fun j hj => by cases hj), hsm⟩
  case round =>
    obtain ⟨left, cnt, T, out, hrg, hout, hlen, hT, hown, hB, hlt⟩ := hrel
    go_wp2_with (at_next; refine next_items _ rfl _ rfl bi w.heap.size s.L.length D left cnt s.L rfl hrg HD.out ?_ ?_)
    · intro hl
      have hp := hout.out
      rw [came_end s.L hl] at hp
      have hO : Texts wr w.heap.size _ out := own_toT (own_base hown (Nat.le_succ _)) hlen.out
      have hol : out.length ≤ 4000000000 := by rw [hlen.out]; omega
      have cs := sortS_any _ out wr w.heap.size hO hB.size hol
      have HPM := Lib.hid hp
      clear hl hp hO hrg h hout hlen hown hol
      go_wp2_with (go_at_call 97; refine cs.mono ?_; rintro e w5 ⟨rfl, ts, hts, hso, htx, hb5⟩)
      go_ret
      obtain rfl : ts = held φ s.L := rising_perm (hts.trans HPM.out) hso (held_rises HR.out)
      exact ⟨_, rfl, htx, hB.trans hb5⟩
    · intro x w1 cnt1 hx hlx hrg1 hlt1 hg1 hs1 hen1
      have hst := held_perm (φ := φ) (came_step hlx HR.out hx)
      rw [held_cons] at hst
      have hbd := HH.out (less left x.path)
      have hlen2 := hst.length_eq
      have hme : cnt1 < wr.rangeLeft bi w.heap.size := by rw [hrg.left_eq]; exact hlt1
      have hb1 : Below w.heap.size w w1 := below_grown hB hg1 (Nat.le_of_lt hlt) (Nat.le_refl _)
      have hs2 : w.heap.size < w1.heap.size := by omega
      have hrg2 := hrg1.alloc (.cells #[.int .i64 (kOf x), .string x.data, .string x.kept, .int .i64 (stOf x), .int .i64 x.stamp] 100)
      have hb3 := hb1.alloc (Nat.le_of_lt hs2) (.cells #[.int .i64 (kOf x), .string x.data, .string x.kept, .int .i64 (stOf x), .int .i64 x.stamp] 100)
      have cx := HF.out _ x hb3 hx
      have hown1 := hown.kept hg1 (.inr (fun e => by have := (hown.lt _ e).1; omega))
      have HME := Lib.hid hme
      have HS1 := Lib.hid hs1
      clear hs1
      cases hφ : φ x with
      | true =>
        rw [hφ] at cx
        rw [hφ, if_pos rfl, List.length_append, List.length_singleton] at hlen2
        rw [hφ, if_pos rfl] at hst
        have hT2 : T + 1 ≤ 1000000000 := by have := hout.out.length_eq; have := hlen.out; omega
        have hpm : (out ++ [x.path]).Perm (held φ (came s.L (less left x.path))) := (List.perm_append_comm.trans (hout.out.append_left [x.path])).trans hst.symm
        have HPM := Lib.hid hpm
        have HSZ := Lib.hid (show w.heap.size + 1 ≤ w1.heap.size by omega)
        have HLN := Lib.hid (show (out ++ [x.path]).length = T + 1 by rw [List.length_append, hlen.out]; rfl)
        have HB3 := Lib.hid hb3
        clear hst hlen2 hbd hlx hx hpm hout hlen hrg hrg1 hlt1 hg1 hme hown h
        go_wp2_with fail
        refine cx.mono ?_
        rintro e w5 ⟨rfl, hb5⟩
        have hown5 := own_belowT (hown1.alloc (.cells #[.int .i64 (kOf x), .string x.data, .string x.kept, .int .i64 (stOf x), .int .i64 x.stamp] 100)) hb5
        have hB5 := below_call HB3.out hb5
        have hrg5 := hrg2.kept (grown_below hb5) (by simp) (by simp)
        have hz5 : w1.heap.size + 1 ≤ w5.heap.size := by have := hb5.size; simpa using this
        have hS := HSZ.out
        go_wp2_with (at_builtin; refine wpList_append_own _ rfl _ _ 84 rfl (w.heap.size + 1) 9 i0 (.string ⟨#[]⟩) 1 16 Tryz.underlying84 hi hz0 hz1 hz2 rfl (by decide) _ _ _ rfl (hown5.alloc _) ⟨w5.heap.size, 0, none⟩ 1 1 [sv x.path] rfl rfl ?c1_2 ?c2_2 ?c3_2 ?c4_2 ?c5_2 ?_)
        case c1_2 => exact cell_one_new _ _ _
        case c2_2 => exact sv_one [x.path]
        case c3_2 => unfold maxLen; omega
        case c4_2 => omega
        case c5_2 => first | (simp; omega) | omega
        intro v' w6 hown' hgrow _
        have ho6 : w6.ownsRow (w.heap.size + 1) 9 1 v' (T + 1) ((out ++ [x.path]).map sv) := by
          rw [List.map_append]
          exact hown'
        have hB6 : Below w.heap.size w w6 := (hB5.alloc hB5.size _).grown hgrow (by have := hB5.size; simp; omega) (fun k hk => by have := (hown5.lt k hk).1; omega)
        have hlb : bi < w.heap.size := hm.lt
        have hrg6 := (hrg5.alloc (.cells #[.string x.path] 9)).kept hgrow (fun e => by have := (hown5.lt _ e.symm).1; omega) (fun e => by have := (hown5.lt _ e.symm).1; omega)
        have hle6 : w.heap.size < w6.heap.size := by have := hgrow.size; simp at this; omega
        have hme6 : w6.rangeLeft bi w.heap.size < wr.rangeLeft bi w.heap.size := by rw [hrg6.left_eq]; exact HME.out
        have HM6 := Lib.hid hme6
        have HO6 := Lib.hid ho6
        clear hown5 hrg5 hown' hgrow hme6 hown1 hrg2 ho6
        go_wp2_with fail
        go_roundw
        case rel => exact ⟨less left x.path, cnt1, T + 1, out ++ [x.path], hrg6, HPM, HLN, hT2, HO6.out, hB6, hle6⟩
        case measure => exact HM6.out
      | false =>
        rw [hφ] at cx
        rw [hφ, if_neg (by decide), List.nil_append] at hst
        have hpm : out.Perm (held φ (came s.L (less left x.path))) := hout.out.trans hst.symm
        have HPM := Lib.hid hpm
        have HB3 := Lib.hid hb3
        clear hst hlen2 hbd hlx hx hpm hout hrg hrg1 hlt1 hg1 hme hown h
        go_wp2_with fail
        refine cx.mono ?_
        rintro e w5 ⟨rfl, hb5⟩
        have hown5 := own_belowT (hown1.alloc (.cells #[.int .i64 (kOf x), .string x.data, .string x.kept, .int .i64 (stOf x), .int .i64 x.stamp] 100)) hb5
        have hB5 := below_call HB3.out hb5
        have hrg5 := hrg2.kept (grown_below hb5) (by simp) (by simp)
        have hz5 : w1.heap.size + 1 ≤ w5.heap.size := by have := hb5.size; simpa using this
        have hme5 : w5.rangeLeft bi w.heap.size < wr.rangeLeft bi w.heap.size := by rw [hrg5.left_eq]; exact HME.out
        have HM5 := Lib.hid hme5
        clear hme5 hown1 hrg2
        go_wp2_with fail
        go_roundw
        case rel => exact ⟨less left x.path, cnt1, T, out, hrg5, HPM, hlen, hT, hown5, hB5, by omega⟩
        case measure => exact HM5.out
set_option maxRecDepth 100000 in
theorem iRestC_any (x : It) (w : World) :
    Calls Tryz.prog 51 #[.string x.path, .agg #[.int .i64 (kOf x), .string x.data, .string x.kept, .int .i64 (stOf x), .int .i64 x.stamp]] w fun e w' => e = .returned (.bool x.loose) ∧ Below w.heap.size w w' := by
  have HB := Lib.hid (fun o => (Below.refl _ w).alloc (Nat.le_refl _) o)
  have hs : (x.loose = false ∧ stOf x = 0) ∨ (x.loose = true ∧ (stOf x = 1 ∨ stOf x = 2)) := by
    unfold stOf
    cases x.loose <;> cases x.anew <;> simp
  generalize stOf x = T at hs ⊢
  rcases hs with ⟨h1, rfl⟩ | ⟨h1, rfl | rfl⟩ <;> rw [h1]
  all_goals
    clear h1
    go_enter Tryz.func51, Tryz.ntmps51
    go_wp2
    go_ret
    exact ⟨rfl, HB.out _⟩
end Go.Proofs.YtjdfffkkpbabpaaGreat.Dk

namespace Go.Proofs.YtjdfffkkpbabpaaGreat.Dk
open Go.RowKit Tx Pm Pl Pr
set_option linter.unusedVariables false
end Go.Proofs.YtjdfffkkpbabpaaGreat.Dk

namespace Go.Proofs.YtjdfffkkpbabpaaGreat.Dk
open Go.RowKit Tx Pm Pl Pr
set_option linter.unusedVariables false
end Go.Proofs.YtjdfffkkpbabpaaGreat.Dk

namespace Go.Proofs.YtjdfffkkpbabpaaGreat.Dk
open Go.RowKit Tx Pm Pl Pr
set_option linter.unusedVariables false
theorem read_old {s : St} (hg : Good s) (p : ByteArray) (hd : s.down = false) : readS s p = ((old s.L p).data, mbf s.L p) := by
  unfold readS mbf kind old
  rw [hd, if_neg (by decide)]
  cases hf : find s.L p with
  | none => rfl
  | some x =>
    unfold kindOf
    simp only [Option.getD_some]
    by_cases hx : x.dir = true
    · rw [(hg.dirs x (find_mem hf).1 hx).1]
      simp [hx]
    · simp [hx]
set_option maxRecDepth 100000 in
set_option maxHeartbeats 1000000 in
theorem iRead_any (b bi bl : Nat) (l : Int) (s : St) (p : ByteArray) (w : World) (h : Ia b bi bl l w s) (hg : Good s) (hp : p.size ≤ 8000000000000) :
    Calls Tryz.prog 72 #[.pointer (some ⟨b, 0, none⟩), .string p] w fun e w' => e = .returned (.tuple #[.string (readS s p).1, .int .i64 ((readS s p).2 : Nat)]) ∧ Below w.heap.size w w' := by
  have cm := fun n => iMbf_any b bi bl l s p (w.drewN n) (h.below (below_drewN _ _)) hp
  have hl := fun n => (h.below (below_drewN w n)).look (maxLen_of hp)
  obtain ⟨c0, c1, c2, c3, c4, c5⟩ := h.cell
  have hro := read_old hg p
  have hrd : s.down = true → readS s p = (⟨#[]⟩, 14) := fun e => by unfold readS; rw [if_pos e]
  have f1 := fld1
  generalize (old s.L p).data = X0 at hl hro
  generalize (old s.L p).kept = X1 at hl
  generalize stOf (old s.L p) = X2 at hl
  generalize ((old s.L p).stamp : Int) = X3 at hl
  generalize kind s.L p = K at hl
  generalize mbf s.L p = M at cm hro
  generalize readS s p = R at hro hrd ⊢
  generalize s.down = D at c5 hro hrd
  clear h hg c1 c2 c3 c4
  have HB := Lib.hid (fun n => below_drewN w n)
  cases D with
  | true =>
    rw [hrd rfl]
    clear hro hrd cm hl
    go_enter Tryz.func72, Tryz.ntmps72
    go_wp2
    go_ret2
    exact ⟨rfl, Below.refl _ _⟩
  | false =>
    rw [hro rfl]
    clear hro hrd
    go_enter Tryz.func72, Tryz.ntmps72
    go_wp2_with fail
    have hl0 := hl
    go_quiet ((go_at_call 105; exact (cm _).mono (fun _ _ ⟨he, hw⟩ => ⟨he, _, hw.symm⟩)))
    go_wp2
    go_ret2
    exact ⟨rfl, HB.out _⟩
set_option maxRecDepth 100000 in
theorem iArm_any (b bi bl : Nat) (l : Int) (s : St) (m : Int) (w : World) (h : Ia b bi bl l w s) (hm : -9223372036854775808 ≤ m ∧ m ≤ 9223372036854775807) :
    Calls Tryz.prog 17 #[.pointer (some ⟨b, 0, none⟩), .int .i64 m] w fun e w' => e = .returned (.tuple #[]) ∧ Ip b bi bl w { s with armed := if m < 0 then -1 else m } w' := by
  have hc := h.cell
  have hw := h.warm
  have hlow := h.low
  obtain ⟨A, hA⟩ : ∃ A : Int, A = if m < 0 then -1 else m := ⟨_, rfl⟩
  have hAm : A = max m (-1) := by rw [hA]; split <;> omega
  rw [← hA]
  have a1 : Ia b bi bl A (w.setCell ⟨b, 2, none⟩ (.int .i64 A)) { s with armed := A } := h.poke (chg_set _) (own_cells h 2 _ rfl) rfl rfl (.inr rfl) (by omega)
  rw [hAm] at a1 ⊢
  have HE := Lib.hid (show Ip b bi bl w { s with armed := max m (-1) } (w.setCell ⟨b, 2, none⟩ (.int .i64 (max m (-1)))) from ⟨_, a1, (chg_set _).mono ft_b⟩)
  clear a1 h hA hAm
  obtain ⟨c0, c1, c2, c3, c4, c5⟩ := hc
  go_enter Tryz.func17, Tryz.ntmps17
  go_wp2
  go_end0
  exact ⟨rfl, HE.out⟩
set_option maxRecDepth 100000 in
theorem iNew_any (w : World) : Calls Tryz.prog 4 #[] w fun e w' => ∃ b bi bl, e = .returned (.pointer (some ⟨b, 0, none⟩)) ∧ Ia b bi bl (-1) w' newS ∧ (∀ i, Ft b bi bl i → w.heap.size ≤ i) ∧ Below w.heap.size w w' := by
  have hmm := @run_makeMap Tryz.prog
  have b1 := (Below.refl w.heap.size w).alloc (Nat.le_refl _) (.map #[] 0)
  have b2 := b1.alloc (by simp) (.map #[] 0)
  have b3 := b2.alloc (by simp; omega) (.cells #[.map (some w.heap.size), .map (some (w.heap.size + 1)), .int .i64 (-1), .int .i64 0, .int .i64 0, .bool false] 60)
  have hI : Ia (w.heap.size + 1 + 1) w.heap.size (w.heap.size + 1) (-1) (((w.alloc (.map #[] 0)).alloc (.map #[] 0)).alloc (.cells #[.map (some w.heap.size), .map (some (w.heap.size + 1)), .int .i64 (-1), .int .i64 0, .int .i64 0, .bool false] 60)) newS := by
    refine ⟨new_at _ _ (by simp), ?_, ?_, by omega, .inr rfl, by omega⟩
    · refine (mp_made w).kept ?_
      have := (((Below.refl _ (w.alloc (.map #[] 0))).alloc (Nat.le_refl _) (.map #[] 0)).alloc (by simp) (.cells #[.map (some w.heap.size), .map (some (w.heap.size + 1)), .int .i64 (-1), .int .i64 0, .int .i64 0, .bool false] 60)).block w.heap.size (by simp)
      exact this
    · have hl := lm_made (w.alloc (.map #[] 0))
      have e : (w.alloc (.map #[] 0)).heap.size = w.heap.size + 1 := by simp
      rw [e] at hl
      refine hl.kept ?_
      have := ((Below.refl _ ((w.alloc (.map #[] 0)).alloc (.map #[] 0))).alloc (Nat.le_refl _) (.cells #[.map (some w.heap.size), .map (some (w.heap.size + 1)), .int .i64 (-1), .int .i64 0, .int .i64 0, .bool false] 60)).block (w.heap.size + 1) (by simp)
      exact this
  have HE := Lib.hid (show ∃ b bi bl, (Ending.returned (.pointer (some ⟨w.heap.size + 1 + 1, 0, none⟩))) = .returned (.pointer (some ⟨b, 0, none⟩)) ∧ Ia b bi bl (-1) (((w.alloc (.map #[] 0)).alloc (.map #[] 0)).alloc (.cells #[.map (some w.heap.size), .map (some (w.heap.size + 1)), .int .i64 (-1), .int .i64 0, .int .i64 0, .bool false] 60)) newS ∧ (∀ i, Ft b bi bl i → w.heap.size ≤ i) ∧ Below w.heap.size w (((w.alloc (.map #[] 0)).alloc (.map #[] 0)).alloc (.cells #[.map (some w.heap.size), .map (some (w.heap.size + 1)), .int .i64 (-1), .int .i64 0, .int .i64 0, .bool false] 60)) from
    ⟨_, _, _, rfl, hI, fun i hi => by rcases hi with rfl | rfl | rfl <;> omega, b3⟩)
  clear hI b1 b2 b3
  go_enter Tryz.func4, Tryz.ntmps4
  go_wp2
  go_ret
  exact HE.out
end Go.Proofs.YtjdfffkkpbabpaaGreat.Dk

namespace Go.Proofs.YtjdfffkkpbabpaaGreat.Wl
open Go.RowKit Tx Pm Pl Pr Dk Fr
set_option linter.unusedVariables false
theorem does_of' {b bi bl : Nat} {w w' : World} {F : Nat → Prop} {r : Nat × St} {e : Ending} (hg : Dk.Good r.2) (hF : ∀ i, F i ↔ Ft b bi bl i) (h : e = .returned (.int .i64 (r.1 : Nat)) ∧ Ip b bi bl w r.2 w') : e = .returned (.int .i64 (r.1 : Nat)) ∧ Dk.Left (ImpAt b) w F r.2 w' := ⟨h.1, h.2.left hg hF⟩
section
variable {b : Nat} {F : Nat → Prop} {s : St} {w : World}
def Dos (O : World → (Nat → Prop) → St → Prop) (w : World) (F : Nat → Prop) (k : Nat) (s : St) (e : Ending) (w' : World) : Prop := e = .returned (.int .i64 (k : Nat)) ∧ Dk.Left O w F s w'
theorem iw_write {k : Nat} {s' : St} (P Q : ByteArray) (h : ImpAt b w F s) (ok : Ok s) (hP : P.size ≤ 8000000000000) (hQ : Q.size ≤ 1000000000000000000) (hk : writeS s P Q = (k, s')) : Calls Tryz.prog 91 #[.pointer (some ⟨b, 0, none⟩), .string P, .string Q] w (Dos (ImpAt b) w F k s') := by
  obtain ⟨bi, bl, l, hI, hg, hF⟩ := h
  have c := iWrite_any b bi bl l _ P Q _ hI hg ok hP hQ
  have hg' := good_write (p := P) (d := Q) hg
  rw [hk] at c hg'
  exact c.mono fun e w' ht => does_of' (r := (k, s')) hg' hF ht
theorem iw_append {k : Nat} {s' : St} (P Q : ByteArray) (h : ImpAt b w F s) (ok : Ok s) (hP : P.size ≤ 8000000000000) (hQ : Q.size ≤ 1000000000000000000) (hsz : (old s.L P).data.size + Q.size ≤ 1000000000000000000) (hk : appendS s P Q = (k, s')) : Calls Tryz.prog 84 #[.pointer (some ⟨b, 0, none⟩), .string P, .string Q] w (Dos (ImpAt b) w F k s') := by
  obtain ⟨bi, bl, l, hI, hg, hF⟩ := h
  have c := iAppend_any b bi bl l _ P Q _ hI hg ok hP hQ hsz
  have hg' := good_append (p := P) (d := Q) hg
  rw [hk] at c hg'
  exact c.mono fun e w' ht => does_of' (r := (k, s')) hg' hF ht
theorem iw_sync {k : Nat} {s' : St} (P : ByteArray) (h : ImpAt b w F s) (ok : Ok s) (hP : P.size ≤ 8000000000000) (hk : syncS s P = (k, s')) : Calls Tryz.prog 85 #[.pointer (some ⟨b, 0, none⟩), .string P] w (Dos (ImpAt b) w F k s') := by
  obtain ⟨bi, bl, l, hI, hg, hF⟩ := h
  have c := iSync_any b bi bl l _ P _ hI hg ok hP
  have hg' := good_sync (p := P) hg
  rw [hk] at c hg'
  exact c.mono fun e w' ht => does_of' (r := (k, s')) hg' hF ht
theorem iw_rename {k : Nat} {s' : St} (P Q : ByteArray) (h : ImpAt b w F s) (ok : Ok s) (hP : P.size ≤ 8000000000000) (hQ : Q.size ≤ 8000000000000) (hk : renameS s P Q = (k, s')) : Calls Tryz.prog 92 #[.pointer (some ⟨b, 0, none⟩), .string P, .string Q] w (Dos (ImpAt b) w F k s') := by
  obtain ⟨bi, bl, l, hI, hg, hF⟩ := h
  have c := iRename_any b bi bl l _ P Q _ hI hg ok hP hQ
  have hg' := good_rename (f := P) (t := Q) hg
  rw [hk] at c hg'
  exact c.mono fun e w' ht => does_of' (r := (k, s')) hg' hF ht
theorem iw_kind (P : ByteArray) (h : ImpAt b w F s) (hP : P.size ≤ 8000000000000) : Calls Tryz.prog 25 #[.pointer (some ⟨b, 0, none⟩), .string P] w fun e w' => e = .returned (.int .i64 (kind s.L P : Nat)) ∧ w = w' := by
  obtain ⟨bi, bl, l, hI, hg, hF⟩ := h
  exact iKind_any b bi bl l _ P _ hI hP
theorem iw_read (P : ByteArray) (h : ImpAt b w F s) (hP : P.size ≤ 8000000000000) : Calls Tryz.prog 72 #[.pointer (some ⟨b, 0, none⟩), .string P] w fun e w' => e = .returned (.tuple #[.string (readS s P).1, .int .i64 ((readS s P).2 : Nat)]) ∧ Below w.heap.size w w' := by
  obtain ⟨bi, bl, l, hI, hg, hF⟩ := h
  exact iRead_any b bi bl l _ P _ hI hg hP
end
theorem cat_size (p : ByteArray) : (p ++ tT).size = p.size + 2 := ByteArray.size_append
theorem fill_1 {s s1 : St} {p d : ByteArray} {k : Nat} (h1 : writeS s (p ++ tT) d = (k, s1)) (h : k ≠ 0) : fillS s p d = (k, s1) := by
  unfold fillS; rw [h1]; exact if_pos h
theorem fill_2 {s s1 s2 : St} {p d : ByteArray} {k : Nat} (h1 : writeS s (p ++ tT) d = (0, s1)) (h2 : syncS s1 (p ++ tT) = (k, s2)) (h : k ≠ 0) : fillS s p d = (k, s2) := by
  unfold fillS; rw [h1]; simp only [h2]; rw [if_neg (fun h => h rfl), if_pos h]
theorem fill_3 {s s1 s2 : St} {p d : ByteArray} (h1 : writeS s (p ++ tT) d = (0, s1)) (h2 : syncS s1 (p ++ tT) = (0, s2)) : fillS s p d = renameS s2 (p ++ tT) p := by
  unfold fillS; rw [h1]; simp only [h2]; rw [if_neg (fun h => h rfl), if_neg (fun h => h rfl)]
def FillOk (s : St) (p d : ByteArray) : Prop := Ok s ∧ Ok (writeS s (p ++ tT) d).2 ∧ Ok (syncS (writeS s (p ++ tT) d).2 (p ++ tT)).2
set_option maxRecDepth 100000 in
set_option maxHeartbeats 2000000 in
theorem iFill_any (b : Nat) {F : Nat → Prop} {s : St} (p d : ByteArray) (w : World) (h : ImpAt b w F s) (o : FillOk s p d) (hp : p.size ≤ 1000) (hd : d.size ≤ 1000000000000000000) :
    Calls Tryz.prog 43 #[.pointer (some ⟨b, 0, none⟩), .string p, .string d] w (Dos (ImpAt b) w F (fillS s p d).1 (fillS s p d).2) := by
  obtain ⟨o1, o2, o3⟩ := o
  have hcat := cat_size p
  obtain ⟨k1, s1, h1⟩ : ∃ k s1, writeS s (p ++ tT) d = (k, s1) := ⟨_, _, rfl⟩
  rw [h1] at o2 o3
  simp only at o2 o3
  obtain ⟨k2, s2, h2⟩ : ∃ k s2, syncS s1 (p ++ tT) = (k, s2) := ⟨_, _, rfl⟩
  rw [h2] at o3
  simp only at o3
  have c1 : Calls Tryz.prog 91 #[.pointer (some ⟨b, 0, none⟩), .string (p ++ ⟨#[95, 116]⟩), .string d] w (Dos (ImpAt b) w F k1 s1) := iw_write (p ++ tT) d h o1 (by omega) hd h1
  have c2 : ∀ {W F1}, ImpAt b W F1 s1 → Calls Tryz.prog 85 #[.pointer (some ⟨b, 0, none⟩), .string (p ++ ⟨#[95, 116]⟩)] W (Dos (ImpAt b) W F1 k2 s2) := fun {W F1} hW => iw_sync (p ++ tT) hW o2 (by omega) h2
  have c3 : ∀ {W F1}, ImpAt b W F1 s2 → Calls Tryz.prog 92 #[.pointer (some ⟨b, 0, none⟩), .string (p ++ ⟨#[95, 116]⟩), .string p] W (Dos (ImpAt b) W F1 (renameS s2 (p ++ tT) p).1 (renameS s2 (p ++ tT) p).2) := fun {W F1} hW => iw_rename (p ++ tT) p hW o3 (by omega) (by omega) rfl
  by_cases e1 : k1 ≠ 0
  · rw [fill_1 h1 e1]
    have n1 := Dk.ne_eq e1
    clear h o1 o2 o3 c2 c3 h1 h2 e1
    go_enter Tryz.func43, Tryz.ntmps43
    go_wp2_with fail
    go_at_call 91
    refine c1.mono ?_
    rintro e w1 ⟨rfl, hl1⟩
    go_wp2_with fail
    go_ret
    exact ⟨rfl, hl1⟩
  · obtain rfl : k1 = 0 := by omega
    by_cases e2 : k2 ≠ 0
    · rw [fill_2 h1 h2 e2]
      have n2 := Dk.ne_eq e2
      clear h o1 o2 o3 c3 h1 h2 e1 e2
      go_enter Tryz.func43, Tryz.ntmps43
      go_wp2_with fail
      go_at_call 91
      refine c1.mono ?_
      rintro e w1 ⟨rfl, F1, p1, q1, r1⟩
      go_wp2_with fail
      go_at_call 85
      refine (c2 p1).mono ?_
      rintro e w2 ⟨rfl, hl2⟩
      go_wp2_with fail
      go_ret
      exact ⟨rfl, left_trans q1 r1 hl2⟩
    · obtain rfl : k2 = 0 := by omega
      rw [fill_3 h1 h2]
      clear h o1 o2 o3 h1 h2 e1 e2
      go_enter Tryz.func43, Tryz.ntmps43
      go_wp2_with fail
      go_at_call 91
      refine c1.mono ?_
      rintro e w1 ⟨rfl, F1, p1, q1, r1⟩
      go_wp2_with fail
      go_at_call 85
      refine (c2 p1).mono ?_
      rintro e w2 ⟨rfl, hl2⟩
      obtain ⟨F2, p2, q2, r2⟩ := left_trans q1 r1 hl2
      go_wp2_with fail
      go_at_call 92
      refine (c3 p2).mono ?_
      rintro e w3 ⟨rfl, hl3⟩
      go_wp2_with fail
      go_ret
      exact ⟨rfl, left_trans q2 r2 hl3⟩
end Go.Proofs.YtjdfffkkpbabpaaGreat.Wl

namespace Go.Proofs.YtjdfffkkpbabpaaGreat.Wl
open Go.RowKit Tx Pm Dk Fr
set_option linter.unusedVariables false
def Two (j b : Nat) (p : ByteArray) (W : World) : Prop := W.cell? ⟨j, 0, none⟩ = some (.pointer (some ⟨b, 0, none⟩)) ∧ W.cell? ⟨j, 1, none⟩ = some (.string p)
theorem Two.below {j b : Nat} {p : ByteArray} {W W1 : World} (h : Two j b p W) (hb : Below W.heap.size W W1) : Two j b p W1 := by
  have hj := World.block_lt_of_cell? W _ h.1
  exact ⟨(hb.cell (p := ⟨j, 0, none⟩) hj).trans h.1, (hb.cell (p := ⟨j, 1, none⟩) hj).trans h.2⟩
set_option maxRecDepth 100000 in
set_option maxHeartbeats 2000000 in
theorem regIAdd (ops : Array Oper) (hops : ops = (Rg.opsOf Tryz.f38 3)) (id : Nat) (j b : Nat) (p r K : ByteArray) (k : Nat) {u2 u3 u4 u5 u6 u7 u8 u9 u10 u11 u12 u13 u14 u15 u16 u17 u18 u19 u20 u21 u22 u23 u24 u25 u26 u27 u28 u29 u30 u31 u32 u33 u34 u35 u36 u37 u38 u39 u40 u41 u42 u43 u44 : Value} (w : World) (B : World → Prop) (hS : Two j b p w.drew)
    (cp : ∀ W, Calls Tryz.prog 44 #[.string r] W fun e w' => e = .returned (.string K) ∧ Below W.heap.size W w')
    (ca : ∀ W, Below w.drew.heap.size w.drew W → Calls Tryz.prog 84 #[.pointer (some ⟨b, 0, none⟩), .string p, .string K] W fun e w' => e = .returned (.int .i64 (k : Nat)) ∧ B w') (hBS : ∀ W, B W → Two j b p W) :
    (Code.region id ops true).wp Tryz.prog (Rg.Only fun a' w' => a' = ⟨#[(.pointer (some ⟨j, 0, none⟩)), (.string r), u2, u3, u4, (.int .i64 (k : Nat)), u6, u7, u8, (.pointer (some ⟨j, 0, none⟩)), (.pointer (some ⟨j, 0, none⟩)), (.pointer (some ⟨j, 0, none⟩)), (.pointer (some ⟨b, 0, none⟩)), (.pointer (some ⟨j, 0, none⟩)), (.pointer (some ⟨j, 0, none⟩)), (.pointer (some ⟨j, 1, none⟩)), (.string p), (.string r), (.string K), (.int .i64 (k : Nat)), u20, u21, u22, u23, u24, u25, u26, u27, u28, u29, u30, u31, u32, u33, u34, u35, u36, u37, u38, u39, u40, u41, u42, u43, u44], []⟩ ∧ B w') ⟨#[(.pointer (some ⟨j, 0, none⟩)), (.string r), u2, u3, u4, u5, u6, u7, u8, u9, u10, u11, u12, u13, u14, u15, u16, u17, u18, u19, u20, u21, u22, u23, u24, u25, u26, u27, u28, u29, u30, u31, u32, u33, u34, u35, u36, u37, u38, u39, u40, u41, u42, u43, u44], []⟩ w := by
  subst hops
  have hNS : Region.noSelect (Rg.opsOf Tryz.f38 3) = true := by kernel_rfl
  refine wp_region_held_drew (S := Two j b p) (by kernel_rfl) hS (fun hHeld => ?_)
  rw [show (Rg.opsOf Tryz.f38 3).size = 12 by kernel_rfl]
  refine Rg.takek 0 (some 9) (.pointer (some ⟨j, 0, none⟩)) hNS hHeld (Rg.y_movekL (x := .tmp 0)) ?_
  refine Rg.takek 1 (some 10) (.pointer (some ⟨j, 0, none⟩)) hNS hHeld (Rg.y_nilk (x := .tmp 9)) ?_
  refine Rg.takek 2 (some 11) (.pointer (some ⟨j, 0, none⟩)) hNS hHeld (Rg.y_fieldk (T := 137) (k := 0) (x := .tmp 10) (vx := (.pointer (some ⟨j, 0, none⟩))) ?_) ?_
  · (intro w hSw; clear hSw; go_simp)
  refine Rg.takek 3 (some 12) (.pointer (some ⟨b, 0, none⟩)) hNS hHeld (Rg.y_loadk (T := 23) (x := .tmp 11) (vx := (.pointer (some ⟨j, 0, none⟩))) ?_) ?_
  · (intro w hSw; obtain ⟨s0, s1⟩ := hSw; go_simp)
  refine Rg.takek 4 (some 13) (.pointer (some ⟨j, 0, none⟩)) hNS hHeld (Rg.y_movekL (x := .tmp 0)) ?_
  refine Rg.takek 5 (some 14) (.pointer (some ⟨j, 0, none⟩)) hNS hHeld (Rg.y_nilk (x := .tmp 13)) ?_
  refine Rg.takek 6 (some 15) (.pointer (some ⟨j, 1, none⟩)) hNS hHeld (Rg.y_fieldk (T := 137) (k := 1) (x := .tmp 14) (vx := (.pointer (some ⟨j, 0, none⟩))) ?_) ?_
  · (intro w hSw; clear hSw; go_simp)
  refine Rg.takek 7 (some 16) (.string p) hNS hHeld (Rg.y_loadk (T := 9) (x := .tmp 15) (vx := (.pointer (some ⟨j, 1, none⟩))) ?_) ?_
  · (intro w hSw; obtain ⟨s0, s1⟩ := hSw; go_simp)
  refine Rg.takek 8 (some 17) (.string r) hNS hHeld (Rg.y_movekL (x := .tmp 1)) ?_
  refine Rg.callk (fn := Tryz.f44) (xs := #[.tmp 17]) (ats := #[9]) 9 (some 18) 44 #[(.string r)] Tryz.func44 ?_
  refine (cp _).mono ?_
  rintro e w5 ⟨rfl, hb5⟩
  refine ⟨_, rfl, hS.below hb5, fun hHeld => ?_⟩
  refine Rg.callk (fn := Tryz.f84) (xs := #[.tmp 12, .tmp 16, .tmp 18]) (ats := #[23, 9, 9]) 10 (some 19) 84 #[(.pointer (some ⟨b, 0, none⟩)), (.string p), (.string K)] Tryz.func84 ?_
  refine (ca _ hb5).mono ?_
  rintro e w6 ⟨rfl, hB6⟩
  refine ⟨_, rfl, hBS _ hB6, fun hHeld => ?_⟩
  refine Rg.takek 11 (some 5) (.int .i64 (k : Nat)) hNS hHeld (Rg.y_movekR (x := .tmp 19)) ?_
  refine Rg.donek ?_
  exact ⟨by kernel_rfl, hB6⟩
set_option maxRecDepth 100000 in
set_option maxHeartbeats 2000000 in
theorem regRAdd (ops : Array Oper) (hops : ops = (Rg.opsOf Tryz.f41 1)) (id : Nat) (j b : Nat) (p r K : ByteArray) (k : Nat) {u2 u3 u4 u5 u6 u7 u8 u9 u10 u11 u12 u13 u14 u15 u16 u17 u18 u19 u20 u21 u22 u23 u24 u25 u26 u27 u28 u29 u30 u31 u32 u33 u34 u35 u36 u37 u38 u39 u40 : Value} (w : World) (B : World → Prop) (hS : Two j b p w.drew)
    (cp : ∀ W, Calls Tryz.prog 48 #[.string r] W fun e w' => e = .returned (.string K) ∧ Below W.heap.size W w')
    (ca : ∀ W, Below w.drew.heap.size w.drew W → Calls Tryz.prog 87 #[.pointer (some ⟨b, 0, none⟩), .string p, .string K] W fun e w' => e = .returned (.int .i64 (k : Nat)) ∧ B w') (hBS : ∀ W, B W → Two j b p W) :
    (Code.region id ops true).wp Tryz.prog (Rg.Only fun a' w' => a' = ⟨#[(.pointer (some ⟨j, 0, none⟩)), (.string r), u2, u3, u4, (.int .i64 (k : Nat)), (.pointer (some ⟨j, 0, none⟩)), (.pointer (some ⟨j, 0, none⟩)), (.pointer (some ⟨j, 0, none⟩)), (.pointer (some ⟨b, 0, none⟩)), (.pointer (some ⟨j, 0, none⟩)), (.pointer (some ⟨j, 0, none⟩)), (.pointer (some ⟨j, 1, none⟩)), (.string p), (.string r), (.string K), (.int .i64 (k : Nat)), u17, u18, u19, u20, u21, u22, u23, u24, u25, u26, u27, u28, u29, u30, u31, u32, u33, u34, u35, u36, u37, u38, u39, u40], []⟩ ∧ B w') ⟨#[(.pointer (some ⟨j, 0, none⟩)), (.string r), u2, u3, u4, u5, u6, u7, u8, u9, u10, u11, u12, u13, u14, u15, u16, u17, u18, u19, u20, u21, u22, u23, u24, u25, u26, u27, u28, u29, u30, u31, u32, u33, u34, u35, u36, u37, u38, u39, u40], []⟩ w := by
  subst hops
  have hNS : Region.noSelect (Rg.opsOf Tryz.f41 1) = true := by kernel_rfl
  refine wp_region_held_drew (S := Two j b p) (by kernel_rfl) hS (fun hHeld => ?_)
  rw [show (Rg.opsOf Tryz.f41 1).size = 12 by kernel_rfl]
  refine Rg.takek 0 (some 6) (.pointer (some ⟨j, 0, none⟩)) hNS hHeld (Rg.y_movekL (x := .tmp 0)) ?_
  refine Rg.takek 1 (some 7) (.pointer (some ⟨j, 0, none⟩)) hNS hHeld (Rg.y_nilk (x := .tmp 6)) ?_
  refine Rg.takek 2 (some 8) (.pointer (some ⟨j, 0, none⟩)) hNS hHeld (Rg.y_fieldk (T := 86) (k := 0) (x := .tmp 7) (vx := (.pointer (some ⟨j, 0, none⟩))) ?_) ?_
  · (intro w hSw; clear hSw; go_simp)
  refine Rg.takek 3 (some 9) (.pointer (some ⟨b, 0, none⟩)) hNS hHeld (Rg.y_loadk (T := 25) (x := .tmp 8) (vx := (.pointer (some ⟨j, 0, none⟩))) ?_) ?_
  · (intro w hSw; obtain ⟨s0, s1⟩ := hSw; go_simp)
  refine Rg.takek 4 (some 10) (.pointer (some ⟨j, 0, none⟩)) hNS hHeld (Rg.y_movekL (x := .tmp 0)) ?_
  refine Rg.takek 5 (some 11) (.pointer (some ⟨j, 0, none⟩)) hNS hHeld (Rg.y_nilk (x := .tmp 10)) ?_
  refine Rg.takek 6 (some 12) (.pointer (some ⟨j, 1, none⟩)) hNS hHeld (Rg.y_fieldk (T := 86) (k := 1) (x := .tmp 11) (vx := (.pointer (some ⟨j, 0, none⟩))) ?_) ?_
  · (intro w hSw; clear hSw; go_simp)
  refine Rg.takek 7 (some 13) (.string p) hNS hHeld (Rg.y_loadk (T := 9) (x := .tmp 12) (vx := (.pointer (some ⟨j, 1, none⟩))) ?_) ?_
  · (intro w hSw; obtain ⟨s0, s1⟩ := hSw; go_simp)
  refine Rg.takek 8 (some 14) (.string r) hNS hHeld (Rg.y_movekL (x := .tmp 1)) ?_
  refine Rg.callk (fn := Tryz.f48) (xs := #[.tmp 14]) (ats := #[9]) 9 (some 15) 48 #[(.string r)] Tryz.func48 ?_
  refine (cp _).mono ?_
  rintro e w5 ⟨rfl, hb5⟩
  refine ⟨_, rfl, hS.below hb5, fun hHeld => ?_⟩
  refine Rg.callk (fn := Tryz.f87) (xs := #[.tmp 9, .tmp 13, .tmp 15]) (ats := #[25, 9, 9]) 10 (some 16) 87 #[(.pointer (some ⟨b, 0, none⟩)), (.string p), (.string K)] Tryz.func87 ?_
  refine (ca _ hb5).mono ?_
  rintro e w6 ⟨rfl, hB6⟩
  refine ⟨_, rfl, hBS _ hB6, fun hHeld => ?_⟩
  refine Rg.takek 11 (some 5) (.int .i64 (k : Nat)) hNS hHeld (Rg.y_movekR (x := .tmp 16)) ?_
  refine Rg.donek ?_
  exact ⟨by kernel_rfl, hB6⟩
end Go.Proofs.YtjdfffkkpbabpaaGreat.Wl

namespace Go.Proofs.YtjdfffkkpbabpaaGreat.Wl
open Go.RowKit Tx Pm Pl Pr Dk Fr
set_option linter.unusedVariables false
theorem add_1 {x : Jst} {p r : ByteArray} {k : Nat} {s1 : St} (h1 : appendS x.s p (Fm.pk r) = (k, s1)) (h : k ≠ 0) : addS x p r = (k, ⟨s1, x.R, x.dm⟩) := by
  unfold addS; rw [h1]; exact if_pos h
theorem add_2 {x : Jst} {p r : ByteArray} {k : Nat} {s1 s2 : St} (h1 : appendS x.s p (Fm.pk r) = (0, s1)) (h2 : syncS s1 p = (k, s2)) (h : k ≠ 0) : addS x p r = (k, ⟨s2, x.R, x.dm⟩) := by
  unfold addS; rw [h1]; simp only [h2]; rw [if_neg (fun h => h rfl), if_pos h]
theorem add_3 {x : Jst} {p r : ByteArray} {s1 s2 : St} (h1 : appendS x.s p (Fm.pk r) = (0, s1)) (h2 : syncS s1 p = (0, s2)) : addS x p r = (0, ⟨s2, x.R ++ [r], x.dm⟩) := by
  unfold addS; rw [h1]; simp only [h2]; rw [if_neg (fun h => h rfl), if_neg (fun h => h rfl)]
def AddOk (x : Jst) (p r : ByteArray) : Prop := Ok x.s ∧ Ok (appendS x.s p (Fm.pk r)).2 ∧ (old x.s.L p).data.size + (Fm.pk r).size ≤ 1000000000000000000 ∧ r.size ≤ 140737488355300 ∧ x.R.length ≤ 10000000000
theorem JAt.two {O : World → (Nat → Prop) → St → Prop} {T : TypeId} {b j : Nat} {p : ByteArray} {v : Value} {Fd : Nat → Prop} {w : World} {F : Nat → Prop} {x : Jst} (h : JAt O T b j p v Fd w F x) : Two j b p w := ⟨h.cell.1, h.cell.2.1⟩
theorem Mid.two {O : World → (Nat → Prop) → St → Prop} {T : TypeId} {b j : Nat} {p : ByteArray} {v : Value} {w W : World} {F : Nat → Prop} {x : Jst} (h : Mid O T b j p v w F x W) : Two j b p W := by
  obtain ⟨_, _, q, _⟩ := h
  exact q.two
theorem Mid.call {O : World → (Nat → Prop) → St → Prop} (k : Dk.Kind O) {T : TypeId} {b j : Nat} {p : ByteArray} {v : Value} {w W : World} {F : Nat → Prop} {x : Jst} {s' : St} {n : Nat} {f : FuncId} {args : Array Value} (h : Mid O T b j p v w F x W)
    (hc : ∀ {Fd}, O W Fd x.s → Calls Tryz.prog f args W (Dos O W Fd n s')) : Calls Tryz.prog f args W fun e w' => e = .returned (.int .i64 (n : Nat)) ∧ Mid O T b j p v w F ⟨s', x.R, x.dm⟩ w' := by
  obtain ⟨Fd, F', q, h1, h2⟩ := h
  refine (hc q.dsk).mono ?_
  rintro e w' ⟨rfl, hl⟩
  obtain ⟨Fd2, F2, q2, c2, n2⟩ := q.disk_left k hl
  exact ⟨rfl, Mid.trans h1 h2 ⟨Fd2, F2, q2, c2, n2⟩⟩
theorem own_form {w : World} {B size n : Nat} {e : TypeId} {v : Value} {xs : List Value} (h : w.ownsRow B e size v n xs) : ∃ a c, v = .slice a n c := by
  rcases h.2 with ⟨rfl, h0⟩ | ⟨g, cap, cur, rfl, _⟩
  · exact ⟨none, 0, by rw [h0]⟩
  · exact ⟨_, _, rfl⟩
theorem info9 : (Tryz.prog.info? 9).map (fun i => (i.zero, i.size, i.bytes)) = some (some (.string ⟨#[]⟩), 1, 16) := by kernel_rfl
theorem JAt.grown {O : World → (Nat → Prop) → St → Prop} (k : Dk.Kind O) {T : TypeId} {b j : Nat} {p r : ByteArray} {v v' : Value} {Fd : Nat → Prop} {w w0 w1 : World} {F : Nat → Prop} {x : Jst} (h : JAt O T b j p v Fd w F x) (hb : Below w.heap.size w w0)
    (hown : w1.ownsRow 0 9 1 v' (x.R.length + 1) (x.R.map Fr.sv ++ [Fr.sv r])) (hg : (v'.ownBlock = v.ownBlock ∧ w0.grownBy w1 v.ownBlock) ∨ (v'.ownBlock = some w0.heap.size ∧ w0.grownBy w1 none)) :
    (w1.cell? ⟨j, 2, none⟩ = some v ∧ w1.frozen? ⟨j, 2, none⟩ = false) ∧ LeftA (Jn O T b j p) w F ⟨x.s, x.R ++ [r], x.dm⟩ (w1.setCell ⟨j, 2, none⟩ v') := by
  have hj : j < w.heap.size := (Array.getElem?_eq_some_iff.1 h.blk).1
  have hj0 : j < w0.heap.size := Nat.lt_of_lt_of_le hj hb.size
  have hc : Chg (fun i => v.ownBlock = some i) w w1 := by
    rcases hg with ⟨_, g⟩ | ⟨_, g⟩
    · obtain ⟨g1, g2, g3, g4, g5⟩ := g
      exact ⟨g1.trans hb.os, g2.trans hb.tape, g3.trans hb.output, Nat.le_trans hb.size g4, fun i hi hn => (g5 i (Nat.lt_of_lt_of_le hi hb.size) (fun e => hn e.symm)).trans (hb.block i hi)⟩
    · obtain ⟨g1, g2, g3, g4, g5⟩ := g
      exact ⟨g1.trans hb.os, g2.trans hb.tape, g3.trans hb.output, Nat.le_trans hb.size g4, fun i hi hn => (g5 i (Nat.lt_of_lt_of_le hi hb.size) (by simp)).trans (hb.block i hi)⟩
  have hblk : w1.heap[j]? = _ := (hc.block j hj h.ne).trans h.blk
  have hvj : v'.ownBlock ≠ some j := by
    rcases hg with ⟨e, _⟩ | ⟨e, _⟩
    · rw [e]; exact h.ne
    · rw [e]; intro e2; injection e2 with e2; omega
  refine ⟨⟨by unfold World.cell?; rw [hblk]; rfl, by unfold World.frozen?; rw [hblk]; simp⟩, ?_⟩
  refine Mid.left (h.poke k (v' := v') (w1 := w1.setCell ⟨j, 2, none⟩ v') ((hc.mono (fun i hi => .inr hi)).trans ((chg_set (b := j) (k := 2) v').mono (fun i hi => Or.inl hi)) (fun i hi => .inl hi)) ?_ ?_ ?_)
  · rw [set_block hblk]
    rfl
  · have ht : Fr.Texts w1 0 v' (x.R ++ [r]) := by
      unfold Fr.Texts
      rw [List.length_append, List.map_append]
      exact hown
    exact own_kept ht (fun g hgb => set_other v' (fun e => hvj (e ▸ hgb)))
  · intro i hi
    rcases hg with ⟨e, _⟩ | ⟨e, _⟩
    · exact .inl (by rw [← e]; exact hi)
    · rw [e] at hi; injection hi with hi; exact .inr (by rw [← hi]; exact hb.size)
set_option maxRecDepth 100000 in
set_option maxHeartbeats 2000000 in
theorem iAdd_any (b j : Nat) {F Fd : Nat → Prop} {x : Jst} {v : Value} (p r : ByteArray) (w : World) (h : JAt (ImpAt b) 137 b j p v Fd w F x) (o : AddOk x p r) (hp : p.size ≤ 1000) :
    Calls Tryz.prog 38 #[.pointer (some ⟨j, 0, none⟩), .string r] w fun e w' => e = .returned (.int .i64 ((addS x p r).1 : Nat)) ∧ LeftA (Jn (ImpAt b) 137 b j p) w F (addS x p r).2 w' := by
  obtain ⟨o1, o2, o3, o4, o5⟩ := o
  obtain ⟨a0, c0, hform, _⟩ := h.row.form
  have kk := imp_kind b
  have hpk := Fm.pk_size r
  obtain ⟨k1, s1, h1⟩ : ∃ k s1, appendS x.s p (Fm.pk r) = (k, s1) := ⟨_, _, rfl⟩
  rw [h1] at o2
  simp only at o2
  obtain ⟨k2, s2, h2⟩ : ∃ k s2, syncS s1 p = (k, s2) := ⟨_, _, rfl⟩
  have cp := fun W => fPack_any r W o4
  have ca : ∀ W, Below w.drew.heap.size w.drew W → Calls Tryz.prog 84 #[.pointer (some ⟨b, 0, none⟩), .string p, .string (Fm.pk r)] W fun e w' => e = .returned (.int .i64 (k1 : Nat)) ∧ Mid (ImpAt b) 137 b j p v w F ⟨s1, x.R, x.dm⟩ w' := fun W hW =>
    (Mid.of kk h (below_call (Below.refl w.heap.size w).drew hW)).call kk (fun hd => iw_append p (Fm.pk r) hd o1 (by omega) (by omega) o3 h1)
  have cs : ∀ W, Mid (ImpAt b) 137 b j p v w F ⟨s1, x.R, x.dm⟩ W → Calls Tryz.prog 85 #[.pointer (some ⟨b, 0, none⟩), .string p] W.drew fun e w' => e = .returned (.int .i64 (k2 : Nat)) ∧ Mid (ImpAt b) 137 b j p v w F ⟨s2, x.R, x.dm⟩ w' := fun W hW => by
    obtain ⟨Fd', F', q, q2, q3⟩ := hW
    exact (Mid.trans q2 q3 (Mid.of kk q (Below.refl _ W).drew)).call (x := ⟨s1, x.R, x.dm⟩) kk (fun hd => iw_sync p hd o2 (by omega) h2)
  have hS := (h.below kk (Below.refl w.heap.size w).drew).two
  have hBS := fun W (hW : Mid (ImpAt b) 137 b j p v w F ⟨s1, x.R, x.dm⟩ W) => hW.two
  have HS := Lib.hid hS
  have HCA := Lib.hid ca
  have HCS := Lib.hid cs
  have HBS := Lib.hid hBS
  generalize hK : Fm.pk r = K at cp ca HCA h1
  by_cases e1 : k1 ≠ 0
  · rw [add_1 (by rw [hK]; exact h1) e1]
    have n1 := Dk.ne_eq e1
    clear h o1 o2 o3 h1 h2 e1 hS ca cs hBS hK hpk
    go_enter Tryz.func38, Tryz.ntmps38
    go_wp2_with fail
    refine Rg.wp_only ?_ (regIAdd _ (by kernel_rfl) _ j b p r K k1 _ _ HS.out cp HCA.out HBS.out)
    rintro _ w9 ⟨rfl, hB9⟩
    go_wp2_with fail
    go_ret
    exact ⟨rfl, hB9.left⟩
  · obtain rfl : k1 = 0 := by omega
    by_cases e2 : k2 ≠ 0
    · rw [add_2 (by rw [hK]; exact h1) h2 e2]
      have n2 := Dk.ne_eq e2
      clear h o1 o2 o3 h1 h2 e1 e2 hS ca cs hBS hK hpk
      go_enter Tryz.func38, Tryz.ntmps38
      go_wp2_with fail
      refine Rg.wp_only ?_ (regIAdd _ (by kernel_rfl) _ j b p r K 0 _ _ HS.out cp HCA.out HBS.out)
      rintro _ w9 ⟨rfl, hB9⟩
      obtain ⟨t0, t1⟩ := hB9.two
      have c9 := HCS.out _ hB9
      go_wp2_with fail
      go_still_tail 8, (by kernel_rfl)
      change wpList _ _ _ _ _ w9.drew
      go_wp2_with (go_at_call 85; refine c9.mono ?_; rintro e w5 ⟨rfl, h5⟩)
      go_ret
      exact ⟨rfl, h5.left⟩
    · obtain rfl : k2 = 0 := by omega
      rw [add_3 (by rw [hK]; exact h1) h2]
      clear h o1 o2 o3 h1 h2 e1 e2 hS ca cs hBS hK hpk
      obtain ⟨i0, hi, hz0, hz1, hz2⟩ := info_parts info9
      obtain ⟨n0, hn0⟩ : ∃ n0, n0 = x.R.length := ⟨_, rfl⟩
      rw [← hn0] at hform o5
      have HN0 := Lib.hid hn0
      subst hform
      clear hn0
      go_enter Tryz.func38, Tryz.ntmps38
      go_wp2_with fail
      refine Rg.wp_only ?_ (regIAdd _ (by kernel_rfl) _ j b p r K 0 _ _ HS.out cp HCA.out HBS.out)
      rintro _ w9 ⟨rfl, hB9⟩
      obtain ⟨t0, t1⟩ := hB9.two
      have c9 := HCS.out _ hB9
      go_wp2_with fail
      go_still_tail 8, (by kernel_rfl)
      change wpList _ _ _ _ _ w9.drew
      go_wp2_with fail
      go_at_call 85
      refine c9.mono ?_
      rintro e w5 ⟨rfl, Fd5, F5, q5, k5, n5⟩
      obtain ⟨t50, t51, t52, t53⟩ := q5.cell
      have hrow := q5.row
      unfold Fr.Texts at hrow
      have HQ := Lib.hid q5
      clear q5
      rw [← HN0.out] at hrow
      go_wp2_with (at_builtin; refine Ap.wpList_append_two _ rfl _ _ 84 rfl 0 9 i0 (.string ⟨#[]⟩) 1 16 Tryz.underlying84 hi hz0 hz1 hz2 rfl (by decide) (by decide) _ _ _ rfl (hrow.alloc _) ⟨w5.heap.size, 0, none⟩ 1 [Fr.sv r] rfl rfl ?c1 ?c2 ?c3 ?c4 ?c5 ?_)
      case c1 => exact cell_one_new _ _ _
      case c2 => exact Fr.sv_one [r]
      case c3 => omega
      case c4 => omega
      case c5 => exact Nat.zero_le _
      intro v' w6 hown hg
      obtain ⟨a6, c6, rfl⟩ := own_form hown
      obtain ⟨⟨g1, g2⟩, hfin⟩ := HQ.out.grown (r := r) kk ((Below.refl _ w5).alloc (Nat.le_refl _) (.cells #[.string r] 9)) (by rw [← HN0.out]; exact hown) (by rw [World.size_alloc]; exact hg)
      have HFIN := Lib.hid (hfin.trans k5 n5)
      clear hown hg hrow hfin
      go_wp2_with fail
      go_ret
      exact ⟨rfl, HFIN.out⟩
end Go.Proofs.YtjdfffkkpbabpaaGreat.Wl

namespace Go.Proofs.YtjdfffkkpbabpaaGreat.Wl
open Go.RowKit Tx Pm Pl Pr Dk Fr
set_option linter.unusedVariables false
theorem scf_le (s : ByteArray) : ∀ (f a : Nat), a ≤ s.size → (Fm.scf s f a).2.1 ≤ s.size
  | 0, a, h => h
  | f + 1, a, h => by
    by_cases hl : a < s.size
    · obtain ⟨t, n, e, h2⟩ := Fm.trip (Fm.fr (s.extract a s.size))
      by_cases he : e = 0
      · subst he
        have hn := (Fm.fr_ok h2).2.2.1
        have hs : (s.extract a s.size).size = s.size - a := by simp
        rw [Fm.scf_one f hl h2]
        exact scf_le s f (a + n) (by omega)
      · rw [Fm.scf_bad f hl h2 he]
        exact h
    · rw [Fm.scf_end _ hl]
      exact h
theorem sc_le (s : ByteArray) : (Fm.sc s 0).2.1 ≤ s.size := scf_le s _ 0 (Nat.zero_le _)
theorem own_zero {w : World} {B size n : Nat} {e : TypeId} {v : Value} {xs : List Value} (h : w.ownsRow B e size v n xs) : w.ownsRow 0 e size v n xs := by
  refine ⟨h.1, ?_⟩
  rcases h.2 with h0 | ⟨g, cap, cur, hv, hg, r⟩
  · exact .inl h0
  · exact .inr ⟨g, cap, cur, hv, Nat.zero_le _, r⟩
theorem own_base {w : World} {B size n i : Nat} {e : TypeId} {v : Value} {xs : List Value} (h : w.ownsRow B e size v n xs) (hi : v.ownBlock = some i) : B ≤ i := by
  rcases h.2 with ⟨rfl, h0⟩ | ⟨g, cap, cur, rfl, hg, r⟩
  · cases hi
  · have e : g = i := by simpa [Value.ownBlock] using hi
    omega
set_option maxRecDepth 100000 in
set_option maxHeartbeats 2000000 in
theorem iReset_any (b j : Nat) {F Fd : Nat → Prop} {x : Jst} {v : Value} (p : ByteArray) (w : World) (h : JAt (ImpAt b) 137 b j p v Fd w F x) (o : FillOk x.s p ⟨#[]⟩) (hp : p.size ≤ 1000) :
    Calls Tryz.prog 46 #[.pointer (some ⟨j, 0, none⟩)] w fun e w' => e = .returned (.int .i64 ((resetS x p).1 : Nat)) ∧ LeftA (Jn (ImpAt b) 137 b j p) w F (resetS x p).2 w' := by
  have kk := imp_kind b
  obtain ⟨k1, s1, h1⟩ : ∃ k s1, fillS x.s p ⟨#[]⟩ = (k, s1) := ⟨_, _, rfl⟩
  have hM := Mid.of kk h (Below.refl w.heap.size w).drew
  have c1 : Calls Tryz.prog 43 #[.pointer (some ⟨b, 0, none⟩), .string p, .string ⟨#[]⟩] w.drew fun e w' => e = .returned (.int .i64 (k1 : Nat)) ∧ Mid (ImpAt b) 137 b j p v w F ⟨s1, x.R, x.dm⟩ w' := hM.call kk (fun hd => by
    have := iFill_any b p ⟨#[]⟩ w.drew hd o hp (by decide)
    rw [h1] at this
    exact this)
  obtain ⟨t0, t1, _, _⟩ := h.cell
  have hr : resetS x p = if k1 ≠ 0 then (k1, ⟨s1, x.R, x.dm⟩) else (0, ⟨s1, [], x.dm⟩) := by
    unfold resetS
    rw [h1]
  by_cases e1 : k1 ≠ 0
  · rw [hr, if_pos e1]
    have n1 := Dk.ne_eq e1
    clear h o hM e1 h1 hr
    go_enter Tryz.func46, Tryz.ntmps46
    go_wp2_with fail
    go_still_tail 8, (by kernel_rfl)
    change wpList _ _ _ _ _ w.drew
    go_wp2_with fail
    go_at_call 43
    refine c1.mono ?_
    rintro e w5 ⟨rfl, h5⟩
    go_wp2_with fail
    go_ret
    exact ⟨rfl, h5.left⟩
  · obtain rfl : k1 = 0 := by omega
    rw [hr, if_neg (fun h => h rfl)]
    clear h o hM e1 h1 hr
    go_enter Tryz.func46, Tryz.ntmps46
    go_wp2_with fail
    go_still_tail 8, (by kernel_rfl)
    change wpList _ _ _ _ _ w.drew
    go_wp2_with fail
    go_at_call 43
    refine c1.mono ?_
    rintro e w5 ⟨rfl, Fd5, F5, q5, k5, n5⟩
    obtain ⟨t50, t51, t52, t53⟩ := q5.cell
    have hwm := q5.warm 2
    have hfin : LeftA (Jn (ImpAt b) 137 b j p) w F ⟨s1, [], x.dm⟩ (w5.setCell ⟨j, 2, none⟩ (.slice none 0 0)) := by
      refine LeftA.trans k5 n5 (Mid.left (q5.poke kk (v' := .slice none 0 0) ((chg_set (b := j) (k := 2) (.slice none 0 0)).mono (fun i hi => Or.inl hi)) ?_ (World.ownsRow_nil _ _ _ _) (fun i hi => by cases hi)))
      rw [set_block q5.blk]
      rfl
    have HF := Lib.hid hfin
    clear q5 k5 n5 hfin
    go_wp2_with fail
    go_ret
    exact ⟨rfl, HF.out⟩
theorem same_belowW {w w' : World} (h : w = w') : Below w.heap.size w w' := by
  subst h
  exact Below.refl _ _
def OpenOk (s : St) (p : ByteArray) : Prop := (kind s.L p = 0 → FillOk s p ⟨#[]⟩) ∧ (kind s.L p ≠ 0 → (readS s p).1.size ≤ 1000000000000000000 ∧ (Fm.sc (readS s p).1 0).1.length ≤ 10000000000 ∧ ((Fm.sc (readS s p).1 0).2.2 ≠ 0 → FillOk s p ((readS s p).1.extract 0 (Fm.sc (readS s p).1 0).2.1)))
theorem open_0 {s s1 : St} {p : ByteArray} {k : Nat} (h : kind s.L p = 0) (h1 : fillS s p ⟨#[]⟩ = (k, s1)) : openS s p = (k, ⟨s1, [], false⟩) := by
  unfold openS; rw [if_pos h, h1]
theorem open_1 {s : St} {p t : ByteArray} {k : Nat} (h : kind s.L p ≠ 0) (h1 : readS s p = (t, k)) (hk : k ≠ 0) : openS s p = (k, ⟨s, [], false⟩) := by
  unfold openS; rw [if_neg h, h1]; exact if_pos hk
theorem open_2 {s : St} {p t : ByteArray} {R : List ByteArray} {g : Nat} (h : kind s.L p ≠ 0) (h1 : readS s p = (t, 0)) (h2 : Fm.sc t 0 = (R, g, 0)) : openS s p = (0, ⟨s, R, false⟩) := by
  unfold openS; rw [if_neg h, h1]; simp only [h2]; rfl
theorem open_3 {s s1 : St} {p t : ByteArray} {R : List ByteArray} {g e k : Nat} (h : kind s.L p ≠ 0) (h1 : readS s p = (t, 0)) (h2 : Fm.sc t 0 = (R, g, e)) (he : e ≠ 0) (h3 : fillS s p (t.extract 0 g) = (k, s1)) : openS s p = (k, ⟨s1, R, bad e⟩) := by
  unfold openS; rw [if_neg h, h1]; simp only [h2]; rw [if_neg (by show ¬ (0 ≠ 0); decide), if_neg he, h3]
theorem JAt.scanned {O : World → (Nat → Prop) → St → Prop} (k : Dk.Kind O) {T : TypeId} {b j : Nat} {p : ByteArray} {v : Value} {Fd : Nat → Prop} {w w2 : World} {F : Nat → Prop} {s : St} {dm : Bool} {R : List ByteArray} {B : Nat} (h : JAt O T b j p (.slice none 0 0) Fd w F ⟨s, [], false⟩) (hb : Below w.heap.size w w2) (hr : Fr.Texts w2 B v R) (hB : w.heap.size ≤ B) :
    (w2.cell? ⟨j, 2, none⟩ = some (.slice none 0 0) ∧ w2.frozen? ⟨j, 2, none⟩ = false) ∧ ((w2.setCell ⟨j, 2, none⟩ v).cell? ⟨j, 3, none⟩ = some (.bool false) ∧ (w2.setCell ⟨j, 2, none⟩ v).frozen? ⟨j, 3, none⟩ = false) ∧
    Mid O T b j p v w F ⟨s, R, dm⟩ ((w2.setCell ⟨j, 2, none⟩ v).setCell ⟨j, 3, none⟩ (.bool dm)) := by
  have hj : j < w.heap.size := (Array.getElem?_eq_some_iff.1 h.blk).1
  have hblk := (hb.block j hj).trans h.blk
  have hblk3 : (w2.setCell ⟨j, 2, none⟩ v).heap[j]? = some (.cells #[.pointer (some ⟨b, 0, none⟩), .string p, v, .bool false] T (0, 0)) := by
    rw [set_block hblk]
    rfl
  have hvj : v.ownBlock ≠ some j := fun e => by
    have := own_base hr e
    omega
  refine ⟨⟨by unfold World.cell?; rw [hblk]; rfl, by unfold World.frozen?; rw [hblk]; simp⟩, ⟨by unfold World.cell?; rw [hblk3]; rfl, by unfold World.frozen?; rw [hblk3]; simp⟩, ?_⟩
  refine h.poke k (v' := v) (((Chg.of_below hb).trans (F := fun i => i = j ∨ (Value.slice none 0 0).ownBlock = some i) ((chg_set (b := j) (k := 2) v).mono (fun i hi => Or.inl hi)) (fun i hi => .inl hi)).then ((chg_set (b := j) (k := 3) (.bool dm)).mono (fun i hi => Or.inl hi))) ?_ ?_ ?_
  · rw [set_block hblk3]
    rfl
  · exact own_kept (own_kept (own_zero hr) (fun g hg => set_other v (fun e => hvj (by rw [← e]; exact hg)))) (fun g hg => set_other _ (fun e => hvj (by rw [← e]; exact hg)))
  · intro i hi
    have := own_base hr hi
    exact .inr (by omega)
set_option maxRecDepth 100000 in
set_option maxHeartbeats 4000000 in
theorem iBegin_any (b j : Nat) {F Fd : Nat → Prop} {s : St} (p : ByteArray) (w : World) (h : JAt (ImpAt b) 137 b j p (.slice none 0 0) Fd w F ⟨s, [], false⟩) (o : OpenOk s p) (hp : p.size ≤ 1000) :
    Calls Tryz.prog 110 #[.pointer (some ⟨j, 0, none⟩)] w fun e w' => e = .returned (.int .i64 ((openS s p).1 : Nat)) ∧ LeftA (Jn (ImpAt b) 137 b j p) w F (openS s p).2 w' := by
  have kk := imp_kind b
  obtain ⟨o1, o2⟩ := o
  have hd1 := (Below.refl w.heap.size w).drew
  have ck := (iw_kind p (h.below kk hd1).dsk (by omega)).mono fun e w' (hh : _ ∧ w.drew = w') => (⟨hh.1, same_belowW hh.2⟩ : _ ∧ Below w.drew.heap.size w.drew w')
  obtain ⟨t0, t1, _, _⟩ := h.cell
  have hcl : ∀ W, Below w.drew.heap.size w.drew W → W.cell? ⟨j, 0, none⟩ = some (.pointer (some ⟨b, 0, none⟩)) ∧ W.cell? ⟨j, 1, none⟩ = some (.string p) := fun W hW => (h.below kk (below_call hd1 hW)).two
  have HCL := Lib.hid hcl
  clear hcl
  by_cases hk : kind s.L p = 0
  · obtain ⟨k1, s1, h1⟩ : ∃ k s1, fillS s p ⟨#[]⟩ = (k, s1) := ⟨_, _, rfl⟩
    rw [open_0 hk h1]
    have c1 : ∀ W, Below w.drew.heap.size w.drew W → Calls Tryz.prog 43 #[.pointer (some ⟨b, 0, none⟩), .string p, .string ⟨#[]⟩] W.drew fun e w' => e = .returned (.int .i64 (k1 : Nat)) ∧ Mid (ImpAt b) 137 b j p (.slice none 0 0) w F ⟨s1, [], false⟩ w' := fun W hW => (Mid.of kk h (below_call hd1 hW.drew)).call kk (fun hd => by
      have := iFill_any b p ⟨#[]⟩ W.drew hd (o1 hk) hp (by decide)
      rw [h1] at this
      exact this)
    rw [hk] at ck
    clear h o1 o2 hk h1 hd1
    go_enter Tryz.func110, Tryz.ntmps110
    go_wp2_with fail
    go_still_tail 8, (by kernel_rfl)
    change wpList _ _ _ _ _ w.drew
    go_wp2_with fail
    go_at_call 25
    refine ck.mono ?_
    rintro e w4 ⟨rfl, hb4⟩
    obtain ⟨u0, u1⟩ := HCL.out _ hb4
    go_wp2_with fail
    go_still_tail 8, (by kernel_rfl)
    change wpList _ _ _ _ _ w4.drew
    go_wp2_with fail
    go_at_call 43
    refine (c1 _ hb4).mono ?_
    rintro e w5 ⟨rfl, h5⟩
    go_wp2_with fail
    go_ret
    exact ⟨rfl, h5.left⟩
  · have nk := Dk.ne_eq hk
    obtain ⟨q1, q2, q3⟩ := o2 hk
    obtain ⟨t, k, hrd⟩ : ∃ t k, readS s p = (t, k) := ⟨_, _, rfl⟩
    have hd2 : ∀ W, Below w.drew.heap.size w.drew W → Below w.heap.size w W.drew := fun W hW => below_call hd1 hW.drew
    have cr := fun W hW => iw_read p (h.below kk (hd2 W hW)).dsk (by omega)
    rw [hrd] at q1 q2 q3 cr
    simp only at q1 q2 q3 cr
    by_cases hk0 : k ≠ 0
    · rw [open_1 hk hrd hk0]
      have n0 := Dk.ne_eq hk0
      have hfin : ∀ W4 W, Below w.drew.heap.size w.drew W4 → Below W4.drew.heap.size W4.drew W → LeftA (Jn (ImpAt b) 137 b j p) w F ⟨s, [], false⟩ W := fun W4 W h4 hW => (Mid.of kk h (below_call (hd2 _ h4) hW)).left
      have HF := Lib.hid hfin
      generalize kind s.L p = K at ck nk
      clear h o1 o2 hk hd1 hd2 hfin hrd hk0 q1 q2 q3
      go_enter Tryz.func110, Tryz.ntmps110
      go_wp2_with fail
      go_still_tail 8, (by kernel_rfl)
      change wpList _ _ _ _ _ w.drew
      go_wp2_with fail
      go_at_call 25
      refine ck.mono ?_
      rintro e w4 ⟨rfl, hb4⟩
      obtain ⟨u0, u1⟩ := HCL.out _ hb4
      go_wp2_with fail
      go_region_with (go_at_call 72; refine (cr _ hb4).mono ?_; rintro e w5 ⟨rfl, h5⟩)
      all_goals
        go_wp2_with fail
        go_ret
        exact ⟨rfl, HF.out _ _ hb4 h5⟩
    · obtain rfl : k = 0 := by omega
      obtain ⟨R, g, e, hsc⟩ := Fm.trip (Fm.sc t 0)
      have hgl := sc_le t
      have cs := fun W => Fr.fScan_w t W q1 q2
      unfold Fr.ScanTo at cs
      rw [hsc] at q2 q3 hgl cs
      simp only at q2 q3 hgl cs
      have hcell : ∀ W, Below w.heap.size w W → W.cell? ⟨j, 0, none⟩ = some (.pointer (some ⟨b, 0, none⟩)) ∧ W.cell? ⟨j, 1, none⟩ = some (.string p) := fun W hW => (h.below kk hW).two
      have HC := Lib.hid hcell
      have HD2 := Lib.hid hd2
      have HH := Lib.hid h
      have HN := Lib.hid (show R.length ≤ 10000000000 from q2)
      by_cases he : e = 0
      · subst he
        rw [open_2 hk hrd hsc]
        generalize kind s.L p = K at ck nk
        clear h o1 o2 hk hd1 hd2 hrd hk0 q1 q2 q3 hsc hcell
        go_enter Tryz.func110, Tryz.ntmps110
        go_wp2_with fail
        go_still_tail 8, (by kernel_rfl)
        change wpList _ _ _ _ _ w.drew
        go_wp2_with fail
        go_at_call 25
        refine ck.mono ?_
        rintro e w4 ⟨rfl, hb4⟩
        obtain ⟨u0, u1⟩ := HCL.out _ hb4
        go_wp2_with fail
        go_region_with (go_at_call 72; refine (cr _ hb4).mono ?_; rintro e w5 ⟨rfl, h5⟩)
        all_goals
          have hb5 := below_call (HD2.out _ hb4) h5
          go_wp2_with fail
          go_at_call 142
          refine (cs _).mono ?_
          rintro e w6 ⟨v, rfl, htx, hb6'⟩
          have hb6 := below_call hb5 hb6'
          obtain ⟨⟨g1, g2⟩, ⟨g3, g4⟩, hfin⟩ := HH.out.scanned kk (dm := false) hb6 htx hb5.size
          obtain ⟨a6, c6, hv⟩ := own_form htx
          obtain ⟨n6, hn6⟩ : ∃ n6, n6 = R.length := ⟨_, rfl⟩
          rw [← hn6] at hv
          have HFIN := Lib.hid hfin
          clear hn6 htx hfin hb6' h5
          subst hv
          go_wp2_with fail
          go_ret
          exact ⟨rfl, HFIN.out.left⟩
      · have hfk := q3 he
        obtain ⟨k1, s1, h1⟩ : ∃ k s1, fillS s p (t.extract 0 g) = (k, s1) := ⟨_, _, rfl⟩
        rw [open_3 hk hrd hsc he h1]
        have hxs : (t.extract 0 g).size ≤ 1000000000000000000 := by rw [ByteArray.size_extract]; omega
        have c1 : ∀ (v : Value) (dm : Bool) (W : World), Mid (ImpAt b) 137 b j p v w F ⟨s, R, dm⟩ W → Calls Tryz.prog 43 #[.pointer (some ⟨b, 0, none⟩), .string p, .string (t.extract 0 g)] W fun e w' => e = .returned (.int .i64 (k1 : Nat)) ∧ Mid (ImpAt b) 137 b j p v w F ⟨s1, R, dm⟩ w' := fun v dm W hW => hW.call (x := ⟨s, R, dm⟩) kk (fun hd => by
          have := iFill_any b p (t.extract 0 g) W hd hfk hp hxs
          rw [h1] at this
          exact this)
        have HC1 := Lib.hid c1
        have ne0 := Dk.ne_eq he
        have hgz : (g : Int) ≤ (t.size : Int) := by omega
        have hts : (t.size : Int) ≤ 1000000000000000000 := by omega
        have hbad : bad e = (decide (e = 6) || decide (e = 3)) := rfl
        generalize kind s.L p = K at ck nk
        clear h o1 o2 hk hd1 hd2 hrd hk0 q1 q2 q3 hsc hcell hfk h1 hxs c1
        have n6 : ((e : Int) == 6) = decide (e = 6) := by by_cases h : e = 6 <;> simp [h]; omega
        have n3 : ((e : Int) == 3) = decide (e = 3) := by by_cases h : e = 3 <;> simp [h]; omega
        rw [hbad]
        clear hbad he
        generalize decide (e = 6) = b6 at n6 ⊢
        generalize decide (e = 3) = b3 at n3 ⊢
        go_enter Tryz.func110, Tryz.ntmps110
        go_wp2_with fail
        go_still_tail 8, (by kernel_rfl)
        change wpList _ _ _ _ _ w.drew
        go_wp2_with fail
        go_at_call 25
        refine ck.mono ?_
        rintro e w4 ⟨rfl, hb4⟩
        obtain ⟨u0, u1⟩ := HCL.out _ hb4
        go_wp2_with fail
        go_region_with (go_at_call 72; refine (cr _ hb4).mono ?_; rintro e w5 ⟨rfl, h5⟩)
        all_goals
          have hb5 := below_call (HD2.out _ hb4) h5
          go_wp2_with fail
          go_at_call 142
          refine (cs _).mono ?_
          rintro e w6 ⟨v, rfl, htx, hb6'⟩
          have hb6 := below_call hb5 hb6'
          obtain ⟨⟨g1, g2⟩, ⟨g3, g4⟩, hfin⟩ := HH.out.scanned kk (dm := b6 || b3) hb6 htx hb5.size
          have htwo := hfin.two
          obtain ⟨t60, t61⟩ := htwo
          have hfd := hfin.below kk (Below.refl _ _).drew
          have c6 := HC1.out _ _ _ hfd
          obtain ⟨a6, cp6, hv⟩ := own_form htx
          obtain ⟨m6, hm6⟩ : ∃ m6, m6 = R.length := ⟨_, rfl⟩
          rw [← hm6] at hv
          clear hm6 htx hfin hb6' h5 hfd
          subst hv
          cases b6
          · cases b3
            · rw [show (false || false) = false from rfl] at t60 t61 c6
              go_wp2_with fail
              generalize (w6.setCell { block := j, off := 2 } (Value.slice a6 m6 cp6)).setCell { block := j, off := 3 } (Value.bool false) = W7 at t60 t61 c6 ⊢
              go_still_tail 11, (by kernel_rfl)
              change wpList _ _ _ _ _ W7.drew
              go_wp2_with fail
              go_at_call 43
              refine c6.mono ?_
              rintro e w7 ⟨rfl, h7⟩
              go_wp2_with fail
              go_ret
              exact ⟨rfl, h7.left⟩
            · rw [show (false || true) = true from rfl] at t60 t61 c6
              go_wp2_with fail
              generalize (w6.setCell { block := j, off := 2 } (Value.slice a6 m6 cp6)).setCell { block := j, off := 3 } (Value.bool true) = W7 at t60 t61 c6 ⊢
              go_still_tail 11, (by kernel_rfl)
              change wpList _ _ _ _ _ W7.drew
              go_wp2_with fail
              go_at_call 43
              refine c6.mono ?_
              rintro e w7 ⟨rfl, h7⟩
              go_wp2_with fail
              go_ret
              exact ⟨rfl, h7.left⟩
          · cases b3
            · rw [show (true || false) = true from rfl] at t60 t61 c6
              go_wp2_with fail
              generalize (w6.setCell { block := j, off := 2 } (Value.slice a6 m6 cp6)).setCell { block := j, off := 3 } (Value.bool true) = W7 at t60 t61 c6 ⊢
              go_still_tail 11, (by kernel_rfl)
              change wpList _ _ _ _ _ W7.drew
              go_wp2_with fail
              go_at_call 43
              refine c6.mono ?_
              rintro e w7 ⟨rfl, h7⟩
              go_wp2_with fail
              go_ret
              exact ⟨rfl, h7.left⟩
            · rw [show (true || true) = true from rfl] at t60 t61 c6
              go_wp2_with fail
              generalize (w6.setCell { block := j, off := 2 } (Value.slice a6 m6 cp6)).setCell { block := j, off := 3 } (Value.bool true) = W7 at t60 t61 c6 ⊢
              go_still_tail 11, (by kernel_rfl)
              change wpList _ _ _ _ _ W7.drew
              go_wp2_with fail
              go_at_call 43
              refine c6.mono ?_
              rintro e w7 ⟨rfl, h7⟩
              go_wp2_with fail
              go_ret
              exact ⟨rfl, h7.left⟩
end Go.Proofs.YtjdfffkkpbabpaaGreat.Wl

namespace Go.Proofs.YtjdfffkkpbabpaaGreat.Wl
open Go.RowKit Tx Pm Pl Pr Dk Fr
set_option linter.unusedVariables false
def OpenTo (O : World → (Nat → Prop) → St → Prop) (T : TypeId) (b : Nat) (p : ByteArray) (w : World) (F : Nat → Prop) (r : Nat × Jst) (e : Ending) (w' : World) : Prop :=
  (r.1 = 0 ∧ ∃ j, e = .returned (.tuple #[.pointer (some ⟨j, 0, none⟩), .int .i64 0]) ∧ LeftA (Jn O T b j p) w F r.2 w') ∨ (r.1 ≠ 0 ∧ e = .returned (.tuple #[.pointer none, .int .i64 (r.1 : Nat)]) ∧ Dk.Left O w F r.2.s w')
theorem jn_disk {O : World → (Nat → Prop) → St → Prop} {T : TypeId} {b j : Nat} {p : ByteArray} {w w' : World} {F : Nat → Prop} {x : Jst} (h : LeftA (Jn O T b j p) w F x w') : Dk.Left O w F x.s w' := by
  obtain ⟨F', ⟨v, Fd, h1⟩, h2, h3⟩ := h
  exact ⟨Fd, h1.dsk, h2, fun g hg => h3 g ((h1.foot g).2 (.inl hg))⟩
theorem jat_new {O : World → (Nat → Prop) → St → Prop} (k : Dk.Kind O) (T : TypeId) (b : Nat) (p : ByteArray) {w : World} {F : Nat → Prop} {s : St} (h : O w F s) :
    JAt O T b w.heap.size p (.slice none 0 0) F (w.alloc (.cells #[.pointer (some ⟨b, 0, none⟩), .string p, .slice none 0 0, .bool false] T)) (fun i => F i ∨ i = w.heap.size) ⟨s, [], false⟩ :=
  ⟨k.kept h (fun i hi => ((Below.refl w.heap.size w).alloc (Nat.le_refl _) _).block i (k.lt h i hi)), new_at w _ rfl, World.ownsRow_nil _ _ _ _, (fun e => by cases e), fun i hi => ⟨fun e => by have := k.lt h i hi; omega, fun e => by cases e⟩, fun i => ⟨fun hh => hh.imp id (fun e => .inl e), fun hh => by rcases hh with hh | hh | hh; exact .inl hh; exact .inr hh; cases hh⟩⟩
theorem left_new {O : World → (Nat → Prop) → St → Prop} {T : TypeId} {b : Nat} {p : ByteArray} {w W : World} {F : Nat → Prop} {x : Jst} {o : Obj} (h : LeftA (Jn O T b w.heap.size p) (w.alloc o) (fun i => F i ∨ i = w.heap.size) x W) : LeftA (Jn O T b w.heap.size p) w F x W :=
  h.trans (F := F) (Chg.of_below ((Below.refl w.heap.size w).alloc (Nat.le_refl _) o)) (fun g hg => hg.imp id (fun e => Nat.le_of_eq e.symm))
set_option maxRecDepth 100000 in
set_option maxHeartbeats 2000000 in
theorem iOpen_any (b : Nat) {F : Nat → Prop} {s : St} (p : ByteArray) (w : World) (h : ImpAt b w F s) (o : OpenOk s p) (hp : p.size ≤ 1000) :
    Calls Tryz.prog 75 #[.pointer (some ⟨b, 0, none⟩), .string p] w (OpenTo (ImpAt b) 137 b p w F (openS s p)) := by
  have hJ := jat_new (imp_kind b) 137 b p h
  have c := iBegin_any b w.heap.size p _ hJ o hp
  obtain ⟨k, x, hx⟩ : ∃ k x, openS s p = (k, x) := ⟨_, _, rfl⟩
  rw [hx] at c ⊢
  simp only at c
  have hl : ∀ W, LeftA (Jn (ImpAt b) 137 b w.heap.size p) (w.alloc (.cells #[.pointer (some ⟨b, 0, none⟩), .string p, .slice none 0 0, .bool false] 137)) (fun i => F i ∨ i = w.heap.size) x W → LeftA (Jn (ImpAt b) 137 b w.heap.size p) w F x W := fun W hh => left_new hh
  have HL := Lib.hid hl
  by_cases h0 : k ≠ 0
  · have n0 := Dk.ne_eq h0
    have H0 := Lib.hid h0
    clear h hJ o hx hl h0
    go_enter Tryz.func75, Tryz.ntmps75
    go_wp2_with fail
    go_at_call 110
    refine c.mono ?_
    rintro e w5 ⟨rfl, h5⟩
    go_wp2_with fail
    go_ret2
    unfold OpenTo
    exact .inr ⟨H0.out, rfl, jn_disk (HL.out _ h5)⟩
  · obtain rfl : k = 0 := by omega
    clear h hJ o hx hl h0
    go_enter Tryz.func75, Tryz.ntmps75
    go_wp2_with fail
    go_at_call 110
    refine c.mono ?_
    rintro e w5 ⟨rfl, h5⟩
    go_wp2_with fail
    go_ret2
    unfold OpenTo
    exact .inl ⟨rfl, _, rfl, HL.out _ h5⟩
set_option maxRecDepth 100000 in
set_option maxHeartbeats 2000000 in
theorem clone_any (a : Option Addr) (n c : Nat) (l : List ByteArray) (w : World) (h : Fr.Texts w 0 (.slice a n c) l) (hn : n = l.length) (hl : n ≤ 10000000000) :
    Calls Tryz.prog 86 #[.slice a n c] w fun e w' => ∃ v', e = .returned v' ∧ Fr.Texts w' w.heap.size v' l ∧ Below w.heap.size w w' := by
  subst hn
  rcases h.2 with ⟨he, h0⟩ | ⟨g, cap, cur, he, hg, hh, hnc, hcm, _⟩
  · injection he with e1 e2 e3
    subst e1 e3
    have hl0 : l = [] := List.eq_nil_of_length_eq_zero h0
    subst hl0
    clear h h0 e2 hl
    have q24 : ∀ (w : World) (a : Option Addr) (n c n' c' : Nat), (binOp .eql 84 (.slice a n c) (.slice none n' c')).run Tryz.prog w = .ok (.bool a.isNone) w := fun w a n c n' c' => Lib.run_eql_slice_nil w _ _ a n c n' c' Tryz.underlying84
    go_enter Tryz.func86, Tryz.ntmps86
    go_wp2_with fail
    go_ret
    exact ⟨_, rfl, World.ownsRow_nil _ _ _ _, Below.refl _ _⟩
  · injection he with e1 e2 e3
    subst e1 e3
    obtain ⟨i0, hi, hz0, hz1, hz2⟩ := info_parts info9
    have hcells := h.cells (g := g) rfl
    obtain ⟨n, hn⟩ : ∃ n, n = l.length := ⟨_, rfl⟩
    have HN := Lib.hid hn
    have HCC := Lib.hid hcells
    rw [← hn] at hl ⊢
    clear h hh e2 hcells hn hnc hcm
    have q24 : ∀ (w : World) (a : Option Addr) (n c n' c' : Nat), (binOp .eql 84 (.slice a n c) (.slice none n' c')).run Tryz.prog w = .ok (.bool a.isNone) w := fun w a n c n' c' => Lib.run_eql_slice_nil w _ _ a n c n' c' Tryz.underlying84
    go_enter Tryz.func86, Tryz.ntmps86
    go_wp2_with (at_builtin; refine wpList_append_own _ rfl _ _ 84 rfl w.heap.size 9 i0 (.string { data := #[] }) 1 16 Tryz.underlying84 hi hz0 hz1 hz2 rfl (by decide) _ _ _ rfl (World.ownsRow_made w #[] 0 (Nat.le_refl _) (Nat.zero_le _) rfl) ⟨g, 0, none⟩ n c (l.map Fr.sv) rfl ?qc1 ?qc2 ?qc3 ?qc4 ?qc5 ?qc6 ?_)
    case qc1 => rw [List.length_map, ← HN.out, Nat.mul_one]
    case qc2 =>
      intro k u hk
      refine Lib.cell?_alloc_some _ ?_
      exact HCC.out k u hk
    case qc3 => exact Fr.sv_one l
    case qc4 => unfold maxLen; omega
    case qc5 => omega
    case qc6 => simp
    intro v' w1 hown hgrow hnil
    obtain ⟨a1, c1, rfl⟩ := own_form hown
    have hfin : Fr.Texts w1 w.heap.size (.slice a1 n c1) l := by
      unfold Fr.Texts
      rw [← HN.out]
      exact hown
    have hbel : Below w.heap.size w w1 := ((Below.refl _ w).alloc (Nat.le_refl _) _).grown hgrow (by simp) (by intro k hk; simp [Value.ownBlock] at hk; omega)
    have HF := Lib.hid hfin
    have HB := Lib.hid hbel
    clear hown hgrow hnil hfin hbel
    go_wp2_with fail
    go_ret
    exact ⟨_, rfl, HF.out, HB.out⟩
set_option maxRecDepth 100000 in
theorem iRecords_any {O : World → (Nat → Prop) → St → Prop} (k : Dk.Kind O) (b j : Nat) {F Fd : Nat → Prop} {x : Jst} {v : Value} (p : ByteArray) (w : World) (h : JAt O 137 b j p v Fd w F x) (hl : x.R.length ≤ 10000000000) :
    Calls Tryz.prog 40 #[.pointer (some ⟨j, 0, none⟩)] w fun e w' => ∃ v', e = .returned v' ∧ Fr.Texts w' w.heap.size v' x.R ∧ Below w.heap.size w w' := by
  obtain ⟨_, _, t2, _⟩ := h.cell
  obtain ⟨a, c, hv, _⟩ := h.row.form
  obtain ⟨n, hn⟩ : ∃ n, n = x.R.length := ⟨_, rfl⟩
  rw [← hn] at hv hl
  have cc := fun W (hW : Fr.Texts W 0 v x.R) => by
    rw [hv] at hW
    exact clone_any a n c x.R W hW hn hl
  have hrow := h.row
  have ct := cc w hrow
  have HN := Lib.hid hn
  clear h hrow cc hn
  subst hv
  go_enter Tryz.func40, Tryz.ntmps40
  go_wp2_with fail
  go_at_call 86
  refine ct.mono ?_
  rintro e w5 ⟨v5, rfl, h5, hb5⟩
  obtain ⟨a5, c5, hv5, _⟩ := h5.form
  rw [← HN.out] at hv5
  have H5 := Lib.hid h5
  clear h5
  subst hv5
  go_wp2_with fail
  go_ret
  exact ⟨_, rfl, H5.out, hb5⟩
end Go.Proofs.YtjdfffkkpbabpaaGreat.Wl

namespace Go.Proofs.YtjdfffkkpbabpaaGreat.Dk
open Go.RowKit Tx Pm
set_option linter.unusedVariables false
end Go.Proofs.YtjdfffkkpbabpaaGreat.Dk



namespace Go.Proofs.YtjdfffkkpbabpaaGreat.Tx
open Go.RowKit
set_option linter.unusedVariables false
theorem below_drewN {B : Nat} {a w : World} (h : Below B a w) (n : Nat) : Below B a (w.drewN n) := ⟨h.os, h.tape, h.output, h.size, h.block⟩
set_option maxRecDepth 100000 in
set_option maxHeartbeats 1000000 in
theorem same_true (a b : Option Addr) (n ca cb : Nat) (l : List ByteArray) (w : World) (hn : n ≤ 9223372036854775807) (ha : Strs w a n l) (hb : Strs w b n l) :
    Calls Tryz.prog 63 #[.slice a n ca, .slice b n cb] w fun e w' => e = .returned (.bool true) ∧ Below w.heap.size w w' := by
  by_cases h0 : n = 0
  · subst h0
    clear ha hb
    go_enter Tryz.func63, Tryz.ntmps63
    go_wp2_with fail
    go_loop [5] (fun i => i = .int .i64 0) (fun _ => 0)
    case atStart => exact rfl
    case round =>
      obtain rfl := hrel
      go_wp2_with fail
      go_ret
      exact ⟨rfl, Below.refl _ _⟩
  · obtain ⟨hl, ha⟩ := ha
    obtain ⟨ba, oa, rfl, hba, hca⟩ := ha.resolve_left h0
    obtain ⟨bb, ob, rfl, hbb, hcb⟩ := hb.2.resolve_left h0
    have HA := Lib.hid hca
    have HB := Lib.hid hcb
    clear hca hcb ha hb h0
    go_enter Tryz.func63, Tryz.ntmps63
    go_wp2_with fail
    go_loopw [5] (fun i wr => ∃ k : Nat, k ≤ n ∧ i = .int .i64 k ∧ Below w.heap.size w wr) (fun i _ => n - (intOf i).toNat)
    case atStart => exact ⟨0, Nat.zero_le _, rfl, Below.refl _ _⟩
    case round =>
      obtain ⟨k, hk, rfl, hB⟩ := hrel
      by_cases hlt : k < n
      · have c1 := (hB.cell (p := ⟨ba, oa + k, none⟩) hba).trans (HA.out k l[k] (List.getElem?_eq_getElem (by omega)))
        have c2 := (hB.cell (p := ⟨bb, ob + k, none⟩) hbb).trans (HB.out k l[k] (List.getElem?_eq_getElem (by omega)))
        obtain ⟨S, hS⟩ : ∃ S, S = l[k] := ⟨_, rfl⟩
        rw [← hS] at c1 c2
        clear hS hl
        have hlt1 : (k : Int) < (n : Int) := by omega
        go_wp2_with fail
        go_quiet (fail)
        go_wp2_with fail
        go_roundw
        case rel => exact ⟨k + 1, by omega, by go_num, below_drewN hB _⟩
        case measure => simp [intOf]; omega
      · go_wp2_with fail
        go_ret
        exact ⟨rfl, hB⟩
end Go.Proofs.YtjdfffkkpbabpaaGreat.Tx

namespace Go.Proofs.YtjdfffkkpbabpaaGreat.Aq
open Go.RowKit Tx
set_option linter.unusedVariables false
section
variable {P : Program}
theorem append_two (w : World) (base : Nat) (t ty e : TypeId) (i : TypeInfo) (z : Value) (bytes : Nat) (ht : P.underlying t = some (.slice e)) (hi : P.info? e = some i) (hz : i.zero = some z)
    (hsize : i.size = 1) (hby : i.bytes = bytes) (hzs : z.cells.size = 1)
    (v : Value) (n : Nat) (xs : List Value) (hown : w.ownsRow base e 1 v n xs)
    (a : Addr) (c : Nat) (u : Value) (hu : w.cell? a = some u) (h1 : u.oneCell' = true)
    (hn : n + 1 ≤ 1152921504606846976) (hbytes : (n + 1) * bytes ≤ 140737488355328) (hbase : base ≤ w.heap.size) :
    ∃ v' w', (Builtin.append_ #[t, t] ty #[v, .slice (some a) 1 c]).run P w = .ok v' w' ∧ w'.ownsRow base e 1 v' (n + 1) (xs ++ [u]) ∧
      ((v'.ownBlock = v.ownBlock ∧ w.grownBy w' v.ownBlock) ∨ (v'.ownBlock = some w.heap.size ∧ w.grownBy w' none)) := by
  have hnews : ∀ j x, [u][j]? = some x → w.cell? (a.add j) = some x := by
    intro j x hj
    match j, hj with
    | 0, hj =>
      simp at hj
      subst hj
      simpa [Addr.add] using hu
  have hone : ∀ x ∈ [u], x.oneCell' = true := by intro x hx; simp at hx; subst hx; exact h1
  have hlen : (xs ++ [u]).length = (n + 1) * 1 := by rw [List.length_append, hown.1]; simp
  have made : ∀ old, old < n + 1 → (w.drew.alloc (.cells (xs.toArray ++ [u].toArray ++ Builtin.zeroCells z.cells (grownCap w (n + 1) old e - (n + 1))) e)).ownsRow base e 1 (.slice (some ⟨w.heap.size, 0, none⟩) (n + 1) (grownCap w (n + 1) old e)) (n + 1) (xs ++ [u]) ∧
      w.grownBy (w.drew.alloc (.cells (xs.toArray ++ [u].toArray ++ Builtin.zeroCells z.cells (grownCap w (n + 1) old e - (n + 1))) e)) none := by
    intro old _
    have hge := grownCap_ge w (n + 1) old e
    have hcm := grownCap_le_maxLen w (n + 1) old e (by unfold maxLen; omega)
    refine ⟨⟨hlen, .inr ⟨w.heap.size, _, _, rfl, hbase, heap_alloc_new w.drew _, hge, hcm, ?_, ?_⟩⟩, ⟨rfl, rfl, rfl, by simp, fun k hk _ => Below.heap_alloc w.drew _ k hk⟩⟩
    · have h0 := hown.1
      simp only [Array.size_append, List.size_toArray, size_zeroCells, hzs, List.length_singleton]
      omega
    · simp only [Array.toList_append, List.append_assoc]
      rw [← List.append_assoc]
      exact List.take_left' hlen
  rcases hown.2 with ⟨rfl, rfl⟩ | ⟨g, cap, cur, rfl, hbg, hg, hnc, hcm, hcs, htake⟩
  · have hx : xs = [] := List.eq_nil_of_length_eq_zero (by simpa using hown.1)
    subst hx
    have hr := run_append_nil (P := P) w t ty e i z ht hi hz a 1 c [u] (by rw [hsize]; rfl) hnews (by omega) (by omega) (by rw [hby]; have h2 := hbytes; simp only [Nat.zero_add] at h2; omega)
    have hm := made 0 (by omega)
    simp only [Nat.zero_add, List.nil_append, Array.empty_append] at hm ⊢
    exact ⟨_, _, hr, hm.1, .inr ⟨rfl, hm.2⟩⟩
  · by_cases hroom : n + 1 ≤ cap
    · have hfit : n * i.size + [u].length ≤ cur.size := by rw [hsize, hcs]; simp; omega
      have hr := run_append_room (P := P) w t ty e i ht hi g n cap cur hg a 1 c [u] (by rw [hsize]; rfl) hnews hone hroom hfit
      refine ⟨_, _, hr, ⟨hlen, .inr ⟨g, cap, _, rfl, hbg, setRow_heap w g cur _ e _ hg, hroom, hcm, ?_, ?_⟩⟩, .inl ⟨rfl, ⟨rfl, rfl, rfl, by simp, fun k _ hk => setRow_other w g k _ (fun e => hk (by simp [Value.ownBlock, e]))⟩⟩⟩
      · simp only [List.size_toArray, List.length_append, List.length_take, List.length_drop, Array.length_toList, hsize, List.length_singleton]
        simp only [hsize, List.length_singleton] at hfit
        omega
      · rw [hsize, htake]
        exact List.take_left' hlen
    · have hr := run_append_grow (P := P) w t ty e i z ht hi hz ⟨g, 0, none⟩ n cap xs (by rw [hsize]; exact hown.1) (hown.cells (g := g) rfl) a 1 c [u] (by rw [hsize]; rfl) hnews (by omega) (by omega) (growslice_fits (by omega) (by rw [hby]; exact hbytes))
      have hm := made cap (by omega)
      exact ⟨_, _, hr, hm.1, .inr ⟨rfl, hm.2⟩⟩
end
theorem wpList_append_two {P : Program} (w : World) {ops : Array Oper} {rest : List Oper} {o : Oper} {a : Act} {Q : Exit → Act → World → Prop} (hgd : o.guard = none) (s x : Operand) (t : TypeId)
    (ho : o.op = .call { callee := .builtin .append, args := #[s, x], argTypes := #[t, t] })
    (base : Nat) (e : TypeId) (i : TypeInfo) (z : Value) (bytes : Nat) (ht : P.underlying t = some (.slice e)) (hi : P.info? e = some i) (hz : i.zero = some z)
    (hsize : i.size = 1) (hby : i.bytes = bytes) (hzs : z.cells.size = 1)
    (v : Value) (n : Nat) (xs : List Value) (hs : a.eval s = v) (hown : w.ownsRow base e 1 v n xs)
    (ad : Addr) (c : Nat) (u : Value) (hx : a.eval x = .slice (some ad) 1 c) (hu : w.cell? ad = some u) (h1 : u.oneCell' = true)
    (hn : n + 1 ≤ 1152921504606846976) (hbytes : (n + 1) * bytes ≤ 140737488355328) (hbase : base ≤ w.heap.size)
    (h : ∀ v' w', w'.ownsRow base e 1 v' (n + 1) (xs ++ [u]) → ((v'.ownBlock = v.ownBlock ∧ w.grownBy w' v.ownBlock) ∨ (v'.ownBlock = some w.heap.size ∧ w.grownBy w' none)) → wpList P ops Q rest (a.put o.dst v') w') :
    wpList P ops Q (o :: rest) a w := by
  refine wpList_plain hgd fun K hK => ?_
  obtain ⟨v', w', hr, h2, h3⟩ := append_two (P := P) w base t o.type e i z bytes ht hi hz hsize hby hzs v n xs hown ad c u hu h1 hn hbytes hbase
  unfold Oper.wp execOp
  simp only [ho, resolve, invoke, builtin, Sem.run_bind, Sem.run_pure, Result.andThen_ok, List.map_toArray, List.map_cons, List.map_nil, hs, hx, hr]
  exact hK _ _ (h v' w' h2 h3)
theorem own_frozen {w : World} {base g n cap : Nat} {e : TypeId} {xs : List Value} (h : w.ownsRow base e 1 (.slice (some ⟨g, 0, none⟩) n cap) n xs) (k : Nat) : w.frozen? ⟨g, k, none⟩ = false := by
  rcases h.2 with ⟨h0, _⟩ | ⟨g', cap', cur, hv, _, hh, _⟩
  · cases h0
  · injection hv with hg
    injection hg with hg
    injection hg with hg
    subst hg
    simp [World.frozen?, hh]
theorem own_cell {w : World} {base g n cap : Nat} {e : TypeId} {xs : List Value} (h : w.ownsRow base e 1 (.slice (some ⟨g, 0, none⟩) n cap) n xs) {k : Nat} {u : Value} (hk : xs[k]? = some u) : w.cell? ⟨g, k, none⟩ = some u := by
  have := h.cells (g := g) rfl k u hk
  rwa [WideShapes.add_plain, Nat.zero_add] at this
theorem own_store {w : World} {base g n cap : Nat} {e : TypeId} {xs : List Value} (h : w.ownsRow base e 1 (.slice (some ⟨g, 0, none⟩) n cap) n xs) {k : Nat} (hk : k < n) (u : Value) :
    (w.setCell ⟨g, k, none⟩ u).ownsRow base e 1 (.slice (some ⟨g, 0, none⟩) n cap) n (xs.set k u) := by
  refine ⟨by rw [List.length_set]; exact h.1, ?_⟩
  rcases h.2 with ⟨h0, _⟩ | ⟨g', cap', cur, hv, hb, hh, hn, hc, hs, ht⟩
  · cases h0
  · injection hv with hg _ hcap
    injection hg with hg
    injection hg with hg
    subst hg
    subst hcap
    refine .inr ⟨g, cap, cur.setIfInBounds k u, rfl, hb, ?_, hn, hc, by simpa using hs, ?_⟩
    · simp [World.setCell, Array.getElem?_modify, hh]
    · rw [Array.toList_setIfInBounds, List.take_set, ht]
theorem own_far {w : World} {base n : Nat} {e : TypeId} {v : Value} {xs : List Value} (h : w.ownsRow base e 1 v n xs) {g k : Nat} (hne : v.ownBlock ≠ some g) (u : Value) : (w.setCell ⟨g, k, none⟩ u).ownsRow base e 1 v n xs := by
  have hg : w.grownBy (w.setCell ⟨g, k, none⟩ u) (some g) := ⟨rfl, rfl, rfl, by simp [World.setCell], fun j _ hj => Below.heap_setCell w ⟨g, k, none⟩ u j (fun e => hj (by rw [e]))⟩
  exact h.kept hg (.inr hne)
theorem types_ne {w : World} {base b2 n n2 : Nat} {e e2 : TypeId} {v v2 : Value} {xs ys : List Value} (h : w.ownsRow base e 1 v n xs) (h2 : w.ownsRow b2 e2 1 v2 n2 ys) (hne : e ≠ e2) {g : Nat} (hg : v.ownBlock = some g) : v2.ownBlock ≠ some g := by
  rcases h.2 with ⟨rfl, _⟩ | ⟨a, cap, cur, rfl, _, hh, _⟩
  · simp [Value.ownBlock] at hg
  · rcases h2.2 with ⟨rfl, _⟩ | ⟨a2, cap2, cur2, rfl, _, hh2, _⟩
    · simp [Value.ownBlock]
    · simp only [Value.ownBlock, Option.some.injEq] at hg ⊢
      subst hg
      intro he
      injection he with he
      subst he
      rw [hh] at hh2
      injection hh2 with hh2
      injection hh2 with _ ht
      exact hne ht
end Go.Proofs.YtjdfffkkpbabpaaGreat.Aq

namespace Go.Proofs.YtjdfffkkpbabpaaGreat.Aq
open Go.RowKit Tx
set_option linter.unusedVariables false
def MK : ByteArray := ⟨#[97, 98, 99, 100, 101, 102, 103, 104, 105, 106, 107, 108, 109, 110, 111, 112, 113, 114, 115, 116, 117, 118, 119, 120, 121, 122]⟩
def was (j : Nat) : ByteArray := ⟨#[119, 97, 115]⟩ ++ MK.extract (j % 26) (j % 26 + 1)
def new (j : Nat) : ByteArray := ⟨#[110, 101, 119]⟩ ++ MK.extract (j % 26) (j % 26 + 1)
structure Ls where
  m : Nat
  A : Nat → Option Addr
  N : Nat → Nat
  C : Nat → Nat
  bo : Nat
  B : Nat
namespace Ls
variable (L : Ls)
def val (j : Nat) : Value := .slice (L.A j) (L.N j) (L.C j)
def cells (w : World) : Prop := ∀ j, j < L.m → w.cell? ⟨L.bo, j, none⟩ = some (.slice (L.A j) (L.N j) (L.C j))
def far : Prop := (∀ i j, i < L.m → j < L.m → i ≠ j → ∀ x, L.A i = some x → L.A j ≠ some x) ∧ ∀ j, j < L.m → ∀ g, L.A j = some ⟨g, 0, none⟩ → g ≠ L.bo
def marked (w : World) (i k : Nat) : Prop := ∀ j, j < L.m → ∃ xs, w.ownsRow L.B 9 1 (.slice (L.A j) (L.N j) (L.C j)) (L.N j) xs ∧ ∀ l, l < L.N j → (j < i ∨ j = i ∧ l < k) → xs[l]? = some (.string (was j))
end Ls
theorem marked_next {L : Ls} {w : World} {i : Nat} (h : L.marked w i (L.N i)) : L.marked w (i + 1) 0 := by
  intro j hj
  obtain ⟨xs, h1, h2⟩ := h j hj
  refine ⟨xs, h1, fun l hl hh => h2 l hl ?_⟩
  rcases hh with hh | ⟨_, hh⟩
  · by_cases e : j = i
    · subst e; exact .inr ⟨rfl, hl⟩
    · exact .inl (by omega)
  · omega
theorem addr_eq {A : Option Addr} {n c : Nat} {w : World} {B : Nat} {e : TypeId} {xs : List Value} (h : w.ownsRow B e 1 (.slice A n c) n xs) (hn : 0 < n) : ∃ g, A = some ⟨g, 0, none⟩ ∧ B ≤ g := by
  obtain ⟨g, cap, hv, hg, _⟩ := h.form hn
  injection hv with ha
  exact ⟨g, ha, hg⟩
theorem marked_store {L : Ls} {w : World} {i k g : Nat} (hf : L.far) (h : L.marked w i k) (hi : i < L.m) (hk : k < L.N i) (ha : L.A i = some ⟨g, 0, none⟩) : L.marked (w.setCell ⟨g, k, none⟩ (.string (was i))) i (k + 1) := by
  intro j hj
  obtain ⟨xs, h1, h2⟩ := h j hj
  by_cases e : j = i
  · subst e
    rw [ha] at h1 ⊢
    refine ⟨xs.set k (.string (was j)), own_store h1 hk _, fun l hl hh => ?_⟩
    have hl2 : k < xs.length := by rw [h1.1]; omega
    by_cases e2 : l = k
    · subst e2
      exact List.getElem?_set_self hl2
    · rw [List.getElem?_set_ne (fun e => e2 e.symm)]
      exact h2 l hl (.inr ⟨rfl, by rcases hh with hh | ⟨_, hh⟩ <;> omega⟩)
  · refine ⟨xs, own_far h1 ?_ _, fun l hl hh => h2 l hl ?_⟩
    · intro hb
      cases hA : L.A j with
      | none => rw [hA] at hb; simp [Value.ownBlock] at hb
      | some x =>
        by_cases h0 : L.N j = 0
        · rcases h1.2 with ⟨hv, _⟩ | ⟨g', cap', cur, hv, _⟩
          · rw [hA] at hv; cases hv
          · rw [hA] at hv hb
            injection hv with hx
            injection hx with hx
            subst hx
            simp only [Value.ownBlock, Option.some.injEq] at hb
            subst hb
            exact hf.1 j i hj hi e _ hA ha
        · obtain ⟨g', ha', _⟩ := addr_eq h1 (by omega)
          rw [hA] at ha' hb
          injection ha' with hx
          subst hx
          simp only [Value.ownBlock, Option.some.injEq] at hb
          subst hb
          exact hf.1 j i hj hi e _ hA ha
    · rcases hh with hh | ⟨hh, _⟩
      · exact .inl hh
      · exact absurd hh e
theorem cells_store {L : Ls} {w : World} {i k g : Nat} (hf : L.far) (h : L.cells w) (hi : i < L.m) (ha : L.A i = some ⟨g, 0, none⟩) (u : Value) : L.cells (w.setCell ⟨g, k, none⟩ u) := by
  intro j hj
  have hne := hf.2 i hi g ha
  rw [World.cell?_setCell_other _ _ _ _ (fun e => hne (by injection e))]
  exact h j hj
def sw (j : Nat) : Value := .string (was j)
def sn (j : Nat) : Value := .string (new j)
def row (L : Ls) (j k : Nat) : List Value := List.replicate (L.N j) (sw j) ++ List.replicate k (sn j)
theorem row_was {L : Ls} {j k l : Nat} (h : l < L.N j) : (row L j k)[l]? = some (sw j) := by
  rw [row, List.getElem?_append_left (by simpa using h), List.getElem?_replicate, if_pos h]
theorem row_new {L : Ls} {j k l : Nat} (h : ¬ l < L.N j) (h2 : l < L.N j + k) : (row L j k)[l]? = some (sn j) := by
  rw [row, List.getElem?_append_right (by simp; omega), List.length_replicate, List.getElem?_replicate, if_pos (by omega)]
theorem row_zero (L : Ls) (j : Nat) : row L j 0 = List.replicate (L.N j) (sw j) := by simp [row]
theorem row_step (L : Ls) (j k : Nat) : row L j k ++ [sn j] = row L j (k + 1) := by
  rw [row, row, List.append_assoc, List.replicate_succ']
theorem own_same {w w1 : World} {base n : Nat} {e : TypeId} {v : Value} {xs : List Value} (h : w.ownsRow base e 1 v n xs) (hk : ∀ q, q < w.heap.size → v.ownBlock = some q → w1.heap[q]? = w.heap[q]?) : w1.ownsRow base e 1 v n xs := by
  refine ⟨h.1, ?_⟩
  rcases h.2 with h0 | ⟨g, cap, cur, rfl, hb, hh, r⟩
  · exact .inl h0
  · exact .inr ⟨g, cap, cur, rfl, hb, (hk g (Array.getElem?_eq_some_iff.1 hh).1 rfl).trans hh, r⟩
theorem own_lt {w : World} {base n : Nat} {e : TypeId} {v : Value} {xs : List Value} (h : w.ownsRow base e 1 v n xs) {g : Nat} (hg : v.ownBlock = some g) : base ≤ g ∧ g < w.heap.size := h.lt g hg
theorem cell_same {w w1 : World} {g k : Nat} {u : Value} (h : w.cell? ⟨g, k, none⟩ = some u) (hk : w1.heap[g]? = w.heap[g]?) : w1.cell? ⟨g, k, none⟩ = some u := (World.cell?_of_block (a := ⟨g, k, none⟩) hk).trans h
structure Inv (L : Ls) (w0 : World) (H i r : Nat) (w : World) (v6 : Value) (vs : List Value) (b c : Nat → Nat) : Prop where
  cells : L.cells w
  held : ∀ j, j < L.m → ∀ l, l < L.N j → ∃ g, L.A j = some ⟨g, 0, none⟩ ∧ w.cell? ⟨g, l, none⟩ = some (sw j)
  rows : ∀ j, r ≤ j → j < L.m → w.ownsRow L.B 9 1 (.slice (L.A j) (L.N j) (L.C j)) (L.N j) (row L j 0)
  outer : w.ownsRow L.B 84 1 v6 i vs
  high : ∀ g, v6.ownBlock = some g → H ≤ g
  long : ∀ j, j < i → vs[j]? = some (.slice (some ⟨b j, 0, none⟩) (L.N j + 20) (c j)) ∧ w.ownsRow L.B 9 1 (.slice (some ⟨b j, 0, none⟩) (L.N j + 20) (c j)) (L.N j + 20) (row L j 20) ∧ (L.A j = some ⟨b j, 0, none⟩ ∨ H ≤ b j)
  apart : ∀ j k, j < i → k < i → j ≠ k → b j ≠ b k
  low : ∀ j, j < L.m → ∀ g, L.A j = some ⟨g, 0, none⟩ → g < H
  bo : L.bo < H
  size : H ≤ w.heap.size
  below : Below L.B w0 w
  base : L.B ≤ H
structure Cur (L : Ls) (H i k : Nat) (w : World) (v : Value) (b : Nat → Nat) : Prop where
  own : w.ownsRow L.B 9 1 v (L.N i + k) (row L i k)
  at_ : ∀ g, v.ownBlock = some g → (L.A i = some ⟨g, 0, none⟩ ∨ H ≤ g) ∧ ∀ j, j < i → b j ≠ g
theorem inv_start {L : Ls} {w0 w : World} (hf : L.far) (hc : L.cells w) (hm : L.marked w L.m 0) (hbo : L.bo < w.heap.size) (hB : L.B ≤ w.heap.size) (hb : Below L.B w0 w) : Inv L w0 w.heap.size 0 0 w (.slice none 0 0) [] (fun _ => 0) (fun _ => 0) := by
  have hrow : ∀ j, j < L.m → w.ownsRow L.B 9 1 (.slice (L.A j) (L.N j) (L.C j)) (L.N j) (row L j 0) := by
    intro j hj
    obtain ⟨xs, h1, h2⟩ := hm j hj
    have e : xs = row L j 0 := by
      rw [row_zero]
      apply List.ext_getElem?
      intro l
      rw [List.getElem?_replicate]
      by_cases hl : l < L.N j
      · rw [if_pos hl]; exact h2 l hl (.inl hj)
      · rw [if_neg hl, List.getElem?_eq_none (by rw [h1.1]; omega)]
    rw [← e]
    exact h1
  refine ⟨hc, ?_, fun j _ hj => hrow j hj, World.ownsRow_nil _ _ _ _, fun g hg => by simp [Value.ownBlock] at hg, fun j hj => absurd hj (by omega), fun j k hj => absurd hj (by omega), ?_, hbo, Nat.le_refl _, hb, hB⟩
  · intro j hj l hl
    have h1 := hrow j hj
    obtain ⟨g, ha, _⟩ := addr_eq h1 (by omega)
    rw [ha] at h1
    exact ⟨g, ha, own_cell h1 (row_was hl)⟩
  · intro j hj g ha
    have h1 := hrow j hj
    rw [ha] at h1
    exact (own_lt h1 rfl).2
theorem cur_start {L : Ls} {w0 w : World} {H i r : Nat} {v6 : Value} {vs : List Value} {b c : Nat → Nat} (hf : L.far) (h : Inv L w0 H i r w v6 vs b c) (hr : r ≤ i) (hi : i < L.m) : Cur L H i 0 w (.slice (L.A i) (L.N i) (L.C i)) b := by
  have h1 := h.rows i hr hi
  refine ⟨h1, fun g hg => ?_⟩
  have ha : L.A i = some ⟨g, 0, none⟩ := by
    rcases h1.2 with ⟨hv, _⟩ | ⟨g', cap', cur, hv, _⟩
    · rw [hv] at hg; simp [Value.ownBlock] at hg
    · rw [hv] at hg
      simp only [Value.ownBlock, Option.some.injEq] at hg
      subst hg
      injection hv
  refine ⟨.inl ha, fun j hj e => ?_⟩
  rcases (h.long j hj).2.2 with h2 | h2
  · rw [e] at h2
    exact hf.1 j i (by omega) hi (by omega) _ h2 ha
  · have := h.low i hi g ha
    omega
theorem cur_step {L : Ls} {w0 w w1 : World} {H i k r : Nat} {v v1 v6 : Value} {vs : List Value} {b c : Nat → Nat} {o : Obj} (hf : L.far) (h : Inv L w0 H i r w v6 vs b c) (hi : i < L.m) (hc : Cur L H i k w v b)
    (hown : w1.ownsRow L.B 9 1 v1 (L.N i + k + 1) (row L i k ++ [sn i]))
    (hg : (v1.ownBlock = v.ownBlock ∧ (w.alloc o).grownBy w1 v.ownBlock) ∨ (v1.ownBlock = some (w.heap.size + 1) ∧ (w.alloc o).grownBy w1 none)) :
    (∀ q, q < w.heap.size → (∀ g, v.ownBlock = some g → q ≠ g) → w1.heap[q]? = w.heap[q]?) ∧ Cur L H i (k + 1) w1 v1 b ∧ w.heap.size ≤ w1.heap.size ∧ Below L.B w0 w1 ∧
      (∀ q, L.A i = some ⟨q, 0, none⟩ → ∀ l, l < L.N i → w1.cell? ⟨q, l, none⟩ = some (sw i)) := by
  have hB : L.B ≤ w.heap.size := Nat.le_trans h.base h.size
  have hal : w.heap.size + 1 = (w.alloc o).heap.size := (World.size_alloc _ _).symm
  have hk : ∀ q, q < w.heap.size → (∀ g, v.ownBlock = some g → q ≠ g) → w1.heap[q]? = w.heap[q]? := by
    intro q hq hne
    rcases hg with ⟨_, hg⟩ | ⟨_, hg⟩
    · exact (hg.block q (by omega) (fun e => hne q e.symm rfl)).trans (Below.heap_alloc w o q hq)
    · exact (hg.block q (by omega) (by simp)).trans (Below.heap_alloc w o q hq)
  have hown2 : w1.ownsRow L.B 9 1 v1 (L.N i + (k + 1)) (row L i (k + 1)) := by
    rw [← row_step]
    exact hown
  have hsz : w.heap.size ≤ w1.heap.size := by
    rcases hg with ⟨_, hg⟩ | ⟨_, hg⟩
    · have := hg.size; omega
    · have := hg.size; omega
  have hbel : Below L.B w0 w1 := by
    have h2 := h.below.alloc hB o
    rcases hg with ⟨_, hg⟩ | ⟨_, hg⟩
    · exact h2.grown hg (by omega) (fun q hq => (own_lt hc.own hq).1)
    · exact h2.grown hg (by omega) (fun q hq => by cases hq)
  refine ⟨hk, ⟨hown2, fun g hg1 => ?_⟩, hsz, hbel, fun q hq l hl => ?_⟩
  · rcases hg with ⟨he, _⟩ | ⟨he, _⟩
    · exact hc.at_ g (by rw [← he]; exact hg1)
    · rw [he] at hg1
      injection hg1 with hg1
      have hs := h.size
      refine ⟨.inr (by omega), fun j hj e => ?_⟩
      have h9 : b j < w.heap.size := (own_lt (h.long j hj).2.1 rfl).2
      omega
  · by_cases hv : v.ownBlock = some q
    · rcases hg with ⟨he, _⟩ | ⟨_, hg⟩
      · obtain ⟨g', cap', hv', _, _⟩ := hown2.form (by omega)
        rw [hv'] at he hown2
        rw [hv] at he
        simp only [Value.ownBlock, Option.some.injEq] at he
        subst he
        exact own_cell hown2 (row_was hl)
      · obtain ⟨g', hA, hcell⟩ := h.held i hi l hl
        rw [hq] at hA
        injection hA with hA
        injection hA with hA
        subst hA
        have hq' := World.block_lt_of_cell? w _ hcell
        exact cell_same hcell ((hg.block q (by have : q < w.heap.size := hq'; omega) (by simp)).trans (Below.heap_alloc w o q hq'))
    · obtain ⟨g', hA, hcell⟩ := h.held i hi l hl
      rw [hq] at hA
      injection hA with hA
      injection hA with hA
      subst hA
      exact cell_same hcell (hk q (World.block_lt_of_cell? w _ hcell) (fun g hg e => hv (by rw [hg, e])))
theorem inv_step {L : Ls} {w0 w w1 : World} {H i k r : Nat} {v v6 : Value} {vs : List Value} {b c : Nat → Nat} (hf : L.far) (h : Inv L w0 H i r w v6 vs b c) (hi : i < L.m) (hc : Cur L H i k w v b) (rowsi : ∀ j, i < j → j < L.m → w.ownsRow L.B 9 1 (.slice (L.A j) (L.N j) (L.C j)) (L.N j) (row L j 0))
    (hk : ∀ q, q < w.heap.size → (∀ g, v.ownBlock = some g → q ≠ g) → w1.heap[q]? = w.heap[q]?) (hsz : w.heap.size ≤ w1.heap.size) (hbel : Below L.B w0 w1)
    (hi1 : ∀ q, L.A i = some ⟨q, 0, none⟩ → ∀ l, l < L.N i → w1.cell? ⟨q, l, none⟩ = some (sw i)) :
    L.cells w1 ∧ (∀ j, j < L.m → ∀ l, l < L.N j → ∃ g, L.A j = some ⟨g, 0, none⟩ ∧ w1.cell? ⟨g, l, none⟩ = some (sw j)) ∧
      (∀ j, i < j → j < L.m → w1.ownsRow L.B 9 1 (.slice (L.A j) (L.N j) (L.C j)) (L.N j) (row L j 0)) ∧ w1.ownsRow L.B 84 1 v6 i vs ∧
      (∀ j, j < i → vs[j]? = some (.slice (some ⟨b j, 0, none⟩) (L.N j + 20) (c j)) ∧ w1.ownsRow L.B 9 1 (.slice (some ⟨b j, 0, none⟩) (L.N j + 20) (c j)) (L.N j + 20) (row L j 20) ∧ (L.A j = some ⟨b j, 0, none⟩ ∨ H ≤ b j)) := by
  have hs := h.size
  have hbo := h.bo
  refine ⟨fun j hj => ?_, fun j hj l hl => ?_, fun j hij hj => ?_, ?_, fun j hj => ?_⟩
  · refine cell_same (h.cells j hj) (hk L.bo (by omega) (fun g hg e => ?_))
    subst e
    rcases (hc.at_ _ hg).1 with ha | ha
    · exact hf.2 i hi _ ha rfl
    · omega
  · by_cases e : j = i
    · subst e
      obtain ⟨g, ha, _⟩ := h.held j hj l hl
      exact ⟨g, ha, hi1 g ha l hl⟩
    · obtain ⟨g, ha, hcell⟩ := h.held j hj l hl
      refine ⟨g, ha, cell_same hcell (hk g (World.block_lt_of_cell? w _ hcell) (fun q hq e2 => ?_))⟩
      subst e2
      rcases (hc.at_ _ hq).1 with h2 | h2
      · exact hf.1 j i hj hi e _ ha h2
      · have := h.low j hj _ ha
        omega
  · have h1 := rowsi j hij hj
    refine own_same h1 (fun q hq hv => hk q hq (fun g hg e => ?_))
    subst e
    have ha : L.A j = some ⟨q, 0, none⟩ := by
      rcases h1.2 with ⟨hv2, _⟩ | ⟨g', cap', cur, hv2, _⟩
      · rw [hv2] at hv; simp [Value.ownBlock] at hv
      · rw [hv2] at hv
        simp only [Value.ownBlock, Option.some.injEq] at hv
        subst hv
        injection hv2
    rcases (hc.at_ _ hg).1 with h2 | h2
    · exact hf.1 j i hj hi (by omega) _ ha h2
    · have := h.low j hj _ ha
      omega
  · exact own_same h.outer (fun q hq hv => hk q hq (fun g hg e => by
      subst e
      exact types_ne hc.own h.outer (by decide) hg hv))
  · obtain ⟨h1, h2, h3⟩ := h.long j hj
    refine ⟨h1, own_same h2 (fun q hq hv => hk q hq (fun g hg e => ?_)), h3⟩
    simp only [Value.ownBlock, Option.some.injEq] at hv
    subst hv
    exact (hc.at_ g hg).2 j hj e
theorem inv_next {L : Ls} {w0 w w1 : World} {H i bv cv r : Nat} {v6 v7 : Value} {vs : List Value} {b c : Nat → Nat} {o : Obj} (hf : L.far) (h : Inv L w0 H i r w v6 vs b c) (hi : i < L.m) (hc : Cur L H i 20 w (.slice (some ⟨bv, 0, none⟩) (L.N i + 20) cv) b)
    (rowsi : ∀ j, i < j → j < L.m → w.ownsRow L.B 9 1 (.slice (L.A j) (L.N j) (L.C j)) (L.N j) (row L j 0))
    (hown : w1.ownsRow L.B 84 1 v7 (i + 1) (vs ++ [.slice (some ⟨bv, 0, none⟩) (L.N i + 20) cv]))
    (hg : (v7.ownBlock = v6.ownBlock ∧ (w.alloc o).grownBy w1 v6.ownBlock) ∨ (v7.ownBlock = some (w.heap.size + 1) ∧ (w.alloc o).grownBy w1 none)) :
    Inv L w0 H (i + 1) (i + 1) w1 v7 (vs ++ [.slice (some ⟨bv, 0, none⟩) (L.N i + 20) cv]) (fun j => if j = i then bv else b j) (fun j => if j = i then cv else c j) := by
  have hB : L.B ≤ w.heap.size := Nat.le_trans h.base h.size
  have hal : w.heap.size + 1 = (w.alloc o).heap.size := (World.size_alloc _ _).symm
  have hs := h.size
  have hbo := h.bo
  have hvl : vs.length = i := by have := h.outer.1; omega
  have hk : ∀ q, q < w.heap.size → (∀ g, v6.ownBlock = some g → q ≠ g) → w1.heap[q]? = w.heap[q]? := by
    intro q hq hne
    rcases hg with ⟨_, hg⟩ | ⟨_, hg⟩
    · exact (hg.block q (by omega) (fun e => hne q e.symm rfl)).trans (Below.heap_alloc w o q hq)
    · exact (hg.block q (by omega) (by simp)).trans (Below.heap_alloc w o q hq)
  have hsz : w.heap.size ≤ w1.heap.size := by
    rcases hg with ⟨_, hg⟩ | ⟨_, hg⟩
    · have := hg.size; omega
    · have := hg.size; omega
  have hbel : Below L.B w0 w1 := by
    have h2 := h.below.alloc hB o
    rcases hg with ⟨_, hg⟩ | ⟨_, hg⟩
    · exact h2.grown hg (by omega) (fun q hq => (own_lt h.outer hq).1)
    · exact h2.grown hg (by omega) (fun q hq => by cases hq)
  have hrow : ∀ {n : Nat} {v : Value} {xs : List Value}, w.ownsRow L.B 9 1 v n xs → w1.ownsRow L.B 9 1 v n xs := by
    intro n v xs h1
    exact own_same h1 (fun q hq hv => hk q hq (fun g hg e => by
      subst e
      exact types_ne h1 h.outer (by decide) hv hg))
  refine ⟨fun j hj => ?_, fun j hj l hl => ?_, fun j hij hj => hrow (rowsi j (by omega) hj), hown, fun g hg7 => ?_, fun j hj => ?_, fun j k hj hk2 hne => ?_, h.low, hbo, by omega, hbel, h.base⟩
  · refine cell_same (h.cells j hj) (hk L.bo (by omega) (fun g hg e => ?_))
    have := h.high g hg
    omega
  · obtain ⟨g, ha, hcell⟩ := h.held j hj l hl
    refine ⟨g, ha, cell_same hcell (hk g (World.block_lt_of_cell? w _ hcell) (fun q hq e2 => ?_))⟩
    have h1 := h.high q hq
    have h2 := h.low j hj g ha
    omega
  · rcases hg with ⟨he, _⟩ | ⟨he, _⟩
    · exact h.high g (by rw [← he]; exact hg7)
    · rw [he] at hg7
      injection hg7 with hg7
      omega
  · by_cases e : j = i
    · subst e
      rw [if_pos rfl, if_pos rfl]
      refine ⟨?_, hrow hc.own, (hc.at_ bv rfl).1⟩
      rw [List.getElem?_append_right (by omega), hvl, Nat.sub_self]
      rfl
    · rw [if_neg e, if_neg e]
      obtain ⟨h1, h2, h3⟩ := h.long j (by omega)
      refine ⟨?_, hrow h2, h3⟩
      rw [List.getElem?_append_left (by omega)]
      exact h1
  · by_cases e : j = i
    · by_cases e2 : k = i
      · omega
      · rw [if_pos e, if_neg e2]
        exact fun hh => (hc.at_ bv rfl).2 k (by omega) hh.symm
    · by_cases e2 : k = i
      · rw [if_neg e, if_pos e2]
        exact fun hh => (hc.at_ bv rfl).2 j (by omega) hh
      · rw [if_neg e, if_neg e2]
        exact h.apart j k (by omega) (by omega) hne
theorem both_step {L : Ls} {w0 w w1 : World} {H i k r : Nat} {v v1 v6 : Value} {vs : List Value} {b c : Nat → Nat} {o : Obj} (hf : L.far) (h : Inv L w0 H i r w v6 vs b c) (hr : r ≤ i + 1) (hi : i < L.m) (hc : Cur L H i k w v b)
    (hown : w1.ownsRow L.B 9 1 v1 (L.N i + k + 1) (row L i k ++ [sn i]))
    (hg : (v1.ownBlock = v.ownBlock ∧ (w.alloc o).grownBy w1 v.ownBlock) ∨ (v1.ownBlock = some (w.heap.size + 1) ∧ (w.alloc o).grownBy w1 none)) :
    Inv L w0 H i (i + 1) w1 v6 vs b c ∧ Cur L H i (k + 1) w1 v1 b := by
  obtain ⟨hk, hc1, hsz, hbel, hi1⟩ := cur_step hf h hi hc hown hg
  have rowsi := fun j (hij : i < j) (hj : j < L.m) => h.rows j (by omega) hj
  obtain ⟨a1, a2, a3, a4, a5⟩ := inv_step hf h hi hc rowsi hk hsz hbel hi1
  exact ⟨⟨a1, a2, fun j hij hj => a3 j (by omega) hj, a4, h.high, a5, h.apart, h.low, h.bo, Nat.le_trans h.size hsz, hbel, h.base⟩, hc1⟩
theorem outer_next {L : Ls} {w0 w w1 : World} {H i bv cv r : Nat} {v6 v7 : Value} {vs : List Value} {b c : Nat → Nat} {o : Obj} (hf : L.far) (h : Inv L w0 H i r w v6 vs b c) (hr : r ≤ i + 1) (hi : i < L.m) (hc : Cur L H i 20 w (.slice (some ⟨bv, 0, none⟩) (L.N i + 20) cv) b)
    (hown : w1.ownsRow L.B 84 1 v7 (i + 1) (vs ++ [.slice (some ⟨bv, 0, none⟩) (L.N i + 20) cv]))
    (hg : (v7.ownBlock = v6.ownBlock ∧ (w.alloc o).grownBy w1 v6.ownBlock) ∨ (v7.ownBlock = some (w.heap.size + 1) ∧ (w.alloc o).grownBy w1 none)) :
    ∃ b2 c2, Inv L w0 H (i + 1) (i + 1) w1 v7 (vs ++ [.slice (some ⟨bv, 0, none⟩) (L.N i + 20) cv]) b2 c2 :=
  ⟨_, _, inv_next hf h hi hc (fun j hij hj => h.rows j (by omega) hj) hown hg⟩
theorem inv_more {L : Ls} {w0 w : World} {H i r : Nat} {v6 : Value} {vs : List Value} {b c : Nat → Nat} (h : Inv L w0 H i r w v6 vs b c) (hr : r ≤ i + 1) : Inv L w0 H i (i + 1) w v6 vs b c :=
  ⟨h.cells, h.held, fun j hij hj => h.rows j (by omega) hj, h.outer, h.high, h.long, h.apart, h.low, h.bo, h.size, h.below, h.base⟩
end Go.Proofs.YtjdfffkkpbabpaaGreat.Aq

namespace Go.Proofs.YtjdfffkkpbabpaaGreat.Aq
open Go.RowKit Tx
set_option linter.unusedVariables false
theorem info33 : (Tryz.prog.info? 84).map (fun i => (i.zero, i.size, i.bytes)) = some (some (.slice none 0 0), 1, 24) := by kernel_rfl
set_option maxRecDepth 100000 in
set_option maxHeartbeats 4000000 in
theorem apart_any (L : Ls) (co : Nat) (w : World) (hm : L.m ≤ 1048576) (hN : ∀ j, j < L.m → L.N j ≤ 10000000000) (hB : L.B ≤ w.heap.size) (hbo : L.bo < w.heap.size) (hbB : L.B ≤ L.bo) (hf : L.far) (hc : L.cells w) (hr : L.marked w 0 0) :
    Calls Tryz.prog 65 #[.slice (some ⟨L.bo, 0, none⟩) L.m co] w fun e w' => e = .returned (.bool true) ∧ Below L.B w w' := by
  obtain ⟨i0, hi0, hz0, hz1, hz2⟩ := info_parts info9
  obtain ⟨i33, hi33, hy0, hy1, hy2⟩ := info_parts info33
  have HN := Lib.hid hN
  have HF := Lib.hid hf
  have HC := Lib.hid hc
  have HR := Lib.hid hr
  clear hN hf hc hr
  go_enter Tryz.func65, Tryz.ntmps65
  go_wp2
  obtain ⟨M, hM⟩ : ∃ M, M = MK := ⟨_, rfl⟩
  have hM26 : 26 ≤ M.size := by rw [hM]; decide
  rw [show ({ data := #[97, 98, 99, 100, 101, 102, 103, 104, 105, 106, 107, 108, 109, 110, 111, 112, 113, 114, 115, 116, 117, 118, 119, 120, 121, 122] } : ByteArray) = MK from rfl, ← hM]
  have HM := Lib.hid hM
  clear hM
  go_loopw [4, 5] (fun i _ wr => ∃ j : Nat, j ≤ L.m ∧ i = .int .i64 j ∧ Hid (L.cells wr) ∧ Hid (L.marked wr j 0) ∧ Below L.B w wr ∧ w.heap.size ≤ wr.heap.size) (fun i _ _ => L.m - (intOf i).toNat)
  case atStart => exact ⟨0, Nat.zero_le _, rfl, HC, HR, Below.refl _ _, Nat.le_refl _⟩
  case round =>
    obtain ⟨i, hi, rfl, hcells, hmark, hb, hsz⟩ := hrel
    by_cases hlt : i < L.m
    · have hcell := hcells.out i hlt
      have hNi := HN.out i hlt
      obtain ⟨n, hn⟩ : ∃ n, n = L.N i := ⟨_, rfl⟩
      rw [← hn] at hcell hNi
      have HNN := Lib.hid hn
      clear hn
      obtain ⟨r, hr⟩ : ∃ r, r = i % 26 := ⟨_, rfl⟩
      have hrl : r < 26 := by omega
      have hr1 : (i : Int) % 26 = (r : Int) := by omega
      have hr2 : (i : Int).tmod 26 = (r : Int) := by rw [Int.tmod_eq_emod_of_nonneg (by omega)]; exact hr1
      have hr3 : IntKind.i64.wrap ((r : Int) + 1) = (r : Int) + 1 := IntWalk.i64_in _ (by omega)
      have hr4 : ((r : Int) + 1).toNat = r + 1 := by omega
      have hW : ({ data := #[119, 97, 115] } : ByteArray) ++ M.extract r (r + 1) = was i := by rw [was, HM.out, hr]
      have hWs : (M.extract r (r + 1)).size ≤ 1 := by simp; omega
      obtain ⟨Y, hY⟩ : ∃ Y, Y = was i := ⟨_, rfl⟩
      rw [← hY] at hW
      have HY := Lib.hid hY
      clear hr hY
      go_wp2
      go_loopw [5] (fun x wx => ∃ k : Nat, k ≤ n ∧ x = .int .i64 k ∧ Hid (L.cells wx) ∧ Hid (L.marked wx i k) ∧ Below L.B w wx ∧ w.heap.size ≤ wx.heap.size) (fun x _ => n - (intOf x).toNat)
      case atStart => exact ⟨0, Nat.zero_le _, rfl, hcells, hmark, hb, hsz⟩
      case round =>
        obtain ⟨k, hk, rfl, hcells2, hmark2, hb2, hsz2⟩ := hrel
        have hcell2 := hcells2.out i hlt
        rw [← HNN.out] at hcell2
        clear hcell hcells hmark hb hsz
        by_cases hkn : k < n
        · obtain ⟨xs, hx1, hx2⟩ := hmark2.out i hlt
          rw [← HNN.out] at hx1
          obtain ⟨g, ha, hg⟩ := addr_eq hx1 (by omega)
          rw [ha] at hcell2 hx1
          have hfz := own_frozen hx1 k
          have hst := own_cell hx1 (List.getElem?_eq_getElem (show k < xs.length by rw [hx1.1]; omega))
          obtain ⟨old, hold⟩ : ∃ old, old = xs[k]'(by rw [hx1.1]; omega) := ⟨_, rfl⟩
          rw [← hold] at hst
          have hkn' : (k : Int) < (n : Int) := by omega
          have hlt' : (i : Int) < (L.m : Int) := by omega
          have HX := Lib.hid hx1
          clear hx1 hx2 hold
          go_wp2
          go_region
          all_goals
            go_wp2
            go_roundw
            case rel => exact ⟨k + 1, by omega, by go_num, cells_store HF.out hcells2.out hlt ha _, by rw [HY.out]; exact marked_store HF.out hmark2.out hlt (by rw [← HNN.out]; exact hkn) ha, (hb2.setCell (p := ⟨g, k, none⟩) hg _).drew, by simpa [World.setCell] using hsz2⟩
            case measure => simp [intOf]; omega
        · obtain rfl : k = n := by omega
          have hdone : Hid (L.marked wr (i + 1) 0) := marked_next (by rw [← HNN.out]; exact hmark2.out)
          go_wp2
          go_roundw
          case rel => exact ⟨i + 1, by omega, by go_num, hcells2, hdone, hb2, hsz2⟩
          case measure => simp [intOf]; omega
    · obtain rfl : i = L.m := by omega
      clear HC HR
      have hinv := inv_start HF.out hcells.out hmark.out (by omega) (by omega) hb
      have HI := Lib.hid hinv
      obtain ⟨H, hH⟩ : ∃ H, H = wr.heap.size := ⟨_, rfl⟩
      rw [← hH] at HI
      clear hinv hH hcells hmark hb hsz hlt
      go_wp2
      go_loopw [6, 7, 8, 9] (fun v6 i _ _ wx => ∃ (k : Nat) (vs : List Value) (b c : Nat → Nat), k ≤ L.m ∧ i = .int .i64 k ∧ Hid (Inv L w H k k wx v6 vs b c)) (fun _ i _ _ _ => L.m - (intOf i).toNat)
      case atStart => exact ⟨0, [], _, _, Nat.zero_le _, rfl, HI⟩
      case round =>
        obtain ⟨i, vs, b, c, hi, rfl, HV⟩ := hrel
        clear HI
        by_cases hlt : i < L.m
        · have hcell := HV.out.cells i hlt
          have hcur := Lib.hid (cur_start HF.out HV.out (Nat.le_refl _) hlt)
          have hmore := Lib.hid (inv_more HV.out (by omega))
          have hNi := HN.out i hlt
          have hlt' : (i : Int) < (L.m : Int) := by omega
          obtain ⟨r, hr⟩ : ∃ r, r = i % 26 := ⟨_, rfl⟩
          have hrl : r < 26 := by omega
          have hr1 : (i : Int) % 26 = (r : Int) := by omega
          have hX : ({ data := #[110, 101, 119] } : ByteArray) ++ M.extract r (r + 1) = new i := by rw [new, HM.out, hr]
          have hXs : (M.extract r (r + 1)).size ≤ 1 := by simp; omega
          obtain ⟨Y, hY⟩ : ∃ Y, Y = new i := ⟨_, rfl⟩
          rw [← hY] at hX
          have HY := Lib.hid hY
          clear hr hY
          go_wp2
          go_loopw [8, 9] (fun v x wy => ∃ k : Nat, k ≤ 20 ∧ x = .int .i64 k ∧ Hid (Inv L w H i (i + 1) wy u6 vs b c) ∧ Hid (Cur L H i k wy v b)) (fun _ x _ => 20 - (intOf x).toNat)
          case atStart => exact ⟨0, by omega, rfl, hmore, hcur⟩
          case round =>
            obtain ⟨k, hk, rfl, hI, hC⟩ := hrel
            clear HV hcell hcur hmore
            have hsz := hI.out.size
            have hbs := hI.out.base
            by_cases hk20 : k < 20
            · have hown := hC.out.own
              go_wp2_with (at_builtin; refine wpList_append_two _ rfl _ _ 84 rfl L.B 9 i0 (.string ⟨#[]⟩) 16 Tryz.underlying84 hi0 hz0 hz1 hz2 rfl _ _ _ rfl (hown.alloc _) ⟨wr.heap.size, 0, none⟩ 1 (.string Y) rfl ?c1 rfl ?c3 ?c4 ?c5 ?_)
              case c1 => go_simp
              case c3 => omega
              case c4 => omega
              case c5 => simp; omega
              intro v1 w1 hown1 hg1
              have hst := both_step HF.out hI.out (Nat.le_refl _) hlt hC.out (by rw [HY.out] at hown1; exact hown1) hg1
              have h1 := Lib.hid hst.1
              have h2 := Lib.hid hst.2
              clear hst hown hown1 hg1
              go_wp2
              go_roundw
              case rel => exact ⟨k + 1, by omega, by go_num, h1, h2⟩
              case measure => simp [intOf]; omega
            · obtain rfl : k = 20 := by omega
              obtain ⟨bv, cv, hv, _, _⟩ := hC.out.own.form (by omega)
              rw [hv] at hC ⊢
              clear hv
              have hout := hI.out.outer
              go_wp2_with (at_builtin; refine wpList_append_two _ rfl _ _ 117 rfl L.B 84 i33 (.slice none 0 0) 24 Tryz.underlying117 hi33 hy0 hy1 hy2 rfl _ _ _ rfl (hout.alloc _) ⟨wr.heap.size, 0, none⟩ 1 (.slice (some ⟨bv, 0, none⟩) (L.N i + 20) cv) rfl ?c1 rfl ?c3 ?c4 ?c5 ?_)
              case c1 => go_simp
              case c3 => omega
              case c4 => omega
              case c5 => simp; omega
              intro v7 w1 hown1 hg1
              obtain ⟨b2, c2, hst⟩ := outer_next HF.out hI.out (Nat.le_refl _) hlt hC.out hown1 hg1
              have h1 := Lib.hid hst
              clear hst hout hown1 hg1
              go_wp2
              go_roundw
              case rel => exact ⟨i + 1, _, b2, c2, by omega, by go_num, h1⟩
              case measure => simp [intOf]; omega
        · obtain rfl : i = L.m := by omega
          have hbelow := HV.out.below
          by_cases hm0 : L.m = 0
          · have hm0' : (L.m : Int) ≤ 0 := by omega
            go_wp2
            go_loop [10] (fun i => i = .int .i64 0) (fun _ => 0)
            case atStart => exact rfl
            case round =>
              obtain rfl := hrel
              go_wp2
              go_ret
              exact ⟨rfl, hbelow⟩
          · obtain ⟨g6, c6, hv6, _, _⟩ := HV.out.outer.form (by omega)
            rw [hv6] at HV ⊢
            clear hv6 hm0
            go_wp2
            go_loop [10, 11, 12] (fun i _ _ => ∃ j : Nat, j ≤ L.m ∧ i = .int .i64 j) (fun i _ _ => L.m - (intOf i).toNat)
            case atStart => exact ⟨0, Nat.zero_le _, rfl⟩
            case round =>
              obtain ⟨j, hj, rfl⟩ := hrel
              by_cases hjm : j < L.m
              · obtain ⟨hlv, hlo, _⟩ := HV.out.long j hjm
                have hcl := own_cell HV.out.outer hlv
                have hcj := HV.out.cells j hjm
                have HLO := Lib.hid hlo
                have HH := Lib.hid (HV.out.held j hjm)
                have hNj := HN.out j hjm
                have hjm' : (j : Int) < (L.m : Int) := by omega
                obtain ⟨n, hn⟩ : ∃ n, n = L.N j := ⟨_, rfl⟩
                obtain ⟨bj, hbj⟩ : ∃ x, x = b j := ⟨_, rfl⟩
                obtain ⟨cj, hcj2⟩ : ∃ x, x = c j := ⟨_, rfl⟩
                rw [← hn, ← hbj, ← hcj2] at hcl HLO
                rw [← hn] at hcj hNj HH
                have HNN := Lib.hid hn
                clear hn hbj hcj2 hlo hlv
                obtain ⟨r, hr⟩ : ∃ r, r = j % 26 := ⟨_, rfl⟩
                have hrl : r < 26 := by omega
                have hr1 : (j : Int) % 26 = (r : Int) := by omega
                have hXs : (M.extract r (r + 1)).size ≤ 1 := by simp; omega
                have hW : ({ data := #[119, 97, 115] } : ByteArray) ++ M.extract r (r + 1) = was j := by rw [was, HM.out, hr]
                have hX : ({ data := #[110, 101, 119] } : ByteArray) ++ M.extract r (r + 1) = new j := by rw [new, HM.out, hr]
                obtain ⟨Wj, hWj⟩ : ∃ x, x = was j := ⟨_, rfl⟩
                obtain ⟨Xj, hXj⟩ : ∃ x, x = new j := ⟨_, rfl⟩
                rw [← hWj] at hW
                rw [← hXj] at hX
                have HWJ := Lib.hid hWj
                have HXJ := Lib.hid hXj
                clear hr hWj hXj
                go_wp2
                go_loop [11, 12] (fun x _ => ∃ l : Nat, l ≤ n + 20 ∧ x = .int .i64 l) (fun x _ => n + 20 - (intOf x).toNat)
                case atStart => exact ⟨0, Nat.zero_le _, rfl⟩
                case round =>
                  obtain ⟨l, hl, rfl⟩ := hrel
                  by_cases hln : l < n
                  · obtain ⟨g, ha, hcg⟩ := HH.out l hln
                    have hcb := own_cell HLO.out (row_was (L := L) (j := j) (k := 20) (l := l) (by rw [← HNN.out]; exact hln))
                    rw [sw, ← HWJ.out] at hcg hcb
                    rw [ha] at hcj
                    have hln1 : (l : Int) < (n : Int) := by omega
                    have hln2 : (l : Int) < (n : Int) + 20 := by omega
                    go_wp2
                    go_round
                    case rel => exact ⟨l + 1, by omega, by go_num⟩
                    case measure => simp [intOf]; omega
                  · by_cases hl20 : l < n + 20
                    · have hcb := own_cell HLO.out (row_new (L := L) (j := j) (k := 20) (l := l) (by rw [← HNN.out]; exact hln) (by rw [← HNN.out]; exact hl20))
                      rw [sn, ← HXJ.out] at hcb
                      have hln1 : (n : Int) ≤ (l : Int) := by omega
                      have hln2 : (l : Int) < (n : Int) + 20 := by omega
                      go_wp2
                      go_round
                      case rel => exact ⟨l + 1, by omega, by go_num⟩
                      case measure => simp [intOf]; omega
                    · obtain rfl : l = n + 20 := by omega
                      go_wp2
                      go_round
                      case rel => exact ⟨j + 1, by omega, by go_num⟩
                      case measure => simp [intOf]; omega
              · go_wp2
                go_ret
                exact ⟨rfl, hbelow⟩
end Go.Proofs.YtjdfffkkpbabpaaGreat.Aq

namespace Go.Proofs.YtjdfffkkpbabpaaGreat.Aq
open Go.RowKit Tx
set_option linter.unusedVariables false
theorem texts_row {w : World} {B B2 n c : Nat} {a : Option Addr} {l : List ByteArray} (h : Texts w B (.slice a n c) l) (hB : B2 ≤ B) (hn : l.length = n) : w.ownsRow B2 9 1 (.slice a n c) n (l.map sv) := by
  subst hn
  refine ⟨h.1, ?_⟩
  rcases h.2 with h0 | ⟨g, cap, cur, hv, hg, r⟩
  · exact .inl h0
  · exact .inr ⟨g, cap, cur, hv, by omega, r⟩
theorem texts_block {w : World} {B n c : Nat} {a : Option Addr} {x : Addr} {l : List ByteArray} (h : Texts w B (.slice a n c) l) (ha : a = some x) : B ≤ x.block ∧ x.block < w.heap.size := by
  rcases h.2 with ⟨hv, _⟩ | ⟨g, cap, cur, hv, hg, hh, _⟩
  · injection hv with h1
    rw [ha] at h1
    cases h1
  · injection hv with h1
    rw [ha] at h1
    injection h1 with h1
    subst h1
    exact ⟨hg, (Array.getElem?_eq_some_iff.1 hh).1⟩
end Go.Proofs.YtjdfffkkpbabpaaGreat.Aq

namespace Go.Proofs.YtjdfffkkpbabpaaGreat.Dk
open Go.RowKit Tx Pm
set_option linter.unusedVariables false
end Go.Proofs.YtjdfffkkpbabpaaGreat.Dk

namespace Go.Proofs.YtjdfffkkpbabpaaGreat.Dk
open Go.ChangeMaps (open_string shut_string)
open Go.ChangeShapes Go.WideShapes Go.ChangeAt Go.RowKit Tx
set_option linter.unusedVariables false
structure Sp where
  k : Int
  p : ByteArray
  q : ByteArray
  n : Int
def dS {H : Type} (x : Sp) : DataW H := .agg [.lit (.int .i64 x.k), .lit (.string x.p.data.toList), .lit (.string x.q.data.toList), .lit (.int .i64 x.n)]
def int64 (k : Int) : Prop := -9223372036854775808 ≤ k ∧ k ≤ 9223372036854775807
theorem cells9 : Tryz.prog.cellsOf 9 = 1 := by kernel_rfl
theorem cells3 : Tryz.prog.cellsOf 3 = 1 := by kernel_rfl
theorem bulk_step {H : Type} (x : Sp) : Rows.uptoBulk (dS (H := H) x) = x.p.size + x.q.size + 5 := by
  have e : Rows.uptoBulk (dS (H := H) x) = 1 + ((x.p.data.toList.length + 1) + ((x.q.data.toList.length + 1) + (1 + 0))) + 1 := rfl
  rw [e, len_l, len_l]
  omega
end Go.Proofs.YtjdfffkkpbabpaaGreat.Dk

namespace Go.Proofs.YtjdfffkkpbabpaaGreat.Dk
open Go.RowKit Tx Pm
set_option linter.unusedVariables false
def pV : ByteArray := ⟨#[118]⟩
def pVA : ByteArray := ⟨#[118, 47, 97]⟩
end Go.Proofs.YtjdfffkkpbabpaaGreat.Dk

namespace Go.Proofs.YtjdfffkkpbabpaaGreat.Dk
open Go.RowKit Tx Pm
set_option linter.unusedVariables false
theorem fits_none {s : St} (h : s.rooms = []) (p : ByteArray) (m : Int) : fits s p m = true := by
  unfold fits
  rw [h, List.all_nil, Bool.or_true]
def dirV : It := ⟨pV, true, ⟨#[]⟩, ⟨#[]⟩, false, false, 0⟩
def m2 (a : ByteArray) : St := ⟨[dirV, ⟨pVA, false, a, a, false, false, 1⟩], [], 3, 1, -1, false⟩
end Go.Proofs.YtjdfffkkpbabpaaGreat.Dk

namespace Go.Proofs.YtjdfffkkpbabpaaGreat.Dk
open Go.RowKit Tx Pm
set_option linter.unusedVariables false
def syn (p x : ByteArray) (n : Nat) : It := ⟨p, false, x, x, false, false, n⟩
theorem restart_loose (loss : Nat) {x : It} (h : x.loose = true) (l : List It) (n st : Nat) : restartL loss (x :: l) n st = ({ lose (mix loss (n + 1)) x with stamp := st + 1 } :: (restartL loss l (n + 1) (st + 1)).1, (restartL loss l (n + 1) (st + 1)).2) := by
  rw [restartL, if_pos h]
theorem restart_synced (loss : Nat) {x : It} (h : x.loose = false) (l : List It) (n st : Nat) : restartL loss (x :: l) n st = (x :: (restartL loss l n st).1, (restartL loss l n st).2) := by
  rw [restartL, if_neg (by rw [h]; decide)]
theorem lose_stamp (pick : Nat) (p x k : ByteArray) (a : Bool) (st n : Nat) : { lose pick ⟨p, false, x, k, true, a, st⟩ with stamp := n } = syn p (lose pick ⟨p, false, x, k, true, a, st⟩).data n := by
  unfold lose syn
  rfl
theorem pre_of (t : ByteArray) (k : Nat) (hk : k ≤ t.size) : (t.extract 0 k).size = k ∧ t.extract 0 k = t.extract 0 (t.extract 0 k).size := by
  have h : (t.extract 0 k).size = k := by rw [ByteArray.size_extract]; omega
  exact ⟨h, by rw [h]⟩
theorem lose_old (n : Nat) (p x w : ByteArray) (st : Nat) (hw : x.size ≤ w.size) : ∃ b, (lose n ⟨p, false, w, x, true, false, st⟩).data = b ∧ x.size ≤ b.size ∧ b.size ≤ w.size ∧ b = w.extract 0 b.size := by
  have hm : n % (w.size - x.size + 1) < w.size - x.size + 1 := Nat.mod_lt _ (by omega)
  obtain ⟨h1, h2⟩ := pre_of w (x.size + n % (w.size - x.size + 1)) (by omega)
  refine ⟨w.extract 0 (x.size + n % (w.size - x.size + 1)), ?_, by omega, by omega, h2⟩
  unfold lose
  simp only [Bool.false_eq_true, if_false]
theorem lose_new (n : Nat) (p x z : ByteArray) (st : Nat) : ∃ c, (lose n ⟨p, false, z, x, true, true, st⟩).data = c ∧ (c = x ∨ (c.size ≤ z.size ∧ c = z.extract 0 c.size)) := by
  have hm : n % (z.size + 2) < z.size + 2 := Nat.mod_lt _ (by omega)
  have e : (lose n ⟨p, false, z, x, true, true, st⟩).data = if n % (z.size + 2) = 0 then x else z.extract 0 (n % (z.size + 2) - 1) := by
    unfold lose
    simp only [if_true]
  refine ⟨_, e, ?_⟩
  split
  · exact .inl rfl
  · obtain ⟨h1, h2⟩ := pre_of z (n % (z.size + 2) - 1) (by omega)
    exact .inr ⟨by omega, h2⟩
end Go.Proofs.YtjdfffkkpbabpaaGreat.Dk

namespace Go.Proofs.YtjdfffkkpbabpaaGreat.Fr
open Go.RowKit Wm Wr Fm
end Go.Proofs.YtjdfffkkpbabpaaGreat.Fr

namespace Go.Proofs.YtjdfffkkpbabpaaGreat.Fr
open Go.RowKit Wm Wr Fm
set_option linter.unusedVariables false
theorem rdT_front (t : ByteArray) (m : List UInt8) (h : t.size ≤ 9223372036854775807) : rdT ⟨(vb t.size ++ (t.data.toList ++ m)).toArray⟩ = (t, (vb t.size).length + t.size, 0) := by
  have e : rdU (⟨(vb t.size ++ (t.data.toList ++ m)).toArray⟩ : ByteArray).data.toList = (t.size, (vb t.size).length, 0) := by
    show rdU (vb t.size ++ (t.data.toList ++ m)) = _
    rw [rdU, rd_vb t.size _ (by omega), if_neg]
    rintro ⟨_, h2⟩
    simp only at h2
    omega
  have hlen : (⟨(vb t.size ++ (t.data.toList ++ m)).toArray⟩ : ByteArray).size = (vb t.size).length + (t.size + m.length) := by
    rw [ByteArray.size, List.size_toArray, List.length_append, List.length_append, len_l]
  rw [rdT, e, if_neg (fun h => h rfl), if_neg (by rw [hlen]; show ¬ _ < (vb t.size).length + t.size; omega)]
  congr 1
  apply ByteArray.ext
  rw [ByteArray.data_extract]
  apply Array.toList_inj.1
  rw [← len_l t]
  simp
theorem fr_front (t : ByteArray) (m r : List UInt8) (h : t.size ≤ 9223372036854775807) (hm : m.length = 4) :
    fr ⟨(vb t.size ++ (t.data.toList ++ (m ++ r))).toArray⟩ = if m = le4 (fsum t.data.toList) then (t, (vb t.size).length + t.size + 4, 0) else (⟨#[]⟩, 0, 6) := by
  have e := rdT_front t (m ++ r) h
  have hlen : (⟨(vb t.size ++ (t.data.toList ++ (m ++ r))).toArray⟩ : ByteArray).size = (vb t.size).length + (t.size + (4 + r.length)) := by
    rw [ByteArray.size, List.size_toArray, List.length_append, List.length_append, List.length_append, len_l, hm]
  have hx : (⟨(vb t.size ++ (t.data.toList ++ (m ++ r))).toArray⟩ : ByteArray).extract 0 ((vb t.size).length + t.size + 4) = ⟨(vb t.size ++ (t.data.toList ++ m)).toArray⟩ := by
    apply ByteArray.ext
    rw [ByteArray.data_extract]
    apply Array.toList_inj.1
    rw [Array.toList_extract]
    simp only [List.extract_eq_take_drop, List.drop_zero, Nat.sub_zero]
    rw [show vb t.size ++ (t.data.toList ++ (m ++ r)) = (vb t.size ++ (t.data.toList ++ m)) ++ r by simp]
    exact List.take_left' (by rw [List.length_append, List.length_append, len_l, hm]; omega)
  rw [fr, e, if_neg (fun h => h rfl), if_neg (by rw [hlen]; show ¬ _ - ((vb t.size).length + t.size) < 4; omega)]
  simp only
  rw [hx]
  have hpk : (⟨(vb t.size ++ (t.data.toList ++ m)).toArray⟩ : ByteArray) = pk t ↔ m = le4 (fsum t.data.toList) := by
    constructor
    · intro hh
      have := congrArg (fun b : ByteArray => b.data.toList) hh
      simp only [pk_list] at this
      exact List.append_cancel_left (List.append_cancel_left this)
    · intro hh
      apply ByteArray.ext
      apply Array.toList_inj.1
      rw [pk_list, hh]
  by_cases hh : m = le4 (fsum t.data.toList)
  · rw [if_pos hh, if_neg (fun h => h (hpk.2 hh))]
  · rw [if_neg hh, if_pos (fun h => hh (hpk.1 h))]
end Go.Proofs.YtjdfffkkpbabpaaGreat.Fr

namespace Go.Proofs.YtjdfffkkpbabpaaGreat.Fr
open Go.RowKit Wm Wr Fm
set_option linter.unusedVariables false
def PKl (l : List ByteArray) : List UInt8 := (l.map fun t => (pk t).data.toList).flatten
theorem PKl_cons (t : ByteArray) (l : List ByteArray) : PKl (t :: l) = (pk t).data.toList ++ PKl l := by simp [PKl]
theorem PKl_snoc (l : List ByteArray) (t : ByteArray) : PKl (l ++ [t]) = PKl l ++ (pk t).data.toList := by simp [PKl]
def cnt : List ByteArray → Nat → Nat
  | [], _ => 0
  | t :: l, b => if (pk t).size ≤ b then cnt l (b - (pk t).size) + 1 else 0
theorem cnt_all : ∀ (l : List ByteArray) (b : Nat), (PKl l).length ≤ b → cnt l b = l.length
  | [], _, _ => rfl
  | t :: l, b, h => by
    rw [PKl_cons, List.length_append, len_l] at h
    rw [cnt, if_pos (by omega), cnt_all l _ (by omega)]
    rfl
theorem cnt_snoc : ∀ (l : List ByteArray) (t : ByteArray) (b : Nat), cnt (l ++ [t]) b = if (PKl (l ++ [t])).length ≤ b then l.length + 1 else cnt l b
  | [], t, b => by
    rw [List.nil_append, cnt, PKl_cons, List.length_append, len_l]
    have : (PKl []).length = 0 := rfl
    simp only [this, Nat.add_zero, cnt, List.length_nil]
  | s :: l, t, b => by
    have ih := cnt_snoc l t (b - (pk s).size)
    rw [List.cons_append, cnt, cnt, PKl_cons, List.length_append, len_l, ih]
    by_cases h : (pk s).size ≤ b
    · rw [if_pos h, if_pos h]
      by_cases h2 : (PKl (l ++ [t])).length ≤ b - (pk s).size
      · rw [if_pos h2, if_pos (by omega)]; rfl
      · rw [if_neg h2, if_neg (by omega)]
    · rw [if_neg h, if_neg h, if_neg (by omega)]
theorem lead_cut : ∀ (f x k : Nat), k < (vb x).length → k ≤ f → lead ((vb x).take k) f = k
  | f, x, 0, _, _ => by cases f <;> simp [lead]
  | 0, x, k + 1, _, h => absurd h (by omega)
  | f + 1, x, k + 1, h, hf => by
    by_cases hx : x < 128
    · rw [vb_lo hx] at h; simp at h
    · rw [vb_hi (by omega)] at h ⊢
      have e : (UInt8.ofNat (128 + x % 128)).toNat = 128 + x % 128 := by simp; omega
      rw [List.take_succ_cons, lead, if_pos (by omega), lead_cut f (x / 128) k (by simpa using h) (by omega)]
theorem rd_cut (x k : Nat) (h : k < (vb x).length) (hx : x < 18446744073709551616) : rd ((vb x).take k) = (0, 0, 2) := by
  have hl := vb_len hx
  have e := lead_cut 9 x k h (by omega)
  have e2 : ((vb x).take k).length = k := by rw [List.length_take]; omega
  unfold rd
  simp only [e, e2]
  exact if_pos trivial
theorem fr_cut (t : ByteArray) (k : Nat) (h : k < (pk t).size) (ht : t.size ≤ 9223372036854775807) : (fr ⟨((pk t).data.toList.take k).toArray⟩).2.2 = 2 := by
  have hp := pk_size t
  have hlen : (⟨((pk t).data.toList.take k).toArray⟩ : ByteArray).size = k := by
    rw [ByteArray.size, List.size_toArray, List.length_take, len_l]; omega
  rw [pk_list] at hlen ⊢
  by_cases h1 : k < (vb t.size).length
  · have e : (vb t.size ++ (t.data.toList ++ le4 (fsum t.data.toList))).take k = (vb t.size).take k := List.take_append_of_le_length (by omega)
    have r : rdU (⟨((vb t.size ++ (t.data.toList ++ le4 (fsum t.data.toList))).take k).toArray⟩ : ByteArray).data.toList = (0, 0, 2) := by
      show rdU ((vb t.size ++ (t.data.toList ++ le4 (fsum t.data.toList))).take k) = _
      rw [e, rdU, rd_cut t.size k h1 (by omega), if_neg (by simp)]
    rw [fr, rdT, r, if_pos (by simp), if_pos (by simp)]
  · obtain ⟨m, rfl⟩ : ∃ m, k = (vb t.size).length + m := ⟨k - (vb t.size).length, by omega⟩
    have e : (vb t.size ++ (t.data.toList ++ le4 (fsum t.data.toList))).take ((vb t.size).length + m) = vb t.size ++ (t.data.toList ++ le4 (fsum t.data.toList)).take m := by
      rw [List.take_append, List.take_of_length_le (by omega), Nat.add_sub_cancel_left]
    rw [e] at hlen ⊢
    by_cases h2 : m < t.size
    · have r : rdU (⟨(vb t.size ++ (t.data.toList ++ le4 (fsum t.data.toList)).take m).toArray⟩ : ByteArray).data.toList = (t.size, (vb t.size).length, 0) := by
        show rdU (vb t.size ++ _) = _
        rw [rdU, rd_vb t.size _ (by omega), if_neg]
        rintro ⟨_, h3⟩
        simp only at h3
        omega
      have r2 : rdT ⟨(vb t.size ++ (t.data.toList ++ le4 (fsum t.data.toList)).take m).toArray⟩ = (ByteArray.empty, 0, 2) := by
        rw [rdT, r, if_neg (fun h => h rfl), if_pos (by rw [hlen]; show (vb t.size).length + m < (vb t.size).length + t.size; omega)]
      rw [fr, r2, if_pos (by simp)]
    · have e2 : (t.data.toList ++ le4 (fsum t.data.toList)).take m = t.data.toList ++ (le4 (fsum t.data.toList)).take (m - t.size) := by
        rw [List.take_append, List.take_of_length_le (by rw [len_l]; omega), len_l]
      rw [e2] at hlen ⊢
      rw [fr, rdT_front t _ ht, if_neg (fun h => h rfl), if_pos (by rw [hlen]; show (vb t.size).length + m - ((vb t.size).length + t.size) < 4; omega)]
theorem fr_pk (t : ByteArray) (r : List UInt8) (ht : t.size ≤ 9223372036854775807) : fr ⟨((pk t).data.toList ++ r).toArray⟩ = (t, (pk t).size, 0) := by
  have e : (pk t).data.toList ++ r = vb t.size ++ (t.data.toList ++ (le4 (fsum t.data.toList) ++ r)) := by rw [pk_list]; simp
  rw [e, fr_front t _ r ht rfl, if_pos rfl, pk_size]
theorem mk_len (l : List UInt8) : (⟨l.toArray⟩ : ByteArray).size = l.length := by rw [ByteArray.size, List.size_toArray]
theorem from_at (p r : List UInt8) : (⟨(p ++ r).toArray⟩ : ByteArray).extract p.length (⟨(p ++ r).toArray⟩ : ByteArray).size = ⟨r.toArray⟩ := by
  apply ByteArray.ext
  rw [ByteArray.data_extract]
  apply Array.toList_inj.1
  rw [mk_len]
  simp
theorem scan_cut : ∀ (l : List ByteArray) (pre : List UInt8) (b : Nat), (∀ t ∈ l, t.size ≤ 9223372036854775807) →
    sc ⟨(pre ++ (PKl l).take b).toArray⟩ pre.length = (l.take (cnt l b), pre.length + (PKl (l.take (cnt l b))).length, if (PKl (l.take (cnt l b))).length = min b (PKl l).length then 0 else 2)
  | [], pre, b, _ => by
    have e : (PKl []).take b = [] := by simp [PKl]
    rw [e, List.append_nil, sc_end (by rw [mk_len]; omega)]
    simp [cnt, PKl]
  | t :: l, pre, b, ht => by
    have h0 := ht t (by simp)
    have hk : 0 < (pk t).size := by rw [pk_size]; omega
    rw [PKl_cons]
    by_cases hb : (pk t).size ≤ b
    · have e : ((pk t).data.toList ++ PKl l).take b = (pk t).data.toList ++ (PKl l).take (b - (pk t).size) := by
        rw [List.take_append, List.take_of_length_le (by rw [len_l]; omega), len_l]
      rw [e, sc_one (n := (pk t).size) (t := t) (by rw [mk_len, List.length_append, List.length_append, len_l]; omega) (by rw [from_at, fr_pk t _ h0])]
      have ih := scan_cut l (pre ++ (pk t).data.toList) (b - (pk t).size) (fun s hs => ht s (by simp [hs]))
      rw [List.append_assoc, List.length_append, len_l] at ih
      rw [ih, cnt, if_pos hb, List.take_succ_cons, PKl_cons, List.length_append, List.length_append, len_l]
      simp only [Prod.mk.injEq, true_and]
      refine ⟨by omega, ?_⟩
      by_cases hq : (PKl (l.take (cnt l (b - (pk t).size)))).length = min (b - (pk t).size) (PKl l).length
      · rw [if_pos hq, if_pos (by omega)]
      · rw [if_neg hq, if_neg (by omega)]
    · have e : ((pk t).data.toList ++ PKl l).take b = (pk t).data.toList.take b := List.take_append_of_le_length (by rw [len_l]; omega)
      have ez : PKl [] = [] := rfl
      rw [e, cnt, if_neg hb, List.take_zero, ez, List.length_nil, List.length_append, len_l]
      by_cases h1 : b = 0
      · subst h1
        rw [List.take_zero, List.append_nil, sc_end (by rw [mk_len]; omega)]
        simp
      · have hc := fr_cut t b (by omega) h0
        obtain ⟨x, n, e2, h2⟩ := trip (fr ⟨((pk t).data.toList.take b).toArray⟩)
        rw [h2] at hc
        have hc' : e2 = 2 := hc
        subst hc'
        rw [sc_bad (t := x) (n := n) (e := 2) (by rw [mk_len, List.length_append, List.length_take, len_l]; omega) (by rw [from_at, h2]) (by omega), if_neg (by omega)]
        rfl
end Go.Proofs.YtjdfffkkpbabpaaGreat.Fr

namespace Go.Proofs.YtjdfffkkpbabpaaGreat.Wl
open Go.RowKit Tx Pm Dk Fr
set_option linter.unusedVariables false
def PK (l : List ByteArray) : ByteArray := ⟨(PKl l).toArray⟩
theorem PK_nil : PK [] = ⟨#[]⟩ := rfl
theorem PK_size (l : List ByteArray) : (PK l).size = (PKl l).length := by rw [PK, ByteArray.size, List.size_toArray]
theorem PK_snoc (l : List ByteArray) (r : ByteArray) : PK (l ++ [r]) = PK l ++ Fm.pk r := by
  apply ByteArray.ext
  apply Array.toList_inj.1
  rw [ByteArray.data_append, Array.toList_append]
  show PKl (l ++ [r]) = _
  rw [PKl_snoc]
  rfl
theorem PK_ext (l : List ByteArray) (k : Nat) : (PK l).extract 0 k = ⟨((PKl l).take k).toArray⟩ := by
  apply ByteArray.ext
  apply Array.toList_inj.1
  rw [ByteArray.data_extract, Array.toList_extract]
  simp [PK, List.extract_eq_take_drop]
def dec (a : Int) : Int := if a > 0 then a - 1 else a
theorem dec_in {a : Int} (h : -1 ≤ a ∧ a ≤ 9223372036854775807) : -1 ≤ dec a ∧ dec a ≤ 9223372036854775807 := by unfold dec; split <;> omega
theorem dec_neg : dec (-1) = -1 := rfl
theorem done_open {l : List It} {R : List Rm} {st sm : Nat} {a : Int} {dn : Bool} (h : a ≠ 0) : done ⟨l, R, st, sm, a, dn⟩ = (0, ⟨l, R, st + 1, sm, dec a, dn⟩) := by
  unfold done
  rw [if_neg (by exact h)]
  rfl
theorem scan_PK (l : List ByteArray) (b : Nat) (h : ∀ r ∈ l, r.size ≤ 140737488351232) : Fm.sc ((PK l).extract 0 b) 0 = (l.take (cnt l b), (PKl (l.take (cnt l b))).length, if (PKl (l.take (cnt l b))).length = min b (PKl l).length then 0 else 2) := by
  have := scan_cut l [] b (fun t ht => by have := h t ht; omega)
  simp only [List.nil_append, List.length_nil, Nat.zero_add] at this
  rw [PK_ext]
  exact this
theorem scan_all (l : List ByteArray) (h : ∀ r ∈ l, r.size ≤ 140737488351232) : Fm.sc (PK l) 0 = (l, (PKl l).length, 0) := by
  have h1 := scan_PK l (PKl l).length h
  have e : (PK l).extract 0 (PKl l).length = PK l := by
    rw [PK_ext, List.take_length]
    rfl
  rw [e, cnt_all l _ (Nat.le_refl _), List.take_length, if_pos (by omega)] at h1
  exact h1
theorem PK_prefix (l : List ByteArray) (k b : Nat) (h : (PKl (l.take k)).length ≤ b) : ((PK l).extract 0 b).extract 0 (PKl (l.take k)).length = PK (l.take k) := by
  rw [PK_ext]
  apply ByteArray.ext
  apply Array.toList_inj.1
  rw [ByteArray.data_extract, Array.toList_extract]
  simp only [List.extract_eq_take_drop, List.drop_zero, Nat.sub_zero, List.take_take]
  rw [Nat.min_eq_left h]
  have e : PKl l = PKl (l.take k) ++ PKl (l.drop k) := by
    unfold PKl
    rw [← List.flatten_append, ← List.map_append, List.take_append_drop]
  rw [e, List.take_left]
  rfl
end Go.Proofs.YtjdfffkkpbabpaaGreat.Wl

namespace Go.Proofs.YtjdfffkkpbabpaaGreat.Dk
open Go.RowKit Tx Pm Pl Pr
set_option linter.unusedVariables false
set_option maxRecDepth 100000 in
set_option maxHeartbeats 2000000 in
theorem regRestart (ops : Array Oper) (hops : ops = (Rg.opsOf Tryz.f18 7)) (id : Nat) (b bi bl j pick : Nat) (l loss K T M : Int) (s s2 : St) (p X Y Z : ByteArray) {u2 u3 u4 u5 u8 u9 u10 u11 u12 u13 u14 u15 u16 u17 u18 u19 u20 u21 u22 u23 u24 u25 u26 u27 u28 u29 u30 u31 u32 u33 u34 u35 u36 u37 u38 u39 : Value} (w : World) (h : Ia b bi bl l w s)
    (hlk : ∀ W, Ia b bi bl l W s → (Instr.lookup 57 (.map (some bi)) (.string p) false).run Tryz.prog W = .ok (.agg #[.int .i64 K, .string X, .string Y, .int .i64 T, .int .i64 M]) W)
    (hadd : IntKind.i64.wrap ((j : Int) + 1) = ((j + 1 : Nat) : Int))
    (cm : ∀ W, Calls Tryz.prog 54 #[.int .i64 loss, .int .i64 ((j + 1 : Nat) : Int)] W fun e w' => e = .returned (.int .u64 (pick : Nat)) ∧ w' = W)
    (cl : ∀ W, Calls Tryz.prog 53 #[.agg #[.int .i64 K, .string X, .string Y, .int .i64 T, .int .i64 M], .int .u64 (pick : Nat)] W fun e w' => e = .returned (.agg #[.int .i64 K, .string Z, .string Z, .int .i64 0, .int .i64 M]) ∧ Below W.heap.size W w')
    (cs : ∀ W, Ia b bi bl l W s → Calls Tryz.prog 52 #[.pointer (some ⟨b, 0, none⟩), .string p, .agg #[.int .i64 K, .string Z, .string Z, .int .i64 0, .int .i64 M]] W fun e w' => e = .returned (.tuple #[]) ∧ Ip b bi bl W s2 w') :
    (Code.region id ops true).wp Tryz.prog (Rg.Only fun a' w' => a' = ⟨#[(.pointer (some ⟨b, 0, none⟩)), (.int .i64 loss), u2, u3, u4, u5, (.int .i64 (j : Nat)), (.string p), u8, u9, u10, u11, u12, u13, u14, u15, u16, u17, u18, (.pointer (some ⟨b, 0, none⟩)), (.string p), (.pointer (some ⟨b, 0, none⟩)), (.pointer (some ⟨b, 0, none⟩)), (.pointer (some ⟨b, 0, none⟩)), (.map (some bi)), (.string p), (.agg #[.int .i64 K, .string X, .string Y, .int .i64 T, .int .i64 M]), (.int .i64 loss), (.int .i64 (j : Nat)), (.int .i64 ((j + 1 : Nat) : Int)), (.int .u64 (pick : Nat)), (.agg #[.int .i64 K, .string Z, .string Z, .int .i64 0, .int .i64 M]), (.tuple #[]), u33, u34, u35, u36, u37, u38, u39], []⟩ ∧ Ip b bi bl w s2 w') ⟨#[(.pointer (some ⟨b, 0, none⟩)), (.int .i64 loss), u2, u3, u4, u5, (.int .i64 (j : Nat)), (.string p), u8, u9, u10, u11, u12, u13, u14, u15, u16, u17, u18, u19, u20, u21, u22, u23, u24, u25, u26, u27, u28, u29, u30, u31, u32, u33, u34, u35, u36, u37, u38, u39], []⟩ w := by
  subst hops
  have hNS : Region.noSelect (Rg.opsOf Tryz.f18 7) = true := by kernel_rfl
  have h0 : Ia b bi bl l w.drew s := h.below (Below.refl _ _).drew
  refine wp_region_held_drew (S := fun W => ∃ l2 s9, Ia b bi bl l2 W s9) (by kernel_rfl) ⟨l, s, h0⟩ (fun hHeld => ?_)
  rw [show (Rg.opsOf Tryz.f18 7).size = 14 by kernel_rfl]
  refine Rg.takek 0 (some 19) (.pointer (some ⟨b, 0, none⟩)) hNS hHeld (Rg.y_movekL (x := .tmp 0)) ?_
  refine Rg.takek 1 (some 20) (.string p) hNS hHeld (Rg.y_movekL (x := .tmp 7)) ?_
  refine Rg.takek 2 (some 21) (.pointer (some ⟨b, 0, none⟩)) hNS hHeld (Rg.y_movekL (x := .tmp 0)) ?_
  refine Rg.takek 3 (some 22) (.pointer (some ⟨b, 0, none⟩)) hNS hHeld (Rg.y_nilk (x := .tmp 21)) ?_
  refine Rg.takek 4 (some 23) (.pointer (some ⟨b, 0, none⟩)) hNS hHeld (Rg.y_fieldk (T := 60) (k := 0) (x := .tmp 22) (vx := (.pointer (some ⟨b, 0, none⟩))) ?_) ?_
  · (intro w hSw; clear hSw; go_simp)
  refine Rg.takek 5 (some 24) (.map (some bi)) hNS hHeld (Rg.y_loadk (T := 57) (x := .tmp 23) (vx := (.pointer (some ⟨b, 0, none⟩))) ?_) ?_
  · (intro w hSw; obtain ⟨_, _, hSw⟩ := hSw; have c0 := hSw.cell.1; clear hSw; go_simp)
  refine Rg.takek 6 (some 25) (.string p) hNS hHeld (Rg.y_movekL (x := .tmp 7)) ?_
  refine Rg.takek 8 (some 27) (.int .i64 loss) hNS hHeld (Rg.y_movekL (x := .tmp 1)) ?_
  refine Rg.takek 9 (some 28) (.int .i64 (j : Nat)) hNS hHeld (Rg.y_movekL (x := .tmp 6)) ?_
  refine Rg.takek 10 (some 29) ((.int .i64 ((j + 1 : Nat) : Int))) hNS hHeld (Rg.y_bink (b := BinOp.add) (T := 3) (R' := 3) (x := .tmp 28) (y := (.const (Value.int IntKind.i64 1))) (vx := (.int .i64 (j : Nat))) (vy := (Value.int IntKind.i64 1)) ?_) ?_
  · (intro w hSw; clear hSw; go_simp <;> exact hadd)
  refine Rg.twok (i := 7) (j := 11) ?_ ?_
  · refine Rg.op_lookk 7 (some 26) (T := 57) (x := .tmp 24) (y := .tmp 25) (c := false) (vx := (.map (some bi))) (vy := (.string p)) (v := (.agg #[.int .i64 K, .string X, .string Y, .int .i64 T, .int .i64 M])) ?_ hHeld ?_
    · (exact hlk _ h0)
    refine Rg.callk (fn := Tryz.f54) (xs := #[.tmp 27, .tmp 29]) (ats := #[3, 3]) 11 (some 30) 54 #[(.int .i64 loss), (.int .i64 ((j + 1 : Nat) : Int))] Tryz.func54 ?_
    refine (cm _).mono ?_
    rintro e w5 ⟨rfl, rfl⟩
    refine ⟨_, rfl, hHeld, fun hHeld => ?_⟩
    refine Rg.callk (fn := Tryz.f53) (xs := #[.tmp 26, .tmp 30]) (ats := #[100, 104]) 12 (some 31) 53 #[(.agg #[.int .i64 K, .string X, .string Y, .int .i64 T, .int .i64 M]), (.int .u64 (pick : Nat))] Tryz.func53 ?_
    refine (cl _).mono ?_
    rintro e w6 ⟨rfl, hb6⟩
    refine ⟨_, rfl, ⟨l, s, h0.below hb6⟩, fun hHeld => ?_⟩
    refine Rg.callk (fn := Tryz.f52) (xs := #[.tmp 19, .tmp 20, .tmp 31]) (ats := #[23, 9, 100]) 13 (some 32) 52 #[(.pointer (some ⟨b, 0, none⟩)), (.string p), (.agg #[.int .i64 K, .string Z, .string Z, .int .i64 0, .int .i64 M])] Tryz.func52 ?_
    refine (cs _ (h0.below hb6)).mono ?_
    rintro e w7 ⟨rfl, h7⟩
    refine ⟨_, rfl, ⟨_, _, h7.choose_spec.1⟩, fun hHeld => ?_⟩
    refine Rg.donek ?_
    exact ⟨by kernel_rfl, Ip.after (below_call (Below.refl _ w).drew hb6) h7⟩
  · refine Rg.op_callk (fn := Tryz.f54) (xs := #[.tmp 27, .tmp 29]) (ats := #[3, 3]) 11 (some 30) 54 #[(.int .i64 loss), (.int .i64 ((j + 1 : Nat) : Int))] Tryz.func54 ?_
    refine (cm _).mono ?_
    rintro e w5 ⟨rfl, rfl⟩
    refine ⟨_, rfl, hHeld, fun hHeld => ?_⟩
    refine Rg.onek (i := 7) ?_
    refine Rg.op_lookk 7 (some 26) (T := 57) (x := .tmp 24) (y := .tmp 25) (c := false) (vx := (.map (some bi))) (vy := (.string p)) (v := (.agg #[.int .i64 K, .string X, .string Y, .int .i64 T, .int .i64 M])) ?_ hHeld ?_
    · (exact hlk _ h0)
    refine Rg.callk (fn := Tryz.f53) (xs := #[.tmp 26, .tmp 30]) (ats := #[100, 104]) 12 (some 31) 53 #[(.agg #[.int .i64 K, .string X, .string Y, .int .i64 T, .int .i64 M]), (.int .u64 (pick : Nat))] Tryz.func53 ?_
    refine (cl _).mono ?_
    rintro e w6 ⟨rfl, hb6⟩
    refine ⟨_, rfl, ⟨l, s, h0.below hb6⟩, fun hHeld => ?_⟩
    refine Rg.callk (fn := Tryz.f52) (xs := #[.tmp 19, .tmp 20, .tmp 31]) (ats := #[23, 9, 100]) 13 (some 32) 52 #[(.pointer (some ⟨b, 0, none⟩)), (.string p), (.agg #[.int .i64 K, .string Z, .string Z, .int .i64 0, .int .i64 M])] Tryz.func52 ?_
    refine (cs _ (h0.below hb6)).mono ?_
    rintro e w7 ⟨rfl, h7⟩
    refine ⟨_, rfl, ⟨_, _, h7.choose_spec.1⟩, fun hHeld => ?_⟩
    refine Rg.donek ?_
    exact ⟨by kernel_rfl, Ip.after (below_call (Below.refl _ w).drew hb6) h7⟩
end Go.Proofs.YtjdfffkkpbabpaaGreat.Dk

namespace Go.Proofs.YtjdfffkkpbabpaaGreat.Dk
open Go.RowKit Tx Pm
set_option linter.unusedVariables false
theorem div_nat (x d : Nat) : (x : Int) / (d : Int) = ((x / d : Nat) : Int) := (Int.natCast_ediv x d).symm
set_option maxRecDepth 100000 in
set_option maxHeartbeats 1000000 in
theorem iMix_any (loss : Int) (i : Nat) (w : World) (hl : -9223372036854775808 ≤ loss ∧ loss ≤ 9223372036854775807) (hi : i ≤ 2000000000) :
    Calls Tryz.prog 54 #[.int .i64 loss, .int .i64 (i : Nat)] w fun e w' => e = .returned (.int .u64 (mix (u64 loss) i : Nat)) ∧ w' = w := by
  go_enter Tryz.func54, Tryz.ntmps54
  go_wp2
  go_ret
  refine ⟨?_, rfl⟩
  have hA : IntKind.u64.wrap (IntKind.u64.wrap loss + IntKind.u64.wrap ((i : Int) * 11400714819323198485)) = ((mixA (u64 loss) i : Nat) : Int) := by
    have hu := u64_eq loss
    have hlt := u64_lt loss
    rw [hu]
    generalize u64 loss = a at hlt
    rw [IntKind.wrap_u64, IntKind.wrap_u64]
    unfold mixA
    omega
  have q1 := div_nat (mixA (u64 loss) i) 1073741824
  have x1 := xor_div (mixA (u64 loss) i) 1073741824 (mixA_lt _ i)
  have k1 := mul_nat (mixA (u64 loss) i ^^^ mixA (u64 loss) i / 1073741824) 13787848793156543929
  have q2 := div_nat (mixB (mixA (u64 loss) i)) 134217728
  have x2 := xor_div (mixB (mixA (u64 loss) i)) 134217728 (mixB_lt _)
  have k2 := mul_nat (mixB (mixA (u64 loss) i) ^^^ mixB (mixA (u64 loss) i) / 134217728) 10723151780598845931
  have q3 := div_nat (mixC (mixB (mixA (u64 loss) i))) 2147483648
  have x3 := xor_div (mixC (mixB (mixA (u64 loss) i))) 2147483648 (mixC_lt _)
  rw [show ((mixA (u64 loss) i ^^^ mixA (u64 loss) i / 1073741824) * 13787848793156543929 % 18446744073709551616) = mixB (mixA (u64 loss) i) from rfl] at k1
  rw [show ((mixB (mixA (u64 loss) i) ^^^ mixB (mixA (u64 loss) i) / 134217728) * 10723151780598845931 % 18446744073709551616) = mixC (mixB (mixA (u64 loss) i)) from rfl] at k2
  show Ending.returned (Value.int .u64 _) = _
  rw [hA]
  rw [show ((1073741824 : Nat) : Int) = 1073741824 from rfl] at q1
  rw [show ((134217728 : Nat) : Int) = 134217728 from rfl] at q2
  rw [show ((2147483648 : Nat) : Int) = 2147483648 from rfl] at q3
  rw [show ((13787848793156543929 : Nat) : Int) = 13787848793156543929 from rfl] at k1
  rw [show ((10723151780598845931 : Nat) : Int) = 10723151780598845931 from rfl] at k2
  rw [q1, x1, k1, q2, x2, k2, q3, x3]
  rfl
set_option maxRecDepth 100000 in
theorem iRest_any (m by_ : Nat) (w : World) (hm : m < 18446744073709551616) (h0 : 0 < by_) (h1 : by_ ≤ 4000000000000000000) :
    Calls Tryz.prog 98 #[.int .u64 (m : Nat), .int .i64 (by_ : Nat)] w fun e w' => e = .returned (.int .i64 (m % by_ : Nat)) ∧ w = w' := by
  have hlt : m % by_ < by_ := Nat.mod_lt _ h0
  have e1 : (m : Int).tmod (by_ : Int) = ((m % by_ : Nat) : Int) := (Int.ofNat_tmod m by_).symm
  have e2 : IntKind.u64.wrap ((m % by_ : Nat) : Int) = ((m % by_ : Nat) : Int) := by rw [wrap_nat, Nat.mod_eq_of_lt (by omega)]
  go_enter Tryz.func98, Tryz.ntmps98
  go_wp2
  go_ret
  exact ⟨ret_int (by rw [Int.natCast_emod]), rfl⟩
def loseR (X Y : ByteArray) (an : Bool) (m : Nat) : ByteArray := if an then (if m % (X.size + 2) = 0 then Y else X.extract 0 (m % (X.size + 2) - 1)) else X.extract 0 (Y.size + m % (X.size - Y.size + 1))
theorem lose_R (m : Nat) (x : It) : (lose m x).data = loseR x.data x.kept x.anew m ∧ (lose m x).kept = loseR x.data x.kept x.anew m := by
  unfold lose loseR
  exact ⟨rfl, rfl⟩
theorem infoIt : (Tryz.prog.info? 100).map (·.size) = some 5 := by kernel_rfl
set_option maxRecDepth 100000 in
set_option maxHeartbeats 1000000 in
theorem iLost_any (X Y : ByteArray) (an : Bool) (K T N : Int) (m : Nat) (w : World) (hT : T = if an then 2 else 1) (hX : X.size ≤ 1000000000000000000) (hY : an = false → Y.size ≤ X.size) (hm : m < 18446744073709551616) :
    Calls Tryz.prog 53 #[.agg #[.int .i64 K, .string X, .string Y, .int .i64 T, .int .i64 N], .int .u64 (m : Nat)] w fun e w' => e = .returned (.agg #[.int .i64 K, .string (loseR X Y an m), .string (loseR X Y an m), .int .i64 0, .int .i64 N]) ∧ Below w.heap.size w w' := by
  have hb := fun o o2 => ((Below.refl _ w).alloc (Nat.le_refl _) o).alloc (by simp) o2
  have HB := Lib.hid hb
  clear hb
  cases an with
  | true =>
    obtain rfl : T = 2 := hT
    have cr := fun W => iRest_any m (X.size + 2) W hm (by omega) (by omega)
    rw [show ((X.size + 2 : Nat) : Int) = (X.size : Int) + 2 by omega] at cr
    have hk := Nat.mod_lt m (show 0 < X.size + 2 by omega)
    obtain ⟨R, hR⟩ : ∃ R, R = loseR X Y true m := ⟨_, rfl⟩
    rw [← hR]
    unfold loseR at hR
    rw [if_pos rfl] at hR
    generalize m % (X.size + 2) = k at cr hk hR
    clear hY hm
    by_cases h0 : k = 0
    · subst h0
      rw [if_pos rfl] at hR
      subst hR
      go_enter Tryz.func53, Tryz.ntmps53
      go_wp2_with (go_at_call 98; refine (cr _).mono ?_; rintro e w' ⟨rfl, rfl⟩)
      refine bodyPost_ret (results_cell_row rfl _ _ _ _ _ _ _ rfl (new_at _ _ (by simp)) Tryz.underlying100 rfl infoIt) rfl ?_
      exact ⟨rfl, HB.out _ _⟩
    · rw [if_neg h0] at hR
      obtain ⟨j, rfl⟩ : ∃ j, k = j + 1 := ⟨k - 1, by omega⟩
      rw [Nat.add_sub_cancel] at hR
      have e0 := ne_eq h0
      have e1 : ((j + 1 : Nat) : Int) - 1 = j := by omega
      have HR := Lib.hid hR
      clear h0 hR
      go_enter Tryz.func53, Tryz.ntmps53
      go_wp2_with (go_at_call 98; refine (cr _).mono ?_; rintro e w' ⟨rfl, rfl⟩)
      refine bodyPost_ret (results_cell_row rfl _ _ _ _ _ _ _ rfl (new_at _ _ (by simp)) Tryz.underlying100 rfl infoIt) rfl ?_
      rw [HR.out]
      exact ⟨rfl, HB.out _ _⟩
  | false =>
    obtain rfl : T = 1 := hT
    have hYX := hY rfl
    have cr := fun W => iRest_any m (X.size - Y.size + 1) W hm (by omega) (by omega)
    rw [show ((X.size - Y.size + 1 : Nat) : Int) = (X.size : Int) - (Y.size : Int) + 1 by omega] at cr
    have hk := Nat.mod_lt m (show 0 < X.size - Y.size + 1 by omega)
    obtain ⟨R, hR⟩ : ∃ R, R = loseR X Y false m := ⟨_, rfl⟩
    rw [← hR]
    unfold loseR at hR
    rw [if_neg (by decide)] at hR
    generalize m % (X.size - Y.size + 1) = k at cr hk hR
    clear hY hm
    have HR := Lib.hid hR
    clear hR
    go_enter Tryz.func53, Tryz.ntmps53
    go_wp2_with (go_at_call 98; refine (cr _).mono ?_; rintro e w' ⟨rfl, rfl⟩)
    refine bodyPost_ret (results_cell_row rfl _ _ _ _ _ _ _ rfl (new_at _ _ (by simp)) Tryz.underlying100 rfl infoIt) rfl ?_
    rw [HR.out]
    exact ⟨rfl, HB.out _ _⟩
end Go.Proofs.YtjdfffkkpbabpaaGreat.Dk

namespace Go.Proofs.YtjdfffkkpbabpaaGreat.Dk
open Go.RowKit Tx Pm Pl Pr
set_option linter.unusedVariables false
def lse (x : It) : Bool := x.loose
theorem next_loose {s : St} {U j st : Nat} {p : ByteArray} {r : List ByteArray} : ∀ (m k : Nat) (pre : List It), s.L.length - k ≤ m → Through s U k j pre st → held lse (s.L.drop k) = p :: r →
    ∃ k2 pre2 x, Through s U k2 j pre2 st ∧ mid s k2 pre2 st = mid s k pre st ∧ s.L[k2]? = some x ∧ x.loose = true ∧ x.path = p ∧ held lse (s.L.drop (k2 + 1)) = r
  | 0, k, pre, hm, h, he => by
    rw [List.drop_of_length_le (by omega)] at he
    cases he
  | m + 1, k, pre, hm, h, he => by
    by_cases hk : k < s.L.length
    · have hx : s.L[k]? = some s.L[k] := List.getElem?_eq_getElem hk
      rw [List.drop_eq_getElem_cons hk, held_cons] at he
      cases hl : s.L[k].loose with
      | true =>
        have hl2 : lse s.L[k] = true := hl
        rw [if_pos hl2, List.singleton_append] at he
        injection he with he1 he2
        exact ⟨k, pre, s.L[k], h, rfl, hx, hl, he1, he2⟩
      | false =>
        have hl2 : ¬ lse s.L[k] = true := by unfold lse; rw [hl]; decide
        rw [if_neg hl2, List.nil_append] at he
        obtain ⟨k2, pre2, x, h1, h2, h3⟩ := next_loose m (k + 1) (pre ++ [s.L[k]]) (by omega) (through_calm h hx hl) he
        exact ⟨k2, pre2, x, h1, h2.trans (mid_calm h hx), h3⟩
    · rw [List.drop_of_length_le (by omega)] at he
      cases he
theorem end_loose {s : St} {U j st : Nat} : ∀ (m k : Nat) (pre : List It), s.L.length - k ≤ m → Through s U k j pre st → held lse (s.L.drop k) = [] →
    ∃ pre2, Through s U s.L.length j pre2 st ∧ mid s s.L.length pre2 st = mid s k pre st
  | 0, k, pre, hm, h, he => by
    have := h.le
    obtain rfl : k = s.L.length := by omega
    exact ⟨pre, h, rfl⟩
  | m + 1, k, pre, hm, h, he => by
    by_cases hk : k < s.L.length
    · have hx : s.L[k]? = some s.L[k] := List.getElem?_eq_getElem hk
      rw [List.drop_eq_getElem_cons hk, held_cons] at he
      cases hl : s.L[k].loose with
      | true =>
        have hl2 : lse s.L[k] = true := hl
        rw [if_pos hl2] at he
        cases he
      | false =>
        have hl2 : ¬ lse s.L[k] = true := by unfold lse; rw [hl]; decide
        rw [if_neg hl2, List.nil_append] at he
        obtain ⟨pre2, h1, h2⟩ := end_loose m (k + 1) (pre ++ [s.L[k]]) (by omega) (through_calm h hx hl) he
        exact ⟨pre2, h1, h2.trans (mid_calm h hx)⟩
    · have := h.le
      obtain rfl : k = s.L.length := by omega
      exact ⟨pre, h, rfl⟩
theorem restart_mid {s : St} {U j st : Nat} {pre : List It} {loss : Int} (hU : U = u64 loss) (h : Through s U s.L.length j pre st) : restartS s loss = { mid s s.L.length pre st with down := false, armed := -1 } := by
  have := through_end h
  unfold restartS mid
  rw [← hU, this, List.drop_of_length_le (Nat.le_refl _), List.append_nil]
theorem ne_dir {s : St} (hg : Good s) {x : It} (hx : x ∈ s.L) (hl : x.loose = true) : x.dir = false := by
  cases hd : x.dir with
  | false => rfl
  | true =>
    have := (hg.dirs x hx hd).2.2.1
    rw [hl] at this
    cases this
theorem mid_old {s : St} {U k j st : Nat} {pre : List It} {x : It} (hr : Rises s.L) (h : Through s U k j pre st) (hx : s.L[k]? = some x) (hd : x.dir = false) :
    old (mid s k pre st).L x.path = x ∧ kind (mid s k pre st).L x.path = 2 := by
  obtain ⟨e1, e2⟩ := mid_at h hx
  have hf := find_paths (mid_rises h hr) (List.mem_of_getElem? e2)
  refine ⟨by rw [old, hf]; rfl, ?_⟩
  unfold kind kindOf
  rw [hf]
  simp only
  rw [if_neg (by rw [hd]; decide)]
theorem mid_set {s : St} {U k j st : Nat} {pre : List It} {x : It} (hr : Rises s.L) (h : Through s U k j pre st) (hx : s.L[k]? = some x) (pick : Nat) :
    putS (mid s k pre st) (lose pick x) = mid s (k + 1) (pre ++ [{ lose pick x with stamp := st + 1 }]) (st + 1) :=
  mid_put h hr hx (x' := { lose pick x with stamp := st + 1 }) rfl
structure SoundW (s : St) : Prop where
  rises : Rises s.L
  kept : ∀ x ∈ s.L, x.anew = false → x.kept.size ≤ x.data.size
  size : ∀ x ∈ s.L, x.data.size ≤ 1000000000000000000 ∧ x.kept.size ≤ 1000000000000000000
  stamps : s.stamps + s.L.length ≤ 1000000000000
set_option maxRecDepth 100000 in
set_option maxHeartbeats 4000000 in
theorem iRestart_any (b bi bl : Nat) (l : Int) (s : St) (loss : Int) (w : World) (h : Ia b bi bl l w s) (hg : Good s) (hs : SoundW s) (hn : s.L.length ≤ 1000000000) (hps : ∀ x ∈ s.L, x.path.size ≤ 8000000000000) (hl : -9223372036854775808 ≤ loss ∧ loss ≤ 9223372036854775807) :
    Calls Tryz.prog 18 #[.pointer (some ⟨b, 0, none⟩), .int .i64 loss] w fun e w' => e = .returned (.int .i64 ((0 : Nat) : Int)) ∧ Ip b bi bl w (restartS s loss) w' := by
  obtain ⟨U, hU⟩ : ∃ U, U = u64 loss := ⟨_, rfl⟩
  have cp := iPaths_any b bi bl l s 51 #[] lse w h hg.rises hn hps (fun a1 a2 W => Rg.entersk Tryz.func51 _ W) (fun W x _ _ => iRestC_any x W)
  have hll := held_len lse s.L
  have HH := Lib.hid h
  have HG := Lib.hid hg
  have HS := Lib.hid hs
  have HN := Lib.hid hn
  have HP := Lib.hid hps
  have hft := h.lt
  have HF := Lib.hid hft
  clear h hg hs hps hft
  go_enter Tryz.func18, Tryz.ntmps18
  go_wp2_with fail
  go_at_call 50
  refine cp.mono ?_
  rintro e w1 ⟨v, rfl, hT, hb1⟩
  have hlen : (held lse s.L).length ≤ 1000000000 := Nat.le_trans hll HN.out
  obtain ⟨a, c, hv, hstr, _, _⟩ := hT.form
  have hge : ∀ bb off, a = some ⟨bb, off, none⟩ → w.heap.size ≤ bb ∨ (held lse s.L).length = 0 := by
    intro bb off ha
    rcases hT.2 with ⟨hv2, h0⟩ | ⟨g, cap, cur, hv2, hgg, _⟩
    · exact .inr h0
    · rw [hv, ha] at hv2
      cases hv2
      exact .inl hgg
  have hstr2 : ∀ W, Chg (Ft b bi bl) w1 W → ∀ j p, (held lse s.L)[j]? = some p → ∃ bb off, a = some ⟨bb, off, none⟩ ∧ W.cell? ⟨bb, off + j, none⟩ = some (.string p) := by
    intro W hW j p hj
    have hjl : j < (held lse s.L).length := (List.getElem?_eq_some_iff.1 hj).1
    rcases hstr.2 with h0 | ⟨bb, off, ha, hbb, hcc⟩
    · omega
    · refine ⟨bb, off, ha, ?_⟩
      have hgb := (hge bb off ha).resolve_right (by omega)
      have hx := hcc j p hj
      unfold World.cell? at *
      rw [hW.block bb hbb (fun hf => by have := HF.out bb hf; omega)]
      exact hx
  subst hv
  have HST := Lib.hid hstr2
  have hIA : Ia b bi bl l w1 (mid s 0 [] s.stamps) := HH.out.below hb1
  have HIA := Lib.hid hIA
  obtain ⟨n, hn2⟩ : ∃ n, n = (held lse s.L).length := ⟨_, rfl⟩
  rw [← hn2] at hlen
  have HN2 := Lib.hid hn2
  rw [← hn2]
  have HT := Lib.hid hT
  clear hstr hge hstr2 hIA hT cp hll hn2
  go_wp2_with fail
  go_loopw [14] (fun i wr => ∃ (j k st : Nat) (pre : List It) (l2 : Int), j ≤ n ∧ i = .int .i64 j ∧ Hid (Through s U k j pre st ∧ (held lse s.L).drop j = held lse (s.L.drop k)) ∧ Ia b bi bl l2 wr (mid s k pre st) ∧ Chg (Ft b bi bl) w1 wr) (fun i _ => n - (intOf i).toNat)
  case atStart => exact ⟨0, 0, s.stamps, [], l, Nat.zero_le _, rfl, ⟨through_zero s U, rfl⟩, HIA.out, Chg.refl _ _⟩
  case round =>
    obtain ⟨j, k, st, pre, l2, hj, rfl, hT2, hI, hC⟩ := hrel
    by_cases hlt : j < n
    · obtain ⟨p, hp⟩ : ∃ p, (held lse s.L)[j]? = some p := ⟨_, List.getElem?_eq_getElem (by rw [← HN2.out]; exact hlt)⟩
      obtain ⟨bb, off, ha, hcl⟩ := HST.out _ hC j p hp
      obtain ⟨hjl, hpe⟩ := List.getElem?_eq_some_iff.1 hp
      have hcons : held lse (s.L.drop k) = p :: (held lse s.L).drop (j + 1) := by rw [← hT2.out.2, List.drop_eq_getElem_cons hjl, hpe]
      obtain ⟨k2, pre2, x, hth, hmid, hx, hlo, hxp, hrest⟩ := next_loose _ k pre (Nat.le_refl _) hT2.out.1 hcons
      rw [← hmid] at hI
      have hxm := List.mem_of_getElem? hx
      have hd := ne_dir HG.out hxm hlo
      obtain ⟨ho, hk⟩ := mid_old HG.out.rises hth hx hd
      have hpx := HP.out x hxm
      have hsz := HS.out.size x hxm
      have hkp := HS.out.kept x hxm
      have hpl := mix_lt U (j + 1)
      have hnk := hth.num
      have hkl := hth.le
      have hss := hth.stamp
      have hsb := HS.out.stamps
      have cm := fun W => iMix_any loss (j + 1) W hl (by omega)
      rw [← hU] at cm
      have cl := fun W => iLost_any x.data x.kept x.anew 2 (stOf x) x.stamp (mix U (j + 1)) W (by unfold stOf; rw [hlo]; rfl) hsz.1 hkp hpl
      have cs := fun W (hW : Ia b bi bl l2 W (mid s k2 pre2 st)) => iSet_any b bi bl l2 (mid s k2 pre2 st) (lose (mix U (j + 1)) x) x.stamp p W hW hxp (by rw [← hxp]; exact hpx) (by rw [mid_len hth]; exact HN.out) (by show st ≤ _; omega)
      rw [mid_set HG.out.rises hth hx] at cs
      obtain ⟨q1, q2⟩ := lose_R (mix U (j + 1)) x
      rw [q1, q2, show kOf (lose (mix U (j + 1)) x) = 2 from kOf_file hd, show stOf (lose (mix U (j + 1)) x) = 0 from rfl] at cs
      have hlk := fun W (hW : Ia b bi bl l2 W (mid s k2 pre2 st)) => hW.look (p := p) (by rw [← hxp]; exact maxLen_of hpx)
      rw [hxp] at ho hk
      rw [ho, hk] at hlk
      have HTN := Lib.hid (And.intro (through_loose hth hx hlo) hrest.symm)
      generalize loseR x.data x.kept x.anew (mix U (j + 1)) = Z at cl cs
      generalize mix U (j + 1) = PK at cm cl hpl
      subst ha
      have hadd : IntKind.i64.wrap ((j : Int) + 1) = ((j + 1 : Nat) : Int) := IntWalk.i64_in _ (by omega)
      have HAD := Lib.hid hadd
      have HI := Lib.hid hI
      have HLK := Lib.hid hlk
      clear hadd hI hlk hth hx hlo hxp hrest hmid ho hk hpx hsz hkp hpl hnk hkl hss hsb q1 q2 hd hxm hcons hp hpe hjl hT2
      go_wp2_with fail
      refine Rg.wp_only ?_ (regRestart _ (by kernel_rfl) _ b bi bl j PK l2 loss 2 (stOf x) x.stamp (mid s k2 pre2 st) _ p x.data x.kept Z _ HI.out HLK.out HAD.out cm cl cs)
      rintro _ w9 ⟨rfl, l9, hI9, hC9⟩
      go_wp2_with fail
      go_roundw
      case rel => exact ⟨j + 1, k2 + 1, st + 1, _, l9, by omega, by go_num, HTN, hI9, hC.then hC9⟩
      case measure => simp [intOf]; omega
    · obtain rfl : j = n := by omega
      have hnil : held lse (s.L.drop k) = [] := by rw [← hT2.out.2, List.drop_of_length_le (by rw [HN2.out]; exact Nat.le_refl _)]
      obtain ⟨pre3, h3, h4⟩ := end_loose _ k pre (Nat.le_refl _) hT2.out.1 hnil
      have hres := restart_mid hU h3
      rw [h4] at hres
      have HRS := Lib.hid hres
      have hc9 := hI.cell
      have hw9 := hI.warm
      have hb1' : (wr.setCell ⟨b, 5, none⟩ (.bool false)).heap[b]? = some (.cells #[.map (some bi), .map (some bl), .int .i64 l2, .int .i64 (mid s k pre st).steps, .int .i64 (mid s k pre st).stamps, .bool false] 60 (0, 0)) := own_cells hI 5 _ rfl
      have hb2' : ((wr.setCell ⟨b, 5, none⟩ (.bool false)).setCell ⟨b, 2, none⟩ (.int .i64 (-1))).heap[b]? = some (.cells #[.map (some bi), .map (some bl), .int .i64 (-1), .int .i64 (mid s k pre st).steps, .int .i64 (mid s k pre st).stamps, .bool false] 60 (0, 0)) := set_block hb1' _
      have hc2 : Chg (· = b) wr ((wr.setCell ⟨b, 5, none⟩ (.bool false)).setCell ⟨b, 2, none⟩ (.int .i64 (-1))) := (chg_set _).then (chg_set _)
      have a2 : Ia b bi bl (-1) _ { mid s k pre st with down := false, armed := -1 } := hI.poke hc2 hb2' rfl rfl (.inr rfl) (by omega)
      have HE := Lib.hid (show Ip b bi bl w { mid s k pre st with down := false, armed := -1 } _ from ⟨-1, a2, ((Chg.of_below hb1).then hC).then (hc2.mono ft_b)⟩)
      have g2 : (wr.setCell ⟨b, 5, none⟩ (.bool false)).cell? ⟨b, 2, none⟩ = some (.int .i64 l2) := by unfold World.cell?; rw [hb1']; rfl
      obtain ⟨c0, c1, c2, c3, c4, c5⟩ := hc9
      clear hI hT2 hnil h3 h4 hres hb1' hb2' hc2 a2 hC
      go_wp2
      go_ret
      exact ⟨rfl, by rw [HRS.out]; exact HE.out⟩
end Go.Proofs.YtjdfffkkpbabpaaGreat.Dk

namespace Go.Proofs.YtjdfffkkpbabpaaGreat.Dk
open Go.RowKit Tx Pm Pl Pr
set_option linter.unusedVariables false
end Go.Proofs.YtjdfffkkpbabpaaGreat.Dk

namespace Go.Proofs.YtjdfffkkpbabpaaGreat.Dk
open Go.RowKit Tx Pm Pl Pr
set_option linter.unusedVariables false
end Go.Proofs.YtjdfffkkpbabpaaGreat.Dk

namespace Go.Proofs.YtjdfffkkpbabpaaGreat.Dk
open Go.RowKit Tx Pm Pl Pr
set_option linter.unusedVariables false
section
variable {w0 W : World} {b bi bl k : Nat} {s s' : St}
end
theorem ok_small {s : St} (hl : s.L.length ≤ 1000) (hp : ∀ x ∈ s.L, x.path.size ≤ 1000) (hd : ∀ x ∈ s.L, x.data.size ≤ 1000000000000000) (hr : s.rooms.length ≤ 1000) (hst : s.steps ≤ 1000) (hsm : s.stamps ≤ 1000) (ha : -1 ≤ s.armed ∧ s.armed ≤ 9223372036854775807) : Ok s := by
  have hw := whole_le (B := 1000000000000000) hd
  have hm : s.L.length * 1000000000000000 ≤ 1000000000000000000 := Nat.le_trans (Nat.mul_le_mul_right _ hl) (by decide)
  exact ⟨⟨by omega, fun x hx => by have := hp x hx; omega, by omega⟩, by omega, by omega, by omega, by omega⟩
end Go.Proofs.YtjdfffkkpbabpaaGreat.Dk

namespace Go.Proofs.YtjdfffkkpbabpaaGreat.Wl
open Go.RowKit Tx Pm Pl Pr Dk Fr
set_option linter.unusedVariables false
def Own {α : Type} (Obj : World → (Nat → Prop) → α → Prop) (w0 : World) (x : α) (W : World) : Prop := ∃ F, Obj W F x ∧ (∀ i, F i → w0.heap.size ≤ i) ∧ Below w0.heap.size w0 W
section
variable {α β : Type} {Obj : World → (Nat → Prop) → α → Prop} {Obj' : World → (Nat → Prop) → β → Prop} {w0 W : World} {x : α} {y : β}
theorem Own.bel (h : Own Obj w0 x W) : Below w0.heap.size w0 W := by
  obtain ⟨_, _, _, h⟩ := h
  exact h
theorem own_left {F : Nat → Prop} {w' : World} (h1 : ∀ i, F i → w0.heap.size ≤ i) (h2 : Below w0.heap.size w0 W) (h : LeftA Obj' W F y w') : Own Obj' w0 y w' := by
  obtain ⟨F', h3, h4, h5⟩ := h
  have hs := h2.size
  exact ⟨F', h3, fun i hi => (h5 i hi).elim (fun hh => h1 i hh) (fun hh => by omega), h2.trans ⟨h4.os, h4.tape, h4.output, h4.size, fun i hi => h4.block i (Nat.lt_of_lt_of_le hi hs) (fun hf => by have := h1 i hf; omega)⟩⟩
theorem Own.call {f : FuncId} {args : Array Value} {P : Ending → Prop} (h : Own Obj w0 x W) (hc : ∀ F, Obj W F x → Calls Tryz.prog f args W fun e w' => P e ∧ LeftA Obj' W F y w') : Calls Tryz.prog f args W fun e w' => P e ∧ Own Obj' w0 y w' := by
  obtain ⟨F, h1, h2, h3⟩ := h
  exact (hc F h1).mono fun e w' hh => ⟨hh.1, own_left h2 h3 hh.2⟩
theorem Own.kept (hk : ∀ {w w1 : World} {F : Nat → Prop} {x : α}, Obj w F x → Below w.heap.size w w1 → Obj w1 F x) {w' : World} (h : Own Obj w0 x W) (hb : Below W.heap.size W w') : Own Obj w0 x w' := by
  obtain ⟨F, h1, h2, h3⟩ := h
  exact ⟨F, hk h1 hb, h2, below_call h3 hb⟩
end
section
variable {w0 W : World} {b j k : Nat} {s s' : St} {x y : Jst}
theorem d_arm {m : Int} {F : Nat → Prop} (h : ImpAt b W F s) (hm : -9223372036854775808 ≤ m ∧ m ≤ 9223372036854775807) : Calls Tryz.prog 17 #[.pointer (some ⟨b, 0, none⟩), .int .i64 m] W fun e w' => e = .returned (.tuple #[]) ∧ Dk.Left (ImpAt b) W F { s with armed := if m < 0 then -1 else m } w' := by
  obtain ⟨bi, bl, l, hI, hg, hF⟩ := h
  exact (iArm_any b bi bl l s m W hI hm).mono fun e w' ht => ⟨ht.1, ht.2.left (good_of hg rfl rfl) hF⟩
theorem w_new (w0 : World) {W : World} (hb : Below w0.heap.size w0 W) : Calls Tryz.prog 4 #[] W fun e w' => ∃ b, e = .returned (.pointer (some ⟨b, 0, none⟩)) ∧ Own (ImpAt b) w0 newS w' :=
  (iNew_any W).mono fun e w' ⟨b, bi, bl, he, hI, hF, hb1⟩ => ⟨b, he, Ft b bi bl, ⟨bi, bl, -1, hI, good_new, fun _ => Iff.rfl⟩, fun i hi => Nat.le_trans hb.size (hF i hi), below_call hb hb1⟩
end
theorem ok_new : Ok newS := ok_small (by decide) (by decide) (by decide) (by decide) (by decide) (by decide) (by decide)
end Go.Proofs.YtjdfffkkpbabpaaGreat.Wl

namespace Go.Proofs.YtjdfffkkpbabpaaGreat.Wl
open Go.RowKit Tx Pm Pl Pr Dk
set_option linter.unusedVariables false
structure Kd {α : Type} (O : World → (Nat → Prop) → α → Prop) : Prop where
  lt : ∀ {w F s}, O w F s → ∀ i, F i → i < w.heap.size
  kept : ∀ {w w1 F s}, O w F s → (∀ i, F i → w1.heap[i]? = w.heap[i]?) → O w1 F s
theorem kd_imp (b : Nat) : Kd (ImpAt b) := ⟨fun h => (imp_kind b).lt h, fun h hk => (imp_kind b).kept h hk⟩
theorem kd_ref (b : Nat) : Kd (RefAt b) := ⟨fun h => (ref_kind b).lt h, fun h hk => (ref_kind b).kept h hk⟩
section
variable {α β γ : Type} {OA : World → (Nat → Prop) → α → Prop} {OB : World → (Nat → Prop) → β → Prop} {OC : World → (Nat → Prop) → γ → Prop} {w0 W : World} {x : α} {y : β} {z : γ} {q : Option (Nat × Obj)}
def Tw (OA : World → (Nat → Prop) → α → Prop) (OB : World → (Nat → Prop) → β → Prop) (w0 : World) (q : Option (Nat × Obj)) (x : α) (y : β) (W : World) : Prop :=
  ∃ F G, OA W F x ∧ OB W G y ∧ (∀ i, F i → ¬ G i) ∧ (∀ i, F i ∨ G i → w0.heap.size ≤ i) ∧ Below w0.heap.size w0 W ∧ ∀ p, q = some p → W.heap[p.1]? = some p.2 ∧ ¬ F p.1 ∧ ¬ G p.1
theorem Tw.bel (h : Tw OA OB w0 q x y W) : Below w0.heap.size w0 W := by
  obtain ⟨_, _, _, _, _, _, h, _⟩ := h
  exact h
theorem Tw.turn (h : Tw OA OB w0 q x y W) : Tw OB OA w0 q y x W := by
  obtain ⟨F, G, h1, h2, h3, h4, h5, h6⟩ := h
  exact ⟨G, F, h2, h1, fun i hi hj => h3 i hj hi, fun i hi => h4 i hi.symm, h5, fun p hp => ⟨(h6 p hp).1, (h6 p hp).2.2, (h6 p hp).2.1⟩⟩
theorem Tw.drop (h : Tw OA OB w0 q x y W) : Tw OA OB w0 none x y W := by
  obtain ⟨F, G, h1, h2, h3, h4, h5, h6⟩ := h
  exact ⟨F, G, h1, h2, h3, h4, h5, fun p hp => by cases hp⟩
theorem tw_left (kA : Kd OA) (kB : Kd OB) {F G : Nat → Prop} {w' : World} (h1 : OA W F x) (h2 : OB W G y) (h3 : ∀ i, F i → ¬ G i) (h4 : ∀ i, F i ∨ G i → w0.heap.size ≤ i) (h5 : Below w0.heap.size w0 W) (h6 : ∀ p, q = some p → W.heap[p.1]? = some p.2 ∧ ¬ F p.1 ∧ ¬ G p.1) (hl : LeftA OC W F z w') : Tw OC OB w0 q z y w' := by
  obtain ⟨F', l1, l2, l3⟩ := hl
  have hs := h5.size
  have hltB := kB.lt h2
  have hkB : ∀ i, G i → w'.heap[i]? = W.heap[i]? := fun i hi => l2.block i (hltB i hi) (fun hf => h3 i hf hi)
  refine ⟨F', G, l1, kB.kept h2 hkB, fun i hi hg => ?_, fun i hi => ?_, h5.trans ⟨l2.os, l2.tape, l2.output, l2.size, fun i hi => l2.block i (Nat.lt_of_lt_of_le hi hs) (fun hf => by have := h4 i (.inl hf); omega)⟩, fun p hp => ?_⟩
  · rcases l3 i hi with hh | hh
    · exact h3 i hh hg
    · have := hltB i hg; omega
  · rcases hi with hi | hi
    · rcases l3 i hi with hh | hh
      · exact h4 i (.inl hh)
      · omega
    · exact h4 i (.inr hi)
  · obtain ⟨q1, q2, q3⟩ := h6 p hp
    have hplt := (Array.getElem?_eq_some_iff.1 q1).1
    exact ⟨(l2.block p.1 hplt q2).trans q1, fun hf => by rcases l3 _ hf with hh | hh; exact q2 hh; omega, q3⟩
theorem Tw.callA (kA : Kd OA) (kB : Kd OB) {f : FuncId} {args : Array Value} {P : Ending → Prop} (h : Tw OA OB w0 q x y W) (hc : ∀ F, OA W F x → Calls Tryz.prog f args W fun e w' => P e ∧ LeftA OC W F z w') : Calls Tryz.prog f args W fun e w' => P e ∧ Tw OC OB w0 q z y w' := by
  obtain ⟨F, G, h1, h2, h3, h4, h5, h6⟩ := h
  exact (hc F h1).mono fun e w' hh => ⟨hh.1, tw_left kA kB h1 h2 h3 h4 h5 h6 hh.2⟩
theorem Tw.callB (kA : Kd OA) (kB : Kd OB) {f : FuncId} {args : Array Value} {P : Ending → Prop} (h : Tw OA OB w0 q x y W) (hc : ∀ F, OB W F y → Calls Tryz.prog f args W fun e w' => P e ∧ LeftA OC W F z w') : Calls Tryz.prog f args W fun e w' => P e ∧ Tw OA OC w0 q x z w' :=
  (h.turn.callA kB kA hc).mono fun e w' hh => ⟨hh.1, hh.2.turn⟩
theorem Tw.below (kA : Kd OA) (kB : Kd OB) {w' : World} (h : Tw OA OB w0 q x y W) (hb : Below W.heap.size W w') : Tw OA OB w0 q x y w' := by
  obtain ⟨F, G, h1, h2, h3, h4, h5, h6⟩ := h
  exact ⟨F, G, kA.kept h1 (fun i hi => hb.block i (kA.lt h1 i hi)), kB.kept h2 (fun i hi => hb.block i (kB.lt h2 i hi)), h3, h4, below_call h5 hb, fun p hp => ⟨(hb.block p.1 (Array.getElem?_eq_some_iff.1 (h6 p hp).1).1).trans (h6 p hp).1, (h6 p hp).2⟩⟩
theorem Tw.box (kA : Kd OA) (kB : Kd OB) (h : Tw OA OB w0 none x y W) (o : Obj) : Tw OA OB w0 (some (W.heap.size, o)) x y (W.alloc o) := by
  obtain ⟨F, G, h1, h2, h3, h4, h5, h6⟩ := h
  have hbl := (Below.refl W.heap.size W).alloc (Nat.le_refl _) o
  refine ⟨F, G, kA.kept h1 (fun i hi => hbl.block i (kA.lt h1 i hi)), kB.kept h2 (fun i hi => hbl.block i (kB.lt h2 i hi)), h3, h4, below_call h5 hbl, fun p hp => ?_⟩
  injection hp with hp
  subst hp
  exact ⟨new_at W o rfl, fun hf => by have := kA.lt h1 _ hf; omega, fun hf => by have := kB.lt h2 _ hf; omega⟩
theorem Tw.at {bs : Nat} {o : Obj} (h : Tw OA OB w0 (some (bs, o)) x y W) : W.heap[bs]? = some o := by
  obtain ⟨_, _, _, _, _, _, _, h6⟩ := h
  exact (h6 _ rfl).1
end
end Go.Proofs.YtjdfffkkpbabpaaGreat.Wl

namespace Go.Proofs.YtjdfffkkpbabpaaGreat.Wl
open Go.RowKit Tx Pm Dk Fr
set_option linter.unusedVariables false
section
variable {b k : Nat} {F : Nat → Prop} {s s' : St} {w : World}
theorem rw_write (P Q : ByteArray) (h : RefAt b w F s) (ok : Ok s) (hP : P.size ≤ 8000000000000) (hQ : Q.size ≤ 1000000000000000000) (hk : writeS s P Q = (k, s')) : Calls Tryz.prog 94 #[.pointer (some ⟨b, 0, none⟩), .string P, .string Q] w (Dos (RefAt b) w F k s') := by
  obtain ⟨vL, vR, hat, hF⟩ := h
  have c := rWrite_any b _ vL vR P Q _ hat ok hP hQ
  rw [hk] at c
  exact c.mono fun e w' ht => to_left hF ht
theorem rw_append (P Q : ByteArray) (h : RefAt b w F s) (ok : Ok s) (hP : P.size ≤ 8000000000000) (hs : ∀ x ∈ s.L, x.data.size ≤ 10000000000000) (hQ : Q.size ≤ 10000000000000) (hk : appendS s P Q = (k, s')) : Calls Tryz.prog 87 #[.pointer (some ⟨b, 0, none⟩), .string P, .string Q] w (Dos (RefAt b) w F k s') := by
  obtain ⟨vL, vR, hat, hF⟩ := h
  have c := rAppend_any b _ vL vR P Q _ hat ok hP (fun x hx => by have := hs x hx; omega) (by omega)
  rw [hk] at c
  exact c.mono fun e w' ht => to_left hF ht
theorem rw_sync (P : ByteArray) (h : RefAt b w F s) (ok : Ok s) (hP : P.size ≤ 8000000000000) (hk : syncS s P = (k, s')) : Calls Tryz.prog 88 #[.pointer (some ⟨b, 0, none⟩), .string P] w (Dos (RefAt b) w F k s') := by
  obtain ⟨vL, vR, hat, hF⟩ := h
  have c := rSync_any b _ vL vR P _ hat ok hP
  rw [hk] at c
  exact c.mono fun e w' ht => to_left hF ht
theorem rw_rename (P Q : ByteArray) (h : RefAt b w F s) (ok : Ok s) (hP : P.size ≤ 8000000000000) (hQ : Q.size ≤ 8000000000000) (hk : renameS s P Q = (k, s')) : Calls Tryz.prog 95 #[.pointer (some ⟨b, 0, none⟩), .string P, .string Q] w (Dos (RefAt b) w F k s') := by
  obtain ⟨vL, vR, hat, hF⟩ := h
  have c := rRename_any b _ vL vR P Q _ hat ok hP hQ
  rw [hk] at c
  exact c.mono fun e w' ht => to_left hF ht
theorem rw_kind (P : ByteArray) (h : RefAt b w F s) (hn : s.L.length ≤ 1000000000) : Calls Tryz.prog 30 #[.pointer (some ⟨b, 0, none⟩), .string P] w fun e w' => e = .returned (.int .i64 (kind s.L P : Nat)) ∧ w = w' := by
  obtain ⟨vL, vR, hat, hF⟩ := h
  exact (rKind_any b _ vL vR P _ hat (by omega)).mono fun e w' hh => ⟨hh.1, by first | exact hh.2 | exact hh.2.symm⟩
theorem rw_read (P : ByteArray) (h : RefAt b w F s) (hn : s.L.length ≤ 1000000000) : Calls Tryz.prog 32 #[.pointer (some ⟨b, 0, none⟩), .string P] w fun e w' => e = .returned (.tuple #[.string (readS s P).1, .int .i64 ((readS s P).2 : Nat)]) ∧ Below w.heap.size w w' := by
  obtain ⟨vL, vR, hat, hF⟩ := h
  exact rRead_any b _ vL vR P _ hat hn
end
set_option maxRecDepth 100000 in
set_option maxHeartbeats 2000000 in
theorem rFill_any (b : Nat) {F : Nat → Prop} {s : St} (p d : ByteArray) (w : World) (h : RefAt b w F s) (o : FillOk s p d) (hp : p.size ≤ 1000) (hd : d.size ≤ 1000000000000000000) :
    Calls Tryz.prog 47 #[.pointer (some ⟨b, 0, none⟩), .string p, .string d] w (Dos (RefAt b) w F (fillS s p d).1 (fillS s p d).2) := by
  obtain ⟨o1, o2, o3⟩ := o
  have hcat := cat_size p
  obtain ⟨k1, s1, h1⟩ : ∃ k s1, writeS s (p ++ tT) d = (k, s1) := ⟨_, _, rfl⟩
  rw [h1] at o2 o3
  simp only at o2 o3
  obtain ⟨k2, s2, h2⟩ : ∃ k s2, syncS s1 (p ++ tT) = (k, s2) := ⟨_, _, rfl⟩
  rw [h2] at o3
  simp only at o3
  have c1 : Calls Tryz.prog 94 #[.pointer (some ⟨b, 0, none⟩), .string (p ++ ⟨#[95, 116]⟩), .string d] w (Dos (RefAt b) w F k1 s1) := rw_write (p ++ tT) d h o1 (by omega) hd h1
  have c2 : ∀ {W F1}, RefAt b W F1 s1 → Calls Tryz.prog 88 #[.pointer (some ⟨b, 0, none⟩), .string (p ++ ⟨#[95, 116]⟩)] W (Dos (RefAt b) W F1 k2 s2) := fun {W F1} hW => rw_sync (p ++ tT) hW o2 (by omega) h2
  have c3 : ∀ {W F1}, RefAt b W F1 s2 → Calls Tryz.prog 95 #[.pointer (some ⟨b, 0, none⟩), .string (p ++ ⟨#[95, 116]⟩), .string p] W (Dos (RefAt b) W F1 (renameS s2 (p ++ tT) p).1 (renameS s2 (p ++ tT) p).2) := fun {W F1} hW => rw_rename (p ++ tT) p hW o3 (by omega) (by omega) rfl
  by_cases e1 : k1 ≠ 0
  · rw [fill_1 h1 e1]
    have n1 := Dk.ne_eq e1
    clear h o1 o2 o3 c2 c3 h1 h2 e1
    go_enter Tryz.func47, Tryz.ntmps47
    go_wp2_with fail
    go_at_call 94
    refine c1.mono ?_
    rintro e w1 ⟨rfl, hl1⟩
    go_wp2_with fail
    go_ret
    exact ⟨rfl, hl1⟩
  · obtain rfl : k1 = 0 := by omega
    by_cases e2 : k2 ≠ 0
    · rw [fill_2 h1 h2 e2]
      have n2 := Dk.ne_eq e2
      clear h o1 o2 o3 c3 h1 h2 e1 e2
      go_enter Tryz.func47, Tryz.ntmps47
      go_wp2_with fail
      go_at_call 94
      refine c1.mono ?_
      rintro e w1 ⟨rfl, F1, p1, q1, r1⟩
      go_wp2_with fail
      go_at_call 88
      refine (c2 p1).mono ?_
      rintro e w2 ⟨rfl, hl2⟩
      go_wp2_with fail
      go_ret
      exact ⟨rfl, left_trans q1 r1 hl2⟩
    · obtain rfl : k2 = 0 := by omega
      rw [fill_3 h1 h2]
      clear h o1 o2 o3 h1 h2 e1 e2
      go_enter Tryz.func47, Tryz.ntmps47
      go_wp2_with fail
      go_at_call 94
      refine c1.mono ?_
      rintro e w1 ⟨rfl, F1, p1, q1, r1⟩
      go_wp2_with fail
      go_at_call 88
      refine (c2 p1).mono ?_
      rintro e w2 ⟨rfl, hl2⟩
      obtain ⟨F2, p2, q2, r2⟩ := left_trans q1 r1 hl2
      go_wp2_with fail
      go_at_call 95
      refine (c3 p2).mono ?_
      rintro e w3 ⟨rfl, hl3⟩
      go_wp2_with fail
      go_ret
      exact ⟨rfl, left_trans q2 r2 hl3⟩
end Go.Proofs.YtjdfffkkpbabpaaGreat.Wl

namespace Go.Proofs.YtjdfffkkpbabpaaGreat.Wl
open Go.RowKit Tx Pm Dk Fr
set_option linter.unusedVariables false
def RAddOk (x : Jst) (p r : ByteArray) : Prop := AddOk x p r ∧ (∀ y ∈ x.s.L, y.data.size ≤ 10000000000000) ∧ (Fm.pk r).size ≤ 10000000000000 ∧ r.size ≤ 2000000000
set_option maxRecDepth 100000 in
set_option maxHeartbeats 2000000 in
theorem rAdd_any (b j : Nat) {F Fd : Nat → Prop} {x : Jst} {v : Value} (p r : ByteArray) (w : World) (h : JAt (RefAt b) 86 b j p v Fd w F x) (o : RAddOk x p r) (hp : p.size ≤ 1000) :
    Calls Tryz.prog 41 #[.pointer (some ⟨j, 0, none⟩), .string r] w fun e w' => e = .returned (.int .i64 ((addS x p r).1 : Nat)) ∧ LeftA (Jn (RefAt b) 86 b j p) w F (addS x p r).2 w' := by
  obtain ⟨⟨o1, o2, o3, o4, o5⟩, o6, o7, o8⟩ := o
  obtain ⟨a0, c0, hform, _⟩ := h.row.form
  have kk := ref_kind b
  have hpk := Fm.pk_size r
  obtain ⟨k1, s1, h1⟩ : ∃ k s1, appendS x.s p (Fm.pk r) = (k, s1) := ⟨_, _, rfl⟩
  rw [h1] at o2
  simp only at o2
  obtain ⟨k2, s2, h2⟩ : ∃ k s2, syncS s1 p = (k, s2) := ⟨_, _, rfl⟩
  have cp := fun W => refPack_any r W (by omega)
  have ca : ∀ W, Below w.drew.heap.size w.drew W → Calls Tryz.prog 87 #[.pointer (some ⟨b, 0, none⟩), .string p, .string (Fm.pk r)] W fun e w' => e = .returned (.int .i64 (k1 : Nat)) ∧ Mid (RefAt b) 86 b j p v w F ⟨s1, x.R, x.dm⟩ w' := fun W hW =>
    (Mid.of kk h (below_call (Below.refl w.heap.size w).drew hW)).call kk (fun hd => rw_append p (Fm.pk r) hd o1 (by omega) o6 o7 h1)
  have cs : ∀ W, Mid (RefAt b) 86 b j p v w F ⟨s1, x.R, x.dm⟩ W → Calls Tryz.prog 88 #[.pointer (some ⟨b, 0, none⟩), .string p] W.drew fun e w' => e = .returned (.int .i64 (k2 : Nat)) ∧ Mid (RefAt b) 86 b j p v w F ⟨s2, x.R, x.dm⟩ w' := fun W hW => by
    obtain ⟨Fd', F', q, q2, q3⟩ := hW
    exact (Mid.trans q2 q3 (Mid.of kk q (Below.refl _ W).drew)).call (x := ⟨s1, x.R, x.dm⟩) kk (fun hd => rw_sync p hd o2 (by omega) h2)
  have hS := (h.below kk (Below.refl w.heap.size w).drew).two
  have hBS := fun W (hW : Mid (RefAt b) 86 b j p v w F ⟨s1, x.R, x.dm⟩ W) => hW.two
  have HS := Lib.hid hS
  have HCA := Lib.hid ca
  have HCS := Lib.hid cs
  have HBS := Lib.hid hBS
  generalize hK : Fm.pk r = K at cp ca HCA h1 o7
  by_cases e1 : k1 ≠ 0
  · rw [add_1 (by rw [hK]; exact h1) e1]
    have n1 := Dk.ne_eq e1
    clear h o1 o2 o3 o6 h1 h2 e1 hS ca cs hBS hK hpk
    go_enter Tryz.func41, Tryz.ntmps41
    go_wp2_with fail
    refine Rg.wp_only ?_ (regRAdd _ (by kernel_rfl) _ j b p r K k1 _ _ HS.out cp HCA.out HBS.out)
    rintro _ w9 ⟨rfl, hB9⟩
    go_wp2_with fail
    go_ret
    exact ⟨rfl, hB9.left⟩
  · obtain rfl : k1 = 0 := by omega
    by_cases e2 : k2 ≠ 0
    · rw [add_2 (by rw [hK]; exact h1) h2 e2]
      have n2 := Dk.ne_eq e2
      clear h o1 o2 o3 o6 h1 h2 e1 e2 hS ca cs hBS hK hpk
      go_enter Tryz.func41, Tryz.ntmps41
      go_wp2_with fail
      refine Rg.wp_only ?_ (regRAdd _ (by kernel_rfl) _ j b p r K 0 _ _ HS.out cp HCA.out HBS.out)
      rintro _ w9 ⟨rfl, hB9⟩
      obtain ⟨t0, t1⟩ := hB9.two
      have c9 := HCS.out _ hB9
      go_wp2_with fail
      go_still_tail 8, (by kernel_rfl)
      change wpList _ _ _ _ _ w9.drew
      go_wp2_with fail
      go_at_call 88
      refine c9.mono ?_
      rintro e w5 ⟨rfl, h5⟩
      go_wp2_with fail
      go_ret
      exact ⟨rfl, h5.left⟩
    · obtain rfl : k2 = 0 := by omega
      rw [add_3 (by rw [hK]; exact h1) h2]
      clear h o1 o2 o3 o6 h1 h2 e1 e2 hS ca cs hBS hK hpk
      obtain ⟨i0, hi, hz0, hz1, hz2⟩ := info_parts info9
      obtain ⟨n0, hn0⟩ : ∃ n0, n0 = x.R.length := ⟨_, rfl⟩
      rw [← hn0] at hform o5
      have HN0 := Lib.hid hn0
      subst hform
      clear hn0
      go_enter Tryz.func41, Tryz.ntmps41
      go_wp2_with fail
      refine Rg.wp_only ?_ (regRAdd _ (by kernel_rfl) _ j b p r K 0 _ _ HS.out cp HCA.out HBS.out)
      rintro _ w9 ⟨rfl, hB9⟩
      obtain ⟨t0, t1⟩ := hB9.two
      have c9 := HCS.out _ hB9
      go_wp2_with fail
      go_still_tail 8, (by kernel_rfl)
      change wpList _ _ _ _ _ w9.drew
      go_wp2_with fail
      go_at_call 88
      refine c9.mono ?_
      rintro e w5 ⟨rfl, Fd5, F5, q5, k5, n5⟩
      obtain ⟨t50, t51, t52, t53⟩ := q5.cell
      have hrow := q5.row
      unfold Fr.Texts at hrow
      have HQ := Lib.hid q5
      clear q5
      rw [← HN0.out] at hrow
      go_wp2_with (at_builtin; refine Ap.wpList_append_two _ rfl _ _ 84 rfl 0 9 i0 (.string ⟨#[]⟩) 1 16 Tryz.underlying84 hi hz0 hz1 hz2 rfl (by decide) (by decide) _ _ _ rfl (hrow.alloc _) ⟨w5.heap.size, 0, none⟩ 1 [Fr.sv r] rfl rfl ?c1 ?c2 ?c3 ?c4 ?c5 ?_)
      case c1 => exact cell_one_new _ _ _
      case c2 => exact Fr.sv_one [r]
      case c3 => omega
      case c4 => omega
      case c5 => exact Nat.zero_le _
      intro v' w6 hown hg
      obtain ⟨a6, c6, rfl⟩ := own_form hown
      obtain ⟨⟨g1, g2⟩, hfin⟩ := HQ.out.grown (r := r) kk ((Below.refl _ w5).alloc (Nat.le_refl _) (.cells #[.string r] 9)) (by rw [← HN0.out]; exact hown) (by rw [World.size_alloc]; exact hg)
      have HFIN := Lib.hid (hfin.trans k5 n5)
      clear hown hg hrow hfin
      go_wp2_with fail
      go_ret
      exact ⟨rfl, HFIN.out⟩
set_option maxRecDepth 100000 in
set_option maxHeartbeats 2000000 in
theorem rReset_any (b j : Nat) {F Fd : Nat → Prop} {x : Jst} {v : Value} (p : ByteArray) (w : World) (h : JAt (RefAt b) 86 b j p v Fd w F x) (o : FillOk x.s p ⟨#[]⟩) (hp : p.size ≤ 1000) :
    Calls Tryz.prog 49 #[.pointer (some ⟨j, 0, none⟩)] w fun e w' => e = .returned (.int .i64 ((resetS x p).1 : Nat)) ∧ LeftA (Jn (RefAt b) 86 b j p) w F (resetS x p).2 w' := by
  have kk := ref_kind b
  obtain ⟨k1, s1, h1⟩ : ∃ k s1, fillS x.s p ⟨#[]⟩ = (k, s1) := ⟨_, _, rfl⟩
  have hM := Mid.of kk h (Below.refl w.heap.size w).drew
  have c1 : Calls Tryz.prog 47 #[.pointer (some ⟨b, 0, none⟩), .string p, .string ⟨#[]⟩] w.drew fun e w' => e = .returned (.int .i64 (k1 : Nat)) ∧ Mid (RefAt b) 86 b j p v w F ⟨s1, x.R, x.dm⟩ w' := hM.call kk (fun hd => by
    have := rFill_any b p ⟨#[]⟩ w.drew hd o hp (by decide)
    rw [h1] at this
    exact this)
  obtain ⟨t0, t1, _, _⟩ := h.cell
  have hr : resetS x p = if k1 ≠ 0 then (k1, ⟨s1, x.R, x.dm⟩) else (0, ⟨s1, [], x.dm⟩) := by
    unfold resetS
    rw [h1]
  by_cases e1 : k1 ≠ 0
  · rw [hr, if_pos e1]
    have n1 := Dk.ne_eq e1
    clear h o hM e1 h1 hr
    go_enter Tryz.func49, Tryz.ntmps49
    go_wp2_with fail
    go_still_tail 8, (by kernel_rfl)
    change wpList _ _ _ _ _ w.drew
    go_wp2_with fail
    go_at_call 47
    refine c1.mono ?_
    rintro e w5 ⟨rfl, h5⟩
    go_wp2_with fail
    go_ret
    exact ⟨rfl, h5.left⟩
  · obtain rfl : k1 = 0 := by omega
    rw [hr, if_neg (fun h => h rfl)]
    clear h o hM e1 h1 hr
    go_enter Tryz.func49, Tryz.ntmps49
    go_wp2_with fail
    go_still_tail 8, (by kernel_rfl)
    change wpList _ _ _ _ _ w.drew
    go_wp2_with fail
    go_at_call 47
    refine c1.mono ?_
    rintro e w5 ⟨rfl, Fd5, F5, q5, k5, n5⟩
    obtain ⟨t50, t51, t52, t53⟩ := q5.cell
    have hwm := q5.warm 2
    have hfin : LeftA (Jn (RefAt b) 86 b j p) w F ⟨s1, [], x.dm⟩ (w5.setCell ⟨j, 2, none⟩ (.slice none 0 0)) := by
      refine LeftA.trans k5 n5 (Mid.left (q5.poke kk (v' := .slice none 0 0) ((chg_set (b := j) (k := 2) (.slice none 0 0)).mono (fun i hi => Or.inl hi)) ?_ (World.ownsRow_nil _ _ _ _) (fun i hi => by cases hi)))
      rw [set_block q5.blk]
      rfl
    have HF := Lib.hid hfin
    clear q5 k5 n5 hfin
    go_wp2_with fail
    go_ret
    exact ⟨rfl, HF.out⟩
end Go.Proofs.YtjdfffkkpbabpaaGreat.Wl
