/- Texts of this seat, one behind the other. -/
import Derived.Test.YtdfcbnejnnibpaaGreatDoorT2
import Derived.Deep.QuietTactic
import Derived.BigQuiet
import Derived.Laws.OwnMore
import Derived.Lib.ItoaNum
import Derived.Shelf.Strconv.Itoa3
import Derived.Shelf.Strconv.Atoi
import Derived.Test.YtdfcbnejnnibpaaGreatDoorProg
import Derived.Lib.AppendIntMem
namespace Go.Proofs.YtdfcbnejnnibpaaGreatDoor.Dk
open Go.RowKit Tx Pm Pl Pr
set_option linter.unusedVariables false
theorem turned_cell {w w' : World} {b i : Nat} (h : w.mapTurned w' b) (hi : i ≠ b) (o : Nat) : w'.cell? ⟨i, o, none⟩ = w.cell? ⟨i, o, none⟩ := by
  unfold World.cell?
  simp only [turned_block h hi]
theorem cell_ne {w : World} {bi : Nat} {L : List It} (h : Mp w bi L) {g : Nat} {o : Nat} {v : Value} (hc : w.cell? ⟨g, o, none⟩ = some v) : g ≠ bi := by
  rintro rfl
  obtain ⟨D, ⟨es, clock, hb, _⟩, _⟩ := h
  unfold World.cell? at hc
  simp [hb] at hc
set_option maxRecDepth 100000 in
set_option maxHeartbeats 2000000 in
theorem iRenameC_any (b bi bl bd bp bq : Nat) (l : Int) (s : St) (f t : ByteArray) (w : World) (h : Ia b bi bl l w s) (hR : Rises s.L) (hd : Cap w bd (.pointer (some ⟨b, 0, none⟩))) (hp : Cap w bp (.string f)) (hq : Cap w bq (.string t)) (hfs : f.size ≤ 8000000000000) (hts : t.size ≤ 8000000000000) (hn : s.L.length ≤ 1000000000) (hst : s.stamps ≤ 1000000000000)
    (ho : kind s.L f = 2) :
    Calls Tryz.prog 142 #[.pointer (some ⟨bd, 0, none⟩), .pointer (some ⟨bp, 0, none⟩), .pointer (some ⟨bq, 0, none⟩)] w fun e w' => e = .returned (.tuple #[]) ∧ Ip b bi bl w (putS { s with L := drop s.L f } { old s.L f with path := t }) w' := by
  obtain ⟨c0, _⟩ := h.cell
  unfold Cap at hd hp hq
  have hbd : bd < w.heap.size := World.block_lt_of_cell? w _ hd
  have hbp : bp < w.heap.size := World.block_lt_of_cell? w _ hp
  have hbq : bq < w.heap.size := World.block_lt_of_cell? w _ hq
  have hb : b < w.heap.size := h.lt b (.inl rfl)
  have nd := cell_ne h.items hd
  have np := cell_ne h.items hp
  have nq := cell_ne h.items hq
  have nb := h.nb.1
  have nn : w.heap.size ≠ bi := fun e => by have := h.items.lt; omega
  have hl := (h.below (Below.refl _ w).drew).look (maxLen_of hfs)
  have hl2 := fun o => (h.below ((Below.refl _ w).alloc (Nat.le_refl _) o).drew).look (maxLen_of hfs)
  rw [ho] at hl hl2
  have hod : (old s.L f).dir = false := old_dir (by omega)
  have hB2 := ((Below.refl _ w).alloc (Nat.le_refl _) (.cells #[.int .i64 2, .string (old s.L f).data, .string (old s.L f).kept, .int .i64 (stOf (old s.L f)), .int .i64 (old s.L f).stamp] 87)).drew.drew
  have a2 := h.below hB2
  obtain ⟨w3, hrun, hm, ht⟩ := a2.items.del hR (maxLen_of hfs) 0
  have a3 : Ia b bi bl l w3 { s with L := drop s.L f } := a2.turned hm ht
  have hc3 : Chg (Ft b bi bl) w w3 := (Chg.of_below hB2).then ((turned_chg ht).mono ft_i)
  have hbox : w3.cell? ⟨w.heap.size, 0, none⟩ = some (.int .i64 2) ∧ w3.cell? ⟨w.heap.size, 1, none⟩ = some (.string (old s.L f).data) ∧ w3.cell? ⟨w.heap.size, 2, none⟩ = some (.string (old s.L f).kept) ∧ w3.cell? ⟨w.heap.size, 3, none⟩ = some (.int .i64 (stOf (old s.L f))) ∧ w3.cell? ⟨w.heap.size, 4, none⟩ = some (.int .i64 (old s.L f).stamp) := by
    refine ⟨?_, ?_, ?_, ?_, ?_⟩ <;> · rw [turned_cell ht nn]; exact World.cell?_alloc_at _ _ _ _ rfl
  have g0 : w3.cell? ⟨bd, 0, none⟩ = some (.pointer (some ⟨b, 0, none⟩)) := (turned_cell ht nd 0).trans ((World.cell?_alloc_past _ _ _ hbd).trans hd)
  have g1 : w3.cell? ⟨bq, 0, none⟩ = some (.string t) := (turned_cell ht nq 0).trans ((World.cell?_alloc_past _ _ _ hbq).trans hq)
  have cs := iSet_any b bi bl l { s with L := drop s.L f } { old s.L f with path := t } (old s.L f).stamp t w3 a3 rfl hts (Nat.le_trans (drop_in s.L f).2 hn) hst
  rw [show kOf { old s.L f with path := t } = 2 from kOf_file hod] at cs
  have cs : Calls Tryz.prog 97 #[.pointer (some ⟨b, 0, none⟩), .string t, .agg #[.int .i64 2, .string (old s.L f).data, .string (old s.L f).kept, .int .i64 (stOf (old s.L f)), .int .i64 (old s.L f).stamp]] w3 fun e w' => e = .returned (.tuple #[]) ∧ Ip b bi bl w3 (putS { s with L := drop s.L f } { old s.L f with path := t }) w' := cs
  have hfin : ∀ w', Ip b bi bl w3 (putS { s with L := drop s.L f } { old s.L f with path := t }) w' → Ip b bi bl w (putS { s with L := drop s.L f } { old s.L f with path := t }) w' := fun w' ⟨l2, h1, h2⟩ => ⟨l2, h1, hc3.then h2⟩
  have HE := Lib.hid hfin
  clear h ho hod hB2 a2 a3 hm ht hc3 hfin
  generalize (putS { s with L := drop s.L f } { old s.L f with path := t }) = s' at cs HE ⊢
  generalize (old s.L f).data = X0 at hl hl2 cs hrun hbox
  generalize (old s.L f).kept = X1 at hl hl2 cs hrun hbox
  generalize ((old s.L f).stamp : Int) = X3 at hl hl2 cs hrun hbox
  generalize stOf (old s.L f) = X2 at hl hl2 cs hrun hbox
  obtain ⟨k0, k1, k2, k3, k4⟩ := hbox
  go_enter Tryz.func142, Tryz.ntmps142
  go_wp2
  go_region
  all_goals go_wp2
  all_goals go_region
  all_goals go_wp2_with (go_at_call 97; refine cs.mono ?_; rintro e w5 ⟨rfl, h5⟩)
  all_goals (go_end0; exact ⟨rfl, HE.out _ h5⟩)
end Go.Proofs.YtdfcbnejnnibpaaGreatDoor.Dk

namespace Go.Proofs.YtdfcbnejnnibpaaGreatDoor.Dk
open Go.RowKit Tx Pm Pl Pr
set_option linter.unusedVariables false
theorem cap_chg {w w1 : World} {F : Nat → Prop} {g : Nat} {v : Value} (h : Cap w g v) (hc : Chg F w w1) (hn : ¬ F g) : Cap w1 g v := by
  have hg := World.block_lt_of_cell? w _ h
  unfold Cap World.cell? at *
  rw [hc.block g hg hn]
  exact h
theorem cap_below {w w1 : World} {g : Nat} {v : Value} (h : Cap w g v) (hb : Below w.heap.size w w1) : Cap w1 g v := cap_chg (F := fun _ => False) h ⟨hb.os, hb.tape, hb.output, hb.size, fun i hi _ => hb.block i hi⟩ id
theorem cap_new (w : World) (v : Value) (T : TypeId) : Cap (w.alloc (.cells #[v] T)) w.heap.size v := by
  unfold Cap
  rw [World.cell?_alloc_at _ _ _ _ rfl]
  rfl
theorem first_down {s : St} {p : ByteArray} {m : Nat} (h : first s p m = 0) : s.down = false := by
  unfold first at h
  cases hd : s.down with
  | false => rfl
  | true => rw [hd] at h; cases h
theorem mkdir_step (s : St) (p : ByteArray) : mkdirS s p = stepR s (mayMkdirS s p) { (done s).2 with L := ins (done s).2.L ⟨p, true, ⟨#[]⟩, ⟨#[]⟩, false, false, 0⟩ } := by
  unfold mkdirS mayMkdirS stepR
  by_cases h1 : first s p 0 ≠ 0
  · rw [if_pos h1, if_pos h1, if_pos h1]
  · rw [if_neg h1, if_neg h1]
    by_cases h2 : home s.L p = false
    · rw [if_pos h2, if_pos h2, if_pos (by decide)]
    · rw [if_neg h2, if_neg h2]
      by_cases h3 : kind s.L p = 2
      · rw [if_pos h3, if_pos h3, if_pos (by decide)]
      · rw [if_neg h3, if_neg h3]
        rfl
theorem mayMkdir_down {s : St} {p : ByteArray} (h : mayMkdirS s p = 0) : s.down = false := by
  unfold mayMkdirS at h
  split at h
  · rename_i h1; exact absurd h h1
  · rename_i h1; exact first_down (p := p) (m := 0) (by omega)
theorem write_step {s : St} (hg : Good s) (p d : ByteArray) : writeS s p d = stepR s (mayWriteS s p d) (putS (done s).2 { old s.L p with data := d, loose := true, anew := true }) := by
  unfold writeS mayWriteS stepR
  rw [fits_full hg]
  by_cases h1 : first s p 1 ≠ 0
  · rw [if_pos h1, if_pos h1, if_pos h1]
  · rw [if_neg h1, if_neg h1]
    by_cases h2 : home s.L p = false
    · rw [if_pos h2, if_pos h2, if_pos (by decide)]
    · rw [if_neg h2, if_neg h2]
      by_cases h3 : kind s.L p = 1
      · rw [if_pos h3, if_pos h3, if_pos (by decide)]
      · rw [if_neg h3, if_neg h3]
        cases full s (vol p) ((d.size : Int) - (old s.L p).data.size) with
        | true => rfl
        | false => rfl
theorem mayWrite_ok {s : St} {p d : ByteArray} (h : mayWriteS s p d = 0) : s.down = false ∧ kind s.L p ≠ 1 := by
  unfold mayWriteS at h
  split at h
  · rename_i h1; exact absurd h h1
  rename_i h1
  split at h
  · cases h
  split at h
  · cases h
  rename_i h3
  exact ⟨first_down (p := p) (m := 1) (by omega), h3⟩
theorem there_kind {s : St} {p : ByteArray} (h : there s p = 0) : s.down = false ∧ kind s.L p = 2 := by
  unfold there at h
  split at h
  · rename_i h1; exact absurd h h1
  rename_i h1
  split at h
  · cases h
  split at h
  · cases h
  rename_i h2 h3
  refine ⟨first_down (p := p) (m := 1) (by omega), ?_⟩
  rcases kind_le s.L p with e | e | e
  · exact absurd e h2
  · exact absurd e h3
  · exact e
theorem sync_step (s : St) (p : ByteArray) : syncS s p = stepR s (there s p) { (done s).2 with L := ins (done s).2.L { old s.L p with kept := (old s.L p).data, loose := false, anew := false } } := rfl
theorem rename_step {s : St} (hg : Good s) (f t : ByteArray) : renameS s f t = stepR s (mayRenS s f t) (putS { (done s).2 with L := drop (done s).2.L f } { old s.L f with path := t }) := by
  unfold renameS mayRenS stepR firstR
  by_cases h1 : first s f 1 ≠ 0
  · rw [if_pos h1, if_pos h1, if_pos h1, if_pos h1]
  rw [if_neg h1, if_neg h1]
  by_cases h2 : first s t 1 ≠ 0
  · rw [if_pos h2, if_pos h2, if_pos h2]
  rw [if_neg h2, if_neg h2]
  by_cases h3 : kind s.L f = 0
  · rw [if_pos (.inl h3), if_pos h3, if_pos (by decide)]
  rw [if_neg h3]
  by_cases h4 : home s.L t = false
  · rw [if_pos (.inr h4), if_pos h4, if_pos (by decide)]
  rw [if_neg (by rintro (h | h) <;> contradiction), if_neg h4]
  by_cases h5 : kind s.L f = 1
  · rw [if_pos (.inl h5), if_pos h5, if_pos (by decide)]
  rw [if_neg h5]
  by_cases h6 : kind s.L t = 1
  · rw [if_pos (.inr h6), if_pos h6, if_pos (by decide)]
  rw [if_neg (by rintro (h | h) <;> contradiction), if_neg h6]
  have e : (f ≠ t ∧ fits s t (moreS s.L f t) = false) ↔ (vol f ≠ vol t ∧ full s (vol t) (((old s.L f).data.size : Int) - (old s.L t).data.size) = true) := by
    rw [fits_full hg]
    by_cases hv : vol f = vol t
    · have hm : moreS s.L f t ≤ 0 := by
        unfold moreS
        rw [if_pos hv]
        split <;> omega
      have hf : full s (vol t) (moreS s.L f t) = false := by
        unfold full
        cases roomOf s.rooms (vol t) with
        | none => rfl
        | some r => simp only; rw [decide_eq_false (by omega), Bool.false_and]
      constructor
      · rintro ⟨_, h⟩
        rw [hf] at h
        cases h
      · rintro ⟨h, _⟩
        exact absurd hv h
    · have hft : f ≠ t := fun e => hv (by rw [e])
      have hm : moreS s.L f t = ((old s.L f).data.size : Int) - (old s.L t).data.size := by
        unfold moreS
        rw [if_neg hv]
        rcases kind_le s.L t with k | k | k
        · have ho : old s.L t = mk t := by
            unfold old
            cases hx : find s.L t with
            | none => rfl
            | some x =>
              unfold kind at k
              rw [hx] at k
              unfold kindOf at k
              simp only at k
              split at k <;> cases k
          rw [if_neg (by omega), ho]
          rfl
        · exact absurd k h6
        · rw [if_pos k]
      rw [hm]
      constructor
      · rintro ⟨_, h⟩
        refine ⟨hv, ?_⟩
        cases hb : full s (vol t) (((old s.L f).data.size : Int) - (old s.L t).data.size) with
        | true => rfl
        | false => rw [hb] at h; cases h
      · rintro ⟨_, h⟩
        refine ⟨hft, ?_⟩
        rw [h]
        rfl
  by_cases h7 : f ≠ t ∧ fits s t (moreS s.L f t) = false
  · rw [if_pos h7, if_pos (e.1 h7), if_pos (by decide)]
  · rw [if_neg h7, if_neg (fun h => h7 (e.2 h))]
    rfl
theorem mayRen_ok {s : St} {f t : ByteArray} (h : mayRenS s f t = 0) : s.down = false ∧ kind s.L f = 2 := by
  unfold mayRenS at h
  split at h
  · rename_i h1; exact absurd h h1
  rename_i h1
  split at h
  · cases h
  rename_i h2
  split at h
  · cases h
  split at h
  · cases h
  rename_i h3
  have hf : first s f 1 = 0 := by
    unfold firstR at h1
    by_cases hq : first s f 1 = 0
    · exact hq
    · rw [if_pos hq] at h1
      omega
  refine ⟨first_down hf, ?_⟩
  rcases kind_le s.L f with e | e | e
  · exact absurd e h2
  · exact absurd e h3
  · exact e
set_option maxRecDepth 100000 in
set_option maxHeartbeats 2000000 in
theorem iMkdir_any (b bi bl : Nat) (l : Int) (s : St) (p : ByteArray) (w : World) (h : Ia b bi bl l w s) (hg : Good s) (ok : Ok s) (hp : p.size ≤ 8000000000000) :
    Calls Tryz.prog 21 #[.pointer (some ⟨b, 0, none⟩), .string p] w fun e w' => e = .returned (.int .i64 ((mkdirS s p).1 : Nat)) ∧ Ip b bi bl w (mkdirS s p).2 w' := by
  have hft := h.lt
  have hn := ok.fit.1
  have hst : (done s).2.stamps ≤ 1000000000000 := by rw [done_stamps]; exact ok.stamps
  have eL := done_L s
  rw [mkdir_step]
  obtain ⟨S', hS'⟩ : ∃ S', S' = { (done s).2 with L := ins (done s).2.L ⟨p, true, ⟨#[]⟩, ⟨#[]⟩, false, false, 0⟩ } := ⟨_, rfl⟩
  rw [← hS']
  have hb1 := (Below.refl w.heap.size w).alloc (Nat.le_refl _) (.cells #[.pointer (some ⟨b, 0, none⟩)] 27)
  have k1 := cap_new w (.pointer (some ⟨b, 0, none⟩)) 27
  have k2 := cap_new (w.alloc (.cells #[.pointer (some ⟨b, 0, none⟩)] 27)) (.string p) 9
  have hs1 : (w.alloc (.cells #[.pointer (some ⟨b, 0, none⟩)] 27)).heap.size = w.heap.size + 1 := by simp
  rw [hs1] at k2
  have hb2 := hb1.alloc (by simp) (.cells #[.string p] 9)
  have k1 := cap_below k1 ((Below.refl _ _).alloc (Nat.le_refl _) (.cells #[.string p] 9))
  obtain ⟨W1, hW1⟩ : ∃ W1, W1 = ((w.alloc (.cells #[.pointer (some ⟨b, 0, none⟩)] 27)).alloc (.cells #[.string p] 9)) := ⟨_, rfl⟩
  rw [← hW1] at k1 k2 hb2
  have hb3 : Below w.heap.size w W1.drew := hb2.drew
  have cm := iMayMkdir_any b bi bl l s p W1.drew (h.below hb3) hp
  have hen : ∀ W, (callFunc 44 #[.pointer (some ⟨w.heap.size, 0, none⟩), .pointer (some ⟨w.heap.size + 1, 0, none⟩)]).run Tryz.prog W = .ok (.enter 44 #[.pointer (some ⟨w.heap.size, 0, none⟩), .pointer (some ⟨w.heap.size + 1, 0, none⟩)]) W :=
    fun W => Rg.enters Tryz.func44 (by kernel_rfl) (by kernel_rfl) _ W
  have ct : ∀ W, Below W1.heap.size W1 W → Calls Tryz.prog 42 #[.pointer (some ⟨b, 0, none⟩), .int .i64 (mayMkdirS s p : Nat), .func (.func 44) #[] #[.pointer (some ⟨w.heap.size, 0, none⟩), .pointer (some ⟨w.heap.size + 1, 0, none⟩)]] W fun e w' => e = .returned (.int .i64 ((stepR s (mayMkdirS s p) S').1 : Nat)) ∧
      (Ip b bi bl w (stepR s (mayMkdirS s p) S').2 w' ∧ Cap w' w.heap.size (.pointer (some ⟨b, 0, none⟩)) ∧ Cap w' (w.heap.size + 1) (.string p)) := by
    intro W hW
    have hbW := below_call hb2 hW
    have j1 := cap_below k1 hW
    have j2 := cap_below k2 hW
    have hnf : ∀ k, ¬ Ft b bi bl (w.heap.size + k) := fun k hk => by have := hft _ hk; omega
    refine (iStep_any b bi bl l s _ _ _ S' W (h.below hbW) (fun e => mayMkdir_down e) ok.steps hen (fun l1 W2 hr _ hI hc => ?_)).mono ?_
    · have m1 := cap_chg j1 hc (fun e => by have := hft b (.inl rfl); omega)
      have m2 := cap_chg j2 hc (fun e => by have := hft b (.inl rfl); omega)
      rw [hS']
      exact iMkdirC_any b bi bl _ _ l1 _ p W2 hI m1 m2 hp (by rw [eL]; exact hn)
    · rintro e w' ⟨rfl, l5, h5, hc5⟩
      exact ⟨rfl, ⟨l5, h5, (Chg.of_below hbW).then hc5⟩, cap_chg j1 hc5 (hnf 0), cap_chg j2 hc5 (hnf 1)⟩
  generalize stepR s (mayMkdirS s p) S' = RES at ct ⊢
  generalize mayMkdirS s p = r at cm ct
  have HW1 := Lib.hid hW1
  clear h hg ok hS' hst eL hn hft hb1 hb2 hb3 hen
  go_enter Tryz.func21, Tryz.ntmps21
  go_wp2_with fail
  rw [← HW1.out]
  refine Rg.wp_only ?_ (regMkdir _ (by kernel_rfl) _ w.heap.size (w.heap.size + 1) (.pointer (some ⟨b, 0, none⟩)) p r RES.1 W1 (fun W => Below W1.heap.size W1 W) (fun W => Ip b bi bl w RES.2 W ∧ Cap W w.heap.size (.pointer (some ⟨b, 0, none⟩)) ∧ Cap W (w.heap.size + 1) (.string p)) ⟨k1, k2⟩ (cm.mono (fun e w' he => ⟨he.1, (Below.refl _ W1).drew.trans he.2⟩)) (fun W hW => ⟨cap_below k1 hW, cap_below k2 hW⟩) ct (fun W hW => hW.2))
  rintro _ w9 ⟨rfl, h9⟩
  go_wp2_with fail
  go_ret
  exact ⟨rfl, h9.1⟩
set_option maxRecDepth 100000 in
set_option maxHeartbeats 2000000 in
theorem iWrite_any (b bi bl : Nat) (l : Int) (s : St) (p q : ByteArray) (w : World) (h : Ia b bi bl l w s) (hg : Good s) (ok : Ok s) (hp : p.size ≤ 8000000000000) (hq : q.size ≤ 1000000000000000000) :
    Calls Tryz.prog 100 #[.pointer (some ⟨b, 0, none⟩), .string p, .string q] w fun e w' => e = .returned (.int .i64 ((writeS s p q).1 : Nat)) ∧ Ip b bi bl w (writeS s p q).2 w' := by
  have hft := h.lt
  have hn := ok.fit.1
  have hst : (done s).2.stamps ≤ 1000000000000 := by rw [done_stamps]; exact ok.stamps
  have eL := done_L s
  rw [write_step hg]
  obtain ⟨S', hS'⟩ : ∃ S', S' = putS (done s).2 { old s.L p with data := q, loose := true, anew := true } := ⟨_, rfl⟩
  rw [← hS']
  have hb1 := (Below.refl w.heap.size w).alloc (Nat.le_refl _) (.cells #[.pointer (some ⟨b, 0, none⟩)] 27)
  have k1 := cap_new w (.pointer (some ⟨b, 0, none⟩)) 27
  have k2 := cap_new (w.alloc (.cells #[.pointer (some ⟨b, 0, none⟩)] 27)) (.string p) 9
  have hs1 : (w.alloc (.cells #[.pointer (some ⟨b, 0, none⟩)] 27)).heap.size = w.heap.size + 1 := by simp
  rw [hs1] at k2
  have hb2 := hb1.alloc (by simp) (.cells #[.string p] 9)
  have k1 := cap_below k1 ((Below.refl _ _).alloc (Nat.le_refl _) (.cells #[.string p] 9))
  have k3 := cap_new ((w.alloc (.cells #[.pointer (some ⟨b, 0, none⟩)] 27)).alloc (.cells #[.string p] 9)) (.string q) 9
  have hs2 : ((w.alloc (.cells #[.pointer (some ⟨b, 0, none⟩)] 27)).alloc (.cells #[.string p] 9)).heap.size = w.heap.size + 1 + 1 := by simp
  rw [hs2] at k3
  have hb2 := hb2.alloc (by simp; omega) (.cells #[.string q] 9)
  have k1 := cap_below k1 ((Below.refl _ _).alloc (Nat.le_refl _) (.cells #[.string q] 9))
  have k2 := cap_below k2 ((Below.refl _ _).alloc (Nat.le_refl _) (.cells #[.string q] 9))
  obtain ⟨W1, hW1⟩ : ∃ W1, W1 = ((w.alloc (.cells #[.pointer (some ⟨b, 0, none⟩)] 27)).alloc (.cells #[.string p] 9)).alloc (.cells #[.string q] 9) := ⟨_, rfl⟩
  rw [← hW1] at k1 k2 k3 hb2
  have hb3 : Below w.heap.size w W1.drew := hb2.drew
  have cm := iMayWrite_any b bi bl l s p q W1.drew (h.below hb3) hg.rises ok.fit hp hq
  have hen : ∀ W, (callFunc 140 #[.pointer (some ⟨w.heap.size, 0, none⟩), .pointer (some ⟨w.heap.size + 1, 0, none⟩), .pointer (some ⟨w.heap.size + 1 + 1, 0, none⟩)]).run Tryz.prog W = .ok (.enter 140 #[.pointer (some ⟨w.heap.size, 0, none⟩), .pointer (some ⟨w.heap.size + 1, 0, none⟩), .pointer (some ⟨w.heap.size + 1 + 1, 0, none⟩)]) W :=
    fun W => Rg.enters Tryz.func140 (by kernel_rfl) (by kernel_rfl) _ W
  have ct : ∀ W, Below W1.heap.size W1 W → Calls Tryz.prog 42 #[.pointer (some ⟨b, 0, none⟩), .int .i64 (mayWriteS s p q : Nat), .func (.func 140) #[] #[.pointer (some ⟨w.heap.size, 0, none⟩), .pointer (some ⟨w.heap.size + 1, 0, none⟩), .pointer (some ⟨w.heap.size + 1 + 1, 0, none⟩)]] W fun e w' => e = .returned (.int .i64 ((stepR s (mayWriteS s p q) S').1 : Nat)) ∧
      (Ip b bi bl w (stepR s (mayWriteS s p q) S').2 w' ∧ Cap w' w.heap.size (.pointer (some ⟨b, 0, none⟩)) ∧ Cap w' (w.heap.size + 1) (.string p) ∧ Cap w' (w.heap.size + 1 + 1) (.string q)) := by
    intro W hW
    have hbW := below_call hb2 hW
    have j1 := cap_below k1 hW
    have j2 := cap_below k2 hW
    have j3 := cap_below k3 hW
    have hnf : ∀ k, ¬ Ft b bi bl (w.heap.size + k) := fun k hk => by have := hft _ hk; omega
    refine (iStep_any b bi bl l s _ _ _ S' W (h.below hbW) (fun e => (mayWrite_ok e).1) ok.steps hen (fun l1 W2 hr _ hI hc => ?_)).mono ?_
    · have m1 := cap_chg j1 hc (fun e => by have := hft b (.inl rfl); omega)
      have m2 := cap_chg j2 hc (fun e => by have := hft b (.inl rfl); omega)
      have m3 := cap_chg j3 hc (fun e => by have := hft b (.inl rfl); omega)
      rw [hS']
      have c9 := iWriteC_any b bi bl _ _ _ l1 _ p q W2 hI m1 m2 m3 hp (by rw [eL]; exact hn) hst (by rw [eL]; exact old_dir (mayWrite_ok hr).2)
      rw [eL] at c9
      exact c9
    · rintro e w' ⟨rfl, l5, h5, hc5⟩
      exact ⟨rfl, ⟨l5, h5, (Chg.of_below hbW).then hc5⟩, cap_chg j1 hc5 (hnf 0), cap_chg j2 hc5 (hnf 1), cap_chg j3 hc5 (hnf 2)⟩
  generalize stepR s (mayWriteS s p q) S' = RES at ct ⊢
  generalize mayWriteS s p q = r at cm ct
  have HW1 := Lib.hid hW1
  clear h hg ok hS' hst eL hn hft hb1 hb2 hb3 hen
  go_enter Tryz.func100, Tryz.ntmps100
  go_wp2_with fail
  rw [← HW1.out]
  refine Rg.wp_only ?_ (regWrite _ (by kernel_rfl) _ w.heap.size (w.heap.size + 1) (w.heap.size + 1 + 1) (.pointer (some ⟨b, 0, none⟩)) p q r RES.1 W1 (fun W => Below W1.heap.size W1 W) (fun W => Ip b bi bl w RES.2 W ∧ Cap W w.heap.size (.pointer (some ⟨b, 0, none⟩)) ∧ Cap W (w.heap.size + 1) (.string p) ∧ Cap W (w.heap.size + 1 + 1) (.string q)) ⟨k1, k2, k3⟩ (cm.mono (fun e w' he => ⟨he.1, (Below.refl _ W1).drew.trans he.2⟩)) (fun W hW => ⟨cap_below k1 hW, cap_below k2 hW, cap_below k3 hW⟩) ct (fun W hW => hW.2))
  rintro _ w9 ⟨rfl, h9⟩
  go_wp2_with fail
  go_ret
  exact ⟨rfl, h9.1⟩
set_option maxRecDepth 100000 in
set_option maxHeartbeats 2000000 in
theorem iSync_any (b bi bl : Nat) (l : Int) (s : St) (p : ByteArray) (w : World) (h : Ia b bi bl l w s) (hg : Good s) (ok : Ok s) (hp : p.size ≤ 8000000000000) :
    Calls Tryz.prog 64 #[.pointer (some ⟨b, 0, none⟩), .string p] w fun e w' => e = .returned (.int .i64 ((syncS s p).1 : Nat)) ∧ Ip b bi bl w (syncS s p).2 w' := by
  have hft := h.lt
  have hn := ok.fit.1
  have hst : (done s).2.stamps ≤ 1000000000000 := by rw [done_stamps]; exact ok.stamps
  have eL := done_L s
  rw [sync_step]
  obtain ⟨S', hS'⟩ : ∃ S', S' = { (done s).2 with L := ins (done s).2.L { old s.L p with kept := (old s.L p).data, loose := false, anew := false } } := ⟨_, rfl⟩
  rw [← hS']
  have hb1 := (Below.refl w.heap.size w).alloc (Nat.le_refl _) (.cells #[.pointer (some ⟨b, 0, none⟩)] 27)
  have k1 := cap_new w (.pointer (some ⟨b, 0, none⟩)) 27
  have k2 := cap_new (w.alloc (.cells #[.pointer (some ⟨b, 0, none⟩)] 27)) (.string p) 9
  have hs1 : (w.alloc (.cells #[.pointer (some ⟨b, 0, none⟩)] 27)).heap.size = w.heap.size + 1 := by simp
  rw [hs1] at k2
  have hb2 := hb1.alloc (by simp) (.cells #[.string p] 9)
  have k1 := cap_below k1 ((Below.refl _ _).alloc (Nat.le_refl _) (.cells #[.string p] 9))
  obtain ⟨W1, hW1⟩ : ∃ W1, W1 = ((w.alloc (.cells #[.pointer (some ⟨b, 0, none⟩)] 27)).alloc (.cells #[.string p] 9)) := ⟨_, rfl⟩
  rw [← hW1] at k1 k2 hb2
  have hb3 : Below w.heap.size w W1.drew := hb2.drew
  have cm := iMaySync_any b bi bl l s p W1.drew (h.below hb3) hp
  have hen : ∀ W, (callFunc 99 #[.pointer (some ⟨w.heap.size, 0, none⟩), .pointer (some ⟨w.heap.size + 1, 0, none⟩)]).run Tryz.prog W = .ok (.enter 99 #[.pointer (some ⟨w.heap.size, 0, none⟩), .pointer (some ⟨w.heap.size + 1, 0, none⟩)]) W :=
    fun W => Rg.enters Tryz.func99 (by kernel_rfl) (by kernel_rfl) _ W
  have ct : ∀ W, Below W1.heap.size W1 W → Calls Tryz.prog 42 #[.pointer (some ⟨b, 0, none⟩), .int .i64 (there s p : Nat), .func (.func 99) #[] #[.pointer (some ⟨w.heap.size, 0, none⟩), .pointer (some ⟨w.heap.size + 1, 0, none⟩)]] W fun e w' => e = .returned (.int .i64 ((stepR s (there s p) S').1 : Nat)) ∧
      (Ip b bi bl w (stepR s (there s p) S').2 w' ∧ Cap w' w.heap.size (.pointer (some ⟨b, 0, none⟩)) ∧ Cap w' (w.heap.size + 1) (.string p)) := by
    intro W hW
    have hbW := below_call hb2 hW
    have j1 := cap_below k1 hW
    have j2 := cap_below k2 hW
    have hnf : ∀ k, ¬ Ft b bi bl (w.heap.size + k) := fun k hk => by have := hft _ hk; omega
    refine (iStep_any b bi bl l s _ _ _ S' W (h.below hbW) (fun e => (there_kind e).1) ok.steps hen (fun l1 W2 hr _ hI hc => ?_)).mono ?_
    · have m1 := cap_chg j1 hc (fun e => by have := hft b (.inl rfl); omega)
      have m2 := cap_chg j2 hc (fun e => by have := hft b (.inl rfl); omega)
      rw [hS']
      have c9 := iSyncC_any b bi bl _ _ l1 _ p W2 hI m1 m2 hp (by rw [eL]; exact hn) (by rw [eL]; exact (there_kind hr).2)
      rw [eL] at c9 ⊢
      exact c9
    · rintro e w' ⟨rfl, l5, h5, hc5⟩
      exact ⟨rfl, ⟨l5, h5, (Chg.of_below hbW).then hc5⟩, cap_chg j1 hc5 (hnf 0), cap_chg j2 hc5 (hnf 1)⟩
  generalize stepR s (there s p) S' = RES at ct ⊢
  generalize there s p = r at cm ct
  have HW1 := Lib.hid hW1
  clear h hg ok hS' hst eL hn hft hb1 hb2 hb3 hen
  go_enter Tryz.func64, Tryz.ntmps64
  go_wp2_with fail
  rw [← HW1.out]
  refine Rg.wp_only ?_ (regSync _ (by kernel_rfl) _ w.heap.size (w.heap.size + 1) (.pointer (some ⟨b, 0, none⟩)) p r RES.1 W1 (fun W => Below W1.heap.size W1 W) (fun W => Ip b bi bl w RES.2 W ∧ Cap W w.heap.size (.pointer (some ⟨b, 0, none⟩)) ∧ Cap W (w.heap.size + 1) (.string p)) ⟨k1, k2⟩ (cm.mono (fun e w' he => ⟨he.1, (Below.refl _ W1).drew.trans he.2⟩)) (fun W hW => ⟨cap_below k1 hW, cap_below k2 hW⟩) ct (fun W hW => hW.2))
  rintro _ w9 ⟨rfl, h9⟩
  go_wp2_with fail
  go_ret
  exact ⟨rfl, h9.1⟩
set_option maxRecDepth 100000 in
set_option maxHeartbeats 2000000 in
theorem iRename_any (b bi bl : Nat) (l : Int) (s : St) (p q : ByteArray) (w : World) (h : Ia b bi bl l w s) (hg : Good s) (ok : Ok s) (hp : p.size ≤ 8000000000000) (hq : q.size ≤ 8000000000000) :
    Calls Tryz.prog 101 #[.pointer (some ⟨b, 0, none⟩), .string p, .string q] w fun e w' => e = .returned (.int .i64 ((renameS s p q).1 : Nat)) ∧ Ip b bi bl w (renameS s p q).2 w' := by
  have hft := h.lt
  have hn := ok.fit.1
  have hst : (done s).2.stamps ≤ 1000000000000 := by rw [done_stamps]; exact ok.stamps
  have eL := done_L s
  rw [rename_step hg]
  obtain ⟨S', hS'⟩ : ∃ S', S' = putS { (done s).2 with L := drop (done s).2.L p } { old s.L p with path := q } := ⟨_, rfl⟩
  rw [← hS']
  have hb1 := (Below.refl w.heap.size w).alloc (Nat.le_refl _) (.cells #[.pointer (some ⟨b, 0, none⟩)] 27)
  have k1 := cap_new w (.pointer (some ⟨b, 0, none⟩)) 27
  have k2 := cap_new (w.alloc (.cells #[.pointer (some ⟨b, 0, none⟩)] 27)) (.string p) 9
  have hs1 : (w.alloc (.cells #[.pointer (some ⟨b, 0, none⟩)] 27)).heap.size = w.heap.size + 1 := by simp
  rw [hs1] at k2
  have hb2 := hb1.alloc (by simp) (.cells #[.string p] 9)
  have k1 := cap_below k1 ((Below.refl _ _).alloc (Nat.le_refl _) (.cells #[.string p] 9))
  have k3 := cap_new ((w.alloc (.cells #[.pointer (some ⟨b, 0, none⟩)] 27)).alloc (.cells #[.string p] 9)) (.string q) 9
  have hs2 : ((w.alloc (.cells #[.pointer (some ⟨b, 0, none⟩)] 27)).alloc (.cells #[.string p] 9)).heap.size = w.heap.size + 1 + 1 := by simp
  rw [hs2] at k3
  have hb2 := hb2.alloc (by simp; omega) (.cells #[.string q] 9)
  have k1 := cap_below k1 ((Below.refl _ _).alloc (Nat.le_refl _) (.cells #[.string q] 9))
  have k2 := cap_below k2 ((Below.refl _ _).alloc (Nat.le_refl _) (.cells #[.string q] 9))
  obtain ⟨W1, hW1⟩ : ∃ W1, W1 = ((w.alloc (.cells #[.pointer (some ⟨b, 0, none⟩)] 27)).alloc (.cells #[.string p] 9)).alloc (.cells #[.string q] 9) := ⟨_, rfl⟩
  rw [← hW1] at k1 k2 k3 hb2
  have hb3 : Below w.heap.size w W1.drew := hb2.drew
  have cm := iMayRename_any b bi bl l s p q W1.drew (h.below hb3) hg.rises ok.fit hp hq
  have hen : ∀ W, (callFunc 142 #[.pointer (some ⟨w.heap.size, 0, none⟩), .pointer (some ⟨w.heap.size + 1, 0, none⟩), .pointer (some ⟨w.heap.size + 1 + 1, 0, none⟩)]).run Tryz.prog W = .ok (.enter 142 #[.pointer (some ⟨w.heap.size, 0, none⟩), .pointer (some ⟨w.heap.size + 1, 0, none⟩), .pointer (some ⟨w.heap.size + 1 + 1, 0, none⟩)]) W :=
    fun W => Rg.enters Tryz.func142 (by kernel_rfl) (by kernel_rfl) _ W
  have ct : ∀ W, Below W1.heap.size W1 W → Calls Tryz.prog 42 #[.pointer (some ⟨b, 0, none⟩), .int .i64 (mayRenS s p q : Nat), .func (.func 142) #[] #[.pointer (some ⟨w.heap.size, 0, none⟩), .pointer (some ⟨w.heap.size + 1, 0, none⟩), .pointer (some ⟨w.heap.size + 1 + 1, 0, none⟩)]] W fun e w' => e = .returned (.int .i64 ((stepR s (mayRenS s p q) S').1 : Nat)) ∧
      (Ip b bi bl w (stepR s (mayRenS s p q) S').2 w' ∧ Cap w' w.heap.size (.pointer (some ⟨b, 0, none⟩)) ∧ Cap w' (w.heap.size + 1) (.string p) ∧ Cap w' (w.heap.size + 1 + 1) (.string q)) := by
    intro W hW
    have hbW := below_call hb2 hW
    have j1 := cap_below k1 hW
    have j2 := cap_below k2 hW
    have j3 := cap_below k3 hW
    have hnf : ∀ k, ¬ Ft b bi bl (w.heap.size + k) := fun k hk => by have := hft _ hk; omega
    refine (iStep_any b bi bl l s _ _ _ S' W (h.below hbW) (fun e => (mayRen_ok e).1) ok.steps hen (fun l1 W2 hr _ hI hc => ?_)).mono ?_
    · have m1 := cap_chg j1 hc (fun e => by have := hft b (.inl rfl); omega)
      have m2 := cap_chg j2 hc (fun e => by have := hft b (.inl rfl); omega)
      have m3 := cap_chg j3 hc (fun e => by have := hft b (.inl rfl); omega)
      rw [hS']
      have c9 := iRenameC_any b bi bl _ _ _ l1 _ p q W2 hI (by rw [eL]; exact hg.rises) m1 m2 m3 hp hq (by rw [eL]; exact hn) hst (by rw [eL]; exact (mayRen_ok hr).2)
      rw [eL] at c9 ⊢
      exact c9
    · rintro e w' ⟨rfl, l5, h5, hc5⟩
      exact ⟨rfl, ⟨l5, h5, (Chg.of_below hbW).then hc5⟩, cap_chg j1 hc5 (hnf 0), cap_chg j2 hc5 (hnf 1), cap_chg j3 hc5 (hnf 2)⟩
  generalize stepR s (mayRenS s p q) S' = RES at ct ⊢
  generalize mayRenS s p q = r at cm ct
  have HW1 := Lib.hid hW1
  clear h hg ok hS' hst eL hn hft hb1 hb2 hb3 hen
  go_enter Tryz.func101, Tryz.ntmps101
  go_wp2_with fail
  rw [← HW1.out]
  refine Rg.wp_only ?_ (regRename _ (by kernel_rfl) _ w.heap.size (w.heap.size + 1) (w.heap.size + 1 + 1) (.pointer (some ⟨b, 0, none⟩)) p q r RES.1 W1 (fun W => Below W1.heap.size W1 W) (fun W => Ip b bi bl w RES.2 W ∧ Cap W w.heap.size (.pointer (some ⟨b, 0, none⟩)) ∧ Cap W (w.heap.size + 1) (.string p) ∧ Cap W (w.heap.size + 1 + 1) (.string q)) ⟨k1, k2, k3⟩ (cm.mono (fun e w' he => ⟨he.1, (Below.refl _ W1).drew.trans he.2⟩)) (fun W hW => ⟨cap_below k1 hW, cap_below k2 hW, cap_below k3 hW⟩) ct (fun W hW => hW.2))
  rintro _ w9 ⟨rfl, h9⟩
  go_wp2_with fail
  go_ret
  exact ⟨rfl, h9.1⟩
end Go.Proofs.YtdfcbnejnnibpaaGreatDoor.Dk

namespace Go.Proofs.YtdfcbnejnnibpaaGreatDoor.Dk
open Go.RowKit Tx Pm Pl Pr
set_option linter.unusedVariables false
end Go.Proofs.YtdfcbnejnnibpaaGreatDoor.Dk

namespace Go.Proofs.YtdfcbnejnnibpaaGreatDoor.Dk
open Go.RowKit Tx Pm Pl Pr
set_option linter.unusedVariables false
end Go.Proofs.YtdfcbnejnnibpaaGreatDoor.Dk

namespace Go.Proofs.YtdfcbnejnnibpaaGreatDoor.Dk
open Go.RowKit Tx Pm Pl Pr
set_option linter.unusedVariables false
theorem read_old {s : St} (hg : Good s) (p : ByteArray) (hd : s.down = false) : readS s p = ((old s.L p).data, mbf s.L p) := by
  unfold readS mbf kind old
  rw [hd, if_neg (by decide)]
  cases hf : find s.L p with
  | none => rfl
  | some x =>
    unfold kindOf
    simp only [Option.getD_some]
    by_cases hx : x.dir = true
    · rw [(hg.dirs x (find_mem hf).1 hx).1]
      simp [hx]
    · simp [hx]
set_option maxRecDepth 100000 in
set_option maxHeartbeats 1000000 in
theorem iRead_any (b bi bl : Nat) (l : Int) (s : St) (p : ByteArray) (w : World) (h : Ia b bi bl l w s) (hg : Good s) (hp : p.size ≤ 8000000000000) :
    Calls Tryz.prog 45 #[.pointer (some ⟨b, 0, none⟩), .string p] w fun e w' => e = .returned (.tuple #[.string (readS s p).1, .int .i64 ((readS s p).2 : Nat)]) ∧ Below w.heap.size w w' := by
  have cm := fun n => iMbf_any b bi bl l s p (w.drewN n) (h.below (below_drewN _ _)) hp
  have hl := fun n => (h.below (below_drewN w n)).look (maxLen_of hp)
  obtain ⟨c0, c1, c2, c3, c4, c5⟩ := h.cell
  have hro := read_old hg p
  have hrd : s.down = true → readS s p = (⟨#[]⟩, 14) := fun e => by unfold readS; rw [if_pos e]
  have f1 := fld1
  generalize (old s.L p).data = X0 at hl hro
  generalize (old s.L p).kept = X1 at hl
  generalize stOf (old s.L p) = X2 at hl
  generalize ((old s.L p).stamp : Int) = X3 at hl
  generalize kind s.L p = K at hl
  generalize mbf s.L p = M at cm hro
  generalize readS s p = R at hro hrd ⊢
  generalize s.down = D at c5 hro hrd
  clear h hg c1 c2 c3 c4
  have HB := Lib.hid (fun n => below_drewN w n)
  cases D with
  | true =>
    rw [hrd rfl]
    clear hro hrd cm hl
    go_enter Tryz.func45, Tryz.ntmps45
    go_wp2
    go_ret2
    exact ⟨rfl, Below.refl _ _⟩
  | false =>
    rw [hro rfl]
    clear hro hrd
    go_enter Tryz.func45, Tryz.ntmps45
    go_wp2_with fail
    have hl0 := hl
    go_quiet ((go_at_call 73; exact (cm _).mono (fun _ _ ⟨he, hw⟩ => ⟨he, _, hw.symm⟩)))
    go_wp2
    go_ret2
    exact ⟨rfl, HB.out _⟩
set_option maxRecDepth 100000 in
theorem iNew_any (w : World) : Calls Tryz.prog 7 #[] w fun e w' => ∃ b bi bl, e = .returned (.pointer (some ⟨b, 0, none⟩)) ∧ Ia b bi bl (-1) w' newS ∧ (∀ i, Ft b bi bl i → w.heap.size ≤ i) ∧ Below w.heap.size w w' := by
  have hmm := @run_makeMap Tryz.prog
  have b1 := (Below.refl w.heap.size w).alloc (Nat.le_refl _) (.map #[] 0)
  have b2 := b1.alloc (by simp) (.map #[] 0)
  have b3 := b2.alloc (by simp; omega) (.cells #[.map (some w.heap.size), .map (some (w.heap.size + 1)), .int .i64 (-1), .int .i64 0, .int .i64 0, .bool false] 63)
  have hI : Ia (w.heap.size + 1 + 1) w.heap.size (w.heap.size + 1) (-1) (((w.alloc (.map #[] 0)).alloc (.map #[] 0)).alloc (.cells #[.map (some w.heap.size), .map (some (w.heap.size + 1)), .int .i64 (-1), .int .i64 0, .int .i64 0, .bool false] 63)) newS := by
    refine ⟨new_at _ _ (by simp), ?_, ?_, by omega, .inr rfl, by omega⟩
    · refine (mp_made w).kept ?_
      have := (((Below.refl _ (w.alloc (.map #[] 0))).alloc (Nat.le_refl _) (.map #[] 0)).alloc (by simp) (.cells #[.map (some w.heap.size), .map (some (w.heap.size + 1)), .int .i64 (-1), .int .i64 0, .int .i64 0, .bool false] 63)).block w.heap.size (by simp)
      exact this
    · have hl := lm_made (w.alloc (.map #[] 0))
      have e : (w.alloc (.map #[] 0)).heap.size = w.heap.size + 1 := by simp
      rw [e] at hl
      refine hl.kept ?_
      have := ((Below.refl _ ((w.alloc (.map #[] 0)).alloc (.map #[] 0))).alloc (Nat.le_refl _) (.cells #[.map (some w.heap.size), .map (some (w.heap.size + 1)), .int .i64 (-1), .int .i64 0, .int .i64 0, .bool false] 63)).block (w.heap.size + 1) (by simp)
      exact this
  have HE := Lib.hid (show ∃ b bi bl, (Ending.returned (.pointer (some ⟨w.heap.size + 1 + 1, 0, none⟩))) = .returned (.pointer (some ⟨b, 0, none⟩)) ∧ Ia b bi bl (-1) (((w.alloc (.map #[] 0)).alloc (.map #[] 0)).alloc (.cells #[.map (some w.heap.size), .map (some (w.heap.size + 1)), .int .i64 (-1), .int .i64 0, .int .i64 0, .bool false] 63)) newS ∧ (∀ i, Ft b bi bl i → w.heap.size ≤ i) ∧ Below w.heap.size w (((w.alloc (.map #[] 0)).alloc (.map #[] 0)).alloc (.cells #[.map (some w.heap.size), .map (some (w.heap.size + 1)), .int .i64 (-1), .int .i64 0, .int .i64 0, .bool false] 63)) from
    ⟨_, _, _, rfl, hI, fun i hi => by rcases hi with rfl | rfl | rfl <;> omega, b3⟩)
  clear hI b1 b2 b3
  go_enter Tryz.func7, Tryz.ntmps7
  go_wp2
  go_ret
  exact HE.out
end Go.Proofs.YtdfcbnejnnibpaaGreatDoor.Dk

namespace Go.Proofs.YtdfcbnejnnibpaaGreatDoor.Wl
open Go.RowKit Tx Pm Pl Pr Dk Fr
set_option linter.unusedVariables false
theorem does_of' {b bi bl : Nat} {w w' : World} {F : Nat → Prop} {r : Nat × St} {e : Ending} (hg : Dk.Good r.2) (hF : ∀ i, F i ↔ Ft b bi bl i) (h : e = .returned (.int .i64 (r.1 : Nat)) ∧ Ip b bi bl w r.2 w') : e = .returned (.int .i64 (r.1 : Nat)) ∧ Dk.Left (ImpAt b) w F r.2 w' := ⟨h.1, h.2.left hg hF⟩
section
variable {b : Nat} {F : Nat → Prop} {s : St} {w : World}
def Dos (O : World → (Nat → Prop) → St → Prop) (w : World) (F : Nat → Prop) (k : Nat) (s : St) (e : Ending) (w' : World) : Prop := e = .returned (.int .i64 (k : Nat)) ∧ Dk.Left O w F s w'
theorem iw_write {k : Nat} {s' : St} (P Q : ByteArray) (h : ImpAt b w F s) (ok : Ok s) (hP : P.size ≤ 8000000000000) (hQ : Q.size ≤ 1000000000000000000) (hk : writeS s P Q = (k, s')) : Calls Tryz.prog 100 #[.pointer (some ⟨b, 0, none⟩), .string P, .string Q] w (Dos (ImpAt b) w F k s') := by
  obtain ⟨bi, bl, l, hI, hg, hF⟩ := h
  have c := iWrite_any b bi bl l _ P Q _ hI hg ok hP hQ
  have hg' := good_write (p := P) (d := Q) hg
  rw [hk] at c hg'
  exact c.mono fun e w' ht => does_of' (r := (k, s')) hg' hF ht
theorem iw_sync {k : Nat} {s' : St} (P : ByteArray) (h : ImpAt b w F s) (ok : Ok s) (hP : P.size ≤ 8000000000000) (hk : syncS s P = (k, s')) : Calls Tryz.prog 64 #[.pointer (some ⟨b, 0, none⟩), .string P] w (Dos (ImpAt b) w F k s') := by
  obtain ⟨bi, bl, l, hI, hg, hF⟩ := h
  have c := iSync_any b bi bl l _ P _ hI hg ok hP
  have hg' := good_sync (p := P) hg
  rw [hk] at c hg'
  exact c.mono fun e w' ht => does_of' (r := (k, s')) hg' hF ht
theorem iw_rename {k : Nat} {s' : St} (P Q : ByteArray) (h : ImpAt b w F s) (ok : Ok s) (hP : P.size ≤ 8000000000000) (hQ : Q.size ≤ 8000000000000) (hk : renameS s P Q = (k, s')) : Calls Tryz.prog 101 #[.pointer (some ⟨b, 0, none⟩), .string P, .string Q] w (Dos (ImpAt b) w F k s') := by
  obtain ⟨bi, bl, l, hI, hg, hF⟩ := h
  have c := iRename_any b bi bl l _ P Q _ hI hg ok hP hQ
  have hg' := good_rename (f := P) (t := Q) hg
  rw [hk] at c hg'
  exact c.mono fun e w' ht => does_of' (r := (k, s')) hg' hF ht
theorem iw_kind (P : ByteArray) (h : ImpAt b w F s) (hP : P.size ≤ 8000000000000) : Calls Tryz.prog 20 #[.pointer (some ⟨b, 0, none⟩), .string P] w fun e w' => e = .returned (.int .i64 (kind s.L P : Nat)) ∧ w = w' := by
  obtain ⟨bi, bl, l, hI, hg, hF⟩ := h
  exact iKind_any b bi bl l _ P _ hI hP
theorem iw_read (P : ByteArray) (h : ImpAt b w F s) (hP : P.size ≤ 8000000000000) : Calls Tryz.prog 45 #[.pointer (some ⟨b, 0, none⟩), .string P] w fun e w' => e = .returned (.tuple #[.string (readS s P).1, .int .i64 ((readS s P).2 : Nat)]) ∧ Below w.heap.size w w' := by
  obtain ⟨bi, bl, l, hI, hg, hF⟩ := h
  exact iRead_any b bi bl l _ P _ hI hg hP
end
theorem cat_size (p : ByteArray) : (p ++ tT).size = p.size + 2 := ByteArray.size_append
theorem fill_1 {s s1 : St} {p d : ByteArray} {k : Nat} (h1 : writeS s (p ++ tT) d = (k, s1)) (h : k ≠ 0) : fillS s p d = (k, s1) := by
  unfold fillS; rw [h1]; exact if_pos h
theorem fill_2 {s s1 s2 : St} {p d : ByteArray} {k : Nat} (h1 : writeS s (p ++ tT) d = (0, s1)) (h2 : syncS s1 (p ++ tT) = (k, s2)) (h : k ≠ 0) : fillS s p d = (k, s2) := by
  unfold fillS; rw [h1]; simp only [h2]; rw [if_neg (fun h => h rfl), if_pos h]
theorem fill_3 {s s1 s2 : St} {p d : ByteArray} (h1 : writeS s (p ++ tT) d = (0, s1)) (h2 : syncS s1 (p ++ tT) = (0, s2)) : fillS s p d = renameS s2 (p ++ tT) p := by
  unfold fillS; rw [h1]; simp only [h2]; rw [if_neg (fun h => h rfl), if_neg (fun h => h rfl)]
def FillOk (s : St) (p d : ByteArray) : Prop := Ok s ∧ Ok (writeS s (p ++ tT) d).2 ∧ Ok (syncS (writeS s (p ++ tT) d).2 (p ++ tT)).2
set_option maxRecDepth 100000 in
set_option maxHeartbeats 2000000 in
theorem iFill_any (b : Nat) {F : Nat → Prop} {s : St} (p d : ByteArray) (w : World) (h : ImpAt b w F s) (o : FillOk s p d) (hp : p.size ≤ 1000) (hd : d.size ≤ 1000000000000000000) :
    Calls Tryz.prog 67 #[.pointer (some ⟨b, 0, none⟩), .string p, .string d] w (Dos (ImpAt b) w F (fillS s p d).1 (fillS s p d).2) := by
  obtain ⟨o1, o2, o3⟩ := o
  have hcat := cat_size p
  obtain ⟨k1, s1, h1⟩ : ∃ k s1, writeS s (p ++ tT) d = (k, s1) := ⟨_, _, rfl⟩
  rw [h1] at o2 o3
  simp only at o2 o3
  obtain ⟨k2, s2, h2⟩ : ∃ k s2, syncS s1 (p ++ tT) = (k, s2) := ⟨_, _, rfl⟩
  rw [h2] at o3
  simp only at o3
  have c1 : Calls Tryz.prog 100 #[.pointer (some ⟨b, 0, none⟩), .string (p ++ ⟨#[95, 116]⟩), .string d] w (Dos (ImpAt b) w F k1 s1) := iw_write (p ++ tT) d h o1 (by omega) hd h1
  have c2 : ∀ {W F1}, ImpAt b W F1 s1 → Calls Tryz.prog 64 #[.pointer (some ⟨b, 0, none⟩), .string (p ++ ⟨#[95, 116]⟩)] W (Dos (ImpAt b) W F1 k2 s2) := fun {W F1} hW => iw_sync (p ++ tT) hW o2 (by omega) h2
  have c3 : ∀ {W F1}, ImpAt b W F1 s2 → Calls Tryz.prog 101 #[.pointer (some ⟨b, 0, none⟩), .string (p ++ ⟨#[95, 116]⟩), .string p] W (Dos (ImpAt b) W F1 (renameS s2 (p ++ tT) p).1 (renameS s2 (p ++ tT) p).2) := fun {W F1} hW => iw_rename (p ++ tT) p hW o3 (by omega) (by omega) rfl
  by_cases e1 : k1 ≠ 0
  · rw [fill_1 h1 e1]
    have n1 := Dk.ne_eq e1
    clear h o1 o2 o3 c2 c3 h1 h2 e1
    go_enter Tryz.func67, Tryz.ntmps67
    go_wp2_with fail
    go_at_call 100
    refine c1.mono ?_
    rintro e w1 ⟨rfl, hl1⟩
    go_wp2_with fail
    go_ret
    exact ⟨rfl, hl1⟩
  · obtain rfl : k1 = 0 := by omega
    by_cases e2 : k2 ≠ 0
    · rw [fill_2 h1 h2 e2]
      have n2 := Dk.ne_eq e2
      clear h o1 o2 o3 c3 h1 h2 e1 e2
      go_enter Tryz.func67, Tryz.ntmps67
      go_wp2_with fail
      go_at_call 100
      refine c1.mono ?_
      rintro e w1 ⟨rfl, F1, p1, q1, r1⟩
      go_wp2_with fail
      go_at_call 64
      refine (c2 p1).mono ?_
      rintro e w2 ⟨rfl, hl2⟩
      go_wp2_with fail
      go_ret
      exact ⟨rfl, left_trans q1 r1 hl2⟩
    · obtain rfl : k2 = 0 := by omega
      rw [fill_3 h1 h2]
      clear h o1 o2 o3 h1 h2 e1 e2
      go_enter Tryz.func67, Tryz.ntmps67
      go_wp2_with fail
      go_at_call 100
      refine c1.mono ?_
      rintro e w1 ⟨rfl, F1, p1, q1, r1⟩
      go_wp2_with fail
      go_at_call 64
      refine (c2 p1).mono ?_
      rintro e w2 ⟨rfl, hl2⟩
      obtain ⟨F2, p2, q2, r2⟩ := left_trans q1 r1 hl2
      go_wp2_with fail
      go_at_call 101
      refine (c3 p2).mono ?_
      rintro e w3 ⟨rfl, hl3⟩
      go_wp2_with fail
      go_ret
      exact ⟨rfl, left_trans q2 r2 hl3⟩
end Go.Proofs.YtdfcbnejnnibpaaGreatDoor.Wl

namespace Go.Proofs.YtdfcbnejnnibpaaGreatDoor.Wl
open Go.RowKit Tx Pm Dk Fr
set_option linter.unusedVariables false
def Two (j b : Nat) (p : ByteArray) (W : World) : Prop := W.cell? ⟨j, 0, none⟩ = some (.pointer (some ⟨b, 0, none⟩)) ∧ W.cell? ⟨j, 1, none⟩ = some (.string p)
theorem Two.below {j b : Nat} {p : ByteArray} {W W1 : World} (h : Two j b p W) (hb : Below W.heap.size W W1) : Two j b p W1 := by
  have hj := World.block_lt_of_cell? W _ h.1
  exact ⟨(hb.cell (p := ⟨j, 0, none⟩) hj).trans h.1, (hb.cell (p := ⟨j, 1, none⟩) hj).trans h.2⟩
end Go.Proofs.YtdfcbnejnnibpaaGreatDoor.Wl

namespace Go.Proofs.YtdfcbnejnnibpaaGreatDoor.Wl
open Go.RowKit Tx Pm Pl Pr Dk Fr
set_option linter.unusedVariables false
theorem JAt.two {O : World → (Nat → Prop) → St → Prop} {T : TypeId} {b j : Nat} {p : ByteArray} {v : Value} {Fd : Nat → Prop} {w : World} {F : Nat → Prop} {x : Jst} (h : JAt O T b j p v Fd w F x) : Two j b p w := ⟨h.cell.1, h.cell.2.1⟩
theorem Mid.two {O : World → (Nat → Prop) → St → Prop} {T : TypeId} {b j : Nat} {p : ByteArray} {v : Value} {w W : World} {F : Nat → Prop} {x : Jst} (h : Mid O T b j p v w F x W) : Two j b p W := by
  obtain ⟨_, _, q, _⟩ := h
  exact q.two
theorem Mid.call {O : World → (Nat → Prop) → St → Prop} (k : Dk.Kind O) {T : TypeId} {b j : Nat} {p : ByteArray} {v : Value} {w W : World} {F : Nat → Prop} {x : Jst} {s' : St} {n : Nat} {f : FuncId} {args : Array Value} (h : Mid O T b j p v w F x W)
    (hc : ∀ {Fd}, O W Fd x.s → Calls Tryz.prog f args W (Dos O W Fd n s')) : Calls Tryz.prog f args W fun e w' => e = .returned (.int .i64 (n : Nat)) ∧ Mid O T b j p v w F ⟨s', x.R, x.dm⟩ w' := by
  obtain ⟨Fd, F', q, h1, h2⟩ := h
  refine (hc q.dsk).mono ?_
  rintro e w' ⟨rfl, hl⟩
  obtain ⟨Fd2, F2, q2, c2, n2⟩ := q.disk_left k hl
  exact ⟨rfl, Mid.trans h1 h2 ⟨Fd2, F2, q2, c2, n2⟩⟩
theorem own_form {w : World} {B size n : Nat} {e : TypeId} {v : Value} {xs : List Value} (h : w.ownsRow B e size v n xs) : ∃ a c, v = .slice a n c := by
  rcases h.2 with ⟨rfl, h0⟩ | ⟨g, cap, cur, rfl, _⟩
  · exact ⟨none, 0, by rw [h0]⟩
  · exact ⟨_, _, rfl⟩
theorem info9 : (Tryz.prog.info? 9).map (fun i => (i.zero, i.size, i.bytes)) = some (some (.string ⟨#[]⟩), 1, 16) := by kernel_rfl
theorem JAt.grown {O : World → (Nat → Prop) → St → Prop} (k : Dk.Kind O) {T : TypeId} {b j : Nat} {p r : ByteArray} {v v' : Value} {Fd : Nat → Prop} {w w0 w1 : World} {F : Nat → Prop} {x : Jst} (h : JAt O T b j p v Fd w F x) (hb : Below w.heap.size w w0)
    (hown : w1.ownsRow 0 9 1 v' (x.R.length + 1) (x.R.map Fr.sv ++ [Fr.sv r])) (hg : (v'.ownBlock = v.ownBlock ∧ w0.grownBy w1 v.ownBlock) ∨ (v'.ownBlock = some w0.heap.size ∧ w0.grownBy w1 none)) :
    (w1.cell? ⟨j, 2, none⟩ = some v ∧ w1.frozen? ⟨j, 2, none⟩ = false) ∧ LeftA (Jn O T b j p) w F ⟨x.s, x.R ++ [r], x.dm⟩ (w1.setCell ⟨j, 2, none⟩ v') := by
  have hj : j < w.heap.size := (Array.getElem?_eq_some_iff.1 h.blk).1
  have hj0 : j < w0.heap.size := Nat.lt_of_lt_of_le hj hb.size
  have hc : Chg (fun i => v.ownBlock = some i) w w1 := by
    rcases hg with ⟨_, g⟩ | ⟨_, g⟩
    · obtain ⟨g1, g2, g3, g4, g5⟩ := g
      exact ⟨g1.trans hb.os, g2.trans hb.tape, g3.trans hb.output, Nat.le_trans hb.size g4, fun i hi hn => (g5 i (Nat.lt_of_lt_of_le hi hb.size) (fun e => hn e.symm)).trans (hb.block i hi)⟩
    · obtain ⟨g1, g2, g3, g4, g5⟩ := g
      exact ⟨g1.trans hb.os, g2.trans hb.tape, g3.trans hb.output, Nat.le_trans hb.size g4, fun i hi hn => (g5 i (Nat.lt_of_lt_of_le hi hb.size) (by simp)).trans (hb.block i hi)⟩
  have hblk : w1.heap[j]? = _ := (hc.block j hj h.ne).trans h.blk
  have hvj : v'.ownBlock ≠ some j := by
    rcases hg with ⟨e, _⟩ | ⟨e, _⟩
    · rw [e]; exact h.ne
    · rw [e]; intro e2; injection e2 with e2; omega
  refine ⟨⟨by unfold World.cell?; rw [hblk]; rfl, by unfold World.frozen?; rw [hblk]; simp⟩, ?_⟩
  refine Mid.left (h.poke k (v' := v') (w1 := w1.setCell ⟨j, 2, none⟩ v') ((hc.mono (fun i hi => .inr hi)).trans ((chg_set (b := j) (k := 2) v').mono (fun i hi => Or.inl hi)) (fun i hi => .inl hi)) ?_ ?_ ?_)
  · rw [set_block hblk]
    rfl
  · have ht : Fr.Texts w1 0 v' (x.R ++ [r]) := by
      unfold Fr.Texts
      rw [List.length_append, List.map_append]
      exact hown
    exact own_kept ht (fun g hgb => set_other v' (fun e => hvj (e ▸ hgb)))
  · intro i hi
    rcases hg with ⟨e, _⟩ | ⟨e, _⟩
    · exact .inl (by rw [← e]; exact hi)
    · rw [e] at hi; injection hi with hi; exact .inr (by rw [← hi]; exact hb.size)
end Go.Proofs.YtdfcbnejnnibpaaGreatDoor.Wl

namespace Go.Proofs.YtdfcbnejnnibpaaGreatDoor.Wl
open Go.RowKit Tx Pm Pl Pr Dk Fr
set_option linter.unusedVariables false
theorem scf_le (s : ByteArray) : ∀ (f a : Nat), a ≤ s.size → (Fm.scf s f a).2.1 ≤ s.size
  | 0, a, h => h
  | f + 1, a, h => by
    by_cases hl : a < s.size
    · obtain ⟨t, n, e, h2⟩ := Fm.trip (Fm.fr (s.extract a s.size))
      by_cases he : e = 0
      · subst he
        have hn := (Fm.fr_ok h2).2.2.1
        have hs : (s.extract a s.size).size = s.size - a := by simp
        rw [Fm.scf_one f hl h2]
        exact scf_le s f (a + n) (by omega)
      · rw [Fm.scf_bad f hl h2 he]
        exact h
    · rw [Fm.scf_end _ hl]
      exact h
theorem sc_le (s : ByteArray) : (Fm.sc s 0).2.1 ≤ s.size := scf_le s _ 0 (Nat.zero_le _)
theorem own_zero {w : World} {B size n : Nat} {e : TypeId} {v : Value} {xs : List Value} (h : w.ownsRow B e size v n xs) : w.ownsRow 0 e size v n xs := by
  refine ⟨h.1, ?_⟩
  rcases h.2 with h0 | ⟨g, cap, cur, hv, hg, r⟩
  · exact .inl h0
  · exact .inr ⟨g, cap, cur, hv, Nat.zero_le _, r⟩
theorem own_base {w : World} {B size n i : Nat} {e : TypeId} {v : Value} {xs : List Value} (h : w.ownsRow B e size v n xs) (hi : v.ownBlock = some i) : B ≤ i := by
  rcases h.2 with ⟨rfl, h0⟩ | ⟨g, cap, cur, rfl, hg, r⟩
  · cases hi
  · have e : g = i := by simpa [Value.ownBlock] using hi
    omega
theorem same_belowW {w w' : World} (h : w = w') : Below w.heap.size w w' := by
  subst h
  exact Below.refl _ _
def OpenOk (s : St) (p : ByteArray) : Prop := (kind s.L p = 0 → FillOk s p ⟨#[]⟩) ∧ (kind s.L p ≠ 0 → (readS s p).1.size ≤ 1000000000000000000 ∧ (Fm.sc (readS s p).1 0).1.length ≤ 10000000000 ∧ ((Fm.sc (readS s p).1 0).2.2 ≠ 0 → FillOk s p ((readS s p).1.extract 0 (Fm.sc (readS s p).1 0).2.1)))
theorem open_0 {s s1 : St} {p : ByteArray} {k : Nat} (h : kind s.L p = 0) (h1 : fillS s p ⟨#[]⟩ = (k, s1)) : openS s p = (k, ⟨s1, [], false⟩) := by
  unfold openS; rw [if_pos h, h1]
theorem open_1 {s : St} {p t : ByteArray} {k : Nat} (h : kind s.L p ≠ 0) (h1 : readS s p = (t, k)) (hk : k ≠ 0) : openS s p = (k, ⟨s, [], false⟩) := by
  unfold openS; rw [if_neg h, h1]; exact if_pos hk
theorem open_2 {s : St} {p t : ByteArray} {R : List ByteArray} {g : Nat} (h : kind s.L p ≠ 0) (h1 : readS s p = (t, 0)) (h2 : Fm.sc t 0 = (R, g, 0)) : openS s p = (0, ⟨s, R, false⟩) := by
  unfold openS; rw [if_neg h, h1]; simp only [h2]; rfl
theorem open_3 {s s1 : St} {p t : ByteArray} {R : List ByteArray} {g e k : Nat} (h : kind s.L p ≠ 0) (h1 : readS s p = (t, 0)) (h2 : Fm.sc t 0 = (R, g, e)) (he : e ≠ 0) (h3 : fillS s p (t.extract 0 g) = (k, s1)) : openS s p = (k, ⟨s1, R, bad e⟩) := by
  unfold openS; rw [if_neg h, h1]; simp only [h2]; rw [if_neg (by show ¬ (0 ≠ 0); decide), if_neg he, h3]
theorem JAt.scanned {O : World → (Nat → Prop) → St → Prop} (k : Dk.Kind O) {T : TypeId} {b j : Nat} {p : ByteArray} {v : Value} {Fd : Nat → Prop} {w w2 : World} {F : Nat → Prop} {s : St} {dm : Bool} {R : List ByteArray} {B : Nat} (h : JAt O T b j p (.slice none 0 0) Fd w F ⟨s, [], false⟩) (hb : Below w.heap.size w w2) (hr : Fr.Texts w2 B v R) (hB : w.heap.size ≤ B) :
    (w2.cell? ⟨j, 2, none⟩ = some (.slice none 0 0) ∧ w2.frozen? ⟨j, 2, none⟩ = false) ∧ ((w2.setCell ⟨j, 2, none⟩ v).cell? ⟨j, 3, none⟩ = some (.bool false) ∧ (w2.setCell ⟨j, 2, none⟩ v).frozen? ⟨j, 3, none⟩ = false) ∧
    Mid O T b j p v w F ⟨s, R, dm⟩ ((w2.setCell ⟨j, 2, none⟩ v).setCell ⟨j, 3, none⟩ (.bool dm)) := by
  have hj : j < w.heap.size := (Array.getElem?_eq_some_iff.1 h.blk).1
  have hblk := (hb.block j hj).trans h.blk
  have hblk3 : (w2.setCell ⟨j, 2, none⟩ v).heap[j]? = some (.cells #[.pointer (some ⟨b, 0, none⟩), .string p, v, .bool false] T (0, 0)) := by
    rw [set_block hblk]
    rfl
  have hvj : v.ownBlock ≠ some j := fun e => by
    have := own_base hr e
    omega
  refine ⟨⟨by unfold World.cell?; rw [hblk]; rfl, by unfold World.frozen?; rw [hblk]; simp⟩, ⟨by unfold World.cell?; rw [hblk3]; rfl, by unfold World.frozen?; rw [hblk3]; simp⟩, ?_⟩
  refine h.poke k (v' := v) (((Chg.of_below hb).trans (F := fun i => i = j ∨ (Value.slice none 0 0).ownBlock = some i) ((chg_set (b := j) (k := 2) v).mono (fun i hi => Or.inl hi)) (fun i hi => .inl hi)).then ((chg_set (b := j) (k := 3) (.bool dm)).mono (fun i hi => Or.inl hi))) ?_ ?_ ?_
  · rw [set_block hblk3]
    rfl
  · exact own_kept (own_kept (own_zero hr) (fun g hg => set_other v (fun e => hvj (by rw [← e]; exact hg)))) (fun g hg => set_other _ (fun e => hvj (by rw [← e]; exact hg)))
  · intro i hi
    have := own_base hr hi
    exact .inr (by omega)
set_option maxRecDepth 100000 in
set_option maxHeartbeats 4000000 in
theorem iBegin_any (b j : Nat) {F Fd : Nat → Prop} {s : St} (p : ByteArray) (w : World) (h : JAt (ImpAt b) 114 b j p (.slice none 0 0) Fd w F ⟨s, [], false⟩) (o : OpenOk s p) (hp : p.size ≤ 1000) :
    Calls Tryz.prog 77 #[.pointer (some ⟨j, 0, none⟩)] w fun e w' => e = .returned (.int .i64 ((openS s p).1 : Nat)) ∧ LeftA (Jn (ImpAt b) 114 b j p) w F (openS s p).2 w' := by
  have kk := imp_kind b
  obtain ⟨o1, o2⟩ := o
  have hd1 := (Below.refl w.heap.size w).drew
  have ck := (iw_kind p (h.below kk hd1).dsk (by omega)).mono fun e w' (hh : _ ∧ w.drew = w') => (⟨hh.1, same_belowW hh.2⟩ : _ ∧ Below w.drew.heap.size w.drew w')
  obtain ⟨t0, t1, _, _⟩ := h.cell
  have hcl : ∀ W, Below w.drew.heap.size w.drew W → W.cell? ⟨j, 0, none⟩ = some (.pointer (some ⟨b, 0, none⟩)) ∧ W.cell? ⟨j, 1, none⟩ = some (.string p) := fun W hW => (h.below kk (below_call hd1 hW)).two
  have HCL := Lib.hid hcl
  clear hcl
  by_cases hk : kind s.L p = 0
  · obtain ⟨k1, s1, h1⟩ : ∃ k s1, fillS s p ⟨#[]⟩ = (k, s1) := ⟨_, _, rfl⟩
    rw [open_0 hk h1]
    have c1 : ∀ W, Below w.drew.heap.size w.drew W → Calls Tryz.prog 67 #[.pointer (some ⟨b, 0, none⟩), .string p, .string ⟨#[]⟩] W.drew fun e w' => e = .returned (.int .i64 (k1 : Nat)) ∧ Mid (ImpAt b) 114 b j p (.slice none 0 0) w F ⟨s1, [], false⟩ w' := fun W hW => (Mid.of kk h (below_call hd1 hW.drew)).call kk (fun hd => by
      have := iFill_any b p ⟨#[]⟩ W.drew hd (o1 hk) hp (by decide)
      rw [h1] at this
      exact this)
    rw [hk] at ck
    clear h o1 o2 hk h1 hd1
    go_enter Tryz.func77, Tryz.ntmps77
    go_wp2_with fail
    go_still_tail 8, (by kernel_rfl)
    change wpList _ _ _ _ _ w.drew
    go_wp2_with fail
    go_at_call 20
    refine ck.mono ?_
    rintro e w4 ⟨rfl, hb4⟩
    obtain ⟨u0, u1⟩ := HCL.out _ hb4
    go_wp2_with fail
    go_still_tail 8, (by kernel_rfl)
    change wpList _ _ _ _ _ w4.drew
    go_wp2_with fail
    go_at_call 67
    refine (c1 _ hb4).mono ?_
    rintro e w5 ⟨rfl, h5⟩
    go_wp2_with fail
    go_ret
    exact ⟨rfl, h5.left⟩
  · have nk := Dk.ne_eq hk
    obtain ⟨q1, q2, q3⟩ := o2 hk
    obtain ⟨t, k, hrd⟩ : ∃ t k, readS s p = (t, k) := ⟨_, _, rfl⟩
    have hd2 : ∀ W, Below w.drew.heap.size w.drew W → Below w.heap.size w W.drew := fun W hW => below_call hd1 hW.drew
    have cr := fun W hW => iw_read p (h.below kk (hd2 W hW)).dsk (by omega)
    rw [hrd] at q1 q2 q3 cr
    simp only at q1 q2 q3 cr
    by_cases hk0 : k ≠ 0
    · rw [open_1 hk hrd hk0]
      have n0 := Dk.ne_eq hk0
      have hfin : ∀ W4 W, Below w.drew.heap.size w.drew W4 → Below W4.drew.heap.size W4.drew W → LeftA (Jn (ImpAt b) 114 b j p) w F ⟨s, [], false⟩ W := fun W4 W h4 hW => (Mid.of kk h (below_call (hd2 _ h4) hW)).left
      have HF := Lib.hid hfin
      generalize kind s.L p = K at ck nk
      clear h o1 o2 hk hd1 hd2 hfin hrd hk0 q1 q2 q3
      go_enter Tryz.func77, Tryz.ntmps77
      go_wp2_with fail
      go_still_tail 8, (by kernel_rfl)
      change wpList _ _ _ _ _ w.drew
      go_wp2_with fail
      go_at_call 20
      refine ck.mono ?_
      rintro e w4 ⟨rfl, hb4⟩
      obtain ⟨u0, u1⟩ := HCL.out _ hb4
      go_wp2_with fail
      go_region_with (go_at_call 45; refine (cr _ hb4).mono ?_; rintro e w5 ⟨rfl, h5⟩)
      all_goals
        go_wp2_with fail
        go_ret
        exact ⟨rfl, HF.out _ _ hb4 h5⟩
    · obtain rfl : k = 0 := by omega
      obtain ⟨R, g, e, hsc⟩ := Fm.trip (Fm.sc t 0)
      have hgl := sc_le t
      have cs := fun W => Fr.fScan_w t W q1 q2
      unfold Fr.ScanTo at cs
      rw [hsc] at q2 q3 hgl cs
      simp only at q2 q3 hgl cs
      have hcell : ∀ W, Below w.heap.size w W → W.cell? ⟨j, 0, none⟩ = some (.pointer (some ⟨b, 0, none⟩)) ∧ W.cell? ⟨j, 1, none⟩ = some (.string p) := fun W hW => (h.below kk hW).two
      have HC := Lib.hid hcell
      have HD2 := Lib.hid hd2
      have HH := Lib.hid h
      have HN := Lib.hid (show R.length ≤ 10000000000 from q2)
      by_cases he : e = 0
      · subst he
        rw [open_2 hk hrd hsc]
        generalize kind s.L p = K at ck nk
        clear h o1 o2 hk hd1 hd2 hrd hk0 q1 q2 q3 hsc hcell
        go_enter Tryz.func77, Tryz.ntmps77
        go_wp2_with fail
        go_still_tail 8, (by kernel_rfl)
        change wpList _ _ _ _ _ w.drew
        go_wp2_with fail
        go_at_call 20
        refine ck.mono ?_
        rintro e w4 ⟨rfl, hb4⟩
        obtain ⟨u0, u1⟩ := HCL.out _ hb4
        go_wp2_with fail
        go_region_with (go_at_call 45; refine (cr _ hb4).mono ?_; rintro e w5 ⟨rfl, h5⟩)
        all_goals
          have hb5 := below_call (HD2.out _ hb4) h5
          go_wp2_with fail
          go_at_call 110
          refine (cs _).mono ?_
          rintro e w6 ⟨v, rfl, htx, hb6'⟩
          have hb6 := below_call hb5 hb6'
          obtain ⟨⟨g1, g2⟩, ⟨g3, g4⟩, hfin⟩ := HH.out.scanned kk (dm := false) hb6 htx hb5.size
          obtain ⟨a6, c6, hv⟩ := own_form htx
          obtain ⟨n6, hn6⟩ : ∃ n6, n6 = R.length := ⟨_, rfl⟩
          rw [← hn6] at hv
          have HFIN := Lib.hid hfin
          clear hn6 htx hfin hb6' h5
          subst hv
          go_wp2_with fail
          go_ret
          exact ⟨rfl, HFIN.out.left⟩
      · have hfk := q3 he
        obtain ⟨k1, s1, h1⟩ : ∃ k s1, fillS s p (t.extract 0 g) = (k, s1) := ⟨_, _, rfl⟩
        rw [open_3 hk hrd hsc he h1]
        have hxs : (t.extract 0 g).size ≤ 1000000000000000000 := by rw [ByteArray.size_extract]; omega
        have c1 : ∀ (v : Value) (dm : Bool) (W : World), Mid (ImpAt b) 114 b j p v w F ⟨s, R, dm⟩ W → Calls Tryz.prog 67 #[.pointer (some ⟨b, 0, none⟩), .string p, .string (t.extract 0 g)] W fun e w' => e = .returned (.int .i64 (k1 : Nat)) ∧ Mid (ImpAt b) 114 b j p v w F ⟨s1, R, dm⟩ w' := fun v dm W hW => hW.call (x := ⟨s, R, dm⟩) kk (fun hd => by
          have := iFill_any b p (t.extract 0 g) W hd hfk hp hxs
          rw [h1] at this
          exact this)
        have HC1 := Lib.hid c1
        have ne0 := Dk.ne_eq he
        have hgz : (g : Int) ≤ (t.size : Int) := by omega
        have hts : (t.size : Int) ≤ 1000000000000000000 := by omega
        have hbad : bad e = (decide (e = 6) || decide (e = 3)) := rfl
        generalize kind s.L p = K at ck nk
        clear h o1 o2 hk hd1 hd2 hrd hk0 q1 q2 q3 hsc hcell hfk h1 hxs c1
        have n6 : ((e : Int) == 6) = decide (e = 6) := by by_cases h : e = 6 <;> simp [h]; omega
        have n3 : ((e : Int) == 3) = decide (e = 3) := by by_cases h : e = 3 <;> simp [h]; omega
        rw [hbad]
        clear hbad he
        generalize decide (e = 6) = b6 at n6 ⊢
        generalize decide (e = 3) = b3 at n3 ⊢
        go_enter Tryz.func77, Tryz.ntmps77
        go_wp2_with fail
        go_still_tail 8, (by kernel_rfl)
        change wpList _ _ _ _ _ w.drew
        go_wp2_with fail
        go_at_call 20
        refine ck.mono ?_
        rintro e w4 ⟨rfl, hb4⟩
        obtain ⟨u0, u1⟩ := HCL.out _ hb4
        go_wp2_with fail
        go_region_with (go_at_call 45; refine (cr _ hb4).mono ?_; rintro e w5 ⟨rfl, h5⟩)
        all_goals
          have hb5 := below_call (HD2.out _ hb4) h5
          go_wp2_with fail
          go_at_call 110
          refine (cs _).mono ?_
          rintro e w6 ⟨v, rfl, htx, hb6'⟩
          have hb6 := below_call hb5 hb6'
          obtain ⟨⟨g1, g2⟩, ⟨g3, g4⟩, hfin⟩ := HH.out.scanned kk (dm := b6 || b3) hb6 htx hb5.size
          have htwo := hfin.two
          obtain ⟨t60, t61⟩ := htwo
          have hfd := hfin.below kk (Below.refl _ _).drew
          have c6 := HC1.out _ _ _ hfd
          obtain ⟨a6, cp6, hv⟩ := own_form htx
          obtain ⟨m6, hm6⟩ : ∃ m6, m6 = R.length := ⟨_, rfl⟩
          rw [← hm6] at hv
          clear hm6 htx hfin hb6' h5 hfd
          subst hv
          cases b6
          · cases b3
            · rw [show (false || false) = false from rfl] at t60 t61 c6
              go_wp2_with fail
              generalize (w6.setCell { block := j, off := 2 } (Value.slice a6 m6 cp6)).setCell { block := j, off := 3 } (Value.bool false) = W7 at t60 t61 c6 ⊢
              go_still_tail 11, (by kernel_rfl)
              change wpList _ _ _ _ _ W7.drew
              go_wp2_with fail
              go_at_call 67
              refine c6.mono ?_
              rintro e w7 ⟨rfl, h7⟩
              go_wp2_with fail
              go_ret
              exact ⟨rfl, h7.left⟩
            · rw [show (false || true) = true from rfl] at t60 t61 c6
              go_wp2_with fail
              generalize (w6.setCell { block := j, off := 2 } (Value.slice a6 m6 cp6)).setCell { block := j, off := 3 } (Value.bool true) = W7 at t60 t61 c6 ⊢
              go_still_tail 11, (by kernel_rfl)
              change wpList _ _ _ _ _ W7.drew
              go_wp2_with fail
              go_at_call 67
              refine c6.mono ?_
              rintro e w7 ⟨rfl, h7⟩
              go_wp2_with fail
              go_ret
              exact ⟨rfl, h7.left⟩
          · cases b3
            · rw [show (true || false) = true from rfl] at t60 t61 c6
              go_wp2_with fail
              generalize (w6.setCell { block := j, off := 2 } (Value.slice a6 m6 cp6)).setCell { block := j, off := 3 } (Value.bool true) = W7 at t60 t61 c6 ⊢
              go_still_tail 11, (by kernel_rfl)
              change wpList _ _ _ _ _ W7.drew
              go_wp2_with fail
              go_at_call 67
              refine c6.mono ?_
              rintro e w7 ⟨rfl, h7⟩
              go_wp2_with fail
              go_ret
              exact ⟨rfl, h7.left⟩
            · rw [show (true || true) = true from rfl] at t60 t61 c6
              go_wp2_with fail
              generalize (w6.setCell { block := j, off := 2 } (Value.slice a6 m6 cp6)).setCell { block := j, off := 3 } (Value.bool true) = W7 at t60 t61 c6 ⊢
              go_still_tail 11, (by kernel_rfl)
              change wpList _ _ _ _ _ W7.drew
              go_wp2_with fail
              go_at_call 67
              refine c6.mono ?_
              rintro e w7 ⟨rfl, h7⟩
              go_wp2_with fail
              go_ret
              exact ⟨rfl, h7.left⟩
end Go.Proofs.YtdfcbnejnnibpaaGreatDoor.Wl

namespace Go.Proofs.YtdfcbnejnnibpaaGreatDoor.Wl
open Go.RowKit Tx Pm Pl Pr Dk Fr
set_option linter.unusedVariables false
def OpenTo (O : World → (Nat → Prop) → St → Prop) (T : TypeId) (b : Nat) (p : ByteArray) (w : World) (F : Nat → Prop) (r : Nat × Jst) (e : Ending) (w' : World) : Prop :=
  (r.1 = 0 ∧ ∃ j, e = .returned (.tuple #[.pointer (some ⟨j, 0, none⟩), .int .i64 0]) ∧ LeftA (Jn O T b j p) w F r.2 w') ∨ (r.1 ≠ 0 ∧ e = .returned (.tuple #[.pointer none, .int .i64 (r.1 : Nat)]) ∧ Dk.Left O w F r.2.s w')
theorem jn_disk {O : World → (Nat → Prop) → St → Prop} {T : TypeId} {b j : Nat} {p : ByteArray} {w w' : World} {F : Nat → Prop} {x : Jst} (h : LeftA (Jn O T b j p) w F x w') : Dk.Left O w F x.s w' := by
  obtain ⟨F', ⟨v, Fd, h1⟩, h2, h3⟩ := h
  exact ⟨Fd, h1.dsk, h2, fun g hg => h3 g ((h1.foot g).2 (.inl hg))⟩
theorem jat_new {O : World → (Nat → Prop) → St → Prop} (k : Dk.Kind O) (T : TypeId) (b : Nat) (p : ByteArray) {w : World} {F : Nat → Prop} {s : St} (h : O w F s) :
    JAt O T b w.heap.size p (.slice none 0 0) F (w.alloc (.cells #[.pointer (some ⟨b, 0, none⟩), .string p, .slice none 0 0, .bool false] T)) (fun i => F i ∨ i = w.heap.size) ⟨s, [], false⟩ :=
  ⟨k.kept h (fun i hi => ((Below.refl w.heap.size w).alloc (Nat.le_refl _) _).block i (k.lt h i hi)), new_at w _ rfl, World.ownsRow_nil _ _ _ _, (fun e => by cases e), fun i hi => ⟨fun e => by have := k.lt h i hi; omega, fun e => by cases e⟩, fun i => ⟨fun hh => hh.imp id (fun e => .inl e), fun hh => by rcases hh with hh | hh | hh; exact .inl hh; exact .inr hh; cases hh⟩⟩
theorem left_new {O : World → (Nat → Prop) → St → Prop} {T : TypeId} {b : Nat} {p : ByteArray} {w W : World} {F : Nat → Prop} {x : Jst} {o : Obj} (h : LeftA (Jn O T b w.heap.size p) (w.alloc o) (fun i => F i ∨ i = w.heap.size) x W) : LeftA (Jn O T b w.heap.size p) w F x W :=
  h.trans (F := F) (Chg.of_below ((Below.refl w.heap.size w).alloc (Nat.le_refl _) o)) (fun g hg => hg.imp id (fun e => Nat.le_of_eq e.symm))
set_option maxRecDepth 100000 in
set_option maxHeartbeats 2000000 in
theorem iOpen_any (b : Nat) {F : Nat → Prop} {s : St} (p : ByteArray) (w : World) (h : ImpAt b w F s) (o : OpenOk s p) (hp : p.size ≤ 1000) :
    Calls Tryz.prog 48 #[.pointer (some ⟨b, 0, none⟩), .string p] w (OpenTo (ImpAt b) 114 b p w F (openS s p)) := by
  have hJ := jat_new (imp_kind b) 114 b p h
  have c := iBegin_any b w.heap.size p _ hJ o hp
  obtain ⟨k, x, hx⟩ : ∃ k x, openS s p = (k, x) := ⟨_, _, rfl⟩
  rw [hx] at c ⊢
  simp only at c
  have hl : ∀ W, LeftA (Jn (ImpAt b) 114 b w.heap.size p) (w.alloc (.cells #[.pointer (some ⟨b, 0, none⟩), .string p, .slice none 0 0, .bool false] 114)) (fun i => F i ∨ i = w.heap.size) x W → LeftA (Jn (ImpAt b) 114 b w.heap.size p) w F x W := fun W hh => left_new hh
  have HL := Lib.hid hl
  by_cases h0 : k ≠ 0
  · have n0 := Dk.ne_eq h0
    have H0 := Lib.hid h0
    clear h hJ o hx hl h0
    go_enter Tryz.func48, Tryz.ntmps48
    go_wp2_with fail
    go_at_call 77
    refine c.mono ?_
    rintro e w5 ⟨rfl, h5⟩
    go_wp2_with fail
    go_ret2
    unfold OpenTo
    exact .inr ⟨H0.out, rfl, jn_disk (HL.out _ h5)⟩
  · obtain rfl : k = 0 := by omega
    clear h hJ o hx hl h0
    go_enter Tryz.func48, Tryz.ntmps48
    go_wp2_with fail
    go_at_call 77
    refine c.mono ?_
    rintro e w5 ⟨rfl, h5⟩
    go_wp2_with fail
    go_ret2
    unfold OpenTo
    exact .inl ⟨rfl, _, rfl, HL.out _ h5⟩
set_option maxRecDepth 100000 in
set_option maxHeartbeats 2000000 in
theorem clone_any (a : Option Addr) (n c : Nat) (l : List ByteArray) (w : World) (h : Fr.Texts w 0 (.slice a n c) l) (hn : n = l.length) (hl : n ≤ 10000000000) :
    Calls Tryz.prog 66 #[.slice a n c] w fun e w' => ∃ v', e = .returned v' ∧ Fr.Texts w' w.heap.size v' l ∧ Below w.heap.size w w' := by
  subst hn
  rcases h.2 with ⟨he, h0⟩ | ⟨g, cap, cur, he, hg, hh, hnc, hcm, _⟩
  · injection he with e1 e2 e3
    subst e1 e3
    have hl0 : l = [] := List.eq_nil_of_length_eq_zero h0
    subst hl0
    clear h h0 e2 hl
    have q24 : ∀ (w : World) (a : Option Addr) (n c n' c' : Nat), (binOp .eql 45 (.slice a n c) (.slice none n' c')).run Tryz.prog w = .ok (.bool a.isNone) w := fun w a n c n' c' => Lib.run_eql_slice_nil w _ _ a n c n' c' Tryz.underlying45
    go_enter Tryz.func66, Tryz.ntmps66
    go_wp2_with fail
    go_ret
    exact ⟨_, rfl, World.ownsRow_nil _ _ _ _, Below.refl _ _⟩
  · injection he with e1 e2 e3
    subst e1 e3
    obtain ⟨i0, hi, hz0, hz1, hz2⟩ := info_parts info9
    have hcells := h.cells (g := g) rfl
    obtain ⟨n, hn⟩ : ∃ n, n = l.length := ⟨_, rfl⟩
    have HN := Lib.hid hn
    have HCC := Lib.hid hcells
    rw [← hn] at hl ⊢
    clear h hh e2 hcells hn hnc hcm
    have q24 : ∀ (w : World) (a : Option Addr) (n c n' c' : Nat), (binOp .eql 45 (.slice a n c) (.slice none n' c')).run Tryz.prog w = .ok (.bool a.isNone) w := fun w a n c n' c' => Lib.run_eql_slice_nil w _ _ a n c n' c' Tryz.underlying45
    go_enter Tryz.func66, Tryz.ntmps66
    go_wp2_with (at_builtin; refine wpList_append_own _ rfl _ _ 45 rfl w.heap.size 9 i0 (.string { data := #[] }) 1 16 Tryz.underlying45 hi hz0 hz1 hz2 rfl (by decide) _ _ _ rfl (World.ownsRow_made w #[] 0 (Nat.le_refl _) (Nat.zero_le _) rfl) ⟨g, 0, none⟩ n c (l.map Fr.sv) rfl ?qc1 ?qc2 ?qc3 ?qc4 ?qc5 ?qc6 ?_)
    case qc1 => rw [List.length_map, ← HN.out, Nat.mul_one]
    case qc2 =>
      intro k u hk
      refine Lib.cell?_alloc_some _ ?_
      exact HCC.out k u hk
    case qc3 => exact Fr.sv_one l
    case qc4 => unfold maxLen; omega
    case qc5 => omega
    case qc6 => simp
    intro v' w1 hown hgrow hnil
    obtain ⟨a1, c1, rfl⟩ := own_form hown
    have hfin : Fr.Texts w1 w.heap.size (.slice a1 n c1) l := by
      unfold Fr.Texts
      rw [← HN.out]
      exact hown
    have hbel : Below w.heap.size w w1 := ((Below.refl _ w).alloc (Nat.le_refl _) _).grown hgrow (by simp) (by intro k hk; simp [Value.ownBlock] at hk; omega)
    have HF := Lib.hid hfin
    have HB := Lib.hid hbel
    clear hown hgrow hnil hfin hbel
    go_wp2_with fail
    go_ret
    exact ⟨_, rfl, HF.out, HB.out⟩
set_option maxRecDepth 100000 in
theorem iRecords_any {O : World → (Nat → Prop) → St → Prop} (k : Dk.Kind O) (b j : Nat) {F Fd : Nat → Prop} {x : Jst} {v : Value} (p : ByteArray) (w : World) (h : JAt O 114 b j p v Fd w F x) (hl : x.R.length ≤ 10000000000) :
    Calls Tryz.prog 38 #[.pointer (some ⟨j, 0, none⟩)] w fun e w' => ∃ v', e = .returned v' ∧ Fr.Texts w' w.heap.size v' x.R ∧ Below w.heap.size w w' := by
  obtain ⟨_, _, t2, _⟩ := h.cell
  obtain ⟨a, c, hv, _⟩ := h.row.form
  obtain ⟨n, hn⟩ : ∃ n, n = x.R.length := ⟨_, rfl⟩
  rw [← hn] at hv hl
  have cc := fun W (hW : Fr.Texts W 0 v x.R) => by
    rw [hv] at hW
    exact clone_any a n c x.R W hW hn hl
  have hrow := h.row
  have ct := cc w hrow
  have HN := Lib.hid hn
  clear h hrow cc hn
  subst hv
  go_enter Tryz.func38, Tryz.ntmps38
  go_wp2_with fail
  go_at_call 66
  refine ct.mono ?_
  rintro e w5 ⟨v5, rfl, h5, hb5⟩
  obtain ⟨a5, c5, hv5, _⟩ := h5.form
  rw [← HN.out] at hv5
  have H5 := Lib.hid h5
  clear h5
  subst hv5
  go_wp2_with fail
  go_ret
  exact ⟨_, rfl, H5.out, hb5⟩
end Go.Proofs.YtdfcbnejnnibpaaGreatDoor.Wl

namespace Go.Proofs.YtdfcbnejnnibpaaGreatDoor.Tb
open Go.RowKit Tx Pm Dk Wm Wr Wl Pl
set_option linter.unusedVariables false
set_option linter.unusedSimpArgs false
set_option linter.unnecessarySimpa false
theorem pl_ge (c : Ch) (h : norm c = c) : c.key.size + c.val.size + 2 ≤ (pl c).length := by
  obtain ⟨key, val, gone⟩ := c
  have h1 := vb_pos 0
  have h2 := vb_pos 1
  have h3 := vb_pos key.size
  cases gone
  · rw [pl_give]
    simp only [List.length_append, tl, Wm.len_l]
    omega
  · have hv : val = ⟨#[]⟩ := by
      have := congrArg Ch.val h
      simpa [norm] using this.symm
    rw [pl_gone, hv]
    simp only [List.length_append, tl, Wm.len_l]
    show key.size + 0 + 2 ≤ _
    omega
theorem wt_all : ∀ {l : List Ch}, l.map norm = l → wt l ≤ 20 * (l.flatMap pl).length
  | [], _ => Nat.zero_le _
  | c :: l, h => by
    rw [List.map_cons] at h
    injection h with h1 h2
    have a1 := pl_ge c h1
    have a2 := wt_all h2
    rw [wt_cons, List.flatMap_cons, List.length_append]
    omega
theorem wt_ops {r : ByteArray} {l : List Ch} (h : opsS r = (l, 0)) : wt l ≤ 20 * r.size := by
  obtain ⟨h1, h2, _⟩ := opsS_ok h
  have := wt_all h2
  rw [← h1, rec7_size, recl, List.length_append]
  omega
def taken (L : List It) (r : ByteArray) : List It := if (opsS r).2 = 0 then all7 L (opsS r).1 else L
set_option maxRecDepth 100000 in
set_option maxHeartbeats 1000000 in
theorem take_any (t m : Nat) (L : List It) (r : ByteArray) (w : World) (ht : w.cell? ⟨t, 3, none⟩ = some (.map (some m))) (hm : Mo w m L) (hR : Rises L) (hr : r.size ≤ 500000000) (hn : L.length ≤ 500000000) :
    Calls Tryz.prog 47 #[.pointer (some ⟨t, 0, none⟩), .string r] w fun e w' => e = .returned (.int .i64 ((opsS r).2 : Nat)) ∧ Mo w' m (taken L r) ∧ Chg (· = m) w w' := by
  have co := ops_any r w (by omega)
  unfold OpsTo at co
  have htl := World.block_lt_of_cell? w _ ht
  obtain ⟨l, e, h⟩ : ∃ l e, opsS r = (l, e) := ⟨_, _, rfl⟩
  unfold taken
  rw [h] at co ⊢
  simp only at co ⊢
  by_cases he : e = 0
  · subst he
    rw [if_pos rfl]
    have hw := wt_ops h
    have hln := wt_len l
    obtain ⟨_, _, h2l⟩ := opsS_ok h
    have hks : ∀ x ∈ l, x.key.size ≤ 1000000000000 := fun x hx => by have := wt_mem hx; omega
    have cd := fun W (hW : Below w.heap.size w W) a c (hO : Opl W a l.length l) (hc : l.length ≤ c) => do_any t m L a l.length c l W ((hW.cell (p := ⟨t, 3, none⟩) htl).trans ht) (hm.below hW) hR hO (by omega) hks hc
    clear hm hR h
    go_enter Tryz.func47, Tryz.ntmps47
    go_wp2_with fail
    go_at_call 76
    refine co.mono ?_
    rintro e w1 ⟨v, rfl, hO, hb1⟩
    obtain ⟨a, c, hv, hO2, hc, _⟩ := hO.form
    have c1 := cd _ hb1 a c hO2 hc
    obtain ⟨n, hn⟩ : ∃ n, n = l.length := ⟨_, rfl⟩
    rw [← hn] at hv c1
    clear hO hO2 hn cd hw hln hks h2l
    subst hv
    go_wp2_with fail
    go_at_call 37
    refine c1.mono ?_
    rintro e w2 ⟨rfl, hm2, hc2⟩
    go_wp2_with fail
    go_ret
    exact ⟨rfl, hm2, (Chg.of_below hb1).then hc2⟩
  · rw [if_neg he]
    have ne := neZ he
    have HM := Lib.hid (fun W (hW : Below w.heap.size w W) => hm.below hW)
    clear h he hm
    go_enter Tryz.func47, Tryz.ntmps47
    go_wp2_with fail
    go_at_call 76
    refine co.mono ?_
    rintro e w1 ⟨v, rfl, hO, hb1⟩
    clear hO
    go_wp2_with fail
    go_ret
    exact ⟨rfl, HM.out _ hb1, Chg.of_below hb1⟩
theorem frAt_fr (s : ByteArray) : Fr.frAt s 0 = (if (Fm.fr s).2.2 ≠ 0 then (⟨#[]⟩, 0, (Fm.fr s).2.2) else ((Fm.fr s).1, (((Fm.fr s).2.1 : Nat) : Int), 0) : ByteArray × Int × Nat) := by
  have hx : s.extract (Int.toNat 0) s.size = s := extract_all s
  unfold Fr.frAt
  rw [if_neg (by omega), hx]
  split
  · rfl
  · rw [Int.zero_add]
def based (s : St) (p : ByteArray) : List It := if (base0 s p).2 = 0 then (base0 s p).1 else []
section
variable {s : St} {p d r : ByteArray} {e n : Nat} {l : List Ch}
theorem base_0 (h : kind s.L p = 0) : base0 s p = ([], 0) := by unfold base0; rw [if_pos h]
theorem base_1 (h : kind s.L p ≠ 0) (h1 : readS s p = (d, e)) (he : e ≠ 0) : base0 s p = ([], e) := by unfold base0; rw [if_neg h, h1]; exact if_pos he
theorem base_2 (h : kind s.L p ≠ 0) (h1 : readS s p = (d, 0)) (h2 : Fm.fr d = (r, n, e)) (he : e ≠ 0) : base0 s p = ([], e) := by
  unfold base0 baseS; rw [if_neg h, h1]; simp only [h2]; rw [if_neg (fun hh => hh rfl)]; exact if_pos he
theorem base_3 (h : kind s.L p ≠ 0) (h1 : readS s p = (d, 0)) (h2 : Fm.fr d = (r, n, 0)) (hn : n < d.size) : base0 s p = ([], 5) := by
  unfold base0 baseS; rw [if_neg h, h1]; simp only [h2]; rw [if_neg (fun hh => hh rfl), if_neg (fun hh => hh rfl)]; exact if_pos hn
theorem base_4 (h : kind s.L p ≠ 0) (h1 : readS s p = (d, 0)) (h2 : Fm.fr d = (r, n, 0)) (hn : ¬ n < d.size) (h3 : opsS r = (l, e)) (he : e ≠ 0) : base0 s p = ([], e) := by
  unfold base0 baseS; rw [if_neg h, h1]; simp only [h2, h3]; rw [if_neg (fun hh => hh rfl), if_neg (fun hh => hh rfl), if_neg hn]; exact if_pos he
theorem base_5 (h : kind s.L p ≠ 0) (h1 : readS s p = (d, 0)) (h2 : Fm.fr d = (r, n, 0)) (hn : ¬ n < d.size) (h3 : opsS r = (l, 0)) : base0 s p = (all7 [] l, 0) := by
  unfold base0 baseS; rw [if_neg h, h1]; simp only [h2, h3]; rw [if_neg (fun hh => hh rfl), if_neg (fun hh => hh rfl), if_neg hn]; exact if_neg (fun hh => hh rfl)
end
theorem fr_size {d r : ByteArray} {n e : Nat} (h : Fm.fr d = (r, n, e)) : r.size ≤ d.size ∧ n ≤ d.size := by
  have hle := Fm.fr_le d
  rw [h] at hle
  refine ⟨?_, hle⟩
  by_cases he : e = 0
  · subst he
    obtain ⟨_, _, _, h4⟩ := Fm.fr_ok h
    have h5 := congrArg ByteArray.size h4
    rw [Fm.pk_size, ByteArray.size_extract] at h5
    omega
  · unfold Fm.fr at h
    split at h
    · simp only [Prod.mk.injEq] at h; rw [← h.1]; exact Nat.zero_le _
    · split at h
      · simp only [Prod.mk.injEq] at h; rw [← h.1]; exact Nat.zero_le _
      · split at h
        · simp only [Prod.mk.injEq] at h; rw [← h.1]; exact Nat.zero_le _
        · simp only [Prod.mk.injEq] at h; exact absurd h.2.2.symm he
set_option maxRecDepth 100000 in
set_option maxHeartbeats 4000000 in
theorem takeBase_any (b t m : Nat) {Fd : Nat → Prop} {s : St} (p : ByteArray) (w : World) (t0 : w.cell? ⟨t, 0, none⟩ = some (.pointer (some ⟨b, 0, none⟩))) (t1 : w.cell? ⟨t, 1, none⟩ = some (.string p)) (ht : w.cell? ⟨t, 3, none⟩ = some (.map (some m)))
    (hm : Mo w m []) (hD : ImpAt b w Fd s) (hp : p.size ≤ 1000) (hs : (readS s p).1.size ≤ 500000000) :
    Calls Tryz.prog 23 #[.pointer (some ⟨t, 0, none⟩)] w fun e w' => e = .returned (.int .i64 ((base0 s p).2 : Nat)) ∧ Mo w' m (based s p) ∧ Chg (· = m) w w' := by
  have kk := imp_kind b
  have hd1 := (Below.refl w.heap.size w).drew
  have htl := World.block_lt_of_cell? w _ ht
  have hDB := fun W (hW : Below w.heap.size w W) => kk.kept hD (fun i hi => hW.block i (kk.lt hD i hi))
  have ck := (iw_kind p (hDB _ hd1) (by omega)).mono fun e w' (hh : _ ∧ w.drew = w') => (⟨hh.1, same_belowW hh.2⟩ : _ ∧ Below w.drew.heap.size w.drew w')
  have hd2 : ∀ W, Below w.drew.heap.size w.drew W → Below w.heap.size w W.drew := fun W hW => Tx.below_call hd1 hW.drew
  have cr := fun W hW => iw_read p (hDB _ (hd2 W hW)) (by omega)
  have HCL := Lib.hid (fun W (hW : Below w.drew.heap.size w.drew W) => (⟨((Tx.below_call hd1 hW).cell (p := ⟨t, 0, none⟩) htl).trans t0, ((Tx.below_call hd1 hW).cell (p := ⟨t, 1, none⟩) htl).trans t1⟩ : W.cell? ⟨t, 0, none⟩ = some (.pointer (some ⟨b, 0, none⟩)) ∧ W.cell? ⟨t, 1, none⟩ = some (.string p)))
  have HT := Lib.hid (fun W (hW : Below w.heap.size w W) => (hW.cell (p := ⟨t, 3, none⟩) htl).trans ht)
  have HM := Lib.hid (fun W (hW : Below w.heap.size w W) => hm.below hW)
  have HD2 := Lib.hid hd2
  unfold based
  by_cases hk : kind s.L p = 0
  · rw [base_0 hk]
    rw [hk] at ck
    clear hD hDB hk cr hd1 hd2 hm
    go_enter Tryz.func23, Tryz.ntmps23
    go_wp2_with fail
    go_still_tail 8, (by kernel_rfl)
    change wpList _ _ _ _ _ w.drew
    go_wp2_with fail
    go_at_call 20
    refine ck.mono ?_
    rintro e w4 ⟨rfl, hb4⟩
    obtain ⟨u0, u1⟩ := HCL.out _ hb4
    have hb4' := HD2.out _ hb4
    go_wp2_with fail
    go_ret
    exact ⟨rfl, HM.out _ (Tx.below_call (Below.refl w.heap.size w).drew hb4), Chg.of_below (Tx.below_call (Below.refl w.heap.size w).drew hb4)⟩
  · have nk := neZ hk
    obtain ⟨d, e1, hrd⟩ : ∃ d e, readS s p = (d, e) := ⟨_, _, rfl⟩
    rw [hrd] at cr hs
    simp only at cr hs
    by_cases he1 : e1 = 0
    · subst he1
      obtain ⟨r, n, e2, hfr⟩ := Fm.trip (Fm.fr d)
      have cf := fun W => Fr.fRead_any d 0 W (by omega) (by omega) (by omega)
      have hfa := frAt_fr d
      rw [hfr] at hfa
      obtain ⟨hrs, hnd⟩ := fr_size hfr
      by_cases he2 : e2 = 0
      · subst he2
        rw [if_neg (fun hh => hh rfl)] at hfa
        simp only at hfa
        rw [hfa] at cf
        have hdi : (d.size : Int) ≤ 500000000 := by omega
        by_cases hn : n < d.size
        · rw [base_3 hk hrd hfr hn]
          have hnz : (n : Int) < (d.size : Int) := by omega
          generalize kind s.L p = K at ck nk
          clear hD hDB hk hd1 hd2 hm hrd hfr hfa hrs hnd hn hs
          go_enter Tryz.func23, Tryz.ntmps23
          go_wp2_with fail
          go_still_tail 8, (by kernel_rfl)
          change wpList _ _ _ _ _ w.drew
          go_wp2_with fail
          go_at_call 20
          refine ck.mono ?_
          rintro e w4 ⟨rfl, hb4⟩
          obtain ⟨u0, u1⟩ := HCL.out _ hb4
          go_wp2_with fail
          go_region_with (go_at_call 45; refine (cr _ hb4).mono ?_; rintro e w5 ⟨rfl, h5⟩)
          all_goals
            have hb5 := Tx.below_call (HD2.out _ hb4) h5
            go_wp2_with fail
            go_at_call 46
            refine (cf _).mono ?_
            rintro e w6 ⟨rfl, hb6⟩
            have hb7 := Tx.below_call hb5 hb6
            go_wp2_with fail
            go_ret
            exact ⟨rfl, HM.out _ hb7, Chg.of_below hb7⟩
        · have hnz : ¬ (n : Int) < (d.size : Int) := by omega
          have hbt : base0 s p = (if (opsS r).2 = 0 then all7 [] (opsS r).1 else [], (opsS r).2) := by
            obtain ⟨l, e3, h3⟩ : ∃ l e, opsS r = (l, e) := ⟨_, _, rfl⟩
            rw [h3]
            by_cases he3 : e3 = 0
            · subst he3
              rw [base_5 hk hrd hfr hn h3]
              rfl
            · rw [base_4 hk hrd hfr hn h3 he3]
              show _ = (if e3 = 0 then all7 [] l else [], e3)
              rw [if_neg he3]
          have hbt2 : (if (base0 s p).2 = 0 then (base0 s p).1 else []) = taken [] r := by
            rw [hbt]
            unfold taken
            split
            · rfl
            · rfl
          have hbt3 : (base0 s p).2 = (opsS r).2 := by rw [hbt]
          rw [hbt2, hbt3]
          have ctk := fun W (hW : Below w.heap.size w W) => take_any t m [] r W (HT.out W hW) (HM.out W hW) List.Pairwise.nil (by omega) (by decide)
          have HCT := Lib.hid ctk
          generalize kind s.L p = K at ck nk
          generalize taken [] r = TK at HCT
          generalize (opsS r).2 = ER at HCT
          clear hD hDB hk hd1 hd2 hm hrd hfr hfa hrs hnd hn hs hbt hbt2 hbt3 ctk
          go_enter Tryz.func23, Tryz.ntmps23
          go_wp2_with fail
          go_still_tail 8, (by kernel_rfl)
          change wpList _ _ _ _ _ w.drew
          go_wp2_with fail
          go_at_call 20
          refine ck.mono ?_
          rintro e w4 ⟨rfl, hb4⟩
          obtain ⟨u0, u1⟩ := HCL.out _ hb4
          go_wp2_with fail
          go_region_with (go_at_call 45; refine (cr _ hb4).mono ?_; rintro e w5 ⟨rfl, h5⟩)
          all_goals
            have hb5 := Tx.below_call (HD2.out _ hb4) h5
            go_wp2_with fail
            go_at_call 46
            refine (cf _).mono ?_
            rintro e w6 ⟨rfl, hb6⟩
            have hb7 := Tx.below_call hb5 hb6
            go_wp2_with fail
            go_at_call 47
            refine (HCT.out _ hb7).mono ?_
            rintro e w8 ⟨rfl, hm8, hc8⟩
            go_wp2_with fail
            go_ret
            exact ⟨rfl, hm8, (Chg.of_below hb7).then hc8⟩
      · rw [if_pos he2] at hfa
        simp only at hfa
        rw [hfa] at cf
        rw [base_2 hk hrd hfr he2]
        have ne2 := neZ he2
        have hif : (if ((([], e2) : List It × Nat)).2 = 0 then ((([], e2) : List It × Nat)).1 else []) = [] := by split <;> rfl
        rw [hif]
        generalize kind s.L p = K at ck nk
        clear hD hDB hk hd1 hd2 hm hrd hfr hfa hrs hnd hs he2 hif
        go_enter Tryz.func23, Tryz.ntmps23
        go_wp2_with fail
        go_still_tail 8, (by kernel_rfl)
        change wpList _ _ _ _ _ w.drew
        go_wp2_with fail
        go_at_call 20
        refine ck.mono ?_
        rintro e w4 ⟨rfl, hb4⟩
        obtain ⟨u0, u1⟩ := HCL.out _ hb4
        go_wp2_with fail
        go_region_with (go_at_call 45; refine (cr _ hb4).mono ?_; rintro e w5 ⟨rfl, h5⟩)
        all_goals
          have hb5 := Tx.below_call (HD2.out _ hb4) h5
          go_wp2_with fail
          go_at_call 46
          refine (cf _).mono ?_
          rintro e w6 ⟨rfl, hb6⟩
          have hb7 := Tx.below_call hb5 hb6
          go_wp2_with fail
          go_ret
          exact ⟨rfl, HM.out _ hb7, Chg.of_below hb7⟩
    · rw [base_1 hk hrd he1]
      have ne1 := neZ he1
      have hif : (if ((([], e1) : List It × Nat)).2 = 0 then ((([], e1) : List It × Nat)).1 else []) = [] := by split <;> rfl
      rw [hif]
      generalize kind s.L p = K at ck nk
      clear hD hDB hk hd1 hd2 hm hrd he1 hif hs
      go_enter Tryz.func23, Tryz.ntmps23
      go_wp2_with fail
      go_still_tail 8, (by kernel_rfl)
      change wpList _ _ _ _ _ w.drew
      go_wp2_with fail
      go_at_call 20
      refine ck.mono ?_
      rintro e w4 ⟨rfl, hb4⟩
      obtain ⟨u0, u1⟩ := HCL.out _ hb4
      go_wp2_with fail
      go_region_with (go_at_call 45; refine (cr _ hb4).mono ?_; rintro e w5 ⟨rfl, h5⟩)
      all_goals
        have hb5 := Tx.below_call (HD2.out _ hb4) h5
        go_wp2_with fail
        go_ret
        exact ⟨rfl, HM.out _ hb5, Chg.of_below hb5⟩
end Go.Proofs.YtdfcbnejnnibpaaGreatDoor.Tb

namespace Go.Proofs.YtdfcbnejnnibpaaGreatDoor.Tb
open Go.RowKit Tx Pm Dk Wm Wr Wl Pl
set_option linter.unusedVariables false
set_option linter.unusedSimpArgs false
set_option linter.unnecessarySimpa false
abbrev JnT (b j : Nat) (q : ByteArray) := Jn (ImpAt b) 114 b j q
structure TAt (b j t m : Nat) (p q : ByteArray) (Fj : Nat → Prop) (w : World) (F : Nat → Prop) (x : Tst) : Prop where
  jn : JnT b j q w Fj x.j
  blk : w.heap[t]? = some (.cells #[.pointer (some ⟨b, 0, none⟩), .string p, .pointer (some ⟨j, 0, none⟩), .map (some m)] 59 (0, 0))
  rows : Mo w m x.L
  off : ¬ Fj t ∧ ¬ Fj m
  foot : ∀ i, F i ↔ Fj i ∨ i = t ∨ i = m
  rises : Rises x.L
  plain : Plain x.L
def Tn (b j t m : Nat) (p q : ByteArray) (w : World) (F : Nat → Prop) (x : Tst) : Prop := ∃ Fj, TAt b j t m p q Fj w F x
section
variable {b j t m : Nat} {p q : ByteArray} {Fj F : Nat → Prop} {w w1 : World} {x : Tst}
theorem TAt.tm (h : TAt b j t m p q Fj w F x) : t ≠ m := fun e => h.rows.nb (e ▸ h.blk)
theorem TAt.lt (h : TAt b j t m p q Fj w F x) : ∀ i, F i → i < w.heap.size := fun i hi => by
  rcases (h.foot i).1 hi with h1 | rfl | rfl
  · exact (jn_kind (imp_kind b) _ b j q).1 h.jn i h1
  · exact (Array.getElem?_eq_some_iff.1 h.blk).1
  · exact h.rows.lt
theorem TAt.kept (h : TAt b j t m p q Fj w F x) (hk : ∀ i, F i → w1.heap[i]? = w.heap[i]?) : TAt b j t m p q Fj w1 F x :=
  ⟨(jn_kind (imp_kind b) _ b j q).2 h.jn (fun i hi => hk i ((h.foot i).2 (.inl hi))), (hk t ((h.foot t).2 (.inr (.inl rfl)))).trans h.blk, h.rows.kept (hk m ((h.foot m).2 (.inr (.inr rfl)))), h.off, h.foot, h.rises, h.plain⟩
theorem TAt.below (h : TAt b j t m p q Fj w F x) (hb : Below w.heap.size w w1) : TAt b j t m p q Fj w1 F x := h.kept (fun i hi => hb.block i (h.lt i hi))
theorem TAt.cell (h : TAt b j t m p q Fj w F x) : w.cell? ⟨t, 0, none⟩ = some (.pointer (some ⟨b, 0, none⟩)) ∧ w.cell? ⟨t, 1, none⟩ = some (.string p) ∧ w.cell? ⟨t, 2, none⟩ = some (.pointer (some ⟨j, 0, none⟩)) ∧ w.cell? ⟨t, 3, none⟩ = some (.map (some m)) := by
  have hb := h.blk
  refine ⟨?_, ?_, ?_, ?_⟩ <;> · unfold World.cell?; rw [hb]; rfl
theorem TAt.turned {L : List It} (h : TAt b j t m p q Fj w F x) (hm : Mo w1 m L) (hc : Chg (· = m) w w1) (hr : Rises L) (hp : Plain L) : TAt b j t m p q Fj w1 F ⟨x.j, L⟩ :=
  ⟨(jn_kind (imp_kind b) _ b j q).2 h.jn (fun i hi => hc.block i ((jn_kind (imp_kind b) _ b j q).1 h.jn i hi) (fun e => h.off.2 (e ▸ hi))), (hc.block t (Array.getElem?_eq_some_iff.1 h.blk).1 h.tm).trans h.blk, hm, h.off, h.foot, hr, hp⟩
end
theorem LeftA.of {α : Type} {Obj : World → (Nat → Prop) → α → Prop} {w w1 : World} {F : Nat → Prop} {x : α} (h : Obj w1 F x) (hc : Chg F w w1) : LeftA Obj w F x w1 := ⟨F, h, hc, fun g hg => .inl hg⟩
theorem Chg.sub {F G : Nat → Prop} {w w1 : World} (h : Chg F w w1) (hG : ∀ i, F i → G i) : Chg G w w1 := h.mono hG
structure BAt (u pm : Nat) (tp : Option Addr) (vO : Value) (w : World) (G : Nat → Prop) (l : List Ch) : Prop where
  blk : w.heap[u]? = some (.cells #[.pointer tp, vO, .map (some pm)] 66 (0, 0))
  ops : OwnC w 0 vO l
  plc : Pp w pm l
  ne : vO.ownBlock ≠ some u
  once : Once l
  foot : ∀ i, G i ↔ i = u ∨ vO.ownBlock = some i ∨ i = pm
def Bn (u : Nat) (tp : Option Addr) (w : World) (G : Nat → Prop) (l : List Ch) : Prop := ∃ pm vO, BAt u pm tp vO w G l
section
variable {u pm : Nat} {tp : Option Addr} {vO : Value} {w w1 : World} {G : Nat → Prop} {l : List Ch}
theorem BAt.up (h : BAt u pm tp vO w G l) : u ≠ pm := fun e => h.plc.nb (e ▸ h.blk)
theorem BAt.op (h : BAt u pm tp vO w G l) : vO.ownBlock ≠ some pm := fun e => by
  rcases h.ops.2 with ⟨hv, _⟩ | ⟨g, cap, cur, hv, _, hg, _⟩
  · rw [hv] at e; cases e
  · rw [hv] at e
    injection e with e
    subst e
    exact h.plc.nb hg
theorem BAt.lt (h : BAt u pm tp vO w G l) : ∀ i, G i → i < w.heap.size := fun i hi => by
  rcases (h.foot i).1 hi with rfl | h1 | rfl
  · exact (Array.getElem?_eq_some_iff.1 h.blk).1
  · exact (h.ops.lt i h1).2
  · exact h.plc.lt
theorem BAt.kept (h : BAt u pm tp vO w G l) (hk : ∀ i, G i → w1.heap[i]? = w.heap[i]?) : BAt u pm tp vO w1 G l :=
  ⟨(hk u ((h.foot u).2 (.inl rfl))).trans h.blk, own_kept h.ops (fun g hg => hk g ((h.foot g).2 (.inr (.inl hg)))), h.plc.kept (hk pm ((h.foot pm).2 (.inr (.inr rfl)))), h.ne, h.once, h.foot⟩
theorem BAt.below (h : BAt u pm tp vO w G l) (hb : Below w.heap.size w w1) : BAt u pm tp vO w1 G l := h.kept (fun i hi => hb.block i (h.lt i hi))
theorem BAt.cell (h : BAt u pm tp vO w G l) : w.cell? ⟨u, 0, none⟩ = some (.pointer tp) ∧ w.cell? ⟨u, 1, none⟩ = some vO ∧ w.cell? ⟨u, 2, none⟩ = some (.map (some pm)) := by
  have hb := h.blk
  refine ⟨?_, ?_, ?_⟩ <;> · unfold World.cell?; rw [hb]; rfl
theorem BAt.warm (h : BAt u pm tp vO w G l) (k : Nat) : w.frozen? ⟨u, k, none⟩ = false := by
  unfold World.frozen?
  rw [h.blk]
  simp
end
end Go.Proofs.YtdfcbnejnnibpaaGreatDoor.Tb

namespace Go.Proofs.YtdfcbnejnnibpaaGreatDoor.Tb
open Go.RowKit
set_option linter.unusedVariables false
set_option linter.unusedSimpArgs false
set_option linter.unnecessarySimpa false
set_option maxRecDepth 100000 in
set_option maxHeartbeats 4000000 in
theorem chgNew (ops : Array Oper) (hops : ops = (Rg.opsOf Tryz.f52 6)) (id : Nat) (u x n c : Nat) (a : Option Addr) (key val : ByteArray) (gone : Bool) {u1 u2 u4 u5 u6 u7 u8 u9 u10 u11 u12 u13 u14 u15 u16 u17 u18 u19 u20 u21 u22 u23 u24 u25 u26 u27 u28 u29 u30 u31 u32 u33 u34 u35 u36 u37 u38 u39 u40 u41 u42 u43 u44 u45 u46 : Value} (w : World) (B4 : Value → World → Prop)
    (hS : Cells3 x key val gone w) (hL : w.drew.cell? ⟨u, 1, none⟩ = some (.slice a n c)) (hL2 : (w.alloc (.cells #[.string key, .string val, .bool gone] 102)).cell? ⟨u, 1, none⟩ = some (.slice a n c)) (hS2 : Cells3 x key val gone (w.drew.alloc (.cells #[.string key, .string val, .bool gone] 102)))
    (hE : ∀ ty, ∃ a8 n8 c8 w8, (Builtin.append_ #[64, 64] ty #[.slice a n c, .slice (some ⟨w.heap.size, 0, none⟩) 1 1]).run Tryz.prog (w.drew.alloc (.cells #[.string key, .string val, .bool gone] 102)) = .ok (.slice a8 n8 c8) w8 ∧ w8.cell? ⟨u, 1, none⟩ = some (.slice a n c) ∧ w8.frozen? ⟨u, 1, none⟩ = false ∧
      Cells3 x key val gone w8 ∧ Cells3 x key val gone (w8.setCell ⟨u, 1, none⟩ (.slice a8 n8 c8)) ∧ B4 (.slice a8 n8 c8) w8) :
    (Code.region id ops true).wp Tryz.prog (Rg.Only fun a' w' => ∃ (z8 : Nat) (a8 : Option Addr) (n8 c8 : Nat) (w8 : World), a' = ⟨#[(.pointer (some ⟨u, 0, none⟩)), u1, u2, (.pointer (some ⟨x, 0, none⟩)), u4, u5, u6, u7, u8, u9, u10, u11, u12, u13, u14, u15, u16, u17, u18, u19, u20, u21, u22, u23, u24, u25, u26, u27, u28, u29, u30, u31, u32, u33, u34, u35, u36, (.pointer (some ⟨u, 0, none⟩)), (.pointer (some ⟨u, 0, none⟩)), (.pointer (some ⟨u, 0, none⟩)), (.pointer (some ⟨u, 1, none⟩)), (.slice a n c), (.agg #[.string key, .string val, .bool gone]), (.slice (some ⟨z8, 0, none⟩) 1 1), (.slice a8 n8 c8), (.pointer (some ⟨u, 0, none⟩)), (.pointer (some ⟨u, 1, none⟩))], []⟩ ∧ w' = w8.setCell ⟨u, 1, none⟩ (.slice a8 n8 c8) ∧ B4 (.slice a8 n8 c8) w8) ⟨#[(.pointer (some ⟨u, 0, none⟩)), u1, u2, (.pointer (some ⟨x, 0, none⟩)), u4, u5, u6, u7, u8, u9, u10, u11, u12, u13, u14, u15, u16, u17, u18, u19, u20, u21, u22, u23, u24, u25, u26, u27, u28, u29, u30, u31, u32, u33, u34, u35, u36, u37, u38, u39, u40, u41, u42, u43, u44, u45, u46], []⟩ w := by
  subst hops
  have hNS : Region.noSelect (Rg.opsOf Tryz.f52 6) = true := by kernel_rfl
  refine wp_region_held_drew (S := Cells3 x key val gone) (by kernel_rfl) hS (fun hHeld => ?_)
  rw [show (Rg.opsOf Tryz.f52 6).size = 11 by kernel_rfl]
  refine Rg.take (ops := (Rg.opsOf Tryz.f52 6)) 0 (some 37) ((.pointer (some ⟨u, 0, none⟩))) hNS (by kernel_rfl) (by kernel_rfl) (by kernel_rfl) (by kernel_rfl) (by kernel_rfl) hHeld (Rg.y_move (x := (Operand.tmp 0)) (Or.inl (by kernel_rfl)) (by kernel_rfl)) ?_
  refine Rg.take (ops := (Rg.opsOf Tryz.f52 6)) 1 (some 38) ((.pointer (some ⟨u, 0, none⟩))) hNS (by kernel_rfl) (by kernel_rfl) (by kernel_rfl) (by kernel_rfl) (by kernel_rfl) hHeld (Rg.y_move (x := (Operand.tmp 0)) (Or.inl (by kernel_rfl)) (by kernel_rfl)) ?_
  refine Rg.take (ops := (Rg.opsOf Tryz.f52 6)) 2 (some 39) ((.pointer (some ⟨u, 0, none⟩))) hNS (by kernel_rfl) (by kernel_rfl) (by kernel_rfl) (by kernel_rfl) (by kernel_rfl) hHeld (Rg.y_nil (x := (Operand.tmp 38)) (by kernel_rfl) (by kernel_rfl)) ?_
  refine Rg.take (ops := (Rg.opsOf Tryz.f52 6)) 3 (some 40) ((.pointer (some ⟨u, 1, none⟩))) hNS (by kernel_rfl) (by kernel_rfl) (by kernel_rfl) (by kernel_rfl) (by kernel_rfl) hHeld (Rg.y_field (T := 66) (k := 1) (x := (Operand.tmp 39)) (vx := (.pointer (some ⟨u, 0, none⟩))) (by kernel_rfl) (by kernel_rfl) ?_) ?_
  · (intro w hSw; clear hSw; go_simp)
  refine Rg.take (ops := (Rg.opsOf Tryz.f52 6)) 5 (some 42) ((.agg #[.string key, .string val, .bool gone])) hNS (by kernel_rfl) (by kernel_rfl) (by kernel_rfl) (by kernel_rfl) (by kernel_rfl) hHeld (Rg.y_load (T := 102) (x := (Operand.tmp 3)) (vx := (.pointer (some ⟨x, 0, none⟩))) (by kernel_rfl) (by kernel_rfl) ?_) ?_
  · (intro w hSw; obtain ⟨s0, s1, s2⟩ := hSw; go_simp)
  refine Rg.two (ops := (Rg.opsOf Tryz.f52 6)) (i := 4) (j := 6) (by kernel_rfl) ?_ ?_
  · refine Rg.op_load (ops := (Rg.opsOf Tryz.f52 6)) 4 (some 41) (T := 64) (x := (Operand.tmp 40)) (vx := (.pointer (some ⟨u, 1, none⟩))) (v := (.slice a n c)) (by kernel_rfl) (by kernel_rfl) (by kernel_rfl) (by kernel_rfl) (by kernel_rfl) ?_ hHeld ?_
    · (clear hHeld hE; go_simp)
    refine Rg.bld (ops := (Rg.opsOf Tryz.f52 6)) 6 (some 43) (T := 64) (len := 1) (parts := #[(0, Operand.tmp 42)]) (vs := #[(0, (.agg #[.string key, .string val, .bool gone]))]) (v := (.slice (some ⟨w.heap.size, 0, none⟩) 1 1)) (w1 := w.drew.alloc (.cells #[.string key, .string val, .bool gone] 102)) (by kernel_rfl) (by kernel_rfl) (by kernel_rfl) (by kernel_rfl) (by kernel_rfl) (by kernel_rfl) ?_ (hS2) (fun hHeld => ?_)
    · (clear hHeld hE hL hL2; go_simp)
    refine Rg.app1 (ops := (Rg.opsOf Tryz.f52 6)) 7 (some 44) (T := 64) (x := (Operand.tmp 41)) (y := (Operand.tmp 43)) (vx := (.slice a n c)) (vy := (.slice (some ⟨w.heap.size, 0, none⟩) 1 1)) (by kernel_rfl) (by kernel_rfl) (by kernel_rfl) (by kernel_rfl) (by kernel_rfl) (by kernel_rfl) (by kernel_rfl) ?_
    intro ty
    obtain ⟨a8, n8, c8, w8, hr8, hl8, hf8, hS8, hS9, h8⟩ := hE ty
    refine ⟨_, w8, hr8, hS8, fun hHeld => ?_⟩
    refine Rg.take (ops := (Rg.opsOf Tryz.f52 6)) 8 (some 45) ((.pointer (some ⟨u, 0, none⟩))) hNS (by kernel_rfl) (by kernel_rfl) (by kernel_rfl) (by kernel_rfl) (by kernel_rfl) hHeld (Rg.y_nil (x := (Operand.tmp 37)) (by kernel_rfl) (by kernel_rfl)) ?_
    refine Rg.take (ops := (Rg.opsOf Tryz.f52 6)) 9 (some 46) ((.pointer (some ⟨u, 1, none⟩))) hNS (by kernel_rfl) (by kernel_rfl) (by kernel_rfl) (by kernel_rfl) (by kernel_rfl) hHeld (Rg.y_field (T := 66) (k := 1) (x := (Operand.tmp 45)) (vx := (.pointer (some ⟨u, 0, none⟩))) (by kernel_rfl) (by kernel_rfl) ?_) ?_
    · (intro w hSw; clear hSw; go_simp)
    refine Rg.store (ops := (Rg.opsOf Tryz.f52 6)) 10 (T := 64) (x := (Operand.tmp 46)) (y := (Operand.tmp 44)) (vx := (.pointer (some ⟨u, 1, none⟩))) (vy := (.slice a8 n8 c8)) (w1 := (w8.setCell ⟨u, 1, none⟩ (.slice a8 n8 c8))) (by kernel_rfl) (by kernel_rfl) (by kernel_rfl) (by kernel_rfl) (by kernel_rfl) (by kernel_rfl) (by kernel_rfl) ?_ (hS9) (fun hHeld => ?_)
    · (clear hHeld hE hL hL2 hS8 hS9 hr8 h8; go_simp)
    refine Rg.done (ops := (Rg.opsOf Tryz.f52 6)) (by kernel_rfl) ?_
    exact ⟨w.heap.size, a8, n8, c8, w8, by kernel_rfl, rfl, h8⟩
  · refine Rg.op_bld (ops := (Rg.opsOf Tryz.f52 6)) 6 (some 43) (T := 64) (len := 1) (parts := #[(0, Operand.tmp 42)]) (vs := #[(0, (.agg #[.string key, .string val, .bool gone]))]) (v := (.slice (some ⟨w.heap.size, 0, none⟩) 1 1)) (w1 := w.drew.alloc (.cells #[.string key, .string val, .bool gone] 102)) (by kernel_rfl) (by kernel_rfl) (by kernel_rfl) (by kernel_rfl) (by kernel_rfl) ?_ (hS2) (fun hHeld => ?_)
    · (clear hHeld hE hL hL2; go_simp)
    refine Rg.one (ops := (Rg.opsOf Tryz.f52 6)) (i := 4) (by kernel_rfl) ?_
    refine Rg.op_load (ops := (Rg.opsOf Tryz.f52 6)) 4 (some 41) (T := 64) (x := (Operand.tmp 40)) (vx := (.pointer (some ⟨u, 1, none⟩))) (v := (.slice a n c)) (by kernel_rfl) (by kernel_rfl) (by kernel_rfl) (by kernel_rfl) (by kernel_rfl) ?_ hHeld ?_
    · (clear hHeld hE; go_simp)
    refine Rg.app1 (ops := (Rg.opsOf Tryz.f52 6)) 7 (some 44) (T := 64) (x := (Operand.tmp 41)) (y := (Operand.tmp 43)) (vx := (.slice a n c)) (vy := (.slice (some ⟨w.heap.size, 0, none⟩) 1 1)) (by kernel_rfl) (by kernel_rfl) (by kernel_rfl) (by kernel_rfl) (by kernel_rfl) (by kernel_rfl) (by kernel_rfl) ?_
    intro ty
    obtain ⟨a8, n8, c8, w8, hr8, hl8, hf8, hS8, hS9, h8⟩ := hE ty
    refine ⟨_, w8, hr8, hS8, fun hHeld => ?_⟩
    refine Rg.take (ops := (Rg.opsOf Tryz.f52 6)) 8 (some 45) ((.pointer (some ⟨u, 0, none⟩))) hNS (by kernel_rfl) (by kernel_rfl) (by kernel_rfl) (by kernel_rfl) (by kernel_rfl) hHeld (Rg.y_nil (x := (Operand.tmp 37)) (by kernel_rfl) (by kernel_rfl)) ?_
    refine Rg.take (ops := (Rg.opsOf Tryz.f52 6)) 9 (some 46) ((.pointer (some ⟨u, 1, none⟩))) hNS (by kernel_rfl) (by kernel_rfl) (by kernel_rfl) (by kernel_rfl) (by kernel_rfl) hHeld (Rg.y_field (T := 66) (k := 1) (x := (Operand.tmp 45)) (vx := (.pointer (some ⟨u, 0, none⟩))) (by kernel_rfl) (by kernel_rfl) ?_) ?_
    · (intro w hSw; clear hSw; go_simp)
    refine Rg.store (ops := (Rg.opsOf Tryz.f52 6)) 10 (T := 64) (x := (Operand.tmp 46)) (y := (Operand.tmp 44)) (vx := (.pointer (some ⟨u, 1, none⟩))) (vy := (.slice a8 n8 c8)) (w1 := (w8.setCell ⟨u, 1, none⟩ (.slice a8 n8 c8))) (by kernel_rfl) (by kernel_rfl) (by kernel_rfl) (by kernel_rfl) (by kernel_rfl) (by kernel_rfl) (by kernel_rfl) ?_ (hS9) (fun hHeld => ?_)
    · (clear hHeld hE hL hL2 hS8 hS9 hr8 h8; go_simp)
    refine Rg.done (ops := (Rg.opsOf Tryz.f52 6)) (by kernel_rfl) ?_
    exact ⟨w.heap.size, a8, n8, c8, w8, by kernel_rfl, rfl, h8⟩
end Go.Proofs.YtdfcbnejnnibpaaGreatDoor.Tb

namespace Go.Proofs.YtdfcbnejnnibpaaGreatDoor.Tb
open Go.RowKit Tx Pm Dk Wm Wr Wl Pl
set_option linter.unusedVariables false
set_option linter.unusedSimpArgs false
set_option linter.unnecessarySimpa false
theorem flat_set : ∀ (l : List Ch) (k : Nat) (x : Ch), k < l.length → (((l.flatMap cellsC).set (k * 3) (.string x.key)).set (k * 3 + 1) (.string x.val)).set (k * 3 + 1 + 1) (.bool x.gone) = (l.set k x).flatMap cellsC
  | [], k, x, h => by simp at h
  | y :: l, 0, x, h => by simp [cellsC]
  | y :: l, k + 1, x, h => by
    have ih := flat_set l k x (by simpa using h)
    rw [List.flatMap_cons, List.set_cons_succ, List.flatMap_cons, ← ih]
    have e1 : (k + 1) * 3 = k * 3 + 3 := by omega
    have e2 : (k + 1) * 3 + 1 = (k * 3 + 1) + 3 := by omega
    have e3 : (k + 1) * 3 + 1 + 1 = (k * 3 + 1 + 1) + 3 := by omega
    rw [e3, e2, e1]
    simp [cellsC]
theorem own_set3 {w : World} {g n cap : Nat} {l : List Ch} (h : w.ownsRow 0 102 3 (.slice (some ⟨g, 0, none⟩) n cap) n (l.flatMap cellsC)) {k : Nat} {y : Ch} (hk : l[k]? = some y) (x : Ch) :
    (w.cell? ⟨g, k * 3, none⟩ = some (.string y.key) ∧ w.frozen? ⟨g, k * 3, none⟩ = false) ∧ ((w.setCell ⟨g, k * 3, none⟩ (.string x.key)).cell? ⟨g, k * 3 + 1, none⟩ = some (.string y.val) ∧ (w.setCell ⟨g, k * 3, none⟩ (.string x.key)).frozen? ⟨g, k * 3 + 1, none⟩ = false) ∧
    (((w.setCell ⟨g, k * 3, none⟩ (.string x.key)).setCell ⟨g, k * 3 + 1, none⟩ (.string x.val)).cell? ⟨g, k * 3 + 1 + 1, none⟩ = some (.bool y.gone) ∧ ((w.setCell ⟨g, k * 3, none⟩ (.string x.key)).setCell ⟨g, k * 3 + 1, none⟩ (.string x.val)).frozen? ⟨g, k * 3 + 1 + 1, none⟩ = false) ∧
    (((w.setCell ⟨g, k * 3, none⟩ (.string x.key)).setCell ⟨g, k * 3 + 1, none⟩ (.string x.val)).setCell ⟨g, k * 3 + 1 + 1, none⟩ (.bool x.gone)).ownsRow 0 102 3 (.slice (some ⟨g, 0, none⟩) n cap) n ((l.set k x).flatMap cellsC) ∧
    Chg (· = g) w (((w.setCell ⟨g, k * 3, none⟩ (.string x.key)).setCell ⟨g, k * 3 + 1, none⟩ (.string x.val)).setCell ⟨g, k * 3 + 1 + 1, none⟩ (.bool x.gone)) := by
  obtain ⟨h1, _⟩ := h.stored (k * 3) (.string x.key)
  obtain ⟨h2, _⟩ := h1.stored (k * 3 + 1) (.string x.val)
  obtain ⟨h3, _⟩ := h2.stored (k * 3 + 1 + 1) (.bool x.gone)
  have hkl := (List.getElem?_eq_some_iff.1 hk).1
  have hc : ∀ j u, j < 3 → (cellsC y)[j]? = some u → (l.flatMap cellsC)[k * 3 + j]? = some u := fun j u hj hu => (flat_at cellsC 3 (fun _ => rfl) l k y j hk hj).trans hu
  have cell : ∀ {W : World} {xs : List Value} {j : Nat} {u : Value}, W.ownsRow 0 102 3 (.slice (some ⟨g, 0, none⟩) n cap) n xs → xs[j]? = some u → W.cell? ⟨g, j, none⟩ = some u := fun {W xs j u} hW hu => by
    have := hW.cells (g := g) rfl j u hu
    rwa [WideShapes.add_plain, Nat.zero_add] at this
  refine ⟨⟨cell h (hc 0 _ (by omega) rfl), h.frozenAt _⟩, ⟨cell h1 ?_, h1.frozenAt _⟩, ⟨cell h2 ?_, h2.frozenAt _⟩, ?_, ((chg_set (b := g) (k := k * 3) _).then (chg_set (b := g) (k := k * 3 + 1) _)).then (chg_set (b := g) (k := k * 3 + 1 + 1) _)⟩
  · rw [List.getElem?_set_ne (by omega)]
    exact hc 1 _ (by omega) rfl
  · rw [List.getElem?_set_ne (by omega), List.getElem?_set_ne (by omega)]
    exact hc 2 _ (by omega) rfl
  · rw [flat_set l k x hkl] at h3
    exact h3
theorem set_left {u pm g i n : Nat} {tp : Option Addr} {vO : Value} {w W Wf : World} {G : Nat → Prop} {l : List Ch} {c : Ch} (h : BAt u pm tp vO w G l) (hB : Below w.heap.size w W) (hset : Wf.ownsRow 0 102 3 vO n ((l.set i c).flatMap cellsC)) (hn : n = l.length)
    (hc : Chg (· = g) W Wf) (hg : vO.ownBlock = some g) (hat : at7 l c.key = some i) : LeftA (Bn u tp) w G (l.set i c) Wf := by
  have hW := h.below hB
  have hug : u ≠ g := fun e => h.ne (by rw [hg, e])
  have hpg : pm ≠ g := fun e => h.op (by rw [hg, e])
  have hon := once_bat h.once c
  rw [bat_set h.once hat] at hon
  refine LeftA.of ⟨pm, vO, ⟨(hc.block u (hW.lt u ((h.foot u).2 (.inl rfl))) hug).trans hW.blk, ?_, (hW.plc.same h.once hat).kept (hc.block pm hW.plc.lt hpg), h.ne, hon, h.foot⟩⟩ ((Chg.of_below hB).then (hc.mono (fun x hx => (h.foot x).2 (.inr (.inl (by rw [hg, hx]))))))
  unfold OwnC
  rw [List.length_set, ← hn]
  exact hset
theorem new_left {u pm n : Nat} {tp : Option Addr} {vO v' : Value} {w w3 w4 w6 : World} {G : Nat → Prop} {l : List Ch} {c : Ch} {o : Obj} (h : BAt u pm tp vO w G l) (hB : Below w.heap.size w w3) (hP : Pp w4 pm (l ++ [c])) (ht : w3.mapTurned w4 pm)
    (hO : w6.ownsRow 0 102 3 v' (n + 1) ((l ++ [c]).flatMap cellsC)) (hn : n = l.length) (hg : (v'.ownBlock = vO.ownBlock ∧ (w4.drew.alloc o).grownBy w6 vO.ownBlock) ∨ (v'.ownBlock = some (w4.drew.alloc o).heap.size ∧ (w4.drew.alloc o).grownBy w6 none)) (hat : at7 l c.key = none) :
    (w6.cell? ⟨u, 1, none⟩ = some vO ∧ w6.frozen? ⟨u, 1, none⟩ = false) ∧ LeftA (Bn u tp) w G (l ++ [c]) (w6.setCell ⟨u, 1, none⟩ v') := by
  have hW := h.below hB
  have hsz : w3.heap.size ≤ w4.heap.size := (turned_chg ht).size
  have hul : u < w3.heap.size := hW.lt u ((h.foot u).2 (.inl rfl))
  have hpl : pm < w3.heap.size := hW.plc.lt
  have hub : w4.heap[u]? = w3.heap[u]? := turned_block ht h.up
  have hon := once_bat h.once c
  rw [bat_new hat] at hon
  have hc4 : Chg (fun i => vO.ownBlock = some i) w4 w6 := by
    have h0 : Chg (fun i => vO.ownBlock = some i) w4 (w4.drew.alloc o) := Chg.of_below (((Below.refl w4.heap.size w4).drew).alloc (Nat.le_refl _) o)
    rcases hg with ⟨_, g1, g2, g3, g4, g5⟩ | ⟨_, g1, g2, g3, g4, g5⟩
    · exact h0.then ⟨g1, g2, g3, g4, fun i hi hn => g5 i hi (fun e => hn e.symm)⟩
    · exact h0.then ⟨g1, g2, g3, g4, fun i hi hn => g5 i hi (by simp)⟩
  have hblk : w6.heap[u]? = some (.cells #[.pointer tp, vO, .map (some pm)] 66 (0, 0)) := (hc4.block u (by omega) h.ne).trans (hub.trans hW.blk)
  have hv'u : ∀ i, v'.ownBlock = some i → vO.ownBlock = some i ∨ w4.heap.size ≤ i := fun i hi => by
    rcases hg with ⟨e, _⟩ | ⟨e, _⟩
    · exact .inl (by rw [← e]; exact hi)
    · rw [e] at hi
      injection hi with hi
      have : (w4.drew.alloc o).heap.size = w4.heap.size + 1 := by simp
      exact .inr (by omega)
  have hne : v'.ownBlock ≠ some u := fun e => by
    rcases hv'u u e with hh | hh
    · exact h.ne hh
    · omega
  have hchg : Chg G w (w6.setCell ⟨u, 1, none⟩ v') := ((((Chg.of_below hB).then ((turned_chg ht).mono (fun i hi => (h.foot i).2 (.inr (.inr hi))))).then (hc4.mono (fun i hi => (h.foot i).2 (.inr (.inl hi))))).then ((chg_set (b := u) (k := 1) v').mono (fun i hi => (h.foot i).2 (.inl hi))))
  refine ⟨⟨by unfold World.cell?; rw [hblk]; rfl, by unfold World.frozen?; rw [hblk]; simp⟩, fun i => i = u ∨ v'.ownBlock = some i ∨ i = pm, ⟨pm, v', ⟨by rw [set_block hblk]; rfl, ?_, ?_, hne, hon, fun i => Iff.rfl⟩⟩, hchg, ?_⟩
  · unfold OwnC
    rw [List.length_append, List.length_singleton, ← hn]
    exact own_kept hO (fun i hi => set_other v' (fun e => hne (e ▸ hi)))
  · exact (hP.kept (hc4.block pm (by omega) h.op)).kept (set_other v' (fun e => h.up e.symm))
  · rintro i (rfl | hi | rfl)
    · exact .inl ((h.foot _).2 (.inl rfl))
    · rcases hv'u i hi with hh | hh
      · exact .inl ((h.foot _).2 (.inr (.inl hh)))
      · have := hB.size
        have h2 := (Chg.of_below (F := G) hB).size
        exact .inr (by omega)
    · exact .inl ((h.foot _).2 (.inr (.inr rfl)))
theorem cells3_set {W : World} {x u k : Nat} {key val : ByteArray} {gone : Bool} (h : Cells3 x key val gone W) (hne : x ≠ u) (v : Value) : Cells3 x key val gone (W.setCell ⟨u, k, none⟩ v) := by
  have hb := set_other (w := W) (b := u) (k := k) v hne
  refine ⟨?_, ?_, ?_⟩
  · have := h.1; unfold World.cell? at this ⊢; rw [hb]; exact this
  · have := h.2.1; unfold World.cell? at this ⊢; rw [hb]; exact this
  · have := h.2.2; unfold World.cell? at this ⊢; rw [hb]; exact this
theorem app_change {u pm n cO : Nat} {tp aO : Option Addr} {vO : Value} {w w3 w4 : World} {G : Nat → Prop} {l : List Ch} {key val : ByteArray} {gone : Bool} (h : BAt u pm tp vO w G l) (hB : Below w.heap.size w w3) (hP : Pp w4 pm (l ++ [⟨key, val, gone⟩])) (ht : w3.mapTurned w4 pm)
    (hO : w4.ownsRow 0 102 3 vO n (l.flatMap cellsC)) (hv : vO = .slice aO n cO) (hn : n = l.length) (hat : at7 l key = none) (hnl : n < 1000000000) (hC : Cells3 w.heap.size key val gone (w4.drew.alloc (.cells #[.string key, .string val, .bool gone] 102))) :
    ∀ ty, ∃ a8 n8 c8 w8, (Builtin.append_ #[64, 64] ty #[.slice aO n cO, .slice (some ⟨w4.heap.size, 0, none⟩) 1 1]).run Tryz.prog (w4.drew.alloc (.cells #[.string key, .string val, .bool gone] 102)) = .ok (.slice a8 n8 c8) w8 ∧
      w8.cell? ⟨u, 1, none⟩ = some (.slice aO n cO) ∧ w8.frozen? ⟨u, 1, none⟩ = false ∧ Cells3 w.heap.size key val gone w8 ∧ Cells3 w.heap.size key val gone (w8.setCell ⟨u, 1, none⟩ (.slice a8 n8 c8)) ∧ LeftA (Bn u tp) w G (l ++ [⟨key, val, gone⟩]) (w8.setCell ⟨u, 1, none⟩ (.slice a8 n8 c8)) := by
  intro ty
  obtain ⟨i0, hi, hz0, hz1, hz2⟩ := info_parts infoC
  have hO5 : (w4.drew.alloc (.cells #[.string key, .string val, .bool gone] 102)).ownsRow 0 102 3 vO n (l.flatMap cellsC) := row_below (w := w4) hO (((Below.refl w4.heap.size w4).drew).alloc (Nat.le_refl _) _)
  obtain ⟨v', w', hr, h1, h2⟩ := Ap.append_two (P := Tryz.prog) _ 0 64 ty 102 i0 (ov ch0) 3 40 Tryz.underlying64 hi hz0 hz1 hz2 rfl (by decide) (by decide) vO n (l.flatMap cellsC) hO5 ⟨w4.heap.size, 0, none⟩ 1 (cellsC ⟨key, val, gone⟩) rfl
    (new3 w4.drew ⟨key, val, gone⟩ (by simp)) (cells_one ⟨key, val, gone⟩) (by omega) (by omega) (Nat.zero_le _)
  have e : l.flatMap cellsC ++ cellsC ⟨key, val, gone⟩ = (l ++ [(⟨key, val, gone⟩ : Ch)]).flatMap cellsC := by rw [List.flatMap_append]; rfl
  rw [e] at h1
  obtain ⟨⟨k1, k2⟩, hfin⟩ := new_left h hB hP ht h1 hn h2 hat
  obtain ⟨a8, c8, rfl⟩ : ∃ a8 c8, v' = .slice a8 (n + 1) c8 := by
    rcases h1.2 with ⟨hv, h0⟩ | ⟨g, cap, cur, hv, _⟩
    · omega
    · exact ⟨_, _, hv⟩
  have hul : u < w.heap.size := h.lt u ((h.foot u).2 (.inl rfl))
  have hC8 : Cells3 w.heap.size key val gone w' := by
    rcases h2 with ⟨_, hg⟩ | ⟨_, hg⟩
    · exact cells3_grown hC hg (fun e => by have := (h.ops.lt _ e.symm).2; omega)
    · exact cells3_grown hC hg (by simp)
  rw [hv] at hr k1
  exact ⟨a8, n + 1, c8, w', hr, k1, k2, hC8, cells3_set hC8 (by omega) _, hfin⟩
set_option maxRecDepth 100000 in
set_option maxHeartbeats 4000000 in
theorem change_any (u pm : Nat) (tp : Option Addr) (vO : Value) {G : Nat → Prop} {l : List Ch} (c : Ch) (w : World) (h : BAt u pm tp vO w G l) (hk : c.key.size ≤ 1000000000000) (hl : l.length < 1000000000) :
    Calls Tryz.prog 52 #[.pointer (some ⟨u, 0, none⟩), ov c] w fun e w' => e = .returned (.tuple #[]) ∧ LeftA (Bn u tp) w G (bat l c) w' := by
  obtain ⟨c0, c1, c2⟩ := h.cell
  have hB1 : Below w.heap.size w (w.alloc (.cells #[.string c.key, .string c.val, .bool c.gone] 102)).drew := ((Below.refl _ w).alloc (Nat.le_refl _) _).drew
  have hlk := (h.plc.kept (hB1.block pm h.plc.lt)).look (p := c.key) (by unfold maxLen; omega)
  obtain ⟨aO, cO, hvO, hO1, hO2, hO3⟩ := h.ops.form
  obtain ⟨n, hn⟩ : ∃ n, n = l.length := ⟨_, rfl⟩
  rw [← hn] at hvO hO1 hO2
  cases hat : at7 l c.key with
  | some i =>
    obtain ⟨y, hy, hyk, hin⟩ := at7_lt hat
    rw [bat_set h.once hat]
    have hpv : placeV l c.key = .tuple #[.int .i64 i, .bool true] := by unfold placeV; rw [hat]
    rw [hpv] at hlk
    obtain ⟨hO0, hne⟩ := hO1
    have hown := h.ops
    unfold OwnC at hown
    rw [hvO, ← hn] at hown
    obtain ⟨g, rfl⟩ : ∃ g, aO = some ⟨g, 0, none⟩ := by
      rcases hown.2 with ⟨_, h0⟩ | ⟨g, cap, cur, hv, _⟩
      · omega
      · injection hv with hv; exact ⟨g, hv⟩
    have hB2 : Below w.heap.size w (w.alloc (.cells #[.string c.key, .string c.val, .bool c.gone] 102)).drew.drew := hB1.drew
    obtain ⟨_, _, _, hset, hcs⟩ := own_set3 (row_below hown hB2) hy c
    have c0' := (hB1.cell (p := ⟨u, 0, none⟩) (World.block_lt_of_cell? w _ c0)).trans c0
    have c1' := (hB1.cell (p := ⟨u, 1, none⟩) (World.block_lt_of_cell? w _ c1)).trans c1
    have c2' := (hB1.cell (p := ⟨u, 2, none⟩) (World.block_lt_of_cell? w _ c2)).trans c2
    have c1'' := (hB2.cell (p := ⟨u, 1, none⟩) (World.block_lt_of_cell? w _ c1)).trans c1
    rw [hvO] at c1 c1' c1''
    have hul : u < w.heap.size := World.block_lt_of_cell? w _ c1
    have hul2 : u ≠ w.heap.size := by omega
    have d1 : (w.alloc (.cells #[.string c.key, .string c.val, .bool c.gone] 102)).cell? ⟨u, 1, none⟩ = some (.slice (some ⟨g, 0, none⟩) n cO) := c1'
    have hiz : (i : Int) < (n : Int) := by omega
    have hsz2 : w.heap.size < (w.alloc (.cells #[.string c.key, .string c.val, .bool c.gone] 102)).heap.size := by simp
    have e0 : (w.alloc (.cells #[.string c.key, .string c.val, .bool c.gone] 102)).drew.cell? ⟨w.heap.size, 0, none⟩ = some (.string c.key) := (cells3_new w c _).1
    have e1 : (w.alloc (.cells #[.string c.key, .string c.val, .bool c.gone] 102)).drew.cell? ⟨w.heap.size, 1, none⟩ = some (.string c.val) := (cells3_new w c _).2.1
    have e2 : (w.alloc (.cells #[.string c.key, .string c.val, .bool c.gone] 102)).drew.cell? ⟨w.heap.size, 2, none⟩ = some (.bool c.gone) := (cells3_new w c _).2.2
    have HS := Lib.hid hset
    have HC := Lib.hid hcs
    have HH := Lib.hid h
    have hownW := row_below hown hB1
    obtain ⟨⟨a0, b0⟩, _, _, _, _⟩ := own_set3 hownW hy c
    have hcW : ∀ j v, (l.flatMap cellsC)[j]? = some v → (w.alloc (.cells #[.string c.key, .string c.val, .bool c.gone] 102)).drew.cell? ⟨g, j, none⟩ = some v := fun j v hv => by
      have := hownW.cells (g := g) rfl j v hv
      rwa [WideShapes.add_plain, Nat.zero_add] at this
    have a1 := hcW (i * 3 + 1) (.string y.val) ((flat_at cellsC 3 (fun _ => rfl) l i y 1 hy (by omega)).trans rfl)
    have a2 := hcW (i * 3 + 1 + 1) (.bool y.gone) ((flat_at cellsC 3 (fun _ => rfl) l i y 2 hy (by omega)).trans rfl)
    have b1 := hownW.frozenAt (i * 3 + 1)
    have b2 := hownW.frozenAt (i * 3 + 1 + 1)
    obtain ⟨key, val, gone⟩ := c
    simp only [ov] at hlk c0' c1' c1'' d1 c2' a0 a1 a2 b0 b1 b2 HS HC e0 e1 e2 ⊢
    have HN := Lib.hid hn
    have HV := Lib.hid hvO
    have HB2 := Lib.hid hB2
    have HAT := Lib.hid hat
    clear hset hcs h hy hat hpv hown hne hO3 hin hB1 hB2 hn hvO hyk hO0 hsz2 hownW hcW
    go_enter Tryz.func52, Tryz.ntmps52
    go_wp2_with fail
    go_region
    go_wp2_with fail
    clear hlk c0' c2' d1
    generalize (w.alloc (.cells #[.string key, .string val, .bool gone] 102)).drew = W2 at c1' c1'' a0 a1 a2 b0 b1 b2 HS HC e0 e1 e2 HB2 ⊢
    go_region
    all_goals
      go_wp2_with fail
      (try simp only [Exit.inBlock, Exit.then])
      refine bodyPost_ret (results_none rfl _ _ _) rfl ?_
      exact ⟨rfl, set_left (g := g) HH.out HB2.out (by rw [HV.out]; exact HS.out) HN.out HC.out (by rw [HV.out]; rfl) HAT.out⟩
  | none =>
    rw [bat_new hat]
    have hpv : placeV l c.key = .tuple #[.int .i64 0, .bool false] := by unfold placeV; rw [hat]
    rw [hpv] at hlk
    have hB2 : Below w.heap.size w (w.alloc (.cells #[.string c.key, .string c.val, .bool c.gone] 102)).drew.drew := hB1.drew
    obtain ⟨w4, hrun, hP4, hturn⟩ := (h.plc.kept (hB2.block pm h.plc.lt)).store h.once hat (by unfold maxLen; omega) (by omega)
    rw [← hn] at hrun
    have hul : u < w.heap.size := World.block_lt_of_cell? w _ c1
    have hx4 : w4.heap[w.heap.size]? = some (.cells #[.string c.key, .string c.val, .bool c.gone] 102) := (turned_block hturn (fun e => by have := h.plc.lt; omega)).trans (heap_alloc_new w _)
    have e0 : w4.cell? ⟨w.heap.size, 0, none⟩ = some (.string c.key) ∧ w4.cell? ⟨w.heap.size, 1, none⟩ = some (.string c.val) ∧ w4.cell? ⟨w.heap.size, 2, none⟩ = some (.bool c.gone) := by
      refine ⟨?_, ?_, ?_⟩ <;> · unfold World.cell?; rw [hx4]; rfl
    obtain ⟨e0, e1, e2⟩ := e0
    have hu4 : w4.cell? ⟨u, 1, none⟩ = some vO := by
      have hb := (turned_block hturn h.up).trans ((hB2.block u hul).trans h.blk)
      unfold World.cell?
      rw [hb]
      rfl
    have hO4 : w4.ownsRow 0 102 3 vO n (l.flatMap cellsC) := by
      have := h.ops
      unfold OwnC at this
      rw [← hn] at this
      exact own_chg (row_below this hB2) (turned_chg hturn) (fun g hg e => h.op (by rw [hg, e]))
    have c1' := (hB1.cell (p := ⟨u, 1, none⟩) (World.block_lt_of_cell? w _ c1)).trans c1
    have c2' := (hB1.cell (p := ⟨u, 2, none⟩) (World.block_lt_of_cell? w _ c2)).trans c2
    have f0 : (w.alloc (.cells #[.string c.key, .string c.val, .bool c.gone] 102)).drew.cell? ⟨w.heap.size, 0, none⟩ = some (.string c.key) := (cells3_new w c _).1
    rw [hvO] at c1 c1' hu4
    have HN := Lib.hid hn
    have HV := Lib.hid hvO
    have HB2 := Lib.hid hB2
    have HAT := Lib.hid hat
    have HP4 := Lib.hid hP4
    have HT := Lib.hid hturn
    have HO4 := Lib.hid hO4
    have HH := Lib.hid h
    have hnl : n < 1000000000 := by omega
    obtain ⟨i0, hi, hz0, hz1, hz2⟩ := info_parts infoC
    obtain ⟨key, val, gone⟩ := c
    simp only [ov] at hlk hrun c1' c2' e0 e1 e2 f0 HB2 HAT HP4 HT ⊢
    clear hB1 hB2 hat hP4 hturn hO4 h hn hvO hpv hx4 hO1 hO3 hl
    go_enter Tryz.func52, Tryz.ntmps52
    go_wp2_with fail
    go_region
    go_wp2_with fail
    clear hlk
    generalize (w.alloc (.cells #[.string key, .string val, .bool gone] 102)).drew = W2 at c1' c2' f0 hrun HB2 HT ⊢
    go_region
    go_wp2_with fail
    have hC4 : Cells3 w.heap.size key val gone w4 := ⟨e0, e1, e2⟩
    have hsz4 : w.heap.size < w4.heap.size := World.block_lt_of_cell? w4 _ e0
    have hC5 : Cells3 w.heap.size key val gone (w4.drew.alloc (.cells #[.string key, .string val, .bool gone] 102)) := cells3_alloc (W := w4.drew) hC4 hsz4 _
    have hu5 : (w4.alloc (.cells #[.string key, .string val, .bool gone] 102)).cell? ⟨u, 1, none⟩ = some (.slice aO n cO) := (((Below.refl w4.heap.size w4).alloc (Nat.le_refl _) _).cell (p := ⟨u, 1, none⟩) (by show u < _; omega)).trans hu4
    have hE := app_change (aO := aO) (cO := cO) HH.out HB2.out HP4.out HT.out HO4.out HV.out HN.out HAT.out hnl hC5
    refine Rg.wp_only ?_ (chgNew _ (by kernel_rfl) _ u w.heap.size n cO aO key val gone w4 (fun v W => LeftA (Bn u tp) w G (l ++ [⟨key, val, gone⟩]) (W.setCell ⟨u, 1, none⟩ v)) hC4 hu4 hu5 hC5 hE)
    rintro _ w9 ⟨z8, a8, n8, c8, w8, rfl, rfl, hfin⟩
    clear hE hC5 hu5 hC4
    go_wp2_with fail
    go_end0
    exact ⟨rfl, hfin⟩
theorem bPut_any (u pm : Nat) (tp : Option Addr) (vO : Value) {G : Nat → Prop} {l : List Ch} (key val : ByteArray) (w : World) (h : BAt u pm tp vO w G l) (hk : key.size ≤ 1000000000000) (hl : l.length < 1000000000) :
    Calls Tryz.prog 26 #[.pointer (some ⟨u, 0, none⟩), .string key, .string val] w fun e w' => e = .returned (.tuple #[]) ∧ LeftA (Bn u tp) w G (bat l ⟨key, val, false⟩) w' := by
  have c := change_any u pm tp vO ⟨key, val, false⟩ w h hk hl
  simp only [ov] at c
  clear h
  go_enter Tryz.func26, Tryz.ntmps26
  go_wp2_with fail
  go_at_call 52
  refine c.mono ?_
  rintro e w1 ⟨rfl, h1⟩
  go_wp2_with fail
  go_end0
  exact ⟨rfl, h1⟩
theorem bDrop_any (u pm : Nat) (tp : Option Addr) (vO : Value) {G : Nat → Prop} {l : List Ch} (key : ByteArray) (w : World) (h : BAt u pm tp vO w G l) (hk : key.size ≤ 1000000000000) (hl : l.length < 1000000000) :
    Calls Tryz.prog 32 #[.pointer (some ⟨u, 0, none⟩), .string key] w fun e w' => e = .returned (.tuple #[]) ∧ LeftA (Bn u tp) w G (bat l ⟨key, ⟨#[]⟩, true⟩) w' := by
  have c := change_any u pm tp vO ⟨key, ⟨#[]⟩, true⟩ w h hk hl
  simp only [ov] at c
  clear h
  go_enter Tryz.func32, Tryz.ntmps32
  go_wp2_with fail
  go_at_call 52
  refine c.mono ?_
  rintro e w1 ⟨rfl, h1⟩
  go_wp2_with fail
  go_end0
  exact ⟨rfl, h1⟩
end Go.Proofs.YtdfcbnejnnibpaaGreatDoor.Tb

namespace Go.Proofs.YtdfcbnejnnibpaaGreatDoor.Tb
open Go.RowKit
set_option linter.unusedVariables false
set_option linter.unusedSimpArgs false
set_option linter.unnecessarySimpa false
end Go.Proofs.YtdfcbnejnnibpaaGreatDoor.Tb

namespace Go.Proofs.YtdfcbnejnnibpaaGreatDoor.Tb
open Go.RowKit Tx Pm Dk Wm Wr Wl Pl
set_option linter.unusedVariables false
set_option linter.unusedSimpArgs false
set_option linter.unnecessarySimpa false
theorem left_trans7 {α : Type} {Obj : World → (Nat → Prop) → α → Prop} {w w1 w2 : World} {F F1 : Nat → Prop} {y : α} (hc : Chg F w w1) (hn : ∀ g, F1 g → F g ∨ w.heap.size ≤ g) (h : LeftA Obj w1 F1 y w2) : LeftA Obj w F y w2 := LeftA.trans hc hn h
set_option maxRecDepth 100000 in
theorem begin_any (tp : Option Addr) (w : World) : Calls Tryz.prog 9 #[.pointer tp] w fun e w' => ∃ u, e = .returned (.pointer (some ⟨u, 0, none⟩)) ∧ ∃ G, Bn u tp w' G [] ∧ (∀ g, G g → w.heap.size ≤ g) ∧ Below w.heap.size w w' := by
  have HB := Lib.hid (((Below.refl w.heap.size w).alloc (Nat.le_refl _) (.map #[] 0)).alloc (by simp) (.cells #[.pointer tp, .slice none 0 0, .map (some w.heap.size)] 66))
  have hP : Pp ((w.alloc (.map #[] 0)).alloc (.cells #[.pointer tp, .slice none 0 0, .map (some w.heap.size)] 66)) w.heap.size [] := (pp_made w).kept (((Below.refl (w.alloc (.map #[] 0)).heap.size _).alloc (Nat.le_refl _) _).block _ (by simp))
  have hb := new_at (w.alloc (.map #[] 0)) (.cells #[.pointer tp, .slice none 0 0, .map (some w.heap.size)] 66) (g := w.heap.size + 1) (by simp)
  have hbn : BAt (w.heap.size + 1) w.heap.size tp (.slice none 0 0) ((w.alloc (.map #[] 0)).alloc (.cells #[.pointer tp, .slice none 0 0, .map (some w.heap.size)] 66)) (fun i => i = w.heap.size + 1 ∨ (Value.slice none 0 0).ownBlock = some i ∨ i = w.heap.size) [] :=
    ⟨hb, nil_OwnC _ _, hP, (fun e => by cases e), List.Pairwise.nil, fun i => Iff.rfl⟩
  have HN := Lib.hid hbn
  have hmm := @run_makeMap Tryz.prog
  clear hbn hP hb
  go_enter Tryz.func9, Tryz.ntmps9
  go_wp2_with fail
  go_ret
  refine ⟨w.heap.size + 1, rfl, _, ⟨_, _, HN.out⟩, ?_, HB.out⟩
  rintro g (rfl | hg | rfl)
  · omega
  · cases hg
  · omega
end Go.Proofs.YtdfcbnejnnibpaaGreatDoor.Tb

namespace Go.Proofs.YtdfcbnejnnibpaaGreatDoor.Tb
open Go.RowKit Tx Pm Dk Wm Wr Wl Pl
set_option linter.unusedVariables false
set_option linter.unusedSimpArgs false
set_option linter.unnecessarySimpa false
def TB (b j t m : Nat) (p q : ByteArray) (u : Nat) (w : World) (H : Nat → Prop) (z : Tst × List Ch) : Prop := ∃ F G, Tn b j t m p q w F z.1 ∧ Bn u (some ⟨t, 0, none⟩) w G z.2 ∧ (∀ i, F i → ¬ G i) ∧ ∀ i, H i ↔ F i ∨ G i
end Go.Proofs.YtdfcbnejnnibpaaGreatDoor.Tb

namespace Go.Proofs.YtdfcbnejnnibpaaGreatDoor.Tb
open Go.RowKit Tx Pm Dk Wm Wr Wl Pl
set_option linter.unusedVariables false
set_option linter.unusedSimpArgs false
set_option linter.unnecessarySimpa false
def RecOk (L : List It) (R : List ByteArray) : Prop := (∀ r ∈ R, (opsS r).2 = 0 ∧ r.size ≤ 500000000) ∧ L.length + (R.map (·.size)).sum ≤ 500000000 ∧ R.length ≤ 10000000000
theorem sum_take (R : List ByteArray) (k : Nat) : ((R.take k).map (·.size)).sum ≤ (R.map (·.size)).sum := by
  conv => rhs; rw [← List.take_append_drop k R]
  rw [List.map_append, List.sum_append]
  omega
def LogTo (b t m : Nat) (p q : ByteArray) (w : World) (Fd : Nat → Prop) (L : List It) (r : Nat × Jst) (e : Ending) (w' : World) : Prop :=
  (r.1 = 0 ∧ e = .returned (.int .i64 0) ∧ ∃ j, LeftA (Tn b j t m p q) w (fun i => Fd i ∨ i = t ∨ i = m) ⟨r.2, rows7 L r.2.R⟩ w') ∨ (r.1 ≠ 0 ∧ e = .returned (.int .i64 (r.1 : Nat)) ∧ Dk.Left (ImpAt b) w Fd r.2.s w')
set_option maxRecDepth 100000 in
set_option maxHeartbeats 4000000 in
theorem takeLog_any (b t m : Nat) {Fd : Nat → Prop} {s : St} {L : List It} (p q : ByteArray) (w : World) (hblk : w.heap[t]? = some (.cells #[.pointer (some ⟨b, 0, none⟩), .string p, .pointer none, .map (some m)] 59 (0, 0)))
    (hm : Mo w m L) (hD : ImpAt b w Fd s) (hoff : ¬ Fd t ∧ ¬ Fd m) (hR : Rises L) (hP : Plain L) (o : OpenOk s q) (hq : q.size ≤ 1000) (hrec : (openS s q).1 = 0 → RecOk L (openS s q).2.R) :
    Calls Tryz.prog 24 #[.pointer (some ⟨t, 0, none⟩), .string q] w (LogTo b t m p q w Fd L (openS s q)) := by
  have co := iOpen_any b q w hD o hq
  have htl : t < w.heap.size := (Array.getElem?_eq_some_iff.1 hblk).1
  have t0 : w.cell? ⟨t, 0, none⟩ = some (.pointer (some ⟨b, 0, none⟩)) := by unfold World.cell?; rw [hblk]; rfl
  have htm : t ≠ m := fun e => hm.nb (e ▸ hblk)
  have hml := hm.lt
  obtain ⟨k, x, hx⟩ : ∃ k x, openS s q = (k, x) := ⟨_, _, rfl⟩
  unfold LogTo
  rw [hx] at co hrec ⊢
  simp only at hrec ⊢
  by_cases hk : k ≠ 0
  · have nk := neZ hk
    have HK := Lib.hid hk
    have c1 : Calls Tryz.prog 48 #[.pointer (some ⟨b, 0, none⟩), .string q] w fun e w' => e = .returned (.tuple #[.pointer none, .int .i64 (k : Nat)]) ∧ Dk.Left (ImpAt b) w Fd x.s w' := co.mono fun e w' hh => by
      rcases hh with ⟨h0, _⟩ | ⟨_, he, hl⟩
      · exact absurd h0 hk
      · exact ⟨he, hl⟩
    clear hblk hm hD hoff o hrec co htm hk hx
    go_enter Tryz.func24, Tryz.ntmps24
    go_wp2_with fail
    go_at_call 48
    refine c1.mono ?_
    rintro e w1 ⟨rfl, h1⟩
    go_wp2_with fail
    go_ret
    exact .inr ⟨HK.out, rfl, h1⟩
  · obtain rfl : k = 0 := by omega
    obtain ⟨hr1, hr2, hr3⟩ := hrec rfl
    have c1 : Calls Tryz.prog 48 #[.pointer (some ⟨b, 0, none⟩), .string q] w fun e w' => ∃ j, e = .returned (.tuple #[.pointer (some ⟨j, 0, none⟩), .int .i64 0]) ∧ LeftA (JnT b j q) w Fd x w' := co.mono fun e w' hh => by
      rcases hh with ⟨_, j, he, hl⟩ | ⟨h0, _⟩
      · exact ⟨j, he, hl⟩
      · exact absurd rfl h0
    have HBLK := Lib.hid hblk
    have HM := Lib.hid hm
    have HOFF := Lib.hid hoff
    have HR := Lib.hid hR
    have HP := Lib.hid hP
    have HR1 := Lib.hid hr1
    obtain ⟨n, hn⟩ : ∃ n, n = x.R.length := ⟨_, rfl⟩
    have HN := Lib.hid hn
    have HSUM := Lib.hid hr2
    clear hblk hm hD hoff o hrec co hx hR hP hr1 hn hr2 hk
    go_enter Tryz.func24, Tryz.ntmps24
    go_wp2_with fail
    go_at_call 48
    refine c1.mono ?_
    rintro e w1 ⟨j, rfl, Fj, hj, k1, n1⟩
    have hb1 : w1.heap[t]? = _ := (k1.block t htl HOFF.out.1).trans HBLK.out
    have hm1 := HM.out.kept (k1.block m hml HOFF.out.2)
    have hjt : ¬ Fj t := fun hh => by rcases n1 t hh with h | h; exact HOFF.out.1 h; omega
    have hjm : ¬ Fj m := fun hh => by rcases n1 m hh with h | h; exact HOFF.out.2 h; omega
    have s0 : w1.cell? ⟨t, 2, none⟩ = some (.pointer none) := by unfold World.cell?; rw [hb1]; rfl
    have s1 : w1.frozen? ⟨t, 2, none⟩ = false := by unfold World.frozen?; rw [hb1]; simp
    have hb2 : (w1.setCell ⟨t, 2, none⟩ (.pointer (some ⟨j, 0, none⟩))).heap[t]? = some (.cells #[.pointer (some ⟨b, 0, none⟩), .string p, .pointer (some ⟨j, 0, none⟩), .map (some m)] 59 (0, 0)) := by rw [set_block hb1]; rfl
    have kt2 : Chg (· = t) w1 (w1.setCell ⟨t, 2, none⟩ (.pointer (some ⟨j, 0, none⟩))) := chg_set (b := t) (k := 2) _
    have hjlt := (jn_kind (imp_kind b) 114 b j q).1 hj
    have hj2 : JnT b j q (w1.setCell ⟨t, 2, none⟩ (.pointer (some ⟨j, 0, none⟩))) Fj x := (jn_kind (imp_kind b) 114 b j q).2 hj (fun i hi => kt2.block i (hjlt i hi) (fun e => hjt (e ▸ hi)))
    have hm2 := hm1.kept (kt2.block m hm1.lt (fun e => htm e.symm))
    have hTA : TAt b j t m p q Fj (w1.setCell ⟨t, 2, none⟩ (.pointer (some ⟨j, 0, none⟩))) (fun i => Fj i ∨ i = t ∨ i = m) ⟨x, L⟩ := ⟨hj2, hb2, hm2, ⟨hjt, hjm⟩, fun i => Iff.rfl, HR.out, HP.out⟩
    have hch2 : Chg (fun i => Fd i ∨ i = t ∨ i = m) w (w1.setCell ⟨t, 2, none⟩ (.pointer (some ⟨j, 0, none⟩))) := (k1.mono (fun i hi => .inl hi)).then (kt2.mono (fun i hi => .inr (.inl hi)))
    have hnew : ∀ g, (Fj g ∨ g = t ∨ g = m) → (Fd g ∨ g = t ∨ g = m) ∨ w.heap.size ≤ g := fun g hg => by
      rcases hg with hg | hg
      · exact (n1 g hg).imp (fun hh => .inl hh) id
      · exact .inl (.inr hg)
    obtain ⟨v2, Fd2, jj⟩ := hj2
    have cr := iRecords_any (imp_kind b) b j q _ jj hr3
    have HTA := Lib.hid hTA
    have HCH := Lib.hid hch2
    have HNEW := Lib.hid hnew
    clear hj jj hm1 hm2 hb1 hb2 kt2 hTA hch2 hnew k1 n1 hjlt hjt hjm
    go_wp2_with fail
    generalize w1.setCell ⟨t, 2, none⟩ (.pointer (some ⟨j, 0, none⟩)) = W at HTA HCH cr ⊢
    go_at_call 38
    refine cr.mono ?_
    rintro e w3 ⟨vR, rfl, hK, hb3⟩
    obtain ⟨aK, cK, hv, hsK, hcK, _⟩ := hK.form
    rw [← HN.out] at hv hsK hcK
    have hT3 := HTA.out.below hb3
    have hgm : ∀ g off, aK = some ⟨g, off, none⟩ → g ≠ m := fun g off e => by
      have hgb := hK.lt g (by rw [hv, e]; rfl)
      have := HTA.out.rows.lt
      omega
    have HSK := Lib.hid hsK
    have HGM := Lib.hid hgm
    have HT3 := Lib.hid hT3
    have HB3 := Lib.hid hb3
    have hm3 := hT3.rows
    clear hK hsK hT3 hgm hb3 cr s0 s1
    subst hv
    go_wp2_with fail
    go_loopw [29] (fun iv wr => ∃ k : Nat, k ≤ n ∧ iv = .int .i64 k ∧ Mo wr m (rows7 L (x.R.take k)) ∧ Chg (· = m) w3 wr) (fun iv _ => n - (intOf iv).toNat)
    case atStart => exact ⟨0, Nat.zero_le _, rfl, hm3, Chg.refl _ _⟩
    case round =>
      obtain ⟨i, hik, rfl, hmo, hch⟩ := hrel
      by_cases hlt : i < n
      · obtain ⟨r, hr⟩ : ∃ r, x.R[i]? = some r := ⟨_, List.getElem?_eq_getElem (by rw [← HN.out]; exact hlt)⟩
        obtain ⟨_, hne⟩ := HSK.out
        obtain ⟨g, off, rfl, hg, hcc⟩ := hne.resolve_left (by omega)
        have g0' := hcc i r hr
        have hbg := hch.block g hg (HGM.out g off rfl)
        have g0 : wr.cell? ⟨g, off + i, none⟩ = some (.string r) := by unfold World.cell? at g0' ⊢; rw [hbg]; exact g0'
        have hiz : (i : Int) < (n : Int) := by omega
        obtain ⟨hre, hrs⟩ := HR1.out r (List.mem_of_getElem? hr)
        have htc := HT3.out.cell.2.2.2
        have htl3 := World.block_lt_of_cell? w3 _ htc
        have hbt := hch.block t htl3 HT3.out.tm
        have htr : wr.cell? ⟨t, 3, none⟩ = some (.map (some m)) := by unfold World.cell? at htc ⊢; rw [hbt]; exact htc
        have hln := len_rows L (x.R.take i)
        have hst := sum_take x.R i
        have hsum := HSUM.out
        have ct := take_any t m (rows7 L (x.R.take i)) r wr htr hmo (rises_rows HR.out _) hrs (by omega)
        unfold taken at ct
        rw [hre, if_pos rfl] at ct
        have htk : rows7 L (x.R.take (i + 1)) = all7 (rows7 L (x.R.take i)) (opsS r).1 := by
          have hkl := (List.getElem?_eq_some_iff.1 hr).1
          rw [List.take_succ_eq_append_getElem hkl, rows7_snoc]
          rw [List.getElem?_eq_getElem hkl] at hr
          injection hr with hr
          rw [hr]
        rw [← htk] at ct
        clear hmo hr hne hcc g0' hbg hbt hre hln hst hsum htk htc
        go_wp2_with fail
        go_at_call 47
        refine ct.mono ?_
        rintro e w5 ⟨rfl, hm5, hc5⟩
        have hch5 := hch.then hc5
        clear hch hc5
        go_wp2_with fail
        go_roundw
        case rel => exact ⟨i + 1, by omega, by go_num, hm5, hch5⟩
        case measure => simp [intOf]; omega
      · obtain rfl : i = n := by omega
        have e : x.R.take i = x.R := List.take_of_length_le (by rw [← HN.out]; exact Nat.le_refl _)
        rw [e] at hmo
        have hfin := HT3.out.turned hmo hch (rises_rows HR.out _) (plain_rows HP.out _)
        have hcf : Chg (fun i => Fd i ∨ i = t ∨ i = m) w wr := (HCH.out.then (Chg.of_below HB3.out)).then (hch.mono (fun i hi => .inr (.inr hi)))
        have HE := Lib.hid (show LeftA (Tn b j t m p q) w (fun i => Fd i ∨ i = t ∨ i = m) ⟨x, rows7 L x.R⟩ wr from ⟨_, ⟨_, hfin⟩, hcf, HNEW.out⟩)
        clear hfin hcf hmo hch
        go_wp2_with fail
        go_ret
        exact .inl ⟨trivial, rfl, j, HE.out⟩
end Go.Proofs.YtdfcbnejnnibpaaGreatDoor.Tb

namespace Go.Proofs.YtdfcbnejnnibpaaGreatDoor.Dk
open Go.RowKit Tx Pm Pl Pr
set_option linter.unusedVariables false
end Go.Proofs.YtdfcbnejnnibpaaGreatDoor.Dk

namespace Go.Proofs.YtdfcbnejnnibpaaGreatDoor.Dk
open Go.RowKit Tx Pm
set_option linter.unusedVariables false
end Go.Proofs.YtdfcbnejnnibpaaGreatDoor.Dk

namespace Go.Proofs.YtdfcbnejnnibpaaGreatDoor.Dk
open Go.RowKit Tx Pm Pl Pr
set_option linter.unusedVariables false
structure SoundW (s : St) : Prop where
  rises : Rises s.L
  kept : ∀ x ∈ s.L, x.anew = false → x.kept.size ≤ x.data.size
  size : ∀ x ∈ s.L, x.data.size ≤ 1000000000000000000 ∧ x.kept.size ≤ 1000000000000000000
  stamps : s.stamps + s.L.length ≤ 1000000000000
end Go.Proofs.YtdfcbnejnnibpaaGreatDoor.Dk

namespace Go.Proofs.YtdfcbnejnnibpaaGreatDoor.Dk
open Go.RowKit Tx Pm Pl Pr
set_option linter.unusedVariables false
end Go.Proofs.YtdfcbnejnnibpaaGreatDoor.Dk

namespace Go.Proofs.YtdfcbnejnnibpaaGreatDoor.Dk
open Go.RowKit Tx Pm Pl Pr
set_option linter.unusedVariables false
end Go.Proofs.YtdfcbnejnnibpaaGreatDoor.Dk

namespace Go.Proofs.YtdfcbnejnnibpaaGreatDoor.Dk
open Go.RowKit Tx Pm Pl Pr
set_option linter.unusedVariables false
def Own1 (w0 : World) (b bi bl : Nat) (s : St) (W : World) : Prop := ∃ l, Ia b bi bl l W s ∧ Good s ∧ (∀ i, Ft b bi bl i → w0.heap.size ≤ i) ∧ Below w0.heap.size w0 W
theorem Own1.bel {w0 W : World} {b bi bl : Nat} {s : St} (h : Own1 w0 b bi bl s W) : Below w0.heap.size w0 W := by
  obtain ⟨_, _, _, _, h⟩ := h
  exact h
theorem Own1.lt {w0 W : World} {b bi bl : Nat} {s : St} (h : Own1 w0 b bi bl s W) : ∀ i, Ft b bi bl i → i < W.heap.size := by
  obtain ⟨_, h, _⟩ := h
  exact h.lt
theorem Own1.good {w0 W : World} {b bi bl : Nat} {s : St} (h : Own1 w0 b bi bl s W) : Good s := by
  obtain ⟨_, _, h, _⟩ := h
  exact h
theorem Own1.below {w0 W W1 : World} {b bi bl : Nat} {s : St} (h : Own1 w0 b bi bl s W) (hb : Below W.heap.size W W1) : Own1 w0 b bi bl s W1 := by
  obtain ⟨l, h1, h2, h3, h4⟩ := h
  exact ⟨l, h1.below hb, h2, h3, below_call h4 hb⟩
section
variable {w0 W : World} {b bi bl k : Nat} {s s' : St}
end
theorem ok_small {s : St} (hl : s.L.length ≤ 1000) (hp : ∀ x ∈ s.L, x.path.size ≤ 1000) (hd : ∀ x ∈ s.L, x.data.size ≤ 1000000000000000) (hr : s.rooms.length ≤ 1000) (hst : s.steps ≤ 1000) (hsm : s.stamps ≤ 1000) (ha : -1 ≤ s.armed ∧ s.armed ≤ 9223372036854775807) : Ok s := by
  have hw := whole_le (B := 1000000000000000) hd
  have hm : s.L.length * 1000000000000000 ≤ 1000000000000000000 := Nat.le_trans (Nat.mul_le_mul_right _ hl) (by decide)
  exact ⟨⟨by omega, fun x hx => by have := hp x hx; omega, by omega⟩, by omega, by omega, by omega, by omega⟩
end Go.Proofs.YtdfcbnejnnibpaaGreatDoor.Dk

namespace Go.Proofs.YtdfcbnejnnibpaaGreatDoor.Tb
open Go.RowKit Tx Pm Dk Wm Wr Wl Pl Pr
set_option linter.unusedVariables false
set_option linter.unusedSimpArgs false
set_option linter.unnecessarySimpa false
def Open1Ok (s : St) (p q : ByteArray) : Prop := (readS s p).1.size ≤ 500000000 ∧ ((base0 s p).2 = 0 → OpenOk s q ∧ ((openS s q).1 = 0 → RecOk (base0 s p).1 (openS s q).2.R))
def Open7Ok (s : St) (f p q : ByteArray) : Prop := Ok s ∧ ((opened s f).1 = 0 → Open1Ok (opened s f).2 p q) ∧ f.size ≤ 500 ∧ p.size ≤ 1000 ∧ q.size ≤ 1000
def Open7To (b : Nat) (p q : ByteArray) (w : World) (F : Nat → Prop) (r : Nat × Tst) (e : Ending) (w' : World) : Prop :=
  (r.1 = 0 ∧ ∃ t j m, e = .returned (.tuple #[.pointer (some ⟨t, 0, none⟩), .int .i64 0]) ∧ LeftA (Tn b j t m p q) w F r.2 w') ∨ (r.1 ≠ 0 ∧ e = .returned (.tuple #[.pointer none, .int .i64 (r.1 : Nat)]) ∧ Dk.Left (ImpAt b) w F r.2.j.s w')
theorem open_m {s s1 : St} {f p q : ByteArray} {k : Nat} (h : opened s f = (k, s1)) (hk : k ≠ 0) : open7 s f p q = (k, ⟨⟨s1, [], false⟩, []⟩) := by
  unfold open7; rw [h]; exact if_pos hk
theorem open_n {s s1 : St} {f p q : ByteArray} (h : opened s f = (0, s1)) : open7 s f p q = open1 s1 p q := by
  unfold open7; rw [h]; exact if_neg (fun hh => hh rfl)
theorem open1_b {s : St} {p q : ByteArray} {L : List It} {k : Nat} (h : base0 s p = (L, k)) (hk : k ≠ 0) : open1 s p q = (k, ⟨⟨s, [], false⟩, []⟩) := by
  unfold open1; rw [h]; exact if_pos hk
theorem open1_l {s : St} {p q : ByteArray} {L : List It} {k : Nat} {y : Jst} (h : base0 s p = (L, 0)) (h2 : openS s q = (k, y)) (hk : k ≠ 0) : open1 s p q = (k, ⟨y, []⟩) := by
  unfold open1; rw [h]; simp only [h2]; rw [if_neg (fun hh => hh rfl)]; exact if_pos hk
theorem open1_o {s : St} {p q : ByteArray} {L : List It} {y : Jst} (h : base0 s p = (L, 0)) (h2 : openS s q = (0, y)) : open1 s p q = (0, ⟨y, rows7 L y.R⟩) := by
  unfold open1; rw [h]; simp only [h2]; rw [if_neg (fun hh => hh rfl)]; exact if_neg (fun hh => hh rfl)
theorem base_rises (s : St) (p : ByteArray) : Rises (base0 s p).1 ∧ Plain (base0 s p).1 := by
  have h0 : Rises ([] : List It) := List.Pairwise.nil
  have h1 : Plain ([] : List It) := fun x hx => by cases hx
  by_cases hk : kind s.L p = 0
  · rw [base_0 hk]; exact ⟨h0, h1⟩
  · obtain ⟨d, e1, hrd⟩ : ∃ d e, readS s p = (d, e) := ⟨_, _, rfl⟩
    by_cases he1 : e1 = 0
    · subst he1
      obtain ⟨r, n, e2, hfr⟩ := Fm.trip (Fm.fr d)
      by_cases he2 : e2 = 0
      · subst he2
        by_cases hn : n < d.size
        · rw [base_3 hk hrd hfr hn]; exact ⟨h0, h1⟩
        · obtain ⟨l, e3, h3⟩ : ∃ l e, opsS r = (l, e) := ⟨_, _, rfl⟩
          by_cases he3 : e3 = 0
          · subst he3
            rw [base_5 hk hrd hfr hn h3]
            exact ⟨rises_all h0 l, plain_all h1 l⟩
          · rw [base_4 hk hrd hfr hn h3 he3]; exact ⟨h0, h1⟩
      · rw [base_2 hk hrd hfr he2]; exact ⟨h0, h1⟩
    · rw [base_1 hk hrd he1]; exact ⟨h0, h1⟩
def New2 (W : World) (b : Nat) (p : ByteArray) : World := (W.alloc (.map #[] 0)).alloc (.cells #[.pointer (some ⟨b, 0, none⟩), .string p, .pointer none, .map (some W.heap.size)] 59)
theorem new2 (W : World) (b : Nat) (p : ByteArray) : Below W.heap.size W (New2 W b p) ∧ (New2 W b p).heap[W.heap.size + 1]? = some (.cells #[.pointer (some ⟨b, 0, none⟩), .string p, .pointer none, .map (some W.heap.size)] 59 (0, 0)) ∧ Mo (New2 W b p) W.heap.size [] := by
  refine ⟨((Below.refl _ W).alloc (Nat.le_refl _) _).alloc (by simp) _, new_at _ _ (by simp), (mo_made W).kept (((Below.refl (W.alloc (.map #[] 0)).heap.size _).alloc (Nat.le_refl _) _).block _ (by simp))⟩
theorem imp_mkdir {b : Nat} {F : Nat → Prop} {s s' : St} {w : World} {k : Nat} (P : ByteArray) (h : ImpAt b w F s) (ok : Ok s) (hP : P.size ≤ 8000000000000) (hk : mkdirS s P = (k, s')) : Calls Tryz.prog 21 #[.pointer (some ⟨b, 0, none⟩), .string P] w (Dos (ImpAt b) w F k s') := by
  obtain ⟨bi, bl, l, hI, hg, hF⟩ := h
  have c := iMkdir_any b bi bl l _ P _ hI hg ok hP
  have hg' := good_mkdir (p := P) hg
  rw [hk] at c hg'
  exact c.mono fun e w' ht => does_of' (r := (k, s')) hg' hF ht
def At1 (b : Nat) (w : World) (F : Nat → Prop) (s1 : St) (W : World) : Prop := ∃ F1, ImpAt b W F1 s1 ∧ Chg F w W ∧ ∀ g, F1 g → F g ∨ w.heap.size ≤ g
theorem At1.below {b : Nat} {w W W2 : World} {F : Nat → Prop} {s1 : St} (h : At1 b w F s1 W) (hb : Below W.heap.size W W2) : At1 b w F s1 W2 := by
  obtain ⟨F1, h1, h2, h3⟩ := h
  exact ⟨F1, (imp_kind b).kept h1 (fun i hi => hb.block i ((imp_kind b).lt h1 i hi)), h2.then (Chg.of_below hb), h3⟩
theorem At1.left {b : Nat} {w W : World} {F : Nat → Prop} {s1 : St} (h : At1 b w F s1 W) : Dk.Left (ImpAt b) w F s1 W := h
theorem At1.based {b t m : Nat} {p : ByteArray} {w W W2 : World} {F : Nat → Prop} {s1 : St} (h : At1 b w F s1 W) (hm : W.heap.size ≤ m) (hc : Chg (· = m) (New2 W b p) W2) : At1 b w F s1 W2 := by
  have hb := (new2 W b p).1
  obtain ⟨F1, h1, h2, h3⟩ := h
  have hlt := (imp_kind b).lt h1
  have hs := hb.size
  have hs2 := h2.size
  exact ⟨F1, (imp_kind b).kept h1 (fun i hi => (hc.block i (by have := hlt i hi; have := (Chg.of_below (F := F) hb).size; omega) (fun e => by have := hlt i hi; omega)).trans (hb.block i (hlt i hi))), (h2.then (Chg.of_below hb)).trans hc (fun i hi => .inr (by omega)), h3⟩
theorem base_call {b : Nat} {w W : World} {F : Nat → Prop} {s1 : St} {p : ByteArray} (h : At1 b w F s1 W) (hp : p.size ≤ 1000) (hs : (readS s1 p).1.size ≤ 500000000) :
    Calls Tryz.prog 23 #[.pointer (some ⟨W.heap.size + 1, 0, none⟩)] (New2 W b p) fun e w' => e = .returned (.int .i64 ((base0 s1 p).2 : Nat)) ∧ Mo w' W.heap.size (based s1 p) ∧ Chg (· = W.heap.size) (New2 W b p) w' := by
  obtain ⟨n1, n2, n3⟩ := new2 W b p
  obtain ⟨F1, h1, h2, h3⟩ := h.below n1
  refine takeBase_any b (W.heap.size + 1) W.heap.size p _ ?_ ?_ ?_ n3 h1 hp hs
  all_goals unfold World.cell?; rw [n2]; rfl
theorem log_call {b : Nat} {w W W2 W3 : World} {F : Nat → Prop} {s1 : St} {L : List It} {p q : ByteArray} (h : At1 b w F s1 W) (hm : Mo W2 W.heap.size L) (hc : Chg (· = W.heap.size) (New2 W b p) W2) (hb : Below W2.heap.size W2 W3) (hL : Rises L ∧ Plain L) (o : OpenOk s1 q) (hq : q.size ≤ 1000) (hrec : (openS s1 q).1 = 0 → RecOk L (openS s1 q).2.R) :
    Calls Tryz.prog 24 #[.pointer (some ⟨W.heap.size + 1, 0, none⟩), .string q] W3 fun e w' =>
      ((openS s1 q).1 = 0 ∧ e = .returned (.int .i64 0) ∧ ∃ j, LeftA (Tn b j (W.heap.size + 1) W.heap.size p q) w F ⟨(openS s1 q).2, rows7 L (openS s1 q).2.R⟩ w') ∨ ((openS s1 q).1 ≠ 0 ∧ e = .returned (.int .i64 ((openS s1 q).1 : Nat)) ∧ Dk.Left (ImpAt b) w F (openS s1 q).2.s w') := by
  obtain ⟨n1, n2, n3⟩ := new2 W b p
  obtain ⟨F1, h1, h2, h3⟩ := h
  have hlt := (imp_kind b).lt h1
  have hsN : (New2 W b p).heap.size = W.heap.size + 1 + 1 := by unfold New2; simp
  have hsz := hc.size
  have hs0 := h2.size
  have hA := (At1.based (t := W.heap.size + 1) (m := W.heap.size) (p := p) ⟨F1, h1, h2, h3⟩ (Nat.le_refl _) hc).below hb
  have h1' : ImpAt b W3 F1 s1 := (imp_kind b).kept h1 (fun i hi => (hb.block i (by have := hlt i hi; omega)).trans ((hc.block i (by have := hlt i hi; omega) (fun e => by have := hlt i hi; omega)).trans (n1.block i (hlt i hi))))
  have hblk : W3.heap[W.heap.size + 1]? = _ := (hb.block _ (by omega)).trans ((hc.block _ (by omega) (by omega)).trans n2)
  have hm3 := hm.below hb
  have hch : Chg F w W3 := ((h2.then (Chg.of_below n1)).trans hc (fun i hi => .inr (by omega))).then (Chg.of_below hb)
  refine (takeLog_any b (W.heap.size + 1) W.heap.size p q W3 hblk hm3 h1' ⟨fun hh => by have := hlt _ hh; omega, fun hh => by have := hlt _ hh; omega⟩ hL.1 hL.2 o hq hrec).mono ?_
  intro e w' hh
  rcases hh with ⟨e0, he, j, hl⟩ | ⟨e0, he, hl⟩
  · exact .inl ⟨e0, he, j, left_trans7 hch (F1 := fun i => F1 i ∨ i = W.heap.size + 1 ∨ i = W.heap.size) (fun g hg => by
      rcases hg with hg | rfl | rfl
      · exact h3 g hg
      · exact .inr (by omega)
      · exact .inr hs0) hl⟩
  · exact .inr ⟨e0, he, Wl.left_trans hch h3 hl⟩
set_option maxRecDepth 100000 in
set_option maxHeartbeats 4000000 in
theorem open_any (b : Nat) {F : Nat → Prop} {s : St} (f p q : ByteArray) (w : World) (h : ImpAt b w F s) (hp : tb (joi f.data.toList [98, 97, 115, 101]) = p) (hq : tb (joi f.data.toList [108, 111, 103]) = q) (o : Open7Ok s f p q) :
    Calls Tryz.prog 6 #[.pointer (some ⟨b, 0, none⟩), .string f] w (Open7To b p q w F (open7 s f p q)) := by
  obtain ⟨o1, o2, o3, o4, o5⟩ := o
  have ck := iw_kind f h (by omega)
  have cjp := fun W => pJoin_any f ⟨#[98, 97, 115, 101]⟩ W (by show f.size + 4 ≤ _; omega)
  have cjq := fun W => pJoin_any f ⟨#[108, 111, 103]⟩ W (by show f.size + 3 ≤ _; omega)
  have hmm := @run_makeMap Tryz.prog
  rw [show (⟨#[98, 97, 115, 101]⟩ : ByteArray).data.toList = [98, 97, 115, 101] from rfl, hp] at cjp
  rw [show (⟨#[108, 111, 103]⟩ : ByteArray).data.toList = [108, 111, 103] from rfl, hq] at cjq
  obtain ⟨k1, s1, hop⟩ : ∃ k s1, opened s f = (k, s1) := ⟨_, _, rfl⟩
  unfold Open7To
  by_cases hk : kind s.L f = 0
  · have hmk : mkdirS s f = (k1, s1) := by unfold opened at hop; rwa [if_pos hk] at hop
    have cm := fun W (hW : w = W) => imp_mkdir f (hW ▸ h) o1 (by omega) hmk
    rw [hk] at ck
    by_cases hk1 : k1 ≠ 0
    · rw [open_m hop hk1]
      have nk := neZ hk1
      have HK := Lib.hid hk1
      clear h hp hq o1 o2 o3 o4 o5 hk hk1 hop hmk cjp cjq hmm
      go_enter Tryz.func6, Tryz.ntmps6
      go_wp2_with fail
      go_at_call 20
      refine ck.mono ?_
      rintro e w1 ⟨rfl, rfl⟩
      go_wp2_with fail
      go_at_call 21
      refine (cm _ rfl).mono ?_
      rintro e w2 ⟨rfl, h2⟩
      go_wp2_with fail
      go_ret2
      exact .inr ⟨HK.out, rfl, h2⟩
    · obtain rfl : k1 = 0 := by omega
      rw [hop] at o2
      obtain ⟨q1, q2⟩ := o2 rfl
      simp only at q1 q2
      rw [open_n hop]
      clear h hp hq o1 o2 hk hk1 hop hmk
      obtain ⟨L, kb, hbase⟩ : ∃ L k, base0 s1 p = (L, k) := ⟨_, _, rfl⟩
      have hrp := base_rises s1 p
      rw [hbase] at q2 hrp
      simp only at q2 hrp
      by_cases hkb : kb = 0
      · subst hkb
        obtain ⟨q3, q4⟩ := q2 rfl
        have hbd : based s1 p = L := by unfold based; rw [hbase]; rfl
        have HBA := Lib.hid hbase
        have HBD := Lib.hid hbd
        have HRP := Lib.hid hrp
        have HQ3 := Lib.hid q3
        have HQ4 := Lib.hid q4
        clear hbase hbd hrp q2 q3 q4
        go_enter Tryz.func6, Tryz.ntmps6
        go_wp2_with fail
        go_at_call 20
        refine ck.mono ?_
        rintro e w1 ⟨rfl, rfl⟩
        go_wp2_with fail
        go_at_call 21
        refine (cm _ rfl).mono ?_
        rintro e w2 ⟨rfl, h2⟩
        have hA2 : At1 b w F s1 w2 := h2
        go_wp2_with fail
        go_at_call 22
        refine (cjp _).mono ?_
        rintro e w3 ⟨rfl, hb3⟩
        have hA3 := hA2.below hb3
        have cb := base_call hA3 o4 q1
        rw [HBA.out, HBD.out] at cb
        unfold New2 at cb
        go_wp2_with fail
        go_at_call 23
        refine cb.mono ?_
        rintro e w5 ⟨rfl, hm5, hc5⟩
        have HC5 := Lib.hid (show Chg (· = w3.heap.size) (New2 w3 b p) w5 from hc5)
        have HM5 := Lib.hid hm5
        have HA3 := Lib.hid hA3
        clear hm5 hc5 hA3 cb
        go_wp2_with fail
        go_at_call 22
        refine (cjq _).mono ?_
        rintro e w6 ⟨rfl, hb6⟩
        have cl := log_call HA3.out HM5.out HC5.out hb6 HRP.out HQ3.out o5 HQ4.out
        clear hb6
        obtain ⟨kl, y, hol⟩ : ∃ k y, openS s1 q = (k, y) := ⟨_, _, rfl⟩
        rw [hol] at cl
        simp only at cl
        by_cases hkl : kl = 0
        · subst hkl
          have cl2 := cl.mono (R' := fun e w' => e = .returned (.int .i64 0) ∧ ∃ j, LeftA (Tn b j (w3.heap.size + 1) w3.heap.size p q) w F ⟨y, rows7 L y.R⟩ w') (fun e w' hh => by
            rcases hh with ⟨_, he, hl⟩ | ⟨h0, _⟩
            · exact ⟨he, hl⟩
            · exact absurd rfl h0)
          have HO := Lib.hid (open1_o HBA.out hol)
          clear cl hol
          go_wp2_with fail
          go_at_call 24
          refine cl2.mono ?_
          rintro e w7 ⟨rfl, j, h7⟩
          go_wp2_with fail
          go_ret2
          rw [HO.out]
          exact .inl ⟨rfl, _, _, _, rfl, h7⟩
        · have cl2 := cl.mono (R' := fun e w' => e = .returned (.int .i64 (kl : Nat)) ∧ Dk.Left (ImpAt b) w F y.s w') (fun e w' hh => by
            rcases hh with ⟨h0, _⟩ | ⟨_, he, hl⟩
            · exact absurd h0 hkl
            · exact ⟨he, hl⟩)
          have HO := Lib.hid (open1_l HBA.out hol hkl)
          have nl := neZ hkl
          have HKL := Lib.hid hkl
          clear cl hol hkl
          go_wp2_with fail
          go_at_call 24
          refine cl2.mono ?_
          rintro e w7 ⟨rfl, h7⟩
          go_wp2_with fail
          go_ret2
          rw [HO.out]
          exact .inr ⟨HKL.out, rfl, h7⟩
      · have HO := Lib.hid (open1_b (q := q) hbase hkb)
        have nb := neZ hkb
        have HKB := Lib.hid hkb
        have HBA := Lib.hid hbase
        clear hbase hrp q2 hkb
        go_enter Tryz.func6, Tryz.ntmps6
        go_wp2_with fail
        go_at_call 20
        refine ck.mono ?_
        rintro e w1 ⟨rfl, rfl⟩
        go_wp2_with fail
        go_at_call 21
        refine (cm _ rfl).mono ?_
        rintro e w2 ⟨rfl, h2⟩
        have hA2 : At1 b w F s1 w2 := h2
        go_wp2_with fail
        go_at_call 22
        refine (cjp _).mono ?_
        rintro e w3 ⟨rfl, hb3⟩
        have hA3 := hA2.below hb3
        have cb := base_call hA3 o4 q1
        rw [HBA.out] at cb
        unfold New2 at cb
        go_wp2_with fail
        go_at_call 23
        refine cb.mono ?_
        rintro e w5 ⟨rfl, hm5, hc5⟩
        have HE := Lib.hid (At1.based (t := w3.heap.size + 1) hA3 (Nat.le_refl _) (show Chg (· = w3.heap.size) (New2 w3 b p) w5 from hc5))
        clear hm5 hc5 hA3 cb
        go_wp2_with fail
        go_ret2
        rw [HO.out]
        exact .inr ⟨HKB.out, rfl, HE.out⟩
  · have hk1 : k1 = 0 ∧ s1 = s := by
      unfold opened at hop
      rw [if_neg hk] at hop
      simp only [Prod.mk.injEq] at hop
      exact ⟨hop.1.symm, hop.2.symm⟩
    obtain ⟨rfl, rfl⟩ := hk1
    rw [hop] at o2
    obtain ⟨q1, q2⟩ := o2 rfl
    simp only at q1 q2
    rw [open_n hop]
    have nk := neZ hk
    have hA : At1 b w F s1 w := ⟨F, h, Chg.refl _ _, fun g hg => .inl hg⟩
    have HA := Lib.hid (fun W (hW : w = W) => (hW ▸ hA : At1 b w F s1 W))
    generalize kind s1.L f = K at ck nk
    clear h hp hq o1 o2 hk hop hA
    obtain ⟨L, kb, hbase⟩ : ∃ L k, base0 s1 p = (L, k) := ⟨_, _, rfl⟩
    have hrp := base_rises s1 p
    rw [hbase] at q2 hrp
    simp only at q2 hrp
    by_cases hkb : kb = 0
    · subst hkb
      obtain ⟨q3, q4⟩ := q2 rfl
      have hbd : based s1 p = L := by unfold based; rw [hbase]; rfl
      have HBA := Lib.hid hbase
      have HBD := Lib.hid hbd
      have HRP := Lib.hid hrp
      have HQ3 := Lib.hid q3
      have HQ4 := Lib.hid q4
      clear hbase hbd hrp q2 q3 q4
      go_enter Tryz.func6, Tryz.ntmps6
      go_wp2_with fail
      go_at_call 20
      refine ck.mono ?_
      rintro e w1 ⟨rfl, rfl⟩
      have hA2 := HA.out _ rfl
      go_wp2_with fail
      go_at_call 22
      refine (cjp _).mono ?_
      rintro e w3 ⟨rfl, hb3⟩
      have hA3 := hA2.below hb3
      have cb := base_call hA3 o4 q1
      rw [HBA.out, HBD.out] at cb
      unfold New2 at cb
      go_wp2_with fail
      go_at_call 23
      refine cb.mono ?_
      rintro e w5 ⟨rfl, hm5, hc5⟩
      have HC5 := Lib.hid (show Chg (· = w3.heap.size) (New2 w3 b p) w5 from hc5)
      have HM5 := Lib.hid hm5
      have HA3 := Lib.hid hA3
      clear hm5 hc5 hA3 cb
      go_wp2_with fail
      go_at_call 22
      refine (cjq _).mono ?_
      rintro e w6 ⟨rfl, hb6⟩
      have cl := log_call HA3.out HM5.out HC5.out hb6 HRP.out HQ3.out o5 HQ4.out
      clear hb6
      obtain ⟨kl, y, hol⟩ : ∃ k y, openS s1 q = (k, y) := ⟨_, _, rfl⟩
      rw [hol] at cl
      simp only at cl
      by_cases hkl : kl = 0
      · subst hkl
        have cl2 := cl.mono (R' := fun e w' => e = .returned (.int .i64 0) ∧ ∃ j, LeftA (Tn b j (w3.heap.size + 1) w3.heap.size p q) w F ⟨y, rows7 L y.R⟩ w') (fun e w' hh => by
          rcases hh with ⟨_, he, hl⟩ | ⟨h0, _⟩
          · exact ⟨he, hl⟩
          · exact absurd rfl h0)
        have HO := Lib.hid (open1_o HBA.out hol)
        clear cl hol
        go_wp2_with fail
        go_at_call 24
        refine cl2.mono ?_
        rintro e w7 ⟨rfl, j, h7⟩
        go_wp2_with fail
        go_ret2
        rw [HO.out]
        exact .inl ⟨rfl, _, _, _, rfl, h7⟩
      · have cl2 := cl.mono (R' := fun e w' => e = .returned (.int .i64 (kl : Nat)) ∧ Dk.Left (ImpAt b) w F y.s w') (fun e w' hh => by
          rcases hh with ⟨h0, _⟩ | ⟨_, he, hl⟩
          · exact absurd h0 hkl
          · exact ⟨he, hl⟩)
        have HO := Lib.hid (open1_l HBA.out hol hkl)
        have nl := neZ hkl
        have HKL := Lib.hid hkl
        clear cl hol hkl
        go_wp2_with fail
        go_at_call 24
        refine cl2.mono ?_
        rintro e w7 ⟨rfl, h7⟩
        go_wp2_with fail
        go_ret2
        rw [HO.out]
        exact .inr ⟨HKL.out, rfl, h7⟩
    · have HO := Lib.hid (open1_b (q := q) hbase hkb)
      have nb := neZ hkb
      have HKB := Lib.hid hkb
      have HBA := Lib.hid hbase
      clear hbase hrp q2 hkb
      go_enter Tryz.func6, Tryz.ntmps6
      go_wp2_with fail
      go_at_call 20
      refine ck.mono ?_
      rintro e w1 ⟨rfl, rfl⟩
      have hA2 := HA.out _ rfl
      go_wp2_with fail
      go_at_call 22
      refine (cjp _).mono ?_
      rintro e w3 ⟨rfl, hb3⟩
      have hA3 := hA2.below hb3
      have cb := base_call hA3 o4 q1
      rw [HBA.out] at cb
      unfold New2 at cb
      go_wp2_with fail
      go_at_call 23
      refine cb.mono ?_
      rintro e w5 ⟨rfl, hm5, hc5⟩
      have HE := Lib.hid (At1.based (t := w3.heap.size + 1) hA3 (Nat.le_refl _) (show Chg (· = w3.heap.size) (New2 w3 b p) w5 from hc5))
      clear hm5 hc5 hA3 cb
      go_wp2_with fail
      go_ret2
      rw [HO.out]
      exact .inr ⟨HKB.out, rfl, HE.out⟩
end Go.Proofs.YtdfcbnejnnibpaaGreatDoor.Tb

namespace Go.Proofs.YtdfcbnejnnibpaaGreatDoor.Wl
open Go.RowKit Tx Pm Pl Pr Dk Fr
set_option linter.unusedVariables false
def Own {α : Type} (Obj : World → (Nat → Prop) → α → Prop) (w0 : World) (x : α) (W : World) : Prop := ∃ F, Obj W F x ∧ (∀ i, F i → w0.heap.size ≤ i) ∧ Below w0.heap.size w0 W
section
variable {α β : Type} {Obj : World → (Nat → Prop) → α → Prop} {Obj' : World → (Nat → Prop) → β → Prop} {w0 W : World} {x : α} {y : β}
theorem Own.bel (h : Own Obj w0 x W) : Below w0.heap.size w0 W := by
  obtain ⟨_, _, _, h⟩ := h
  exact h
theorem own_left {F : Nat → Prop} {w' : World} (h1 : ∀ i, F i → w0.heap.size ≤ i) (h2 : Below w0.heap.size w0 W) (h : LeftA Obj' W F y w') : Own Obj' w0 y w' := by
  obtain ⟨F', h3, h4, h5⟩ := h
  have hs := h2.size
  exact ⟨F', h3, fun i hi => (h5 i hi).elim (fun hh => h1 i hh) (fun hh => by omega), h2.trans ⟨h4.os, h4.tape, h4.output, h4.size, fun i hi => h4.block i (Nat.lt_of_lt_of_le hi hs) (fun hf => by have := h1 i hf; omega)⟩⟩
theorem Own.call {f : FuncId} {args : Array Value} {P : Ending → Prop} (h : Own Obj w0 x W) (hc : ∀ F, Obj W F x → Calls Tryz.prog f args W fun e w' => P e ∧ LeftA Obj' W F y w') : Calls Tryz.prog f args W fun e w' => P e ∧ Own Obj' w0 y w' := by
  obtain ⟨F, h1, h2, h3⟩ := h
  exact (hc F h1).mono fun e w' hh => ⟨hh.1, own_left h2 h3 hh.2⟩
theorem Own.kept (hk : ∀ {w w1 : World} {F : Nat → Prop} {x : α}, Obj w F x → Below w.heap.size w w1 → Obj w1 F x) {w' : World} (h : Own Obj w0 x W) (hb : Below W.heap.size W w') : Own Obj w0 x w' := by
  obtain ⟨F, h1, h2, h3⟩ := h
  exact ⟨F, hk h1 hb, h2, below_call h3 hb⟩
end
section
variable {w0 W : World} {b j k : Nat} {s s' : St} {x y : Jst}
theorem w_new (w0 : World) {W : World} (hb : Below w0.heap.size w0 W) : Calls Tryz.prog 7 #[] W fun e w' => ∃ b, e = .returned (.pointer (some ⟨b, 0, none⟩)) ∧ Own (ImpAt b) w0 newS w' :=
  (iNew_any W).mono fun e w' ⟨b, bi, bl, he, hI, hF, hb1⟩ => ⟨b, he, Ft b bi bl, ⟨bi, bl, -1, hI, good_new, fun _ => Iff.rfl⟩, fun i hi => Nat.le_trans hb.size (hF i hi), below_call hb hb1⟩
end
theorem ok_new : Ok newS := ok_small (by decide) (by decide) (by decide) (by decide) (by decide) (by decide) (by decide)
end Go.Proofs.YtdfcbnejnnibpaaGreatDoor.Wl

namespace Go.Proofs.YtdfcbnejnnibpaaGreatDoor.Wl
open Go.RowKit Tx Pm Pl Pr Dk
set_option linter.unusedVariables false
end Go.Proofs.YtdfcbnejnnibpaaGreatDoor.Wl

namespace Go.Proofs.YtdfcbnejnnibpaaGreatDoor.Wl
open Go.RowKit Tx Pm Pl Pr Dk Fr
set_option linter.unusedVariables false
structure Stop (l : List ByteArray) (n k : Nat) (loss : Int) (s : St) : Prop where
  sound : SoundW s
  fit : s.L.length ≤ 1000000000 ∧ ∀ x ∈ s.L, x.path.size ≤ 8000000000000
  back : ∃ (c : ByteArray) (sn st sm : Nat), restartS s loss = J c sn st sm (-1) ∧ OpenOk (J c sn st sm (-1)) pL ∧ ∃ (R : List ByteArray) (sn' st' sm' : Nat), (R = l.take k ∨ (k < n ∧ R = l.take (k + 1))) ∧ openS (J c sn st sm (-1)) pL = (0, ⟨J (PK R) sn' st' sm' (-1), R, false⟩) ∧ st' ≤ 1000 ∧ sm' ≤ 1000
end Go.Proofs.YtdfcbnejnnibpaaGreatDoor.Wl

namespace Go.Proofs.YtdfcbnejnnibpaaGreatDoor.Tb
open Go.RowKit Tx Pm Dk Wm Wr Wl
set_option linter.unusedVariables false
set_option linter.unusedSimpArgs false
set_option linter.unnecessarySimpa false
def pS : ByteArray := ⟨#[115, 121, 115]⟩
def pB : ByteArray := ⟨#[115, 121, 115, 47, 98, 97, 115, 101]⟩
def pBT : ByteArray := ⟨#[115, 121, 115, 47, 98, 97, 115, 101, 95, 116]⟩
def pG : ByteArray := ⟨#[115, 121, 115, 47, 108, 111, 103]⟩
def pGT : ByteArray := ⟨#[115, 121, 115, 47, 108, 111, 103, 95, 116]⟩
theorem pG_tT : pG ++ tT = pGT := by decide +kernel
def dirS : It := ⟨pS, true, ⟨#[]⟩, ⟨#[]⟩, false, false, 0⟩
structure Fi where
  data : ByteArray
  kept : ByteArray
  loose : Bool
  anew : Bool
  stamp : Nat
def sy (d : ByteArray) (n : Nat) : Fi := ⟨d, d, false, false, n⟩
def oit (p : ByteArray) : Option Fi → List It
  | none => []
  | some f => [⟨p, false, f.data, f.kept, f.loose, f.anew, f.stamp⟩]
def keptOf : Option Fi → ByteArray
  | none => ⟨#[]⟩
  | some f => f.kept
def T7 (B BT G GT : Option Fi) (st sm : Nat) (a : Int) (dn : Bool) : St := ⟨dirS :: (oit pB B ++ (oit pBT BT ++ (oit pG G ++ oit pGT GT))), [], st, sm, a, dn⟩
section
variable {B BT G GT : Option Fi} {g f : Fi} {d : ByteArray} {st sm : Nat} {a : Int} {dn : Bool}
theorem k_base0 : kind (T7 none BT G GT st sm a dn).L pB = 0 := by cases BT <;> cases G <;> cases GT <;> kernel_rfl
theorem k_base : kind (T7 (some f) BT G GT st sm a dn).L pB = 2 := by cases BT <;> cases G <;> cases GT <;> kernel_rfl
theorem k_log0 : kind (T7 B BT none GT st sm a dn).L pG = 0 := by cases B <;> cases BT <;> cases GT <;> kernel_rfl
theorem r_base : readS (T7 (some f) BT G GT st sm a false) pB = (f.data, 0) := by cases BT <;> cases G <;> cases GT <;> kernel_rfl
theorem r_base0 : readS (T7 none BT G GT st sm a false) pB = (⟨#[]⟩, 11) := by cases BT <;> cases G <;> cases GT <;> kernel_rfl
theorem g_write (ha : a ≠ 0) : writeS (T7 B BT G GT st sm a false) pGT d = (0, T7 B BT G (some ⟨d, keptOf GT, true, true, sm + 1⟩) (st + 1) (sm + 1) (dec a) false) := by
  unfold writeS
  rw [fits_none rfl]
  unfold T7
  rw [done_open ha]
  cases B <;> cases BT <;> cases G <;> cases GT <;> kernel_rfl
theorem g_write0 : writeS (T7 B BT G GT st sm 0 false) pGT d = (14, T7 B BT G GT st sm (-1) true) := by
  unfold writeS
  rw [fits_none rfl]
  cases B <;> cases BT <;> cases G <;> cases GT <;> kernel_rfl
theorem g_sync (ha : a ≠ 0) : syncS (T7 B BT G (some f) st sm a false) pGT = (0, T7 B BT G (some ⟨f.data, f.data, false, false, f.stamp⟩) (st + 1) sm (dec a) false) := by
  unfold syncS T7
  rw [done_open ha]
  cases B <;> cases BT <;> cases G <;> kernel_rfl
theorem g_sync0 : syncS (T7 B BT G (some f) st sm 0 false) pGT = (14, T7 B BT G (some f) st sm (-1) true) := by
  unfold syncS
  cases B <;> cases BT <;> cases G <;> kernel_rfl
theorem g_rename (ha : a ≠ 0) : renameS (T7 B BT G (some f) st sm a false) pGT pG = (0, T7 B BT (some ⟨f.data, f.kept, f.loose, f.anew, sm + 1⟩) none (st + 1) (sm + 1) (dec a) false) := by
  unfold renameS
  rw [fits_none rfl]
  unfold T7
  rw [done_open ha]
  cases B <;> cases BT <;> cases G <;> kernel_rfl
theorem n_mkdir : mkdirS newS pS = (0, T7 none none none none 1 0 (-1) false) := by kernel_rfl
end
end Go.Proofs.YtdfcbnejnnibpaaGreatDoor.Tb

namespace Go.Proofs.YtdfcbnejnnibpaaGreatDoor.Tb
open Go.RowKit Tx Pm Dk Wm Wr Wl
set_option linter.unusedVariables false
set_option linter.unusedSimpArgs false
set_option linter.unnecessarySimpa false
def Fok (f : Fi) : Prop := f.data.size ≤ 20000000000 ∧ f.kept.size ≤ 20000000000 ∧ (f.anew = false → f.kept.size ≤ f.data.size) ∧ (f.loose = false → f.kept = f.data ∧ f.anew = false)
def Ook (o : Option Fi) : Prop := ∀ f, o = some f → Fok f
theorem ook_none : Ook none := fun f h => by cases h
theorem ook_sy {d : ByteArray} {n : Nat} (h : d.size ≤ 20000000000) : Ook (some (sy d n)) := fun f hf => by
  injection hf with hf
  subst hf
  exact ⟨h, h, fun _ => Nat.le_refl _, fun _ => ⟨rfl, rfl⟩⟩
theorem ook_raw {d k : ByteArray} {n : Nat} (h : d.size ≤ 20000000000) (hk : k.size ≤ 20000000000) : Ook (some ⟨d, k, true, true, n⟩) := fun f hf => by
  injection hf with hf
  subst hf
  exact ⟨h, hk, fun e => (by cases e), fun e => (by cases e)⟩
theorem kept_ook {o : Option Fi} (h : Ook o) : (keptOf o).size ≤ 20000000000 := by
  cases o with
  | none => exact Nat.zero_le _
  | some f => exact (h f rfl).2.1
def Rng (a : Int) : Prop := -1 ≤ a ∧ a ≤ 9223372036854775807
theorem rng_dec {a : Int} (h : Rng a) : Rng (dec a) := dec_in h
theorem rng_m1 : Rng (-1) := ⟨by decide, by decide⟩
structure Sz (B BT G GT : Option Fi) (st sm : Nat) : Prop where
  b : Ook B
  bt : Ook BT
  g : Ook G
  gt : Ook GT
  st : st ≤ 1000000
  sm : sm ≤ 1000000
theorem oit_len (p : ByteArray) (o : Option Fi) : (oit p o).length ≤ 1 := by cases o <;> simp [oit]
theorem oit_mem {p : ByteArray} {o : Option Fi} {x : It} (h : x ∈ oit p o) : x.path = p ∧ ∃ f, o = some f ∧ x = ⟨p, false, f.data, f.kept, f.loose, f.anew, f.stamp⟩ := by
  cases o with
  | none => cases h
  | some f =>
    have h := List.mem_singleton.1 h
    exact ⟨by rw [h], f, rfl, h⟩
section
variable {B BT G GT : Option Fi} {g f : Fi} {d : ByteArray} {st sm : Nat} {a : Int} {dn : Bool}
theorem t7_mem {x : It} (h : Sz B BT G GT st sm) (hx : x ∈ (T7 B BT G GT st sm a dn).L) : x.path.size ≤ 1000 ∧ x.data.size ≤ 20000000000 ∧ x.kept.size ≤ 20000000000 ∧ (x.anew = false → x.kept.size ≤ x.data.size) := by
  unfold T7 at hx
  rcases List.mem_cons.1 hx with rfl | hx
  · exact ⟨by decide, by decide, by decide, fun _ => Nat.le_refl _⟩
  · have one : ∀ {p : ByteArray} {o : Option Fi}, p.size ≤ 1000 → Ook o → x ∈ oit p o → x.path.size ≤ 1000 ∧ x.data.size ≤ 20000000000 ∧ x.kept.size ≤ 20000000000 ∧ (x.anew = false → x.kept.size ≤ x.data.size) := fun hp ho hx => by
      obtain ⟨_, f, hf, rfl⟩ := oit_mem hx
      obtain ⟨a1, a2, a3, _⟩ := ho f hf
      exact ⟨hp, a1, a2, a3⟩
    rcases List.mem_append.1 hx with hx | hx
    · exact one (by decide) h.b hx
    · rcases List.mem_append.1 hx with hx | hx
      · exact one (by decide) h.bt hx
      · rcases List.mem_append.1 hx with hx | hx
        · exact one (by decide) h.g hx
        · exact one (by decide) h.gt hx
theorem t7_len : (T7 B BT G GT st sm a dn).L.length ≤ 5 := by
  unfold T7
  have h1 := oit_len pB B
  have h2 := oit_len pBT BT
  have h3 := oit_len pG G
  have h4 := oit_len pGT GT
  simp only [List.length_cons, List.length_append]
  omega
theorem whole_le : ∀ {l : List It} {N : Nat}, (∀ x ∈ l, x.data.size ≤ N) → whole l ≤ l.length * N
  | [], _, _ => Nat.zero_le _
  | x :: l, N, h => by
    have h1 := h x List.mem_cons_self
    have h2 := whole_le (l := l) (fun y hy => h y (List.mem_cons_of_mem _ hy))
    unfold whole at h2 ⊢
    rw [List.map_cons, List.sum_cons, List.length_cons, Nat.succ_mul]
    omega
theorem t7_ok (h : Sz B BT G GT st sm) (ha : Rng a) : Ok (T7 B BT G GT st sm a dn) := by
  have hl := t7_len (B := B) (BT := BT) (G := G) (GT := GT) (st := st) (sm := sm) (a := a) (dn := dn)
  have hw := whole_le (l := (T7 B BT G GT st sm a dn).L) (N := 20000000000) (fun x hx => (t7_mem h hx).2.1)
  have hst := h.st
  have hsm := h.sm
  obtain ⟨a1, a2⟩ := ha
  refine ⟨⟨by omega, fun x hx => by have := (t7_mem h hx).1; omega, ?_⟩, by show 0 ≤ _; omega, by show st ≤ _; omega, by show sm ≤ _; omega, by show _ ≤ a ∧ a ≤ _; omega⟩
  have := Nat.mul_le_mul_right 20000000000 hl
  omega
end
section
variable {B BT G GT : Option Fi} {d : ByteArray} {st sm : Nat} {a : Int}
theorem fillokG (h : Sz B BT G GT st sm) (hd : d.size ≤ 20000000000) (ha : Rng a) (hst : st ≤ 900000) (hsm : sm ≤ 900000) : FillOk (T7 B BT G GT st sm a false) pG d := by
  have hk := kept_ook h.gt
  refine ⟨t7_ok h ha, ?_, ?_⟩
  · rw [pG_tT]
    by_cases h1 : a = 0
    · subst h1; rw [g_write0]; exact t7_ok h rng_m1
    · rw [g_write h1]; exact t7_ok ⟨h.b, h.bt, h.g, ook_raw hd hk, by omega, by omega⟩ (rng_dec ha)
  · rw [pG_tT]
    by_cases h1 : a = 0
    · subst h1
      rw [g_write0]
      have e : syncS (T7 B BT G GT st sm (-1) true) pGT = (14, T7 B BT G GT st sm (-1) true) := by
        unfold syncS
        cases B <;> cases BT <;> cases G <;> cases GT <;> kernel_rfl
      show Ok (syncS (T7 B BT G GT st sm (-1) true) pGT).2
      rw [e]
      exact t7_ok h rng_m1
    · rw [g_write h1]
      show Ok (syncS (T7 B BT G (some ⟨d, keptOf GT, true, true, sm + 1⟩) (st + 1) (sm + 1) (dec a) false) pGT).2
      by_cases h2 : dec a = 0
      · rw [h2, g_sync0]; exact t7_ok ⟨h.b, h.bt, h.g, ook_raw hd hk, by omega, by omega⟩ rng_m1
      · rw [g_sync h2]; exact t7_ok ⟨h.b, h.bt, h.g, ook_sy (n := sm + 1) hd, by omega, by omega⟩ (rng_dec (rng_dec ha))
end
theorem fr_whole (r : ByteArray) (h : r.size ≤ 9223372036854775807) : Fm.fr (Fm.pk r) = (r, (Fm.pk r).size, 0) := by
  have := Fr.fr_pk r [] h
  rwa [List.append_nil] at this
end Go.Proofs.YtdfcbnejnnibpaaGreatDoor.Tb

namespace Go.Proofs.YtdfcbnejnnibpaaGreatDoor.Tb
open Go.RowKit Tx Pm Dk Wm Wr Wl Pl
set_option linter.unusedVariables false
set_option linter.unusedSimpArgs false
set_option linter.unnecessarySimpa false
abbrev Tt (b j t m : Nat) := Tn b j t m pB pG
abbrev Tu (b j t m u : Nat) := TB b j t m pB pG u
section
variable {w0 W : World} {b j t m u k : Nat} {s s' : St} {x y : Tst} {l : List Ch}
theorem tb_below {w w1 : World} {F : Nat → Prop} {z : Tst × List Ch} (h : Tu b j t m u w F z) (hb : Below w.heap.size w w1) : Tu b j t m u w1 F z := by
  obtain ⟨F1, G, ⟨Fj, h1⟩, ⟨pm, vO, h2⟩, hd, hH⟩ := h
  exact ⟨F1, G, ⟨Fj, h1.below hb⟩, ⟨pm, vO, h2.below hb⟩, hd, hH⟩
theorem sys_base : tb (joi pS.data.toList [98, 97, 115, 101]) = pB := by decide +kernel
theorem sys_log : tb (joi pS.data.toList [108, 111, 103]) = pG := by decide +kernel
theorem a_open (h : Own (ImpAt b) w0 s W) (o : Open7Ok s pS pB pG) (he : open7 s pS pB pG = (0, x)) : Calls Tryz.prog 6 #[.pointer (some ⟨b, 0, none⟩), .string pS] W fun e w' => ∃ t j m, e = .returned (.tuple #[.pointer (some ⟨t, 0, none⟩), .int .i64 0]) ∧ Own (Tt b j t m) w0 x w' := by
  obtain ⟨F, h1, h2, h3⟩ := h
  have c := open_any b pS pB pG W h1 sys_base sys_log o
  rw [he] at c
  refine c.mono fun e w' hh => ?_
  rcases hh with ⟨_, t, j, m, he, hl⟩ | ⟨h0, _⟩
  · exact ⟨t, j, m, he, own_left h2 h3 hl⟩
  · exact absurd rfl h0
theorem a_begin (h : Own (Tt b j t m) w0 x W) : Calls Tryz.prog 9 #[.pointer (some ⟨t, 0, none⟩)] W fun e w' => ∃ u, e = .returned (.pointer (some ⟨u, 0, none⟩)) ∧ Own (Tu b j t m u) w0 (x, []) w' := by
  obtain ⟨F, ⟨Fj, h1⟩, h2, h3⟩ := h
  refine (begin_any (some ⟨t, 0, none⟩) W).mono fun e w' hh => ?_
  obtain ⟨u, he, G, hB, hG, hb⟩ := hh
  have hs := h3.size
  exact ⟨u, he, fun i => F i ∨ G i, ⟨F, G, ⟨Fj, h1.below hb⟩, hB, fun i hi hg => by have := h1.lt i hi; have := hG i hg; omega, fun i => Iff.rfl⟩, fun i hi => hi.elim (h2 i) (fun hh => by have := hG i hh; omega), Tx.below_call h3 hb⟩
end
end Go.Proofs.YtdfcbnejnnibpaaGreatDoor.Tb

namespace Go.Proofs.YtdfcbnejnnibpaaGreatDoor.Tb
open Go.RowKit Tx Pm Dk Wm Wr Wl Pl
set_option linter.unusedVariables false
set_option linter.unusedSimpArgs false
set_option linter.unnecessarySimpa false
def Based (B : Option Fi) (L0 : List It) : Prop := (B = none ∧ L0 = []) ∨ ∃ r n ops, B = some (sy (Fm.pk r) n) ∧ opsS r = (ops, 0) ∧ r.size ≤ 100000000 ∧ L0 = all7 [] ops
theorem base_T {B BT G GT : Option Fi} {L0 : List It} {st sm : Nat} {a : Int} (hb : Based B L0) : base0 (T7 B BT G GT st sm a false) pB = (L0, 0) ∧ (readS (T7 B BT G GT st sm a false) pB).1.size ≤ 500000000 := by
  rcases hb with ⟨rfl, rfl⟩ | ⟨r, n, ops, rfl, ho, hr, rfl⟩
  · have hk : kind (T7 none BT G GT st sm a false).L pB = 0 := k_base0
    refine ⟨base_0 hk, ?_⟩
    rw [r_base0]
    decide
  · have hk : kind (T7 (some (sy (Fm.pk r) n)) BT G GT st sm a false).L pB ≠ 0 := by rw [k_base]; decide
    have hrd : readS (T7 (some (sy (Fm.pk r) n)) BT G GT st sm a false) pB = (Fm.pk r, 0) := r_base
    refine ⟨base_5 hk hrd (fr_whole r (by omega)) (Nat.lt_irrefl _) ho, ?_⟩
    rw [hrd]
    show (Fm.pk r).size ≤ _
    rw [Fm.pk_size]
    have := vb_len (x := r.size) (by omega)
    omega
section
variable {B BT GT : Option Fi} {L0 : List It} {l : List ByteArray} {r c : ByteArray} {n st sm : Nat} {a : Int}
end
def s0T : St := T7 none none (some (sy ⟨#[]⟩ 2)) none 4 2 (-1) false
theorem sz0 : Sz none none none none 1 0 := ⟨ook_none, ook_none, ook_none, ook_none, by omega, by omega⟩
theorem new_open7 : open7 newS pS pB pG = (0, ⟨⟨s0T, [], false⟩, []⟩) := by
  have hop : opened newS pS = (0, T7 none none none none 1 0 (-1) false) := by
    unfold opened
    rw [if_pos (by decide +kernel), n_mkdir]
  have hb := (base_T (B := none) (BT := none) (G := none) (GT := none) (L0 := []) (st := 1) (sm := 0) (a := -1) (.inl ⟨rfl, rfl⟩)).1
  have hf : fillS (T7 none none none none 1 0 (-1) false) pG ⟨#[]⟩ = (0, s0T) := by
    unfold fillS
    rw [pG_tT, g_write (by decide)]
    simp only [dec_neg, g_sync (a := -1) (by decide), g_rename (a := -1) (by decide)]
    rfl
  exact (open_n hop).trans (open1_o hb (open_0 k_log0 hf))
theorem new_ok7 : Open7Ok newS pS pB pG := by
  have hop : opened newS pS = (0, T7 none none none none 1 0 (-1) false) := by
    unfold opened
    rw [if_pos (by decide +kernel), n_mkdir]
  obtain ⟨hb, hb2⟩ := base_T (B := none) (BT := none) (G := none) (GT := none) (L0 := []) (st := 1) (sm := 0) (a := -1) (.inl ⟨rfl, rfl⟩)
  refine ⟨ok_new, fun _ => ?_, by decide, by decide, by decide⟩
  rw [hop]
  refine ⟨hb2, fun _ => ⟨⟨fun _ => fillokG sz0 (by decide) rng_m1 (by decide) (by decide), fun h => absurd k_log0 h⟩, fun h0 => ?_⟩⟩
  have hf : fillS (T7 none none none none 1 0 (-1) false) pG ⟨#[]⟩ = (0, s0T) := by
    unfold fillS
    rw [pG_tT, g_write (by decide)]
    simp only [dec_neg, g_sync (a := -1) (by decide), g_rename (a := -1) (by decide)]
    rfl
  rw [hb, open_0 k_log0 hf]
  exact ⟨fun x hx => (by cases hx), by show 0 + 0 ≤ 500000000; omega, by show 0 ≤ 10000000000; omega⟩
section
variable {B BT GT : Option Fi} {c : ByteArray} {n st sm : Nat} {a : Int} {R : List ByteArray} {dm : Bool} {L : List It} {l : List Ch}
end
end Go.Proofs.YtdfcbnejnnibpaaGreatDoor.Tb

namespace Go.Proofs.YtdfcbnejnnibpaaGreatDoor.Tb
open Go.RowKit Tx Pm Dk Wm Wr Wl Pl
set_option linter.unusedVariables false
set_option linter.unusedSimpArgs false
set_option linter.unnecessarySimpa false
end Go.Proofs.YtdfcbnejnnibpaaGreatDoor.Tb

namespace Go.Proofs.YtdfcbnejnnibpaaGreatDoor.Dk
open Go.RowKit Tx Pm Pl Pr
set_option linter.unusedVariables false
end Go.Proofs.YtdfcbnejnnibpaaGreatDoor.Dk

namespace Go.Proofs.YtdfcbnejnnibpaaGreatDoor.Wl
open Go.RowKit Tx Pm Pl Pr Dk Fr
set_option linter.unusedVariables false
end Go.Proofs.YtdfcbnejnnibpaaGreatDoor.Wl

namespace Go.Proofs.YtdfcbnejnnibpaaGreatDoor.Tb
open Go.RowKit Tx Pm Dk Wm Wr Wl Pl
set_option linter.unusedVariables false
set_option linter.unusedSimpArgs false
set_option linter.unnecessarySimpa false
theorem wt_set (l : List Ch) (i : Nat) (c : Ch) : wt (l.set i c) ≤ wt l + (c.key.size + c.val.size + 40) := by
  induction l generalizing i with
  | nil => exact Nat.zero_le _
  | cons x l ih =>
    cases i with
    | zero => rw [List.set_cons_zero, wt_cons, wt_cons]; omega
    | succ i => rw [List.set_cons_succ, wt_cons, wt_cons]; have := ih i; omega
theorem wt_bat {l : List Ch} (h : Once l) (c : Ch) : wt (bat l c) ≤ wt l + (c.key.size + c.val.size + 40) := by
  cases hi : at7 l c.key with
  | none =>
    rw [bat_new hi, wt_append, wt_cons]
    show wt l + (_ + 0) ≤ _
    omega
  | some i => rw [bat_set h hi]; exact wt_set l i c
section
variable {B BT GT : Option Fi} {c : ByteArray} {n st sm : Nat} {a : Int} {R : List ByteArray} {dm : Bool} {L : List It} {l : List Ch}
end
section
variable {BT G GT : Option Fi} {f : Fi} {st sm : Nat} {bit : Int}
end
end Go.Proofs.YtdfcbnejnnibpaaGreatDoor.Tb

namespace Go.Proofs.YtdfcbnejnnibpaaGreatDoor.Tb
open Go.RowKit Tx Pm Dk Wm Wr Wl Pl
set_option linter.unusedVariables false
set_option linter.unusedSimpArgs false
set_option linter.unnecessarySimpa false
def overV (L : List It) (l : List Ch) (p : ByteArray) : ByteArray := match lastOf l p with
  | some c => c.val
  | none => (lookC L p).val
def overB (L : List It) (l : List Ch) (p : ByteArray) : Bool := match lastOf l p with
  | some c => !c.gone
  | none => (find L p).isSome
theorem last_at {l : List Ch} (h : Once l) {p : ByteArray} {i : Nat} {c : Ch} (hi : at7 l p = some i) (hc : l[i]? = some c) : lastOf l p = some c := by
  obtain ⟨d, hd, hk, hlt⟩ := at7_lt hi
  rw [hc] at hd
  injection hd with hd
  subst hd
  have hm := List.mem_of_getElem? hc
  unfold lastOf
  have : ∀ (l : List Ch), Once l → c ∈ l → l.find? (fun x => decide (x.key = p)) = some c := by
    intro l
    induction l with
    | nil => intro _ h; cases h
    | cons x l ih =>
      intro ho h
      rcases List.mem_cons.1 h with rfl | h
      · exact List.find?_cons_of_pos (by simpa using hk)
      · have hne : x.key ≠ c.key := (List.pairwise_cons.1 ho).1 c h
        rw [List.find?_cons_of_neg (by rw [← hk]; simpa using hne)]
        exact ih (List.pairwise_cons.1 ho).2 h
  refine this _ ?_ (List.mem_reverse.2 hm)
  exact List.pairwise_reverse.2 (h.imp (fun hab => fun e => hab e.symm))
theorem last_none {l : List Ch} {p : ByteArray} (h : at7 l p = none) : lastOf l p = none := by
  unfold lastOf
  refine List.find?_eq_none.2 (fun x hx he => ?_)
  have := at7_none h
  exact absurd (List.any_eq_true.2 ⟨x, List.mem_reverse.1 hx, he⟩) (by rw [this]; decide)
set_option maxRecDepth 100000 in
set_option maxHeartbeats 4000000 in
theorem bGet_any (u t m pm : Nat) (vO : Value) (L : List It) (l : List Ch) (key : ByteArray) (w : World) {G : Nat → Prop} (hB : BAt u pm (some ⟨t, 0, none⟩) vO w G l) (ht : w.cell? ⟨t, 3, none⟩ = some (.map (some m))) (hm : Mo w m L) (hk : key.size ≤ 1000000000000000) :
    Calls Tryz.prog 49 #[.pointer (some ⟨u, 0, none⟩), .string key] w fun e w' => e = .returned (.tuple #[.string (overV L l key), .bool (overB L l key)]) ∧ Below w.heap.size w w' := by
  obtain ⟨c0, c1, c2⟩ := hB.cell
  have hl := hB.plc.look (p := key) (by unfold maxLen; omega)
  unfold placeV at hl
  have HBl := Lib.hid (fun o => (Below.refl w.heap.size w).alloc (Nat.le_refl _) o)
  cases ha : at7 l key with
  | none =>
    rw [ha] at hl
    have e1 : overV L l key = (lookC L key).val := by unfold overV; rw [last_none ha]
    have e2 : overB L l key = (find L key).isSome := by unfold overB; rw [last_none ha]
    have cg := tGet_any t m L key w ht hm (by unfold maxLen; omega)
    rw [← e1, ← e2] at cg
    generalize overV L l key = V at cg ⊢
    generalize overB L l key = O at cg ⊢
    clear ha hB hm ht e1 e2
    go_enter Tryz.func49, Tryz.ntmps49
    go_wp2_with fail
    go_at_call 78
    refine cg.mono ?_
    rintro e w1 ⟨rfl, hb1⟩
    go_wp2_with fail
    go_ret2
    exact ⟨rfl, hb1⟩
  | some i =>
    obtain ⟨c, hc, hck, hlt⟩ := at7_lt ha
    rw [ha] at hl
    have e1 : overV L l key = c.val := by unfold overV; rw [last_at hB.once ha hc]
    have e2 : overB L l key = !c.gone := by unfold overB; rw [last_at hB.once ha hc]
    rw [e1, e2]
    obtain ⟨a, cp, rfl, hopl, hcp, _⟩ := hB.ops.form
    obtain ⟨g, off, rfl, hg, g0, g1, g2⟩ := hopl.nth hc
    obtain ⟨key1, val1, gone1⟩ := c
    simp only at g0 g1 g2 ⊢
    obtain ⟨N, hN⟩ : ∃ N, N = l.length := ⟨_, rfl⟩
    rw [← hN] at c1 hlt hcp
    have hiz : (i : Int) < (N : Int) := by omega
    clear ha hB hm ht e1 e2 hc hck hopl hN
    go_enter Tryz.func49, Tryz.ntmps49
    go_wp2_with fail
    go_region
    all_goals
      go_wp2_with fail
      go_ret2
      exact ⟨rfl, (HBl.out _).drew⟩
end Go.Proofs.YtdfcbnejnnibpaaGreatDoor.Tb

namespace Go.Proofs.YtdfcbnejnnibpaaGreatDoor.Tb
open Go.RowKit Tx Pm Dk Wm Wr Wl Pl
set_option linter.unusedVariables false
set_option linter.unusedSimpArgs false
set_option linter.unnecessarySimpa false
def beg (p a : ByteArray) : Bool := Lib.hasPrefix a.data.toList p.data.toList
theorem last_mem {l : List Ch} (h : Once l) {p : ByteArray} {c : Ch} : lastOf l p = some c ↔ c ∈ l ∧ c.key = p := by
  constructor
  · intro hl
    have h1 := List.mem_of_find?_eq_some hl
    have h2 := List.find?_some hl
    exact ⟨List.mem_reverse.1 h1, of_decide_eq_true h2⟩
  · rintro ⟨hm, rfl⟩
    obtain ⟨i, hi⟩ := List.getElem?_of_mem hm
    exact last_at h (once_at h hi) hi
theorem last_at7 {l : List Ch} {p : ByteArray} (h : Once l) : (at7 l p).isNone = (lastOf l p).isNone := by
  cases ha : at7 l p with
  | none => rw [last_none ha]; rfl
  | some i =>
    obtain ⟨c, hc, hk, _⟩ := at7_lt ha
    rw [last_at h ha hc]
    rfl
theorem find_has {L : List It} (hR : Rises L) {a : ByteArray} : (∃ x ∈ L, x.path = a) ↔ (find L a).isSome = true := by
  unfold find
  rw [List.find?_isSome]
  constructor
  · rintro ⟨x, hx, h⟩; exact ⟨x, hx, by simpa using h⟩
  · rintro ⟨x, hx, h⟩; exact ⟨x, hx, by simpa using h⟩
theorem mem_held {L : List It} (hR : Rises L) {p a : ByteArray} : a ∈ held (pre7 p) L ↔ (find L a).isSome = true ∧ beg p a = true := by
  unfold held
  rw [List.mem_map, ← find_has hR]
  constructor
  · rintro ⟨x, hx, rfl⟩
    obtain ⟨h1, h2⟩ := List.mem_filter.1 hx
    exact ⟨⟨x, h1, rfl⟩, h2⟩
  · rintro ⟨⟨x, hx, rfl⟩, h⟩
    exact ⟨x, List.mem_filter.2 ⟨hx, h⟩, rfl⟩
theorem nodup_held {L : List It} (hR : Rises L) (p : ByteArray) : (held (pre7 p) L).Nodup := by
  refine (held_rises hR).imp (fun {a b} h e => ?_)
  subst e
  rw [less_irrefl] at h
  cases h
def oldK (l : List Ch) (K : List ByteArray) : List ByteArray := K.filter (fun k => (at7 l k).isNone)
def newK (p : ByteArray) (l : List Ch) : List ByteArray := (l.filter (fun c => !c.gone && beg p c.key)).map (·.key)
theorem newK_snoc (p : ByteArray) (l : List Ch) (c : Ch) : newK p (l ++ [c]) = newK p l ++ (if (!c.gone && beg p c.key) = true then [c.key] else []) := by
  unfold newK
  rw [List.filter_append, List.map_append]
  congr 1
  cases h : (!c.gone && beg p c.key) <;> simp [List.filter_cons, h]
theorem oldK_snoc (l : List Ch) (K : List ByteArray) (k : ByteArray) : oldK l (K ++ [k]) = oldK l K ++ (if (at7 l k).isNone = true then [k] else []) := by
  unfold oldK
  rw [List.filter_append]
  congr 1
  cases h : (at7 l k).isNone <;> simp [List.filter_cons, h]
theorem perm_keys {L : List It} (hR : Rises L) {l : List Ch} (hO : Once l) (p : ByteArray) : (oldK l (held (pre7 p) L) ++ newK p l).Perm (held (pre7 p) (all7 L l)) := by
  have hnew : ∀ a, a ∈ newK p l ↔ ∃ c, lastOf l a = some c ∧ c.gone = false ∧ beg p a = true := by
    intro a
    unfold newK
    rw [List.mem_map]
    constructor
    · rintro ⟨c, hc, rfl⟩
      obtain ⟨h1, h2⟩ := List.mem_filter.1 hc
      rw [Bool.and_eq_true, Bool.not_eq_true'] at h2
      exact ⟨c, (last_mem hO).2 ⟨h1, rfl⟩, h2.1, h2.2⟩
    · rintro ⟨c, hc, h1, h2⟩
      obtain ⟨h3, rfl⟩ := (last_mem hO).1 hc
      exact ⟨c, List.mem_filter.2 ⟨h3, by rw [h1, h2]; rfl⟩, rfl⟩
  refine (List.perm_ext_iff_of_nodup ?_ (nodup_held (rises_all hR l) p)).2 (fun a => ?_)
  · refine List.nodup_append.2 ⟨(nodup_held hR p).filter _, ?_, fun a ha b hb e => ?_⟩
    · unfold newK
      rw [List.Nodup, List.pairwise_map]
      exact List.Pairwise.filter _ hO
    · subst e
      obtain ⟨c, hc, _⟩ := (hnew _).1 hb
      have h1 := (List.mem_filter.1 ha).2
      rw [last_at7 hO, hc] at h1
      cases h1
  · rw [List.mem_append, hnew, mem_held (rises_all hR l), find_all]
    unfold oldK
    rw [List.mem_filter, mem_held hR, last_at7 hO]
    cases hc : lastOf l a with
    | none => simp [after]
    | some c => cases hg : c.gone <;> simp [after, hg]
end Go.Proofs.YtdfcbnejnnibpaaGreatDoor.Tb

namespace Go.Proofs.YtdfcbnejnnibpaaGreatDoor.Bl
open Go.RowKit Tx Pm Dk Wm Wr Wl Pl Tb
set_option linter.unusedVariables false
set_option linter.unusedSimpArgs false
set_option linter.unnecessarySimpa false
structure On where
  low : Nat
  n : Nat
  refs : Nat
  data : ByteArray
def hexd (k : Nat) : UInt8 := if k < 10 then UInt8.ofNat (48 + k) else UInt8.ofNat (87 + k)
def grp (low : Nat) : ByteArray := ⟨#[98, 47, hexd (low / 16), hexd (low % 16), 47]⟩
def decB (n : Nat) : ByteArray := ⟨(Lib.decDigits n).toArray⟩
def keyN (low n : Nat) : ByteArray := grp low ++ decB n
def keyO (x : On) : ByteArray := keyN x.low x.n
def lowO (d : ByteArray) : Nat := Fm.fsum d.data.toList % 256
def pB2 : ByteArray := ⟨#[98, 47]⟩
def enc (h : Nat) (d : ByteArray) : ByteArray := cat [vs h, ts d]
theorem app_l (a b : ByteArray) : (a ++ b).data.toList = a.data.toList ++ b.data.toList := by rw [ByteArray.data_append, Array.toList_append]
theorem ba_ext {a b : ByteArray} (h : a.data.toList = b.data.toList) : a = b := by
  obtain ⟨a⟩ := a
  obtain ⟨b⟩ := b
  congr 1
  exact Array.toList_inj.1 h
theorem keyN_list (low n : Nat) : (keyN low n).data.toList = [98, 47, hexd (low / 16), hexd (low % 16), 47] ++ Lib.decDigits n := by
  unfold keyN
  rw [app_l]
  rfl
theorem hexd_inj : ∀ a b : Fin 16, hexd a.val = hexd b.val → a = b := by decide +kernel
def valD (l : List UInt8) : Nat := l.foldl (fun a b => a * 10 + (b.toNat - 48)) 0
theorem valD_snoc (l : List UInt8) (b : UInt8) : valD (l ++ [b]) = valD l * 10 + (b.toNat - 48) := by unfold valD; rw [List.foldl_append]; rfl
theorem dig_val {k : Nat} (h : k < 10) : (UInt8.ofNat (48 + k)).toNat - 48 = k := by
  rw [UInt8.toNat_ofNat']
  omega
theorem valD_dec (n : Nat) : valD (Lib.decDigits n) = n := by
  induction n using Nat.strongRecOn with
  | _ n ih =>
    by_cases h : n < 10
    · rw [Lib.decDigits_one h]
      show 0 * 10 + ((UInt8.ofNat (48 + n)).toNat - 48) = n
      rw [dig_val h]
      omega
    · rw [Lib.decDigits, dif_neg h, valD_snoc, ih (n / 10) (by omega), dig_val (by omega)]
      omega
theorem dec_inj {a b : Nat} (h : Lib.decDigits a = Lib.decDigits b) : a = b := by rw [← valD_dec a, h, valD_dec]
theorem keyN_inj {a b m n : Nat} (ha : a < 256) (hb : b < 256) (h : keyN a m = keyN b n) : a = b ∧ m = n := by
  have h1 := congrArg (·.data.toList) h
  simp only [keyN_list, List.cons_append, List.nil_append, List.cons.injEq, true_and] at h1
  obtain ⟨h2, h3, h4⟩ := h1
  have e2 := hexd_inj ⟨a / 16, by omega⟩ ⟨b / 16, by omega⟩ h2
  have e3 := hexd_inj ⟨a % 16, by omega⟩ ⟨b % 16, by omega⟩ h3
  injection e2 with e2
  injection e3 with e3
  exact ⟨by omega, dec_inj h4⟩
theorem lowO_lt (d : ByteArray) : lowO d < 256 := Nat.mod_lt _ (by decide)
theorem nDigits_le : ∀ k n : Nat, n < 10 ^ k → 1 ≤ k → Lib.nDigits n ≤ k := by
  intro k
  induction k with
  | zero => intro n _ h; omega
  | succ k ih =>
    intro n h _
    by_cases h1 : n < 10
    · rw [Lib.nDigits_small h1]; omega
    · rw [Lib.nDigits_big h1]
      by_cases hk : k = 0
      · subst hk; simp at h; omega
      · have := ih (n / 10) (by rw [Nat.pow_succ] at h; omega) (by omega)
        omega
theorem beg_iff (p a : ByteArray) : beg p a = true ↔ ∃ r, a.data.toList = p.data.toList ++ r := by
  unfold beg Lib.hasPrefix
  rw [List.isPrefixOf_iff_prefix]
  exact ⟨fun ⟨r, h⟩ => ⟨r, h.symm⟩, fun ⟨r, h⟩ => ⟨r, h.symm⟩⟩
theorem enc_list (h : Nat) (d : ByteArray) : (enc h d).data.toList = vb h ++ tl d := by
  have e : (enc h d).data.toList = (vs h).data.toList ++ ((ts d).data.toList ++ []) := rfl
  rw [e, List.append_nil, ts_tl, vs_list]
theorem enc_is (h : Nat) (d : ByteArray) : enc h d = ⟨(vb h ++ tl d).toArray⟩ := ba_ext (by rw [enc_list])
theorem enc_rdU {h : Nat} (d : ByteArray) (hh : h ≤ 9223372036854775807) : rdU (enc h d).data.toList = (h, (vb h).length, 0) := by rw [enc_list]; exact rdU_back h (tl d) hh
theorem enc_rest (h : Nat) (d : ByteArray) : (enc h d).extract (vb h).length (enc h d).size = ⟨(tl d).toArray⟩ := by rw [enc_is]; exact ext_at (vb h) (tl d)
theorem enc_rdT {d : ByteArray} (hd : d.size ≤ 9223372036854775807) : rdT ⟨(tl d).toArray⟩ = (d, (tl d).length, 0) := by
  have := rdT_back d [] hd
  rwa [List.append_nil] at this
theorem tl_size {d : ByteArray} (hd : d.size ≤ 9223372036854775807) : (⟨(tl d).toArray⟩ : ByteArray).size ≤ d.size + 10 := by
  have := tl_len hd
  have e : (⟨(tl d).toArray⟩ : ByteArray).size = (tl d).length := List.size_toArray
  omega
theorem enc_size {h : Nat} {d : ByteArray} (hh : h ≤ 9223372036854775807) (hd : d.size ≤ 9223372036854775807) : (enc h d).size ≤ d.size + 20 := by
  have e : (enc h d).size = (vb h ++ tl d).length := by rw [← enc_list, Wm.len_l]
  have h1 := vb_len (x := h) (by omega)
  have h2 := tl_len hd
  rw [e, List.length_append]
  omega
def at8 (C : List On) (p : ByteArray) : Option On := C.find? (fun x => decide (keyO x = p))
def of8 (C : List On) (d : ByteArray) : Option On := C.find? (fun x => decide (x.data = d))
def setR (C : List On) (p : ByteArray) (k : Nat) : List On := C.map (fun y => if keyO y = p then { y with refs := k } else y)
theorem of8_some {C : List On} {d : ByteArray} {x : On} (h : of8 C d = some x) : x ∈ C ∧ x.data = d := ⟨List.mem_of_find?_eq_some h, of_decide_eq_true (List.find?_some (p := fun x : On => decide (x.data = d)) h)⟩
theorem of8_none {C : List On} {d : ByteArray} (h : of8 C d = none) : ∀ x ∈ C, x.data ≠ d := fun x hx he => by
  have := List.find?_eq_none.1 h x hx
  simp [he] at this
theorem find_uniq {α : Type} {f : α → ByteArray} {C : List α} (h : C.Pairwise (fun x y => f x ≠ f y)) {x : α} (hx : x ∈ C) : C.find? (fun y => decide (f y = f x)) = some x := by
  induction C with
  | nil => cases hx
  | cons y C ih =>
    obtain ⟨h1, h2⟩ := List.pairwise_cons.1 h
    rcases List.mem_cons.1 hx with rfl | hx
    · exact List.find?_cons_of_pos (by simp)
    · rw [List.find?_cons_of_neg (by simpa using h1 x hx)]
      exact ih h2 hx
structure Good8 (C : List On) (M : Nat) : Prop where
  keys : C.Pairwise (fun x y => keyO x ≠ keyO y)
  datas : C.Pairwise (fun x y => x.data ≠ y.data)
  each : ∀ x ∈ C, x.low = lowO x.data ∧ 1 ≤ x.refs ∧ x.refs ≤ M ∧ x.n ≤ M ∧ x.data.size ≤ 140737488351232
  len : C.length ≤ M
structure Rep (R : List It) (C : List On) : Prop where
  rises : Rises R
  look : ∀ p, beg pB2 p = true → find R p = (at8 C p).map (fun x => rw7 (keyO x) (enc x.refs x.data))
section
variable {R : List It} {C : List On} {M k : Nat} {p : ByteArray} {x : On}
theorem Good8.at (h : Good8 C M) (hx : x ∈ C) : at8 C (keyO x) = some x := find_uniq h.keys hx
theorem Good8.of (h : Good8 C M) (hx : x ∈ C) : of8 C x.data = some x := find_uniq h.datas hx
theorem Good8.mono {M' : Nat} (h : Good8 C M) (hM : M ≤ M') : Good8 C M' := ⟨h.keys, h.datas, fun x hx => by obtain ⟨h1, h2, h3, h4, h5⟩ := h.each x hx; exact ⟨h1, h2, by omega, by omega, h5⟩, by have := h.len; omega⟩
theorem setR_keys (C : List On) (p : ByteArray) (k : Nat) : (setR C p k).map keyO = C.map keyO := by
  unfold setR
  rw [List.map_map]
  refine List.map_congr_left (fun y _ => ?_)
  show keyO (if keyO y = p then { y with refs := k } else y) = _
  split <;> rfl
theorem setR_datas (C : List On) (p : ByteArray) (k : Nat) : (setR C p k).map On.data = C.map On.data := by
  unfold setR
  rw [List.map_map]
  refine List.map_congr_left (fun y _ => ?_)
  show On.data (if keyO y = p then { y with refs := k } else y) = _
  split <;> rfl
theorem setR_len (C : List On) (p : ByteArray) (k : Nat) : (setR C p k).length = C.length := by unfold setR; rw [List.length_map]
theorem pair_map {f : On → ByteArray} {C C' : List On} (h : C'.map f = C.map f) (hp : C.Pairwise (fun x y => f x ≠ f y)) : C'.Pairwise (fun x y => f x ≠ f y) := by
  have h1 : (C.map f).Pairwise (· ≠ ·) := List.pairwise_map.2 hp
  rw [← h] at h1
  exact List.pairwise_map.1 h1
theorem good_set (h : Good8 C M) (h1 : 1 ≤ k) (hk : k ≤ M) : Good8 (setR C p k) M := by
  refine ⟨pair_map (setR_keys C p k) h.keys, pair_map (setR_datas C p k) h.datas, fun x hx => ?_, by rw [setR_len]; exact h.len⟩
  obtain ⟨y, hy, rfl⟩ := List.mem_map.1 hx
  obtain ⟨e1, e2, e3, e4, e5⟩ := h.each y hy
  split
  · exact ⟨e1, h1, hk, e4, e5⟩
  · exact ⟨e1, e2, e3, e4, e5⟩
def takenB (C : List On) (low n : Nat) : Bool := C.any (fun x => decide (keyO x = keyN low n))
def freeN (C : List On) (low : Nat) : Nat := (List.range (C.length + 1)).findIdx (fun n => !takenB C low n)
theorem length_le_of_sub {α : Type} [DecidableEq α] : ∀ {l m : List α}, l.Nodup → (∀ x ∈ l, x ∈ m) → l.length ≤ m.length
  | [], m, _, _ => Nat.zero_le _
  | x :: l, m, hn, hs => by
    obtain ⟨h1, h2⟩ := List.nodup_cons.1 hn
    have hm := hs x (List.mem_cons_self ..)
    have ih := length_le_of_sub (l := l) (m := m.erase x) h2 (fun y hy => by
      refine (List.mem_erase_of_ne (fun e => ?_)).2 (hs y (List.mem_cons_of_mem _ hy))
      subst e
      exact h1 hy)
    have := List.length_erase_of_mem hm
    have := List.length_pos_of_mem hm
    simp only [List.length_cons]
    omega
theorem taken_num (h : Good8 C M) {low n : Nat} (hl : low < 256) (ht : takenB C low n = true) : n ∈ C.map On.n := by
  obtain ⟨x, hx, he⟩ := List.any_eq_true.1 ht
  have hxl : x.low < 256 := by rw [(h.each x hx).1]; exact lowO_lt _
  have := keyN_inj hxl hl (of_decide_eq_true he)
  exact List.mem_map.2 ⟨x, hx, this.2⟩
theorem free_lt (h : Good8 C M) {low : Nat} (hl : low < 256) : freeN C low < C.length + 1 := by
  have hlen : (List.range (C.length + 1)).length = C.length + 1 := List.length_range
  have : freeN C low < (List.range (C.length + 1)).length := by
    refine List.findIdx_lt_length_of_exists ?_
    refine Classical.byContradiction (fun hno => ?_)
    have hall : ∀ n ∈ List.range (C.length + 1), takenB C low n = true := fun n hn => by
      cases ht : takenB C low n with
      | true => rfl
      | false => exact absurd ⟨n, hn, by rw [ht]; rfl⟩ hno
    have := length_le_of_sub (l := List.range (C.length + 1)) (m := C.map On.n) List.nodup_range (fun n hn => taken_num h hl (hall n hn))
    rw [List.length_map, hlen] at this
    omega
  rwa [hlen] at this
theorem free_not (h : Good8 C M) {low : Nat} (hl : low < 256) : takenB C low (freeN C low) = false := by
  have hlt := free_lt h hl
  have hlen : (List.range (C.length + 1)).length = C.length + 1 := List.length_range
  have := List.findIdx_getElem (xs := List.range (C.length + 1)) (p := fun n => !takenB C low n) (w := by rw [hlen]; exact hlt)
  rw [List.getElem_range] at this
  exact (Bool.not_eq_true' _).mp this
def newO (C : List On) (d : ByteArray) : On := ⟨lowO d, freeN C (lowO d), 1, d⟩
theorem good_new (h : Good8 C M) {d : ByteArray} (hd : of8 C d = none) (hs : d.size ≤ 140737488351232) : Good8 (C ++ [newO C d]) (M + 1) := by
  have hlen := h.len
  have hfl := free_lt h (lowO_lt d)
  have hfn := free_not h (lowO_lt d)
  refine ⟨?_, ?_, ?_, ?_⟩
  · refine List.pairwise_append.2 ⟨h.keys, List.pairwise_singleton _ _, fun x hx y hy e => ?_⟩
    rw [List.mem_singleton] at hy
    subst hy
    have : takenB C (lowO d) (freeN C (lowO d)) = true := List.any_eq_true.2 ⟨x, hx, decide_eq_true e⟩
    rw [hfn] at this
    cases this
  · refine List.pairwise_append.2 ⟨h.datas, List.pairwise_singleton _ _, fun x hx y hy e => ?_⟩
    rw [List.mem_singleton] at hy
    subst hy
    exact of8_none hd x hx e
  · intro x hx
    rcases List.mem_append.1 hx with hx | hx
    · obtain ⟨h1, h2, h3, h4, h5⟩ := h.each x hx
      exact ⟨h1, h2, by omega, by omega, h5⟩
    · rw [List.mem_singleton] at hx
      subst hx
      exact ⟨rfl, Nat.le_refl _, by show 1 ≤ M + 1; omega, by show freeN C (lowO d) ≤ M + 1; omega, hs⟩
  · rw [List.length_append, List.length_singleton]
    omega
def putC (C : List On) (d : ByteArray) : List On × ByteArray := match of8 C d with
  | some x => (setR C (keyO x) (x.refs + 1), keyO x)
  | none => (C ++ [newO C d], keyO (newO C d))
theorem good_put (h : Good8 C M) {d : ByteArray} (hs : d.size ≤ 140737488351232) : Good8 (putC C d).1 (M + 1) := by
  unfold putC
  cases hd : of8 C d with
  | none => exact good_new h hd hs
  | some x =>
    obtain ⟨hx, _⟩ := of8_some hd
    have := (h.each x hx).2.2.1
    exact good_set (h.mono (Nat.le_succ M)) (by omega) (by omega)
end
end Go.Proofs.YtdfcbnejnnibpaaGreatDoor.Bl

namespace Go.Proofs.YtdfcbnejnnibpaaGreatDoor.Tb
open Go.RowKit Tx Pm Dk Wm Wr Wl Pl
set_option linter.unusedVariables false
set_option linter.unusedSimpArgs false
set_option linter.unnecessarySimpa false
theorem oldK_len (l : List Ch) (K : List ByteArray) : (oldK l K).length ≤ K.length := List.length_filter_le _ _
theorem newK_len (p : ByteArray) (l : List Ch) : (newK p l).length ≤ l.length := by unfold newK; rw [List.length_map]; exact List.length_filter_le _ _
theorem take_snoc {α : Type} {l : List α} {k : Nat} {x : α} (h : l[k]? = some x) : l.take (k + 1) = l.take k ++ [x] := by
  have hk := (List.getElem?_eq_some_iff.1 h).1
  rw [List.take_succ_eq_append_getElem hk]
  rw [List.getElem?_eq_getElem hk] at h
  injection h with h
  rw [h]
set_option maxRecDepth 100000 in
set_option maxHeartbeats 4000000 in
theorem bKeys_any (u t m pm : Nat) (vO : Value) (L : List It) (l : List Ch) (p : ByteArray) (w : World) {G : Nat → Prop} (hB : BAt u pm (some ⟨t, 0, none⟩) vO w G l) (ht : w.cell? ⟨t, 3, none⟩ = some (.map (some m))) (hm : Mo w m L) (hR : Rises L) (hn : L.length ≤ 100000000) (hln : l.length ≤ 100000000) (hps : ∀ x ∈ L, x.path.size ≤ 1000000000000) (hks : ∀ c ∈ l, c.key.size ≤ 1000000000000) (hp : p.size ≤ 1000000000000) :
    Calls Tryz.prog 58 #[.pointer (some ⟨u, 0, none⟩), .string p] w (ListTo (held (pre7 p) (all7 L l)) w) := by
  obtain ⟨i0, hi, hz0, hz1, hz2⟩ := info_parts Tx.info9
  obtain ⟨c0, c1, c2⟩ := hB.cell
  have ck := tKeys_any t m L p w ht hm hR (by omega) hps hp
  have HPERM := Lib.hid (perm_keys hR hB.once p)
  have HRS := Lib.hid (held_rises (φ := pre7 p) (rises_all hR l))
  have HKL := Lib.hid (held_len (pre7 p) L)
  have HKS : Hid (∀ k ∈ held (pre7 p) L, k.size ≤ 1000000000000) := Lib.hid (fun k hk => by
    obtain ⟨x, hx, rfl⟩ := List.mem_map.1 hk
    exact hps x (List.mem_filter.1 hx).1)
  have HCS := Lib.hid hks
  have HB := Lib.hid hB
  obtain ⟨aO, cO, hvO, hO1, hO2, hO3⟩ := hB.ops.form
  obtain ⟨nO, hnO⟩ : ∃ n, n = l.length := ⟨_, rfl⟩
  rw [← hnO] at hvO hO1 hO2 hln
  have HOP := Lib.hid hO1
  have HNO := Lib.hid hnO
  have hul : u < w.heap.size := World.block_lt_of_cell? w _ c0
  generalize held (pre7 p) L = K at ck HPERM HKL HKS
  obtain ⟨n, hnK⟩ : ∃ n, n = K.length := ⟨_, rfl⟩
  have HNK := Lib.hid hnK
  have hnb : n ≤ 100000000 := by have := HKL.out; omega
  subst hvO
  clear hB hm ht hR hps hks hO1 hnO hn hnK HKL
  go_enter Tryz.func58, Tryz.ntmps58
  go_wp2_with fail
  go_at_call 87
  refine ck.mono ?_
  rintro e w1 ⟨vK, rfl, hK, hb1⟩
  obtain ⟨aK, cK, hv, hsK, hcK, _⟩ := hK.form
  rw [← HNK.out] at hv hsK hcK
  have HSK := Lib.hid (fun W (hW : Below w1.heap.size w1 W) => hsK.below hW)
  have HB1 := Lib.hid (HB.out.below hb1)
  have HOP1 := Lib.hid (HOP.out.below hb1)
  have d1 := (hb1.cell (p := ⟨u, 1, none⟩) hul).trans c1
  have d2 := (hb1.cell (p := ⟨u, 2, none⟩) hul).trans c2
  have hul1 : u < w1.heap.size := Nat.lt_of_lt_of_le hul hb1.size
  clear hK hsK ck c0 c1 c2
  subst hv
  go_wp2_with fail
  go_loopw [5, 21] (fun v iv wr => ∃ k T : Nat, k ≤ n ∧ iv = .int .i64 k ∧ Hid ((oldK l (K.take k)).length = T) ∧ T ≤ 100000000 ∧ wr.ownsRow w1.heap.size 9 1 v T ((oldK l (K.take k)).map sv) ∧ Below w1.heap.size w1 wr) (fun _ iv _ => n - (intOf iv).toNat)
  case atStart => exact ⟨0, 0, Nat.zero_le _, rfl, rfl, by omega, World.ownsRow_nil _ _ _ _, Below.refl _ _⟩
  case round =>
    obtain ⟨k, T, hk, rfl, hT, hTm, hown, hB⟩ := hrel
    have e1 := (hB.cell (p := ⟨u, 1, none⟩) hul1).trans d1
    have e2 := (hB.cell (p := ⟨u, 2, none⟩) hul1).trans d2
    by_cases hlt : k < n
    · obtain ⟨x, hx⟩ : ∃ x, K[k]? = some x := ⟨_, List.getElem?_eq_getElem (by rw [← HNK.out]; exact hlt)⟩
      obtain ⟨_, hne⟩ := HSK.out _ hB
      obtain ⟨bk, off, rfl, hbk, hcc⟩ := hne.resolve_left (by omega)
      have g0 := hcc k x hx
      have hkz : (k : Int) < (n : Int) := by omega
      have hl := (HB1.out.plc.kept (hB.block pm HB1.out.plc.lt)).look (p := x) (by have := HKS.out x (List.mem_of_getElem? hx); unfold maxLen; omega)
      unfold placeV at hl
      have htk := oldK_snoc l (K.take k) x
      rw [← take_snoc hx] at htk
      have hle := oldK_len l (K.take (k + 1))
      have hle2 : (K.take (k + 1)).length ≤ n := by rw [List.length_take, HNK.out]; omega
      cases ha : at7 l x with
      | none =>
        rw [ha] at hl
        rw [ha, Option.isNone_none, if_pos rfl] at htk
        have HTK := Lib.hid htk
        have hT2 : T + 1 ≤ 100000000 := by
          have := congrArg List.length htk
          rw [List.length_append, List.length_singleton, hT.out] at this
          omega
        have HLN := Lib.hid (show (oldK l (K.take (k + 1))).length = T + 1 by rw [htk, List.length_append, hT.out]; rfl)
        clear hx hcc hne htk ha hle hle2
        go_wp2_with (at_builtin; refine wpList_append_own _ rfl _ _ 45 rfl w1.heap.size 9 i0 (.string ⟨#[]⟩) 1 16 Tryz.underlying45 hi hz0 hz1 hz2 rfl (by decide) _ _ _ rfl (hown.alloc _) ⟨wr.heap.size, 0, none⟩ 1 1 [sv x] rfl rfl ?c1_2 ?c2_2 ?c3_2 ?c4_2 ?c5_2 ?_)
        case c1_2 => first | exact cell_one_new _ _ _ | exact fun _ _ h => h
        case c2_2 => first | exact sv_one [x] | rfl
        case c3_2 => unfold maxLen; omega
        case c4_2 => omega
        case c5_2 => first | (have := hB.size; simp; omega) | (have := hB.size; omega)
        intro v' w6 hown6 hgrow6 _
        have hB6 : Below w1.heap.size w1 w6 := (hB.alloc hB.size _).grown hgrow6 (by simp; have := hB.size; omega) (fun g hg => (hown.lt g hg).1)
        have hO6 : w6.ownsRow w1.heap.size 9 1 v' (T + 1) ((oldK l (K.take (k + 1))).map sv) := by
          rw [HTK.out, List.map_append]
          exact hown6
        clear hown6 hgrow6 hown hB e1 e2
        go_wp2_with fail
        go_roundw
        case rel => exact ⟨k + 1, T + 1, by omega, by go_num, HLN, hT2, hO6, hB6⟩
        case measure => simp [intOf]; omega
      | some i =>
        rw [ha] at hl
        rw [ha, Option.isNone_some, if_neg (by decide), List.append_nil] at htk
        have HLN := Lib.hid (show (oldK l (K.take (k + 1))).length = T by rw [htk]; exact hT.out)
        have HO := Lib.hid (show wr.ownsRow w1.heap.size 9 1 u5 T ((oldK l (K.take (k + 1))).map sv) by rw [htk]; exact hown)
        clear hx hcc hne htk ha hle hle2 hown
        go_wp2_with fail
        go_roundw
        case rel => exact ⟨k + 1, T, by omega, by go_num, HLN, hTm, HO.out, hB⟩
        case measure => simp [intOf]; omega
    · obtain rfl : k = n := by omega
      have eK : K.take k = K := List.take_of_length_le (by rw [HNK.out]; exact Nat.le_refl _)
      rw [eK] at hT hown
      have HOP2 := Lib.hid (fun W (hW : Below w1.heap.size w1 W) => HOP1.out.below hW)
      clear HSK HKS hlt eK
      go_wp2_with fail
      go_loopw [5, 46] (fun v iv wr2 => ∃ q T2 : Nat, q ≤ nO ∧ iv = .int .i64 q ∧ Hid ((oldK l K ++ newK p (l.take q)).length = T2) ∧ T2 ≤ 1000000000 ∧ wr2.ownsRow w1.heap.size 9 1 v T2 ((oldK l K ++ newK p (l.take q)).map sv) ∧ Below w1.heap.size w1 wr2) (fun _ iv _ => nO - (intOf iv).toNat)
      case atStart => exact ⟨0, T, Nat.zero_le _, rfl, by rw [List.take_zero]; show (oldK l K ++ []).length = T; rw [List.append_nil]; exact hT.out, by omega, by rw [List.take_zero]; show wr.ownsRow w1.heap.size 9 1 _ T ((oldK l K ++ []).map sv); rw [List.append_nil]; exact hown, hB⟩
      case round =>
        clear hown hB e1 e2
        obtain ⟨q, T2, hq, rfl, hT2, hTm2, hown, hB⟩ := hrel
        by_cases hltq : q < nO
        · obtain ⟨x, hx⟩ : ∃ x, l[q]? = some x := ⟨_, List.getElem?_eq_getElem (by rw [← HNO.out]; exact hltq)⟩
          obtain ⟨g, off, rfl, hg, g0, g1, g2⟩ := (HOP2.out _ hB).nth hx
          have hqz : (q : Int) < (nO : Int) := by omega
          have htk := newK_snoc p (l.take q) x
          rw [← take_snoc hx] at htk
          have hxk := HCS.out x (List.mem_of_getElem? hx)
          have hle := newK_len p (l.take (q + 1))
          have hle1 : (l.take (q + 1)).length ≤ nO := by rw [List.length_take, HNO.out]; omega
          have hle2 : (oldK l K).length ≤ 100000000 := by rw [hT.out]; exact hTm
          obtain ⟨key, val, gone⟩ := x
          simp only at g0 g1 g2 htk hxk
          have hB2 := hB.alloc hB.size (.cells #[.string key, .string val, .bool gone] 102)
          have hO2 := hown.alloc (.cells #[.string key, .string val, .bool gone] 102)
          have hC3 : Cells3 wr.heap.size key val gone (wr.alloc (.cells #[.string key, .string val, .bool gone] 102)) := cells3_new wr ⟨key, val, gone⟩ _
          have hlt2 : wr.heap.size < (wr.alloc (.cells #[.string key, .string val, .bool gone] 102)).heap.size := by simp
          have hsz2 : w1.heap.size ≤ (wr.alloc (.cells #[.string key, .string val, .bool gone] 102)).heap.size := hB2.size
          clear hx
          cases gone
          · cases hbg : beg p key
            · rw [hbg] at htk
              rw [if_neg (by decide), List.append_nil] at htk
              have HLN := Lib.hid (show (oldK l K ++ newK p (l.take (q + 1))).length = T2 by rw [htk]; exact hT2.out)
              have HO := Lib.hid (show (wr.alloc (.cells #[.string key, .string val, .bool false] 102)).ownsRow w1.heap.size 9 1 u5 T2 ((oldK l K ++ newK p (l.take (q + 1))).map sv) by rw [htk]; exact hO2)
              have cx := fun W => hasPrefix_any key p W (by omega) (by omega)
              unfold beg at hbg
              rw [hbg] at cx
              clear htk hO2 hown hB hbg hle hle1 hle2
              obtain ⟨f0, f1, f2⟩ := hC3
              go_wp2_with fail
              go_at_call 88
              refine (cx _).mono ?_
              rintro e w5 ⟨rfl, rfl⟩
              go_wp2_with fail
              go_roundw
              case rel => exact ⟨q + 1, T2, by omega, by go_num, HLN, hTm2, HO.out, hB2⟩
              case measure => simp [intOf]; omega
            · rw [hbg] at htk
              rw [if_pos (by decide)] at htk
              have HTK := Lib.hid htk
              have hT3 : T2 + 1 ≤ 1000000000 := by
                have := congrArg List.length htk
                rw [List.length_append, List.length_singleton] at this
                have h3 := hT2.out
                rw [List.length_append] at h3
                omega
              have HLN := Lib.hid (show (oldK l K ++ newK p (l.take (q + 1))).length = T2 + 1 by rw [htk, ← List.append_assoc, List.length_append, hT2.out]; rfl)
              have cx := fun W => hasPrefix_any key p W (by omega) (by omega)
              unfold beg at hbg
              rw [hbg] at cx
              clear htk hown hB hbg hle hle1 hle2
              obtain ⟨f0, f1, f2⟩ := hC3
              go_wp2_with fail
              go_at_call 88
              refine (cx _).mono ?_
              rintro e w5 ⟨rfl, rfl⟩
              go_wp2_with (at_builtin; refine wpList_append_own _ rfl _ _ 45 rfl w1.heap.size 9 i0 (.string ⟨#[]⟩) 1 16 Tryz.underlying45 hi hz0 hz1 hz2 rfl (by decide) _ _ _ rfl (hO2.alloc _) ⟨wr.heap.size + 1, 0, none⟩ 1 1 [sv key] rfl rfl ?c1_2 ?c2_2 ?c3_2 ?c4_2 ?c5_2 ?_)
              case c1_2 => exact (World.size_alloc wr (.cells #[.string key, .string val, .bool false] 102)) ▸ cell_one_new (wr.alloc (.cells #[.string key, .string val, .bool false] 102)) (sv key) 9
              case c2_2 => first | exact sv_one [key] | rfl
              case c3_2 => unfold maxLen; omega
              case c4_2 => omega
              case c5_2 => exact Nat.le_trans hB2.size (((Below.refl _ _).alloc (Nat.le_refl _) _).size)
              intro v' w6 hown6 hgrow6 _
              have hB6 : Below w1.heap.size w1 w6 := (hB2.alloc hB2.size _).grown hgrow6 (Nat.le_trans hB2.size (((Below.refl _ _).alloc (Nat.le_refl _) _).size)) (fun g hg => (hO2.lt g hg).1)
              have hO6 : w6.ownsRow w1.heap.size 9 1 v' (T2 + 1) ((oldK l K ++ newK p (l.take (q + 1))).map sv) := by
                rw [HTK.out]
                simp only [List.map_append, List.map_cons, List.map_nil, List.append_assoc] at hown6 ⊢
                exact hown6
              clear hown6 hgrow6 hO2 hB2
              go_wp2_with fail
              go_roundw
              case rel => exact ⟨q + 1, T2 + 1, by omega, by go_num, HLN, hT3, hO6, hB6⟩
              case measure => simp [intOf]; omega
          · rw [Bool.not_true, Bool.false_and, if_neg (by decide), List.append_nil] at htk
            have HLN := Lib.hid (show (oldK l K ++ newK p (l.take (q + 1))).length = T2 by rw [htk]; exact hT2.out)
            have HO := Lib.hid (show (wr.alloc (.cells #[.string key, .string val, .bool true] 102)).ownsRow w1.heap.size 9 1 u5 T2 ((oldK l K ++ newK p (l.take (q + 1))).map sv) by rw [htk]; exact hO2)
            clear htk hO2 hown hB hle hle1 hle2
            go_wp2_with fail
            go_roundw
            case rel => exact ⟨q + 1, T2, by omega, by go_num, HLN, hTm2, HO.out, hB2⟩
            case measure => simp [intOf]; omega
        · obtain rfl : q = nO := by omega
          have el : l.take q = l := List.take_of_length_le (by rw [HNO.out]; exact Nat.le_refl _)
          rw [el] at hT2 hown
          have hO : Texts wr w.heap.size _ (oldK l K ++ newK p l) := own_toT (Dk.own_base hown hb1.size) hT2.out
          have hol : (oldK l K ++ newK p l).length ≤ 4000000000 := by rw [hT2.out]; omega
          have hBw := Tx.below_call hb1 hB
          have cs := sortS_any _ (oldK l K ++ newK p l) wr w.heap.size hO hBw.size hol
          clear hO hown hT2 hB hol
          go_wp2_with (go_at_call 89; refine cs.mono ?_; rintro e w5 ⟨rfl, ts, hts, hso, htx, hb5⟩)
          go_ret
          obtain rfl : ts = held (pre7 p) (all7 L l) := rising_perm (hts.trans HPERM.out) hso HRS.out
          exact ⟨_, rfl, htx, hBw.trans hb5⟩
end Go.Proofs.YtdfcbnejnnibpaaGreatDoor.Tb

namespace Go.Proofs.YtdfcbnejnnibpaaGreatDoor.Bl
open Go.RowKit Tx Pm Dk Wm Wr Wl Pl Tb
set_option linter.unusedVariables false
set_option linter.unusedSimpArgs false
set_option linter.unnecessarySimpa false
def OwF {α : Type} (Obj : World → (Nat → Prop) → α → Prop) (z : World × (Nat → Prop)) (x : α) (W : World) : Prop := LeftA Obj z.1 z.2 x W
section
variable {α β : Type} {Obj : World → (Nat → Prop) → α → Prop} {Obj' : World → (Nat → Prop) → β → Prop} {z : World × (Nat → Prop)} {x : α} {y : β} {W : World}
theorem OwF.chg (h : OwF Obj z x W) : Chg z.2 z.1 W := by
  obtain ⟨F, _, h2, _⟩ := h
  exact h2
theorem OwF.call {f : FuncId} {args : Array Value} {P : Ending → Prop} (h : OwF Obj z x W) (hc : ∀ F, Obj W F x → Calls Tryz.prog f args W fun e w' => P e ∧ LeftA Obj' W F y w') : Calls Tryz.prog f args W fun e w' => P e ∧ OwF Obj' z y w' := by
  obtain ⟨F, h1, h2, h3⟩ := h
  refine (hc F h1).mono fun e w' ⟨hp, F', q1, q2, q3⟩ => ⟨hp, F', q1, h2.trans q2 h3, fun g hg => ?_⟩
  rcases q3 g hg with hh | hh
  · exact h3 g hh
  · exact .inr (Nat.le_trans h2.size hh)
theorem OwF.kept (hk : ∀ {w w1 : World} {F : Nat → Prop} {x : α}, Obj w F x → Below w.heap.size w w1 → Obj w1 F x) {w' : World} (h : OwF Obj z x W) (hb : Below W.heap.size W w') : OwF Obj z x w' := by
  obtain ⟨F, h1, h2, h3⟩ := h
  exact ⟨F, hk h1 hb, h2.then (Chg.of_below hb), h3⟩
end
section
variable {w0 : World × (Nat → Prop)} {W : World} {b j t m u k : Nat} {x y : Tst} {l : List Ch}
theorem owf_below {w' : World} (h : OwF (Tu b j t m u) w0 (x, l) W) (hb : Below W.heap.size W w') : OwF (Tu b j t m u) w0 (x, l) w' := OwF.kept (Obj := Tu b j t m u) (fun h hb => tb_below h hb) h hb
theorem f_batch {f : FuncId} {args : Array Value} {l' : List Ch} {P : Ending → Prop} (h : OwF (Tu b j t m u) w0 (x, l) W) (hc : ∀ pm vO G, BAt u pm (some ⟨t, 0, none⟩) vO W G l → Calls Tryz.prog f args W fun e w' => P e ∧ LeftA (Bn u (some ⟨t, 0, none⟩)) W G l' w') :
    Calls Tryz.prog f args W fun e w' => P e ∧ OwF (Tu b j t m u) w0 (x, l') w' :=
  h.call (fun H ⟨F, G, ⟨Fj, h1⟩, ⟨pm, vO, h2⟩, hd, hH⟩ => (hc pm vO G h2).mono fun e w' hh => ⟨hh.1, by
    obtain ⟨G', q, c, n⟩ := hh.2
    refine ⟨fun i => F i ∨ G' i, ⟨F, G', ⟨Fj, h1.kept (fun i hi => c.block i (h1.lt i hi) (hd i hi))⟩, q, fun i hi hg => ?_, fun i => Iff.rfl⟩, c.mono (fun i hi => (hH i).2 (.inr hi)), fun g hg => ?_⟩
    · rcases n i hg with hh | hh
      · exact hd i hi hh
      · have := h1.lt i hi; omega
    · rcases hg with hg | hg
      · exact .inl ((hH g).2 (.inl hg))
      · exact (n g hg).imp (fun hh => (hH g).2 (.inr hh)) id⟩)
theorem f_put {key val : ByteArray} (h : OwF (Tu b j t m u) w0 (x, l) W) (hk : key.size ≤ 1000000000000) (hl : l.length < 1000000000) : Calls Tryz.prog 26 #[.pointer (some ⟨u, 0, none⟩), .string key, .string val] W fun e w' => e = .returned (.tuple #[]) ∧ OwF (Tu b j t m u) w0 (x, bat l ⟨key, val, false⟩) w' :=
  f_batch h (fun pm vO G hB => bPut_any u pm _ vO key val W hB hk hl)
theorem f_drop {key : ByteArray} (h : OwF (Tu b j t m u) w0 (x, l) W) (hk : key.size ≤ 1000000000000) (hl : l.length < 1000000000) : Calls Tryz.prog 32 #[.pointer (some ⟨u, 0, none⟩), .string key] W fun e w' => e = .returned (.tuple #[]) ∧ OwF (Tu b j t m u) w0 (x, bat l ⟨key, ⟨#[]⟩, true⟩) w' :=
  f_batch h (fun pm vO G hB => bDrop_any u pm _ vO key W hB hk hl)
theorem f_bget {key : ByteArray} (h : OwF (Tu b j t m u) w0 (x, l) W) (hk : key.size ≤ 1000000000000000) : Calls Tryz.prog 49 #[.pointer (some ⟨u, 0, none⟩), .string key] W fun e w' => e = .returned (.tuple #[.string (overV x.L l key), .bool (overB x.L l key)]) ∧ Below W.heap.size W w' := by
  obtain ⟨H, ⟨F, G, ⟨Fj, h1⟩, ⟨pm, vO, h2⟩, hd, hH⟩, _, _⟩ := h
  exact bGet_any u t m pm vO x.L l key W h2 h1.cell.2.2.2 h1.rows hk
def Xk (x : Tst) : Prop := x.L.length ≤ 100000000 ∧ ∀ z ∈ x.L, z.path.size ≤ 1000
theorem f_facts (h : OwF (Tu b j t m u) w0 (x, l) W) : Rises x.L ∧ Once l := by
  obtain ⟨H, ⟨F, G, ⟨Fj, h1⟩, ⟨pm, vO, h2⟩, hd, hH⟩, _, _⟩ := h
  exact ⟨h1.rises, h2.once⟩
theorem f_bkeys {p : ByteArray} (h : OwF (Tu b j t m u) w0 (x, l) W) (hx : Xk x) (hl : l.length ≤ 100000000) (hks : ∀ c ∈ l, c.key.size ≤ 1000) (hp : p.size ≤ 1000) : Calls Tryz.prog 58 #[.pointer (some ⟨u, 0, none⟩), .string p] W (ListTo (held (pre7 p) (all7 x.L l)) W) := by
  obtain ⟨H, ⟨F, G, ⟨Fj, h1⟩, ⟨pm, vO, h2⟩, hd, hH⟩, _, _⟩ := h
  exact bKeys_any u t m pm vO x.L l p W h2 h1.cell.2.2.2 h1.rows h1.rises hx.1 hl (fun z hz => by have := hx.2 z hz; omega) (fun c hc => by have := hks c hc; omega) (by omega)
theorem own_owf {α : Type} {Obj : World → (Nat → Prop) → α → Prop} {w : World} {x : α} (h : Own Obj w x W) : ∃ F : Nat → Prop, (∀ i, F i → w.heap.size ≤ i) ∧ OwF Obj (W, F) x W := by
  obtain ⟨F, h1, h2, h3⟩ := h
  exact ⟨F, h2, F, h1, Chg.refl F W, fun g hg => .inl hg⟩
end
end Go.Proofs.YtdfcbnejnnibpaaGreatDoor.Bl

namespace Go.Proofs
open Go.Shelf
def Tryz.itoa_ren : Go.Shelf.Ren := ⟨fun | 171 => 61 | 243 => 94 | 246 => 136 | 283 => 168 | 284 => 169 | 285 => 170 | 286 => 171 | 129 => 135 | 317 => 188 | 318 => 189 | 319 => 190 | 320 => 191 | 337 => 196 | 338 => 197 | n => n, fun | 3 => 3 | 9 => 9 | 2 => 2 | 4 => 4 | 171 => 211 | 0 => 0 | 53 => 131 | 37 => 135 | 5 => 5 | 173 => 213 | 212 => 229 | 51 => 153 | 20 => 20 | 213 => 230 | 46 => 146 | 232 => 234 | 233 => 235 | n => n, fun | 17 => 2 | 18 => 4 | 19 => 5 | n => n⟩
theorem Tryz.itoa : Go.Proofs.LaysM.n171 Tryz.prog Tryz.itoa_ren := {
  mixed := by kernel_rfl
  f129 := Tryz.func135.trans (congrArg some (by kernel_rfl))
  f171 := Tryz.func61.trans (congrArg some (by kernel_rfl))
  f243 := Tryz.func94.trans (congrArg some (by kernel_rfl))
  f246 := Tryz.func136.trans (congrArg some (by kernel_rfl))
  f283 := Tryz.func168.trans (congrArg some (by kernel_rfl))
  f284 := Tryz.func169.trans (congrArg some (by kernel_rfl))
  f285 := Tryz.func170.trans (congrArg some (by kernel_rfl))
  f286 := Tryz.func171.trans (congrArg some (by kernel_rfl))
  f317 := Tryz.func188.trans (congrArg some (by kernel_rfl))
  f318 := Tryz.func189.trans (congrArg some (by kernel_rfl))
  f319 := Tryz.func190.trans (congrArg some (by kernel_rfl))
  f320 := Tryz.func191.trans (congrArg some (by kernel_rfl))
  f337 := Tryz.func196.trans (congrArg some (by kernel_rfl))
  f338 := Tryz.func197.trans (congrArg some (by kernel_rfl))
  t0 := Tryz.underlying0
  a0 := Tryz.isAgg0
  z0 := Tryz.sizeOf0
  v0 := Tryz.zeroValue0
  t2 := Tryz.underlying2
  a2 := Tryz.isAgg2
  z2 := Tryz.sizeOf2
  v2 := Tryz.zeroValue2
  t3 := Tryz.underlying3
  a3 := Tryz.isAgg3
  z3 := Tryz.sizeOf3
  v3 := Tryz.zeroValue3
  t4 := Tryz.underlying4
  a4 := Tryz.isAgg4
  z4 := Tryz.sizeOf4
  v4 := Tryz.zeroValue4
  t5 := Tryz.underlying5
  a5 := Tryz.isAgg5
  z5 := Tryz.sizeOf5
  v5 := Tryz.zeroValue5
  t9 := Tryz.underlying9
  a9 := Tryz.isAgg9
  z9 := Tryz.sizeOf9
  v9 := Tryz.zeroValue9
  t20 := Tryz.underlying20
  a20 := Tryz.isAgg20
  z20 := Tryz.sizeOf20
  v20 := Tryz.zeroValue20
  t37 := Tryz.underlying135
  a37 := Tryz.isAgg135
  z37 := Tryz.sizeOf135
  v37 := Tryz.zeroValue135
  t46 := Tryz.underlying146
  a46 := Tryz.isAgg146
  z46 := Tryz.sizeOf146
  v46 := Tryz.zeroValue146
  t51 := Tryz.underlying153
  a51 := Tryz.isAgg153
  z51 := Tryz.sizeOf153
  v51 := Tryz.zeroValue153
  t53 := Tryz.underlying131
  a53 := Tryz.isAgg131
  z53 := Tryz.sizeOf131
  v53 := Tryz.zeroValue131
  t171 := Tryz.underlying211
  a171 := Tryz.isAgg211
  z171 := Tryz.sizeOf211
  v171 := Tryz.zeroValue211
  t173 := Tryz.underlying213
  a173 := Tryz.isAgg213
  z173 := Tryz.sizeOf213
  v173 := Tryz.zeroValue213
  t212 := Tryz.underlying229
  a212 := Tryz.isAgg229
  z212 := Tryz.sizeOf229
  v212 := Tryz.zeroValue229
  t213 := Tryz.underlying230
  a213 := Tryz.isAgg230
  z213 := Tryz.sizeOf230
  t232 := Tryz.underlying234
  a232 := Tryz.isAgg234
  z232 := Tryz.sizeOf234
  v232 := Tryz.zeroValue234
  t233 := Tryz.underlying235
  a233 := Tryz.isAgg235
  z233 := Tryz.sizeOf235
  v233 := Tryz.zeroValue235
  g17 := by kernel_rfl
  g18 := by kernel_rfl
  g19 := by kernel_rfl
  i0 := by kernel_rfl
  i2 := by kernel_rfl
  i3 := by kernel_rfl
  i4 := by kernel_rfl
  i5 := by kernel_rfl
  i9 := by kernel_rfl
  i20 := by kernel_rfl
  i37 := by kernel_rfl
  i46 := by kernel_rfl
  i51 := by kernel_rfl
  i53 := by kernel_rfl
  i171 := by kernel_rfl
  i173 := by kernel_rfl
  i212 := by kernel_rfl
  i232 := by kernel_rfl
  i233 := by kernel_rfl
  m17 := by kernel_rfl
  m18 := by kernel_rfl
  m19 := by kernel_rfl }
def Tryz.atoi_ren : Go.Shelf.Ren := ⟨fun | 172 => 59 | 244 => 90 | 245 => 91 | 247 => 120 | 279 => 121 | 280 => 122 | 281 => 123 | 282 => 124 | 287 => 159 | 316 => 160 | 171 => 61 | 205 => 161 | 321 => 185 | 322 => 186 | 243 => 94 | 246 => 136 | 283 => 168 | 284 => 169 | 285 => 170 | 286 => 171 | 129 => 135 | 317 => 188 | 318 => 189 | 319 => 190 | 320 => 191 | 337 => 196 | 338 => 197 | n => n, fun | 9 => 9 | 3 => 3 | 75 => 109 | 76 => 110 | 4 => 4 | 5 => 5 | 167 => 175 | 37 => 135 | 0 => 0 | 85 => 176 | 2 => 2 | 168 => 178 | 53 => 131 | 175 => 200 | 46 => 146 | 210 => 203 | 127 => 194 | 145 => 225 | 143 => 223 | 21 => 21 | 171 => 211 | 173 => 213 | 212 => 229 | 51 => 153 | 20 => 20 | 213 => 230 | 232 => 234 | 233 => 235 | 80 => 167 | n => n, fun | 15 => 0 | 16 => 1 | 17 => 2 | 18 => 4 | 19 => 5 | n => n⟩
theorem Tryz.atoi : Go.Proofs.Lays.n172 Tryz.prog Tryz.atoi_ren := {
  mixed := by kernel_rfl
  f129 := Tryz.func135.trans (congrArg some (by kernel_rfl))
  f171 := Tryz.func61.trans (congrArg some (by kernel_rfl))
  f172 := Tryz.func59.trans (congrArg some (by kernel_rfl))
  f205 := Tryz.func161.trans (congrArg some (by kernel_rfl))
  f243 := Tryz.func94.trans (congrArg some (by kernel_rfl))
  f244 := Tryz.func90.trans (congrArg some (by kernel_rfl))
  f245 := Tryz.func91.trans (congrArg some (by kernel_rfl))
  f246 := Tryz.func136.trans (congrArg some (by kernel_rfl))
  f247 := Tryz.func120.trans (congrArg some (by kernel_rfl))
  f279 := Tryz.func121.trans (congrArg some (by kernel_rfl))
  f280 := Tryz.func122.trans (congrArg some (by kernel_rfl))
  f281 := Tryz.func123.trans (congrArg some (by kernel_rfl))
  f282 := Tryz.func124.trans (congrArg some (by kernel_rfl))
  f283 := Tryz.func168.trans (congrArg some (by kernel_rfl))
  f284 := Tryz.func169.trans (congrArg some (by kernel_rfl))
  f285 := Tryz.func170.trans (congrArg some (by kernel_rfl))
  f286 := Tryz.func171.trans (congrArg some (by kernel_rfl))
  f287 := Tryz.func159.trans (congrArg some (by kernel_rfl))
  f316 := Tryz.func160.trans (congrArg some (by kernel_rfl))
  f317 := Tryz.func188.trans (congrArg some (by kernel_rfl))
  f318 := Tryz.func189.trans (congrArg some (by kernel_rfl))
  f319 := Tryz.func190.trans (congrArg some (by kernel_rfl))
  f320 := Tryz.func191.trans (congrArg some (by kernel_rfl))
  f321 := Tryz.func185.trans (congrArg some (by kernel_rfl))
  f322 := Tryz.func186.trans (congrArg some (by kernel_rfl))
  f337 := Tryz.func196.trans (congrArg some (by kernel_rfl))
  f338 := Tryz.func197.trans (congrArg some (by kernel_rfl))
  t0 := Tryz.underlying0
  a0 := Tryz.isAgg0
  z0 := Tryz.sizeOf0
  v0 := Tryz.zeroValue0
  t2 := Tryz.underlying2
  a2 := Tryz.isAgg2
  z2 := Tryz.sizeOf2
  v2 := Tryz.zeroValue2
  t3 := Tryz.underlying3
  a3 := Tryz.isAgg3
  z3 := Tryz.sizeOf3
  v3 := Tryz.zeroValue3
  t4 := Tryz.underlying4
  a4 := Tryz.isAgg4
  z4 := Tryz.sizeOf4
  v4 := Tryz.zeroValue4
  t5 := Tryz.underlying5
  a5 := Tryz.isAgg5
  z5 := Tryz.sizeOf5
  v5 := Tryz.zeroValue5
  t9 := Tryz.underlying9
  a9 := Tryz.isAgg9
  z9 := Tryz.sizeOf9
  v9 := Tryz.zeroValue9
  t20 := Tryz.underlying20
  a20 := Tryz.isAgg20
  z20 := Tryz.sizeOf20
  v20 := Tryz.zeroValue20
  t21 := Tryz.underlying21
  a21 := Tryz.isAgg21
  z21 := Tryz.sizeOf21
  v21 := Tryz.zeroValue21
  t37 := Tryz.underlying135
  a37 := Tryz.isAgg135
  z37 := Tryz.sizeOf135
  v37 := Tryz.zeroValue135
  t46 := Tryz.underlying146
  a46 := Tryz.isAgg146
  z46 := Tryz.sizeOf146
  v46 := Tryz.zeroValue146
  t51 := Tryz.underlying153
  a51 := Tryz.isAgg153
  z51 := Tryz.sizeOf153
  v51 := Tryz.zeroValue153
  t53 := Tryz.underlying131
  a53 := Tryz.isAgg131
  z53 := Tryz.sizeOf131
  v53 := Tryz.zeroValue131
  t75 := Tryz.underlying109
  a75 := Tryz.isAgg109
  z75 := Tryz.sizeOf109
  v75 := Tryz.zeroValue109
  t76 := Tryz.underlying110
  a76 := Tryz.isAgg110
  z76 := Tryz.sizeOf110
  v76 := Tryz.zeroValue110
  t85 := Tryz.underlying176
  a85 := Tryz.isAgg176
  z85 := Tryz.sizeOf176
  v85 := Tryz.zeroValue176
  t127 := Tryz.underlying194
  a127 := Tryz.isAgg194
  z127 := Tryz.sizeOf194
  v127 := Tryz.zeroValue194
  t143 := Tryz.underlying223
  a143 := Tryz.isAgg223
  z143 := Tryz.sizeOf223
  v143 := Tryz.zeroValue223
  t145 := Tryz.underlying225
  a145 := Tryz.isAgg225
  z145 := Tryz.sizeOf225
  v145 := Tryz.zeroValue225
  t167 := Tryz.underlying175
  a167 := Tryz.isAgg175
  z167 := Tryz.sizeOf175
  v167 := Tryz.zeroValue175
  t168 := Tryz.underlying178
  a168 := Tryz.isAgg178
  z168 := Tryz.sizeOf178
  v168 := Tryz.zeroValue178
  t171 := Tryz.underlying211
  a171 := Tryz.isAgg211
  z171 := Tryz.sizeOf211
  v171 := Tryz.zeroValue211
  t173 := Tryz.underlying213
  a173 := Tryz.isAgg213
  z173 := Tryz.sizeOf213
  v173 := Tryz.zeroValue213
  t175 := Tryz.underlying200
  a175 := Tryz.isAgg200
  z175 := Tryz.sizeOf200
  v175 := Tryz.zeroValue200
  t210 := Tryz.underlying203
  a210 := Tryz.isAgg203
  z210 := Tryz.sizeOf203
  v210 := Tryz.zeroValue203
  t212 := Tryz.underlying229
  a212 := Tryz.isAgg229
  z212 := Tryz.sizeOf229
  v212 := Tryz.zeroValue229
  t213 := Tryz.underlying230
  a213 := Tryz.isAgg230
  z213 := Tryz.sizeOf230
  t232 := Tryz.underlying234
  a232 := Tryz.isAgg234
  z232 := Tryz.sizeOf234
  v232 := Tryz.zeroValue234
  t233 := Tryz.underlying235
  a233 := Tryz.isAgg235
  z233 := Tryz.sizeOf235
  v233 := Tryz.zeroValue235
  g15 := by kernel_rfl
  g16 := by kernel_rfl
  g17 := by kernel_rfl
  g18 := by kernel_rfl
  g19 := by kernel_rfl }
end Go.Proofs

namespace Go.Proofs.YtdfcbnejnnibpaaGreatDoor.Cn
open Go.RowKit Tx Pm Dk Wm Wr Wl Pl Tb Bl
set_option linter.unusedVariables false
set_option linter.unusedSimpArgs false
set_option linter.unnecessarySimpa false
theorem over_find {L : List It} {l : List Ch} {p : ByteArray} : overB L l p = (find (all7 L l) p).isSome := by
  rw [find_all]
  unfold overB after
  cases lastOf l p with
  | none => rfl
  | some c => cases hg : c.gone <;> simp [hg]
theorem over_val {L : List It} {l : List Ch} {p : ByteArray} {x : It} (h : find (all7 L l) p = some x) : overV L l p = x.data := by
  rw [find_all] at h
  unfold overV
  unfold after at h
  cases hl : lastOf l p with
  | none =>
    rw [hl] at h
    show (lookC L p).val = _
    unfold lookC
    rw [show find L p = some x from h]
    rfl
  | some c =>
    rw [hl] at h
    cases hg : c.gone
    · simp only [hg] at h
      injection h with h
      rw [← h]
      rfl
    · simp [hg] at h
def Tab (w : World) : Prop := Lib.TabIs Tryz.prog w "internal/strconv.uint64pow10" .u64 Lib.pow10Tab
theorem Tab.below {w w1 : World} (h : Tab w) (hb : Below w.heap.size w w1) : Tab w1 := Lib.tabBelow_of_tabIs h _ hb
theorem store2 {w1 : World} {B : Nat} {T : TypeId} {v0 v1 : Value} (h : w1.heap[B]? = some (.cells #[v0, v1] T (0, 0))) (x0 x1 : Value) :
    (w1.cell? ⟨B, 0, none⟩ = some v0 ∧ w1.frozen? ⟨B, 0, none⟩ = false) ∧ ((w1.setCell ⟨B, 0, none⟩ x0).cell? ⟨B, 1, none⟩ = some v1 ∧ (w1.setCell ⟨B, 0, none⟩ x0).frozen? ⟨B, 1, none⟩ = false) ∧
    ((w1.setCell ⟨B, 0, none⟩ x0).setCell ⟨B, 1, none⟩ x1).heap[B]? = some (.cells #[x0, x1] T (0, 0)) ∧ Chg (· = B) w1 ((w1.setCell ⟨B, 0, none⟩ x0).setCell ⟨B, 1, none⟩ x1) := by
  have h1 : (w1.setCell ⟨B, 0, none⟩ x0).heap[B]? = some (.cells #[x0, v1] T (0, 0)) := by rw [set_block h]; rfl
  have h2 : ((w1.setCell ⟨B, 0, none⟩ x0).setCell ⟨B, 1, none⟩ x1).heap[B]? = some (.cells #[x0, x1] T (0, 0)) := by rw [set_block h1]; rfl
  refine ⟨⟨?_, ?_⟩, ⟨?_, ?_⟩, h2, (chg_set (b := B) (k := 0) x0).then (chg_set (b := B) (k := 1) x1)⟩
  · unfold World.cell?; rw [h]; rfl
  · unfold World.frozen?; rw [h]; simp
  · unfold World.cell?; rw [h1]; rfl
  · unfold World.frozen?; rw [h1]; simp
theorem two_cells {W : World} {a c : ByteArray} {T : TypeId} : ∀ (j : Nat) z, [a, c][j]? = some z → (W.alloc (.cells #[.string a, .string c] T)).cell? ⟨W.heap.size, 0 + j, none⟩ = some (.string z) := by
  intro j z hz
  rw [World.cell?_alloc_at _ _ _ _ rfl]
  match j, hz with
  | 0, hz => simpa using hz
  | 1, hz => simpa using hz
  | j + 2, hz => simp at hz
theorem grow_below {w : World} (k : Nat) (os : Array Obj) : Below w.heap.size w (Sort.grow (w.drewN k) os) := Lib.below_grow w.heap.size w (Nat.le_refl _) k os
end Go.Proofs.YtdfcbnejnnibpaaGreatDoor.Cn
