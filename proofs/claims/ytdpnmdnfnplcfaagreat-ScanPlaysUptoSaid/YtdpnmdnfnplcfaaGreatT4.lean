/- Texts of this seat, one behind the other. -/
import Derived.Test.YtdpnmdnfnplcfaaGreatT3
import Derived.Shelf.Sort.Plain
import Derived.Test.YtdpnmdnfnplcfaaGreatProg
import Derived.Lib.OwnBridge
import Derived.Shelf.Slices.In.SortNone
import Derived.Sort.OwnSorted
import Derived.Deep.QuietTactic
import Derived.BigQuiet
import Derived.Laws.Rows
import Derived.Laws.NewBlocks
import Derived.WalkSmall
import Derived.Laws.StructEq
import Derived.Laws.AppendOwn
namespace Go.Proofs.YtdpnmdnfnplcfaaGreat.Dk
open Go.RowKit Tx Pm Pl Pr
set_option linter.unusedVariables false
theorem cap_chg {w w1 : World} {F : Nat → Prop} {g : Nat} {v : Value} (h : Cap w g v) (hc : Chg F w w1) (hn : ¬ F g) : Cap w1 g v := by
  have hg := World.block_lt_of_cell? w _ h
  unfold Cap World.cell? at *
  rw [hc.block g hg hn]
  exact h
theorem cap_below {w w1 : World} {g : Nat} {v : Value} (h : Cap w g v) (hb : Below w.heap.size w w1) : Cap w1 g v := cap_chg (F := fun _ => False) h ⟨hb.os, hb.tape, hb.output, hb.size, fun i hi _ => hb.block i hi⟩ id
theorem cap_new (w : World) (v : Value) (T : TypeId) : Cap (w.alloc (.cells #[v] T)) w.heap.size v := by
  unfold Cap
  rw [World.cell?_alloc_at _ _ _ _ rfl]
  rfl
theorem first_down {s : St} {p : ByteArray} {m : Nat} (h : first s p m = 0) : s.down = false := by
  unfold first at h
  cases hd : s.down with
  | false => rfl
  | true => rw [hd] at h; cases h
theorem mkdir_step (s : St) (p : ByteArray) : mkdirS s p = stepR s (mayMkdirS s p) { (done s).2 with L := ins (done s).2.L ⟨p, true, ⟨#[]⟩, ⟨#[]⟩, false, false, 0⟩ } := by
  unfold mkdirS mayMkdirS stepR
  by_cases h1 : first s p 0 ≠ 0
  · rw [if_pos h1, if_pos h1, if_pos h1]
  · rw [if_neg h1, if_neg h1]
    by_cases h2 : home s.L p = false
    · rw [if_pos h2, if_pos h2, if_pos (by decide)]
    · rw [if_neg h2, if_neg h2]
      by_cases h3 : kind s.L p = 2
      · rw [if_pos h3, if_pos h3, if_pos (by decide)]
      · rw [if_neg h3, if_neg h3]
        rfl
theorem mayMkdir_down {s : St} {p : ByteArray} (h : mayMkdirS s p = 0) : s.down = false := by
  unfold mayMkdirS at h
  split at h
  · rename_i h1; exact absurd h h1
  · rename_i h1; exact first_down (p := p) (m := 0) (by omega)
theorem write_step {s : St} (hg : Good s) (p d : ByteArray) : writeS s p d = stepR s (mayWriteS s p d) (putS (done s).2 { old s.L p with data := d, loose := true, anew := true }) := by
  unfold writeS mayWriteS stepR
  rw [fits_full hg]
  by_cases h1 : first s p 1 ≠ 0
  · rw [if_pos h1, if_pos h1, if_pos h1]
  · rw [if_neg h1, if_neg h1]
    by_cases h2 : home s.L p = false
    · rw [if_pos h2, if_pos h2, if_pos (by decide)]
    · rw [if_neg h2, if_neg h2]
      by_cases h3 : kind s.L p = 1
      · rw [if_pos h3, if_pos h3, if_pos (by decide)]
      · rw [if_neg h3, if_neg h3]
        cases full s (vol p) ((d.size : Int) - (old s.L p).data.size) with
        | true => rfl
        | false => rfl
theorem mayWrite_ok {s : St} {p d : ByteArray} (h : mayWriteS s p d = 0) : s.down = false ∧ kind s.L p ≠ 1 := by
  unfold mayWriteS at h
  split at h
  · rename_i h1; exact absurd h h1
  rename_i h1
  split at h
  · cases h
  split at h
  · cases h
  rename_i h3
  exact ⟨first_down (p := p) (m := 1) (by omega), h3⟩
theorem append_step {s : St} (hg : Good s) (p d : ByteArray) : appendS s p d = stepR s (mayAppendS s p d) (putS (done s).2 { old s.L p with data := (old s.L p).data ++ d, loose := true }) := by
  unfold appendS mayAppendS stepR
  rw [fits_full hg]
  by_cases h1 : there s p ≠ 0
  · rw [if_pos h1, if_pos h1, if_pos h1]
  · rw [if_neg h1, if_neg h1]
    cases full s (vol p) (d.size : Int) with
    | true => rfl
    | false => rfl
theorem there_kind {s : St} {p : ByteArray} (h : there s p = 0) : s.down = false ∧ kind s.L p = 2 := by
  unfold there at h
  split at h
  · rename_i h1; exact absurd h h1
  rename_i h1
  split at h
  · cases h
  split at h
  · cases h
  rename_i h2 h3
  refine ⟨first_down (p := p) (m := 1) (by omega), ?_⟩
  rcases kind_le s.L p with e | e | e
  · exact absurd e h2
  · exact absurd e h3
  · exact e
theorem mayAppend_ok {s : St} {p d : ByteArray} (h : mayAppendS s p d = 0) : s.down = false ∧ kind s.L p = 2 := by
  unfold mayAppendS at h
  split at h
  · rename_i h1; exact absurd h h1
  · rename_i h1; exact there_kind (by omega)
theorem sync_step (s : St) (p : ByteArray) : syncS s p = stepR s (there s p) { (done s).2 with L := ins (done s).2.L { old s.L p with kept := (old s.L p).data, loose := false, anew := false } } := rfl
theorem rename_step {s : St} (hg : Good s) (f t : ByteArray) : renameS s f t = stepR s (mayRenS s f t) (putS { (done s).2 with L := drop (done s).2.L f } { old s.L f with path := t }) := by
  unfold renameS mayRenS stepR firstR
  by_cases h1 : first s f 1 ≠ 0
  · rw [if_pos h1, if_pos h1, if_pos h1, if_pos h1]
  rw [if_neg h1, if_neg h1]
  by_cases h2 : first s t 1 ≠ 0
  · rw [if_pos h2, if_pos h2, if_pos h2]
  rw [if_neg h2, if_neg h2]
  by_cases h3 : kind s.L f = 0
  · rw [if_pos (.inl h3), if_pos h3, if_pos (by decide)]
  rw [if_neg h3]
  by_cases h4 : home s.L t = false
  · rw [if_pos (.inr h4), if_pos h4, if_pos (by decide)]
  rw [if_neg (by rintro (h | h) <;> contradiction), if_neg h4]
  by_cases h5 : kind s.L f = 1
  · rw [if_pos (.inl h5), if_pos h5, if_pos (by decide)]
  rw [if_neg h5]
  by_cases h6 : kind s.L t = 1
  · rw [if_pos (.inr h6), if_pos h6, if_pos (by decide)]
  rw [if_neg (by rintro (h | h) <;> contradiction), if_neg h6]
  have e : (f ≠ t ∧ fits s t (moreS s.L f t) = false) ↔ (vol f ≠ vol t ∧ full s (vol t) (((old s.L f).data.size : Int) - (old s.L t).data.size) = true) := by
    rw [fits_full hg]
    by_cases hv : vol f = vol t
    · have hm : moreS s.L f t ≤ 0 := by
        unfold moreS
        rw [if_pos hv]
        split <;> omega
      have hf : full s (vol t) (moreS s.L f t) = false := by
        unfold full
        cases roomOf s.rooms (vol t) with
        | none => rfl
        | some r => simp only; rw [decide_eq_false (by omega), Bool.false_and]
      constructor
      · rintro ⟨_, h⟩
        rw [hf] at h
        cases h
      · rintro ⟨h, _⟩
        exact absurd hv h
    · have hft : f ≠ t := fun e => hv (by rw [e])
      have hm : moreS s.L f t = ((old s.L f).data.size : Int) - (old s.L t).data.size := by
        unfold moreS
        rw [if_neg hv]
        rcases kind_le s.L t with k | k | k
        · have ho : old s.L t = mk t := by
            unfold old
            cases hx : find s.L t with
            | none => rfl
            | some x =>
              unfold kind at k
              rw [hx] at k
              unfold kindOf at k
              simp only at k
              split at k <;> cases k
          rw [if_neg (by omega), ho]
          rfl
        · exact absurd k h6
        · rw [if_pos k]
      rw [hm]
      constructor
      · rintro ⟨_, h⟩
        refine ⟨hv, ?_⟩
        cases hb : full s (vol t) (((old s.L f).data.size : Int) - (old s.L t).data.size) with
        | true => rfl
        | false => rw [hb] at h; cases h
      · rintro ⟨_, h⟩
        refine ⟨hft, ?_⟩
        rw [h]
        rfl
  by_cases h7 : f ≠ t ∧ fits s t (moreS s.L f t) = false
  · rw [if_pos h7, if_pos (e.1 h7), if_pos (by decide)]
  · rw [if_neg h7, if_neg (fun h => h7 (e.2 h))]
    rfl
theorem mayRen_ok {s : St} {f t : ByteArray} (h : mayRenS s f t = 0) : s.down = false ∧ kind s.L f = 2 := by
  unfold mayRenS at h
  split at h
  · rename_i h1; exact absurd h h1
  rename_i h1
  split at h
  · cases h
  rename_i h2
  split at h
  · cases h
  split at h
  · cases h
  rename_i h3
  have hf : first s f 1 = 0 := by
    unfold firstR at h1
    by_cases hq : first s f 1 = 0
    · exact hq
    · rw [if_pos hq] at h1
      omega
  refine ⟨first_down hf, ?_⟩
  rcases kind_le s.L f with e | e | e
  · exact absurd e h2
  · exact absurd e h3
  · exact e
set_option maxRecDepth 100000 in
set_option maxHeartbeats 2000000 in
theorem iMkdir_any (b bi bl : Nat) (l : Int) (s : St) (p : ByteArray) (w : World) (h : Ia b bi bl l w s) (hg : Good s) (ok : Ok s) (hp : p.size ≤ 8000000000000) :
    Calls Tryz.prog 27 #[.pointer (some ⟨b, 0, none⟩), .string p] w fun e w' => e = .returned (.int .i64 ((mkdirS s p).1 : Nat)) ∧ Ip b bi bl w (mkdirS s p).2 w' := by
  have hft := h.lt
  have hn := ok.fit.1
  have hst : (done s).2.stamps ≤ 1000000000000 := by rw [done_stamps]; exact ok.stamps
  have eL := done_L s
  rw [mkdir_step]
  obtain ⟨S', hS'⟩ : ∃ S', S' = { (done s).2 with L := ins (done s).2.L ⟨p, true, ⟨#[]⟩, ⟨#[]⟩, false, false, 0⟩ } := ⟨_, rfl⟩
  rw [← hS']
  have hb1 := (Below.refl w.heap.size w).alloc (Nat.le_refl _) (.cells #[.pointer (some ⟨b, 0, none⟩)] 23)
  have k1 := cap_new w (.pointer (some ⟨b, 0, none⟩)) 23
  have k2 := cap_new (w.alloc (.cells #[.pointer (some ⟨b, 0, none⟩)] 23)) (.string p) 9
  have hs1 : (w.alloc (.cells #[.pointer (some ⟨b, 0, none⟩)] 23)).heap.size = w.heap.size + 1 := by simp
  rw [hs1] at k2
  have hb2 := hb1.alloc (by simp) (.cells #[.string p] 9)
  have k1 := cap_below k1 ((Below.refl _ _).alloc (Nat.le_refl _) (.cells #[.string p] 9))
  obtain ⟨W1, hW1⟩ : ∃ W1, W1 = ((w.alloc (.cells #[.pointer (some ⟨b, 0, none⟩)] 23)).alloc (.cells #[.string p] 9)) := ⟨_, rfl⟩
  rw [← hW1] at k1 k2 hb2
  have hb3 : Below w.heap.size w W1.drew := hb2.drew
  have cm := iMayMkdir_any b bi bl l s p W1.drew (h.below hb3) hp
  have hen : ∀ W, (callFunc 66 #[.pointer (some ⟨w.heap.size, 0, none⟩), .pointer (some ⟨w.heap.size + 1, 0, none⟩)]).run Tryz.prog W = .ok (.enter 66 #[.pointer (some ⟨w.heap.size, 0, none⟩), .pointer (some ⟨w.heap.size + 1, 0, none⟩)]) W :=
    fun W => Rg.enters Tryz.func66 (by kernel_rfl) (by kernel_rfl) _ W
  have ct : ∀ W, Below W1.heap.size W1 W → Calls Tryz.prog 64 #[.pointer (some ⟨b, 0, none⟩), .int .i64 (mayMkdirS s p : Nat), .func (.func 66) #[] #[.pointer (some ⟨w.heap.size, 0, none⟩), .pointer (some ⟨w.heap.size + 1, 0, none⟩)]] W fun e w' => e = .returned (.int .i64 ((stepR s (mayMkdirS s p) S').1 : Nat)) ∧
      (Ip b bi bl w (stepR s (mayMkdirS s p) S').2 w' ∧ Cap w' w.heap.size (.pointer (some ⟨b, 0, none⟩)) ∧ Cap w' (w.heap.size + 1) (.string p)) := by
    intro W hW
    have hbW := below_call hb2 hW
    have j1 := cap_below k1 hW
    have j2 := cap_below k2 hW
    have hnf : ∀ k, ¬ Ft b bi bl (w.heap.size + k) := fun k hk => by have := hft _ hk; omega
    refine (iStep_any b bi bl l s _ _ _ S' W (h.below hbW) (fun e => mayMkdir_down e) ok.steps hen (fun l1 W2 hr _ hI hc => ?_)).mono ?_
    · have m1 := cap_chg j1 hc (fun e => by have := hft b (.inl rfl); omega)
      have m2 := cap_chg j2 hc (fun e => by have := hft b (.inl rfl); omega)
      rw [hS']
      exact iMkdirC_any b bi bl _ _ l1 _ p W2 hI m1 m2 hp (by rw [eL]; exact hn)
    · rintro e w' ⟨rfl, l5, h5, hc5⟩
      exact ⟨rfl, ⟨l5, h5, (Chg.of_below hbW).then hc5⟩, cap_chg j1 hc5 (hnf 0), cap_chg j2 hc5 (hnf 1)⟩
  generalize stepR s (mayMkdirS s p) S' = RES at ct ⊢
  generalize mayMkdirS s p = r at cm ct
  have HW1 := Lib.hid hW1
  clear h hg ok hS' hst eL hn hft hb1 hb2 hb3 hen
  go_enter Tryz.func27, Tryz.ntmps27
  go_wp2_with fail
  rw [← HW1.out]
  refine Rg.wp_only ?_ (regMkdir _ (by kernel_rfl) _ w.heap.size (w.heap.size + 1) (.pointer (some ⟨b, 0, none⟩)) p r RES.1 W1 (fun W => Below W1.heap.size W1 W) (fun W => Ip b bi bl w RES.2 W ∧ Cap W w.heap.size (.pointer (some ⟨b, 0, none⟩)) ∧ Cap W (w.heap.size + 1) (.string p)) ⟨k1, k2⟩ (cm.mono (fun e w' he => ⟨he.1, (Below.refl _ W1).drew.trans he.2⟩)) (fun W hW => ⟨cap_below k1 hW, cap_below k2 hW⟩) ct (fun W hW => hW.2))
  rintro _ w9 ⟨rfl, h9⟩
  go_wp2_with fail
  go_ret
  exact ⟨rfl, h9.1⟩
set_option maxRecDepth 100000 in
set_option maxHeartbeats 2000000 in
theorem iWrite_any (b bi bl : Nat) (l : Int) (s : St) (p q : ByteArray) (w : World) (h : Ia b bi bl l w s) (hg : Good s) (ok : Ok s) (hp : p.size ≤ 8000000000000) (hq : q.size ≤ 1000000000000000000) :
    Calls Tryz.prog 28 #[.pointer (some ⟨b, 0, none⟩), .string p, .string q] w fun e w' => e = .returned (.int .i64 ((writeS s p q).1 : Nat)) ∧ Ip b bi bl w (writeS s p q).2 w' := by
  have hft := h.lt
  have hn := ok.fit.1
  have hst : (done s).2.stamps ≤ 1000000000000 := by rw [done_stamps]; exact ok.stamps
  have eL := done_L s
  rw [write_step hg]
  obtain ⟨S', hS'⟩ : ∃ S', S' = putS (done s).2 { old s.L p with data := q, loose := true, anew := true } := ⟨_, rfl⟩
  rw [← hS']
  have hb1 := (Below.refl w.heap.size w).alloc (Nat.le_refl _) (.cells #[.pointer (some ⟨b, 0, none⟩)] 23)
  have k1 := cap_new w (.pointer (some ⟨b, 0, none⟩)) 23
  have k2 := cap_new (w.alloc (.cells #[.pointer (some ⟨b, 0, none⟩)] 23)) (.string p) 9
  have hs1 : (w.alloc (.cells #[.pointer (some ⟨b, 0, none⟩)] 23)).heap.size = w.heap.size + 1 := by simp
  rw [hs1] at k2
  have hb2 := hb1.alloc (by simp) (.cells #[.string p] 9)
  have k1 := cap_below k1 ((Below.refl _ _).alloc (Nat.le_refl _) (.cells #[.string p] 9))
  have k3 := cap_new ((w.alloc (.cells #[.pointer (some ⟨b, 0, none⟩)] 23)).alloc (.cells #[.string p] 9)) (.string q) 9
  have hs2 : ((w.alloc (.cells #[.pointer (some ⟨b, 0, none⟩)] 23)).alloc (.cells #[.string p] 9)).heap.size = w.heap.size + 1 + 1 := by simp
  rw [hs2] at k3
  have hb2 := hb2.alloc (by simp; omega) (.cells #[.string q] 9)
  have k1 := cap_below k1 ((Below.refl _ _).alloc (Nat.le_refl _) (.cells #[.string q] 9))
  have k2 := cap_below k2 ((Below.refl _ _).alloc (Nat.le_refl _) (.cells #[.string q] 9))
  obtain ⟨W1, hW1⟩ : ∃ W1, W1 = ((w.alloc (.cells #[.pointer (some ⟨b, 0, none⟩)] 23)).alloc (.cells #[.string p] 9)).alloc (.cells #[.string q] 9) := ⟨_, rfl⟩
  rw [← hW1] at k1 k2 k3 hb2
  have hb3 : Below w.heap.size w W1.drew := hb2.drew
  have cm := iMayWrite_any b bi bl l s p q W1.drew (h.below hb3) hg.rises ok.fit hp hq
  have hen : ∀ W, (callFunc 68 #[.pointer (some ⟨w.heap.size, 0, none⟩), .pointer (some ⟨w.heap.size + 1, 0, none⟩), .pointer (some ⟨w.heap.size + 1 + 1, 0, none⟩)]).run Tryz.prog W = .ok (.enter 68 #[.pointer (some ⟨w.heap.size, 0, none⟩), .pointer (some ⟨w.heap.size + 1, 0, none⟩), .pointer (some ⟨w.heap.size + 1 + 1, 0, none⟩)]) W :=
    fun W => Rg.enters Tryz.func68 (by kernel_rfl) (by kernel_rfl) _ W
  have ct : ∀ W, Below W1.heap.size W1 W → Calls Tryz.prog 64 #[.pointer (some ⟨b, 0, none⟩), .int .i64 (mayWriteS s p q : Nat), .func (.func 68) #[] #[.pointer (some ⟨w.heap.size, 0, none⟩), .pointer (some ⟨w.heap.size + 1, 0, none⟩), .pointer (some ⟨w.heap.size + 1 + 1, 0, none⟩)]] W fun e w' => e = .returned (.int .i64 ((stepR s (mayWriteS s p q) S').1 : Nat)) ∧
      (Ip b bi bl w (stepR s (mayWriteS s p q) S').2 w' ∧ Cap w' w.heap.size (.pointer (some ⟨b, 0, none⟩)) ∧ Cap w' (w.heap.size + 1) (.string p) ∧ Cap w' (w.heap.size + 1 + 1) (.string q)) := by
    intro W hW
    have hbW := below_call hb2 hW
    have j1 := cap_below k1 hW
    have j2 := cap_below k2 hW
    have j3 := cap_below k3 hW
    have hnf : ∀ k, ¬ Ft b bi bl (w.heap.size + k) := fun k hk => by have := hft _ hk; omega
    refine (iStep_any b bi bl l s _ _ _ S' W (h.below hbW) (fun e => (mayWrite_ok e).1) ok.steps hen (fun l1 W2 hr _ hI hc => ?_)).mono ?_
    · have m1 := cap_chg j1 hc (fun e => by have := hft b (.inl rfl); omega)
      have m2 := cap_chg j2 hc (fun e => by have := hft b (.inl rfl); omega)
      have m3 := cap_chg j3 hc (fun e => by have := hft b (.inl rfl); omega)
      rw [hS']
      have c9 := iWriteC_any b bi bl _ _ _ l1 _ p q W2 hI m1 m2 m3 hp (by rw [eL]; exact hn) hst (by rw [eL]; exact old_dir (mayWrite_ok hr).2)
      rw [eL] at c9
      exact c9
    · rintro e w' ⟨rfl, l5, h5, hc5⟩
      exact ⟨rfl, ⟨l5, h5, (Chg.of_below hbW).then hc5⟩, cap_chg j1 hc5 (hnf 0), cap_chg j2 hc5 (hnf 1), cap_chg j3 hc5 (hnf 2)⟩
  generalize stepR s (mayWriteS s p q) S' = RES at ct ⊢
  generalize mayWriteS s p q = r at cm ct
  have HW1 := Lib.hid hW1
  clear h hg ok hS' hst eL hn hft hb1 hb2 hb3 hen
  go_enter Tryz.func28, Tryz.ntmps28
  go_wp2_with fail
  rw [← HW1.out]
  refine Rg.wp_only ?_ (regWrite _ (by kernel_rfl) _ w.heap.size (w.heap.size + 1) (w.heap.size + 1 + 1) (.pointer (some ⟨b, 0, none⟩)) p q r RES.1 W1 (fun W => Below W1.heap.size W1 W) (fun W => Ip b bi bl w RES.2 W ∧ Cap W w.heap.size (.pointer (some ⟨b, 0, none⟩)) ∧ Cap W (w.heap.size + 1) (.string p) ∧ Cap W (w.heap.size + 1 + 1) (.string q)) ⟨k1, k2, k3⟩ (cm.mono (fun e w' he => ⟨he.1, (Below.refl _ W1).drew.trans he.2⟩)) (fun W hW => ⟨cap_below k1 hW, cap_below k2 hW, cap_below k3 hW⟩) ct (fun W hW => hW.2))
  rintro _ w9 ⟨rfl, h9⟩
  go_wp2_with fail
  go_ret
  exact ⟨rfl, h9.1⟩
set_option maxRecDepth 100000 in
set_option maxHeartbeats 2000000 in
theorem iAppend_any (b bi bl : Nat) (l : Int) (s : St) (p q : ByteArray) (w : World) (h : Ia b bi bl l w s) (hg : Good s) (ok : Ok s) (hp : p.size ≤ 8000000000000) (hq : q.size ≤ 1000000000000000000) (hsz : (old s.L p).data.size + q.size ≤ 1000000000000000000) :
    Calls Tryz.prog 35 #[.pointer (some ⟨b, 0, none⟩), .string p, .string q] w fun e w' => e = .returned (.int .i64 ((appendS s p q).1 : Nat)) ∧ Ip b bi bl w (appendS s p q).2 w' := by
  have hft := h.lt
  have hn := ok.fit.1
  have hst : (done s).2.stamps ≤ 1000000000000 := by rw [done_stamps]; exact ok.stamps
  have eL := done_L s
  rw [append_step hg]
  obtain ⟨S', hS'⟩ : ∃ S', S' = putS (done s).2 { old s.L p with data := (old s.L p).data ++ q, loose := true } := ⟨_, rfl⟩
  rw [← hS']
  have hb1 := (Below.refl w.heap.size w).alloc (Nat.le_refl _) (.cells #[.pointer (some ⟨b, 0, none⟩)] 23)
  have k1 := cap_new w (.pointer (some ⟨b, 0, none⟩)) 23
  have k2 := cap_new (w.alloc (.cells #[.pointer (some ⟨b, 0, none⟩)] 23)) (.string p) 9
  have hs1 : (w.alloc (.cells #[.pointer (some ⟨b, 0, none⟩)] 23)).heap.size = w.heap.size + 1 := by simp
  rw [hs1] at k2
  have hb2 := hb1.alloc (by simp) (.cells #[.string p] 9)
  have k1 := cap_below k1 ((Below.refl _ _).alloc (Nat.le_refl _) (.cells #[.string p] 9))
  have k3 := cap_new ((w.alloc (.cells #[.pointer (some ⟨b, 0, none⟩)] 23)).alloc (.cells #[.string p] 9)) (.string q) 9
  have hs2 : ((w.alloc (.cells #[.pointer (some ⟨b, 0, none⟩)] 23)).alloc (.cells #[.string p] 9)).heap.size = w.heap.size + 1 + 1 := by simp
  rw [hs2] at k3
  have hb2 := hb2.alloc (by simp; omega) (.cells #[.string q] 9)
  have k1 := cap_below k1 ((Below.refl _ _).alloc (Nat.le_refl _) (.cells #[.string q] 9))
  have k2 := cap_below k2 ((Below.refl _ _).alloc (Nat.le_refl _) (.cells #[.string q] 9))
  obtain ⟨W1, hW1⟩ : ∃ W1, W1 = ((w.alloc (.cells #[.pointer (some ⟨b, 0, none⟩)] 23)).alloc (.cells #[.string p] 9)).alloc (.cells #[.string q] 9) := ⟨_, rfl⟩
  rw [← hW1] at k1 k2 k3 hb2
  have hb3 : Below w.heap.size w W1.drew := hb2.drew
  have cm := iMayAppend_any b bi bl l s p q W1.drew (h.below hb3) hg.rises ok.fit hp (by omega)
  have hen : ∀ W, (callFunc 84 #[.pointer (some ⟨w.heap.size, 0, none⟩), .pointer (some ⟨w.heap.size + 1, 0, none⟩), .pointer (some ⟨w.heap.size + 1 + 1, 0, none⟩)]).run Tryz.prog W = .ok (.enter 84 #[.pointer (some ⟨w.heap.size, 0, none⟩), .pointer (some ⟨w.heap.size + 1, 0, none⟩), .pointer (some ⟨w.heap.size + 1 + 1, 0, none⟩)]) W :=
    fun W => Rg.enters Tryz.func84 (by kernel_rfl) (by kernel_rfl) _ W
  have ct : ∀ W, Below W1.heap.size W1 W → Calls Tryz.prog 64 #[.pointer (some ⟨b, 0, none⟩), .int .i64 (mayAppendS s p q : Nat), .func (.func 84) #[] #[.pointer (some ⟨w.heap.size, 0, none⟩), .pointer (some ⟨w.heap.size + 1, 0, none⟩), .pointer (some ⟨w.heap.size + 1 + 1, 0, none⟩)]] W fun e w' => e = .returned (.int .i64 ((stepR s (mayAppendS s p q) S').1 : Nat)) ∧
      (Ip b bi bl w (stepR s (mayAppendS s p q) S').2 w' ∧ Cap w' w.heap.size (.pointer (some ⟨b, 0, none⟩)) ∧ Cap w' (w.heap.size + 1) (.string p) ∧ Cap w' (w.heap.size + 1 + 1) (.string q)) := by
    intro W hW
    have hbW := below_call hb2 hW
    have j1 := cap_below k1 hW
    have j2 := cap_below k2 hW
    have j3 := cap_below k3 hW
    have hnf : ∀ k, ¬ Ft b bi bl (w.heap.size + k) := fun k hk => by have := hft _ hk; omega
    refine (iStep_any b bi bl l s _ _ _ S' W (h.below hbW) (fun e => (mayAppend_ok e).1) ok.steps hen (fun l1 W2 hr _ hI hc => ?_)).mono ?_
    · have m1 := cap_chg j1 hc (fun e => by have := hft b (.inl rfl); omega)
      have m2 := cap_chg j2 hc (fun e => by have := hft b (.inl rfl); omega)
      have m3 := cap_chg j3 hc (fun e => by have := hft b (.inl rfl); omega)
      rw [hS']
      have c9 := iAppendC_any b bi bl _ _ _ l1 _ p q W2 hI m1 m2 m3 hp (by rw [eL]; exact hn) hst (by rw [eL]; exact (mayAppend_ok hr).2) (by rw [eL]; exact calm_old hg p) (by rw [eL]; exact hsz)
      rw [eL] at c9
      exact c9
    · rintro e w' ⟨rfl, l5, h5, hc5⟩
      exact ⟨rfl, ⟨l5, h5, (Chg.of_below hbW).then hc5⟩, cap_chg j1 hc5 (hnf 0), cap_chg j2 hc5 (hnf 1), cap_chg j3 hc5 (hnf 2)⟩
  generalize stepR s (mayAppendS s p q) S' = RES at ct ⊢
  generalize mayAppendS s p q = r at cm ct
  have HW1 := Lib.hid hW1
  clear h hg ok hS' hst eL hn hft hb1 hb2 hb3 hen
  go_enter Tryz.func35, Tryz.ntmps35
  go_wp2_with fail
  rw [← HW1.out]
  refine Rg.wp_only ?_ (regAppend _ (by kernel_rfl) _ w.heap.size (w.heap.size + 1) (w.heap.size + 1 + 1) (.pointer (some ⟨b, 0, none⟩)) p q r RES.1 W1 (fun W => Below W1.heap.size W1 W) (fun W => Ip b bi bl w RES.2 W ∧ Cap W w.heap.size (.pointer (some ⟨b, 0, none⟩)) ∧ Cap W (w.heap.size + 1) (.string p) ∧ Cap W (w.heap.size + 1 + 1) (.string q)) ⟨k1, k2, k3⟩ (cm.mono (fun e w' he => ⟨he.1, (Below.refl _ W1).drew.trans he.2⟩)) (fun W hW => ⟨cap_below k1 hW, cap_below k2 hW, cap_below k3 hW⟩) ct (fun W hW => hW.2))
  rintro _ w9 ⟨rfl, h9⟩
  go_wp2_with fail
  go_ret
  exact ⟨rfl, h9.1⟩
set_option maxRecDepth 100000 in
set_option maxHeartbeats 2000000 in
theorem iSync_any (b bi bl : Nat) (l : Int) (s : St) (p : ByteArray) (w : World) (h : Ia b bi bl l w s) (hg : Good s) (ok : Ok s) (hp : p.size ≤ 8000000000000) :
    Calls Tryz.prog 99 #[.pointer (some ⟨b, 0, none⟩), .string p] w fun e w' => e = .returned (.int .i64 ((syncS s p).1 : Nat)) ∧ Ip b bi bl w (syncS s p).2 w' := by
  have hft := h.lt
  have hn := ok.fit.1
  have hst : (done s).2.stamps ≤ 1000000000000 := by rw [done_stamps]; exact ok.stamps
  have eL := done_L s
  rw [sync_step]
  obtain ⟨S', hS'⟩ : ∃ S', S' = { (done s).2 with L := ins (done s).2.L { old s.L p with kept := (old s.L p).data, loose := false, anew := false } } := ⟨_, rfl⟩
  rw [← hS']
  have hb1 := (Below.refl w.heap.size w).alloc (Nat.le_refl _) (.cells #[.pointer (some ⟨b, 0, none⟩)] 23)
  have k1 := cap_new w (.pointer (some ⟨b, 0, none⟩)) 23
  have k2 := cap_new (w.alloc (.cells #[.pointer (some ⟨b, 0, none⟩)] 23)) (.string p) 9
  have hs1 : (w.alloc (.cells #[.pointer (some ⟨b, 0, none⟩)] 23)).heap.size = w.heap.size + 1 := by simp
  rw [hs1] at k2
  have hb2 := hb1.alloc (by simp) (.cells #[.string p] 9)
  have k1 := cap_below k1 ((Below.refl _ _).alloc (Nat.le_refl _) (.cells #[.string p] 9))
  obtain ⟨W1, hW1⟩ : ∃ W1, W1 = ((w.alloc (.cells #[.pointer (some ⟨b, 0, none⟩)] 23)).alloc (.cells #[.string p] 9)) := ⟨_, rfl⟩
  rw [← hW1] at k1 k2 hb2
  have hb3 : Below w.heap.size w W1.drew := hb2.drew
  have cm := iMaySync_any b bi bl l s p W1.drew (h.below hb3) hp
  have hen : ∀ W, (callFunc 112 #[.pointer (some ⟨w.heap.size, 0, none⟩), .pointer (some ⟨w.heap.size + 1, 0, none⟩)]).run Tryz.prog W = .ok (.enter 112 #[.pointer (some ⟨w.heap.size, 0, none⟩), .pointer (some ⟨w.heap.size + 1, 0, none⟩)]) W :=
    fun W => Rg.enters Tryz.func112 (by kernel_rfl) (by kernel_rfl) _ W
  have ct : ∀ W, Below W1.heap.size W1 W → Calls Tryz.prog 64 #[.pointer (some ⟨b, 0, none⟩), .int .i64 (there s p : Nat), .func (.func 112) #[] #[.pointer (some ⟨w.heap.size, 0, none⟩), .pointer (some ⟨w.heap.size + 1, 0, none⟩)]] W fun e w' => e = .returned (.int .i64 ((stepR s (there s p) S').1 : Nat)) ∧
      (Ip b bi bl w (stepR s (there s p) S').2 w' ∧ Cap w' w.heap.size (.pointer (some ⟨b, 0, none⟩)) ∧ Cap w' (w.heap.size + 1) (.string p)) := by
    intro W hW
    have hbW := below_call hb2 hW
    have j1 := cap_below k1 hW
    have j2 := cap_below k2 hW
    have hnf : ∀ k, ¬ Ft b bi bl (w.heap.size + k) := fun k hk => by have := hft _ hk; omega
    refine (iStep_any b bi bl l s _ _ _ S' W (h.below hbW) (fun e => (there_kind e).1) ok.steps hen (fun l1 W2 hr _ hI hc => ?_)).mono ?_
    · have m1 := cap_chg j1 hc (fun e => by have := hft b (.inl rfl); omega)
      have m2 := cap_chg j2 hc (fun e => by have := hft b (.inl rfl); omega)
      rw [hS']
      have c9 := iSyncC_any b bi bl _ _ l1 _ p W2 hI m1 m2 hp (by rw [eL]; exact hn) (by rw [eL]; exact (there_kind hr).2)
      rw [eL] at c9 ⊢
      exact c9
    · rintro e w' ⟨rfl, l5, h5, hc5⟩
      exact ⟨rfl, ⟨l5, h5, (Chg.of_below hbW).then hc5⟩, cap_chg j1 hc5 (hnf 0), cap_chg j2 hc5 (hnf 1)⟩
  generalize stepR s (there s p) S' = RES at ct ⊢
  generalize there s p = r at cm ct
  have HW1 := Lib.hid hW1
  clear h hg ok hS' hst eL hn hft hb1 hb2 hb3 hen
  go_enter Tryz.func99, Tryz.ntmps99
  go_wp2_with fail
  rw [← HW1.out]
  refine Rg.wp_only ?_ (regSync _ (by kernel_rfl) _ w.heap.size (w.heap.size + 1) (.pointer (some ⟨b, 0, none⟩)) p r RES.1 W1 (fun W => Below W1.heap.size W1 W) (fun W => Ip b bi bl w RES.2 W ∧ Cap W w.heap.size (.pointer (some ⟨b, 0, none⟩)) ∧ Cap W (w.heap.size + 1) (.string p)) ⟨k1, k2⟩ (cm.mono (fun e w' he => ⟨he.1, (Below.refl _ W1).drew.trans he.2⟩)) (fun W hW => ⟨cap_below k1 hW, cap_below k2 hW⟩) ct (fun W hW => hW.2))
  rintro _ w9 ⟨rfl, h9⟩
  go_wp2_with fail
  go_ret
  exact ⟨rfl, h9.1⟩
set_option maxRecDepth 100000 in
set_option maxHeartbeats 2000000 in
theorem iRename_any (b bi bl : Nat) (l : Int) (s : St) (p q : ByteArray) (w : World) (h : Ia b bi bl l w s) (hg : Good s) (ok : Ok s) (hp : p.size ≤ 8000000000000) (hq : q.size ≤ 8000000000000) :
    Calls Tryz.prog 33 #[.pointer (some ⟨b, 0, none⟩), .string p, .string q] w fun e w' => e = .returned (.int .i64 ((renameS s p q).1 : Nat)) ∧ Ip b bi bl w (renameS s p q).2 w' := by
  have hft := h.lt
  have hn := ok.fit.1
  have hst : (done s).2.stamps ≤ 1000000000000 := by rw [done_stamps]; exact ok.stamps
  have eL := done_L s
  rw [rename_step hg]
  obtain ⟨S', hS'⟩ : ∃ S', S' = putS { (done s).2 with L := drop (done s).2.L p } { old s.L p with path := q } := ⟨_, rfl⟩
  rw [← hS']
  have hb1 := (Below.refl w.heap.size w).alloc (Nat.le_refl _) (.cells #[.pointer (some ⟨b, 0, none⟩)] 23)
  have k1 := cap_new w (.pointer (some ⟨b, 0, none⟩)) 23
  have k2 := cap_new (w.alloc (.cells #[.pointer (some ⟨b, 0, none⟩)] 23)) (.string p) 9
  have hs1 : (w.alloc (.cells #[.pointer (some ⟨b, 0, none⟩)] 23)).heap.size = w.heap.size + 1 := by simp
  rw [hs1] at k2
  have hb2 := hb1.alloc (by simp) (.cells #[.string p] 9)
  have k1 := cap_below k1 ((Below.refl _ _).alloc (Nat.le_refl _) (.cells #[.string p] 9))
  have k3 := cap_new ((w.alloc (.cells #[.pointer (some ⟨b, 0, none⟩)] 23)).alloc (.cells #[.string p] 9)) (.string q) 9
  have hs2 : ((w.alloc (.cells #[.pointer (some ⟨b, 0, none⟩)] 23)).alloc (.cells #[.string p] 9)).heap.size = w.heap.size + 1 + 1 := by simp
  rw [hs2] at k3
  have hb2 := hb2.alloc (by simp; omega) (.cells #[.string q] 9)
  have k1 := cap_below k1 ((Below.refl _ _).alloc (Nat.le_refl _) (.cells #[.string q] 9))
  have k2 := cap_below k2 ((Below.refl _ _).alloc (Nat.le_refl _) (.cells #[.string q] 9))
  obtain ⟨W1, hW1⟩ : ∃ W1, W1 = ((w.alloc (.cells #[.pointer (some ⟨b, 0, none⟩)] 23)).alloc (.cells #[.string p] 9)).alloc (.cells #[.string q] 9) := ⟨_, rfl⟩
  rw [← hW1] at k1 k2 k3 hb2
  have hb3 : Below w.heap.size w W1.drew := hb2.drew
  have cm := iMayRename_any b bi bl l s p q W1.drew (h.below hb3) hg.rises ok.fit hp hq
  have hen : ∀ W, (callFunc 81 #[.pointer (some ⟨w.heap.size, 0, none⟩), .pointer (some ⟨w.heap.size + 1, 0, none⟩), .pointer (some ⟨w.heap.size + 1 + 1, 0, none⟩)]).run Tryz.prog W = .ok (.enter 81 #[.pointer (some ⟨w.heap.size, 0, none⟩), .pointer (some ⟨w.heap.size + 1, 0, none⟩), .pointer (some ⟨w.heap.size + 1 + 1, 0, none⟩)]) W :=
    fun W => Rg.enters Tryz.func81 (by kernel_rfl) (by kernel_rfl) _ W
  have ct : ∀ W, Below W1.heap.size W1 W → Calls Tryz.prog 64 #[.pointer (some ⟨b, 0, none⟩), .int .i64 (mayRenS s p q : Nat), .func (.func 81) #[] #[.pointer (some ⟨w.heap.size, 0, none⟩), .pointer (some ⟨w.heap.size + 1, 0, none⟩), .pointer (some ⟨w.heap.size + 1 + 1, 0, none⟩)]] W fun e w' => e = .returned (.int .i64 ((stepR s (mayRenS s p q) S').1 : Nat)) ∧
      (Ip b bi bl w (stepR s (mayRenS s p q) S').2 w' ∧ Cap w' w.heap.size (.pointer (some ⟨b, 0, none⟩)) ∧ Cap w' (w.heap.size + 1) (.string p) ∧ Cap w' (w.heap.size + 1 + 1) (.string q)) := by
    intro W hW
    have hbW := below_call hb2 hW
    have j1 := cap_below k1 hW
    have j2 := cap_below k2 hW
    have j3 := cap_below k3 hW
    have hnf : ∀ k, ¬ Ft b bi bl (w.heap.size + k) := fun k hk => by have := hft _ hk; omega
    refine (iStep_any b bi bl l s _ _ _ S' W (h.below hbW) (fun e => (mayRen_ok e).1) ok.steps hen (fun l1 W2 hr _ hI hc => ?_)).mono ?_
    · have m1 := cap_chg j1 hc (fun e => by have := hft b (.inl rfl); omega)
      have m2 := cap_chg j2 hc (fun e => by have := hft b (.inl rfl); omega)
      have m3 := cap_chg j3 hc (fun e => by have := hft b (.inl rfl); omega)
      rw [hS']
      have c9 := iRenameC_any b bi bl _ _ _ l1 _ p q W2 hI (by rw [eL]; exact hg.rises) m1 m2 m3 hp hq (by rw [eL]; exact hn) hst (by rw [eL]; exact (mayRen_ok hr).2)
      rw [eL] at c9 ⊢
      exact c9
    · rintro e w' ⟨rfl, l5, h5, hc5⟩
      exact ⟨rfl, ⟨l5, h5, (Chg.of_below hbW).then hc5⟩, cap_chg j1 hc5 (hnf 0), cap_chg j2 hc5 (hnf 1), cap_chg j3 hc5 (hnf 2)⟩
  generalize stepR s (mayRenS s p q) S' = RES at ct ⊢
  generalize mayRenS s p q = r at cm ct
  have HW1 := Lib.hid hW1
  clear h hg ok hS' hst eL hn hft hb1 hb2 hb3 hen
  go_enter Tryz.func33, Tryz.ntmps33
  go_wp2_with fail
  rw [← HW1.out]
  refine Rg.wp_only ?_ (regRename _ (by kernel_rfl) _ w.heap.size (w.heap.size + 1) (w.heap.size + 1 + 1) (.pointer (some ⟨b, 0, none⟩)) p q r RES.1 W1 (fun W => Below W1.heap.size W1 W) (fun W => Ip b bi bl w RES.2 W ∧ Cap W w.heap.size (.pointer (some ⟨b, 0, none⟩)) ∧ Cap W (w.heap.size + 1) (.string p) ∧ Cap W (w.heap.size + 1 + 1) (.string q)) ⟨k1, k2, k3⟩ (cm.mono (fun e w' he => ⟨he.1, (Below.refl _ W1).drew.trans he.2⟩)) (fun W hW => ⟨cap_below k1 hW, cap_below k2 hW, cap_below k3 hW⟩) ct (fun W hW => hW.2))
  rintro _ w9 ⟨rfl, h9⟩
  go_wp2_with fail
  go_ret
  exact ⟨rfl, h9.1⟩
end Go.Proofs.YtdpnmdnfnplcfaaGreat.Dk

namespace Go.Proofs
open Go.Shelf
def Tryz.sortS_ren : Go.Shelf.Ren := ⟨fun | 190 => 100 | 125 => 114 | 258 => 113 | 128 => 128 | 129 => 129 | 302 => 119 | 303 => 120 | 304 => 121 | 305 => 122 | 306 => 123 | 307 => 124 | 308 => 125 | 309 => 126 | 310 => 127 | 333 => 134 | 329 => 135 | 330 => 136 | 334 => 137 | 335 => 138 | 336 => 139 | 344 => 148 | n => n, fun | 31 => 58 | 9 => 9 | 3 => 3 | 46 => 119 | 0 => 0 | 51 => 140 | 53 => 101 | 4 => 4 | 183 => 134 | 182 => 133 | 131 => 131 | 5 => 5 | 218 => 143 | 222 => 147 | 228 => 151 | 229 => 152 | n => n, fun | n => n⟩
theorem Tryz.sortS : Go.Proofs.Lays.n190 Tryz.prog Tryz.sortS_ren := {
  mixed := by kernel_rfl
  f125 := Tryz.func114.trans (congrArg some (by kernel_rfl))
  f128 := Tryz.func128.trans (congrArg some (by kernel_rfl))
  f129 := Tryz.func129.trans (congrArg some (by kernel_rfl))
  f190 := Tryz.func100.trans (congrArg some (by kernel_rfl))
  f258 := Tryz.func113.trans (congrArg some (by kernel_rfl))
  f302 := Tryz.func119.trans (congrArg some (by kernel_rfl))
  f303 := Tryz.func120.trans (congrArg some (by kernel_rfl))
  f304 := Tryz.func121.trans (congrArg some (by kernel_rfl))
  f305 := Tryz.func122.trans (congrArg some (by kernel_rfl))
  f306 := Tryz.func123.trans (congrArg some (by kernel_rfl))
  f307 := Tryz.func124.trans (congrArg some (by kernel_rfl))
  f308 := Tryz.func125.trans (congrArg some (by kernel_rfl))
  f309 := Tryz.func126.trans (congrArg some (by kernel_rfl))
  f310 := Tryz.func127.trans (congrArg some (by kernel_rfl))
  f329 := Tryz.func135.trans (congrArg some (by kernel_rfl))
  f330 := Tryz.func136.trans (congrArg some (by kernel_rfl))
  f333 := Tryz.func134.trans (congrArg some (by kernel_rfl))
  f334 := Tryz.func137.trans (congrArg some (by kernel_rfl))
  f335 := Tryz.func138.trans (congrArg some (by kernel_rfl))
  f336 := Tryz.func139.trans (congrArg some (by kernel_rfl))
  f344 := Tryz.func148.trans (congrArg some (by kernel_rfl))
  t0 := Tryz.underlying0
  a0 := Tryz.isAgg0
  z0 := Tryz.sizeOf0
  v0 := Tryz.zeroValue0
  t3 := Tryz.underlying3
  a3 := Tryz.isAgg3
  z3 := Tryz.sizeOf3
  v3 := Tryz.zeroValue3
  t4 := Tryz.underlying4
  a4 := Tryz.isAgg4
  z4 := Tryz.sizeOf4
  v4 := Tryz.zeroValue4
  t5 := Tryz.underlying5
  a5 := Tryz.isAgg5
  z5 := Tryz.sizeOf5
  v5 := Tryz.zeroValue5
  t9 := Tryz.underlying9
  a9 := Tryz.isAgg9
  z9 := Tryz.sizeOf9
  v9 := Tryz.zeroValue9
  t31 := Tryz.underlying58
  a31 := Tryz.isAgg58
  z31 := Tryz.sizeOf58
  v31 := Tryz.zeroValue58
  t46 := Tryz.underlying119
  a46 := Tryz.isAgg119
  z46 := Tryz.sizeOf119
  v46 := Tryz.zeroValue119
  t51 := Tryz.underlying140
  a51 := Tryz.isAgg140
  z51 := Tryz.sizeOf140
  v51 := Tryz.zeroValue140
  t53 := Tryz.underlying101
  a53 := Tryz.isAgg101
  z53 := Tryz.sizeOf101
  v53 := Tryz.zeroValue101
  t131 := Tryz.underlying131
  a131 := Tryz.isAgg131
  z131 := Tryz.sizeOf131
  v131 := Tryz.zeroValue131
  t182 := Tryz.underlying133
  a182 := Tryz.isAgg133
  z182 := Tryz.sizeOf133
  v182 := Tryz.zeroValue133
  t183 := Tryz.underlying134
  a183 := Tryz.isAgg134
  z183 := Tryz.sizeOf134
  v183 := Tryz.zeroValue134
  t218 := Tryz.underlying143
  a218 := Tryz.isAgg143
  z218 := Tryz.sizeOf143
  v218 := Tryz.zeroValue143
  t222 := Tryz.underlying147
  a222 := Tryz.isAgg147
  z222 := Tryz.sizeOf147
  v222 := Tryz.zeroValue147
  t228 := Tryz.underlying151
  a228 := Tryz.isAgg151
  z228 := Tryz.sizeOf151
  v228 := Tryz.zeroValue151
  t229 := Tryz.underlying152
  a229 := Tryz.isAgg152
  z229 := Tryz.sizeOf152
  v229 := Tryz.zeroValue152 }
end Go.Proofs

namespace Go.Proofs.YtdpnmdnfnplcfaaGreat.Dk
open Go.RowKit Tx Pm Go.Sort Go.Lib Go.Shelf
set_option linter.unusedVariables false
theorem rising_perm : ∀ {ts l : List ByteArray}, ts.Perm l → ts.Pairwise (fun a b => Op.bytesLess b.toList a.toList = false) → l.Pairwise (fun a b => Op.bytesLess a.toList b.toList = true) → ts = l
  | ts, [], hp, _, _ => hp.eq_nil
  | [], x :: l, hp, _, _ => absurd hp.symm.eq_nil (by simp)
  | y :: t, x :: l, hp, h1, h2 => by
    obtain ⟨a1, a2⟩ := List.pairwise_cons.1 h1
    obtain ⟨b1, b2⟩ := List.pairwise_cons.1 h2
    have hyx : y = x := by
      rcases List.mem_cons.1 (hp.mem_iff.1 (List.mem_cons_self : y ∈ y :: t)) with e | hy
      · exact e
      · rcases List.mem_cons.1 (hp.mem_iff.2 (List.mem_cons_self : x ∈ x :: l)) with e | hx
        · exact e.symm
        · have := a1 x hx
          rw [b1 y hy] at this
          cases this
    subst hyx
    rw [rising_perm (List.Perm.cons_inv hp) a2 b2]
theorem less_iffS (a b : ByteArray) : Op.bytesLess a.toList b.toList = decide (a.data.toList < b.data.toList) := by
  rw [bytesLess_eq, ByteArray.toList_eq, ByteArray.toList_eq]
theorem merge_sortedS (l : List (List UInt8)) : (l.mergeSort fun x y => decide (x ≤ y)).Pairwise (fun a b => ¬ b < a) := by
  have h := List.pairwise_mergeSort (le := fun x y : List UInt8 => decide (x ≤ y)) (fun a b c h1 h2 => decide_eq_true (List.le_trans (of_decide_eq_true h1) (of_decide_eq_true h2))) (fun a b => by
    rcases List.le_total a b with h | h
    · simp [h]
    · simp [h]) l
  exact h.imp (fun hab => of_decide_eq_true hab)
theorem encSS (l : List ByteArray) : (l.map (·.data.toList)).map encStr = l.map sv := by
  rw [List.map_map]
  refine List.map_congr_left (fun x _ => ?_)
  rfl
theorem encTS (l : List (List UInt8)) : l.map encStr = (l.map tb).map sv := by
  rw [List.map_map]
  rfl
theorem below_sortSS {w : World} {B g q : Nat} {d : Array (List UInt8)} {os : Array Obj} (hg : B ≤ g) (hB : B ≤ w.heap.size) : RowKit.Below B w (grow (putRow encStr (Sort.ahead w q) g 0 d) os) := by
  have h1 : RowKit.Below B w (putRow encStr (Sort.ahead w q) g 0 d) := Lib.below_putRow (RowKit.Below.refl B w) hg
  refine ⟨h1.os, h1.tape, h1.output, by simp, fun k hk => ?_⟩
  rw [heap_grow_old _ _ (by have h2 : (putRow encStr (Sort.ahead w q) g 0 d).heap.size = w.heap.size := by simp
                            omega)]
  exact h1.block k hk
set_option maxRecDepth 100000 in
set_option maxHeartbeats 1000000 in
theorem sortS_any (v : Value) (ss : List ByteArray) (w : World) (B : Nat) (hT : Texts w B v ss) (hB : B ≤ w.heap.size) (hn : ss.length ≤ 4000000000) :
    Calls Tryz.prog 100 #[v] w fun e w' => e = .returned (.tuple #[]) ∧ ∃ ts : List ByteArray, ts.Perm ss ∧ ts.Pairwise (fun a b => Op.bytesLess b.toList a.toList = false) ∧ Texts w' B v ts ∧ RowKit.Below B w w' := by
  have hT2 := hT
  obtain ⟨hlen, h2⟩ := hT2
  rcases h2 with ⟨hv, h0⟩ | ⟨g, cap, cur, hv, hb, hg, hc, hm, hs, ht⟩
  · subst hv
    obtain rfl : ss = [] := List.length_eq_zero_iff.1 h0
    have h := Any.slices_Sort_string_none Tryz.sortS none 0 w
    change Calls Tryz.prog 100 _ _ _ at h
    refine h.mono ?_
    rintro e w' ⟨rfl, rfl⟩
    exact ⟨rfl, [], List.Perm.refl _, List.Pairwise.nil, hT, RowKit.Below.refl _ _⟩
  · subst hv
    have hlt : g < w.heap.size := (Array.getElem?_eq_some_iff.1 hg).1
    obtain ⟨zs, hz⟩ : ∃ zs, zs = ss.map (·.data.toList) := ⟨_, rfl⟩
    have hzl : zs.length = ss.length := by rw [hz, List.length_map]
    have hH : Holds encStr w g 0 zs.toArray := holds_of_block hg (by
      rw [Nat.mul_one] at ht
      rw [hzl, ht, hz, encSS])
    have h := Any.slices_Sort_string Tryz.sortS g 0 cap zs w hH hlt (by omega)
    change Calls Tryz.prog 100 _ _ _ at h
    rw [hzl] at h
    refine h.mono ?_
    rintro e w' ⟨rfl, q, os, rfl⟩
    have hml : (zs.mergeSort fun x y => decide (x ≤ y)).length = zs.length := List.length_mergeSort zs
    refine ⟨rfl, (zs.mergeSort fun x y => decide (x ≤ y)).map tb, ?_, ?_, ?_, below_sortSS hb hB⟩
    · have h1 := (List.mergeSort_perm zs (fun x y => decide (x ≤ y))).map tb
      have h2 : zs.map tb = ss := by
        rw [hz, List.map_map]
        conv => rhs; rw [← List.map_id ss]
        exact List.map_congr_left (fun x _ => tb_of x)
      rwa [h2] at h1
    · rw [List.pairwise_map]
      refine (merge_sortedS zs).imp (fun hab => ?_)
      rw [less_iffS]
      exact decide_eq_false hab
    · have h1 := ownsRow_sorted (ss := zs) (ts := zs.mergeSort fun x y => decide (x ≤ y)) (n := q) (os := os) hml hb hg (by rw [hzl]; exact hc) hm hs
      unfold Texts
      rw [List.length_map, hml, ← encTS, hzl]
      rw [hzl] at h1
      exact h1
end Go.Proofs.YtdpnmdnfnplcfaaGreat.Dk

namespace Go.Proofs.YtdpnmdnfnplcfaaGreat.Dk
open Go.RowKit Tx Pm Pl Pr
set_option linter.unusedVariables false
theorem own_base {w : World} {B C n size : Nat} {e : TypeId} {v : Value} {xs : List Value} (h : w.ownsRow C e size v n xs) (hB : B ≤ C) : w.ownsRow B e size v n xs := by
  refine ⟨h.1, ?_⟩
  rcases h.2 with h0 | ⟨g, cap, cur, hv, hg, hh, r⟩
  · exact .inl h0
  · exact .inr ⟨g, cap, cur, hv, Nat.le_trans hB hg, hh, r⟩
theorem grown_below {w w1 : World} (h : Below w.heap.size w w1) : w.grownBy w1 none := ⟨h.os, h.tape, h.output, h.size, fun i hi _ => h.block i hi⟩
theorem own_belowT {w w1 : World} {B n size : Nat} {e : TypeId} {v : Value} {xs : List Value} (h : w.ownsRow B e size v n xs) (hb : Below w.heap.size w w1) : w1.ownsRow B e size v n xs := own_kept h (fun g hg => hb.block g (h.lt g hg).2)
def held (φ : It → Bool) (l : List It) : List ByteArray := (l.filter φ).map (·.path)
theorem held_cons (φ : It → Bool) (x : It) (l : List It) : held φ (x :: l) = (if φ x = true then [x.path] else []) ++ held φ l := by
  unfold held
  cases h : φ x <;> simp [h]
theorem held_perm {φ : It → Bool} {a b : List It} (h : a.Perm b) : (held φ a).Perm (held φ b) := (h.filter φ).map _
theorem held_rises {φ : It → Bool} {l : List It} (h : Rises l) : (held φ l).Pairwise (fun a b => Op.bytesLess a.toList b.toList = true) := by
  unfold held
  rw [List.pairwise_map]
  exact List.Pairwise.filter _ h
theorem held_len (φ : It → Bool) (l : List It) : (held φ l).length ≤ l.length := by
  unfold held
  rw [List.length_map]
  exact List.length_filter_le _ _
set_option maxRecDepth 100000 in
set_option maxHeartbeats 2000000 in
theorem iPaths_any (b bi bl : Nat) (l : Int) (s : St) (f : FuncId) (cap : Array Value) (φ : It → Bool) (w : World) (h : Ia b bi bl l w s) (hR : Rises s.L) (hn : s.L.length ≤ 1000000000) (hps : ∀ x ∈ s.L, x.path.size ≤ 8000000000000)
    (hen : ∀ a1 a2 W, (callFunc f (#[a1, a2] ++ cap)).run Tryz.prog W = .ok (.enter f (#[a1, a2] ++ cap)) W)
    (cf : ∀ W x, Below w.heap.size w W → x ∈ s.L → Calls Tryz.prog f (#[.string x.path, .agg #[.int .i64 (kOf x), .string x.data, .string x.kept, .int .i64 (stOf x), .int .i64 x.stamp]] ++ cap) W fun e w' => e = .returned (.bool (φ x)) ∧ Below W.heap.size W w') :
    Calls Tryz.prog 56 #[.pointer (some ⟨b, 0, none⟩), .func (.func f) #[] cap] w (ListTo (held φ s.L) w) := by
  obtain ⟨i0, hi, hz0, hz1, hz2⟩ := info_parts info9
  obtain ⟨c0, _⟩ := h.cell
  have hm := h.items
  go_enter Tryz.func56, Tryz.ntmps56
  go_wp2_with (at_range; refine range_items _ rfl _ rfl bi s.L rfl hm ?_; intro D w0 hD hrg0 hg0 hs0)
  go_frame
  have HD := Lib.hid hD
  have HR := Lib.hid hR
  have HP := Lib.hid hps
  have HF := Lib.hid cf
  have HH := Lib.hid (fun left => Nat.le_trans (held_len φ (came s.L left)) (List.Sublist.length_le (came_sub s.L left)))
  have hsm : w.heap.size < w0.heap.size := by omega
  have HS := Lib.hid hs0
  clear hD hR hps hs0 cf
  go_loopw [5] (fun v wr => ∃ (left : Lit → Bool) (cnt T : Nat) (out : List ByteArray), wr.ranges Tryz.prog 9 itemR bi w.heap.size s.L.length D left cnt ∧ Hid (out.Perm (held φ (came s.L left))) ∧ Hid (out.length = T) ∧ T ≤ 1000000000 ∧ wr.ownsRow (w.heap.size + 1) 9 1 v T (out.map sv) ∧ Below w.heap.size w wr ∧ w.heap.size < wr.heap.size) (fun _ wr => wr.rangeLeft bi w.heap.size)
  case atStart => exact ⟨_, _, 0, [], hrg0, by show List.Perm _ _; rw [came_start HD.out]; exact List.Perm.refl _, rfl, by omega, World.ownsRow_nil _ _ _ _, (Below.refl _ _).grown hg0 (Nat.le_refl _) (fun j hj => by cases hj), hsm⟩
  case round =>
    obtain ⟨left, cnt, T, out, hrg, hout, hlen, hT, hown, hB, hlt⟩ := hrel
    go_wp2_with (at_next; refine next_items _ rfl _ rfl bi w.heap.size s.L.length D left cnt s.L rfl hrg HD.out ?_ ?_)
    · intro hl
      have hp := hout.out
      rw [came_end s.L hl] at hp
      have hO : Texts wr w.heap.size _ out := own_toT (own_base hown (Nat.le_succ _)) hlen.out
      have hol : out.length ≤ 4000000000 := by rw [hlen.out]; omega
      have cs := sortS_any _ out wr w.heap.size hO hB.size hol
      have HPM := Lib.hid hp
      clear hl hp hO hrg h hout hlen hown hol
      go_wp2_with (go_at_call 100; refine cs.mono ?_; rintro e w5 ⟨rfl, ts, hts, hso, htx, hb5⟩)
      go_ret
      obtain rfl : ts = held φ s.L := rising_perm (hts.trans HPM.out) hso (held_rises HR.out)
      exact ⟨_, rfl, htx, hB.trans hb5⟩
    · intro x w1 cnt1 hx hlx hrg1 hlt1 hg1 hs1 hen1
      have hst := held_perm (φ := φ) (came_step hlx HR.out hx)
      rw [held_cons] at hst
      have hbd := HH.out (less left x.path)
      have hlen2 := hst.length_eq
      have hme : cnt1 < wr.rangeLeft bi w.heap.size := by rw [hrg.left_eq]; exact hlt1
      have hb1 : Below w.heap.size w w1 := below_grown hB hg1 (Nat.le_of_lt hlt) (Nat.le_refl _)
      have hs2 : w.heap.size < w1.heap.size := by omega
      have hrg2 := hrg1.alloc (.cells #[.int .i64 (kOf x), .string x.data, .string x.kept, .int .i64 (stOf x), .int .i64 x.stamp] 97)
      have hb3 := hb1.alloc (Nat.le_of_lt hs2) (.cells #[.int .i64 (kOf x), .string x.data, .string x.kept, .int .i64 (stOf x), .int .i64 x.stamp] 97)
      have cx := HF.out _ x hb3 hx
      have hown1 := hown.kept hg1 (.inr (fun e => by have := (hown.lt _ e).1; omega))
      have HME := Lib.hid hme
      have HS1 := Lib.hid hs1
      clear hs1
      cases hφ : φ x with
      | true =>
        rw [hφ] at cx
        rw [hφ, if_pos rfl, List.length_append, List.length_singleton] at hlen2
        rw [hφ, if_pos rfl] at hst
        have hT2 : T + 1 ≤ 1000000000 := by have := hout.out.length_eq; have := hlen.out; omega
        have hpm : (out ++ [x.path]).Perm (held φ (came s.L (less left x.path))) := (List.perm_append_comm.trans (hout.out.append_left [x.path])).trans hst.symm
        have HPM := Lib.hid hpm
        have HSZ := Lib.hid (show w.heap.size + 1 ≤ w1.heap.size by omega)
        have HLN := Lib.hid (show (out ++ [x.path]).length = T + 1 by rw [List.length_append, hlen.out]; rfl)
        have HB3 := Lib.hid hb3
        clear hst hlen2 hbd hlx hx hpm hout hlen hrg hrg1 hlt1 hg1 hme hown h
        go_wp2_with fail
        refine cx.mono ?_
        rintro e w5 ⟨rfl, hb5⟩
        have hown5 := own_belowT (hown1.alloc (.cells #[.int .i64 (kOf x), .string x.data, .string x.kept, .int .i64 (stOf x), .int .i64 x.stamp] 97)) hb5
        have hB5 := below_call HB3.out hb5
        have hrg5 := hrg2.kept (grown_below hb5) (by simp) (by simp)
        have hz5 : w1.heap.size + 1 ≤ w5.heap.size := by have := hb5.size; simpa using this
        have hS := HSZ.out
        go_wp2_with (at_builtin; refine wpList_append_own _ rfl _ _ 58 rfl (w.heap.size + 1) 9 i0 (.string ⟨#[]⟩) 1 16 Tryz.underlying58 hi hz0 hz1 hz2 rfl (by decide) _ _ _ rfl (hown5.alloc _) ⟨w5.heap.size, 0, none⟩ 1 1 [sv x.path] rfl rfl ?c1_2 ?c2_2 ?c3_2 ?c4_2 ?c5_2 ?_)
        case c1_2 => exact cell_one_new _ _ _
        case c2_2 => exact sv_one [x.path]
        case c3_2 => unfold maxLen; omega
        case c4_2 => omega
        case c5_2 => first | (simp; omega) | omega
        intro v' w6 hown' hgrow _
        have ho6 : w6.ownsRow (w.heap.size + 1) 9 1 v' (T + 1) ((out ++ [x.path]).map sv) := by
          rw [List.map_append]
          exact hown'
        have hB6 : Below w.heap.size w w6 := (hB5.alloc hB5.size _).grown hgrow (by have := hB5.size; simp; omega) (fun k hk => by have := (hown5.lt k hk).1; omega)
        have hlb : bi < w.heap.size := hm.lt
        have hrg6 := (hrg5.alloc (.cells #[.string x.path] 9)).kept hgrow (fun e => by have := (hown5.lt _ e.symm).1; omega) (fun e => by have := (hown5.lt _ e.symm).1; omega)
        have hle6 : w.heap.size < w6.heap.size := by have := hgrow.size; simp at this; omega
        have hme6 : w6.rangeLeft bi w.heap.size < wr.rangeLeft bi w.heap.size := by rw [hrg6.left_eq]; exact HME.out
        have HM6 := Lib.hid hme6
        have HO6 := Lib.hid ho6
        clear hown5 hrg5 hown' hgrow hme6 hown1 hrg2 ho6
        go_wp2_with fail
        go_roundw
        case rel => exact ⟨less left x.path, cnt1, T + 1, out ++ [x.path], hrg6, HPM, HLN, hT2, HO6.out, hB6, hle6⟩
        case measure => exact HM6.out
      | false =>
        rw [hφ] at cx
        rw [hφ, if_neg (by decide), List.nil_append] at hst
        have hpm : out.Perm (held φ (came s.L (less left x.path))) := hout.out.trans hst.symm
        have HPM := Lib.hid hpm
        have HB3 := Lib.hid hb3
        clear hst hlen2 hbd hlx hx hpm hout hrg hrg1 hlt1 hg1 hme hown h
        go_wp2_with fail
        refine cx.mono ?_
        rintro e w5 ⟨rfl, hb5⟩
        have hown5 := own_belowT (hown1.alloc (.cells #[.int .i64 (kOf x), .string x.data, .string x.kept, .int .i64 (stOf x), .int .i64 x.stamp] 97)) hb5
        have hB5 := below_call HB3.out hb5
        have hrg5 := hrg2.kept (grown_below hb5) (by simp) (by simp)
        have hz5 : w1.heap.size + 1 ≤ w5.heap.size := by have := hb5.size; simpa using this
        have hme5 : w5.rangeLeft bi w.heap.size < wr.rangeLeft bi w.heap.size := by rw [hrg5.left_eq]; exact HME.out
        have HM5 := Lib.hid hme5
        clear hme5 hown1 hrg2
        go_wp2_with fail
        go_roundw
        case rel => exact ⟨less left x.path, cnt1, T, out, hrg5, HPM, hlen, hT, hown5, hB5, by omega⟩
        case measure => exact HM5.out
def inP (p : ByteArray) (x : It) : Bool := decide (tb (par x.path.data.toList) = p)
theorem held_list (l : List It) (p : ByteArray) : held (inP p) l = list l p := rfl
set_option maxRecDepth 100000 in
set_option maxHeartbeats 1000000 in
theorem iParent_any (s : ByteArray) (w : World) (hs : s.size ≤ 562949953421312) :
    Calls Tryz.prog 63 #[.string s] w fun e w' => e = .returned (.string (tb (par s.data.toList))) ∧ w' = w := by
  have cl := fun W => lastStroke_any s W hs
  have hL := lastN_le s.data.toList
  rw [len_l] at hL
  rw [← par_ext]
  obtain ⟨L, hLe⟩ : ∃ L, L = lastN s.data.toList := ⟨_, rfl⟩
  rw [← hLe] at cl hL ⊢
  clear hLe
  by_cases h0 : L = 0
  · subst h0
    go_enter Tryz.func63, Tryz.ntmps63
    go_wp2_with (go_at_call 103; refine (cl _).mono ?_; rintro e w1 ⟨rfl, rfl⟩)
    go_ret
    exact ⟨by simp; exact .inl (by decide), rfl⟩
  · obtain ⟨K, rfl⟩ : ∃ K, L = K + 1 := ⟨L - 1, by omega⟩
    have e1 : ((K + 1 : Nat) : Int) - 1 = K := by omega
    rw [e1] at cl
    rw [Nat.add_sub_cancel]
    clear h0
    go_enter Tryz.func63, Tryz.ntmps63
    go_wp2_with (go_at_call 103; refine (cl _).mono ?_; rintro e w1 ⟨rfl, rfl⟩)
    go_ret
    exact ⟨rfl, rfl⟩
set_option maxRecDepth 100000 in
set_option maxHeartbeats 1000000 in
theorem iListC_any (g : Nat) (p : ByteArray) (x : It) (w : World) (hp : w.cell? ⟨g, 0, none⟩ = some (.string p)) (hx : x.path.size ≤ 8000000000000) :
    Calls Tryz.prog 62 #[.string x.path, .agg #[.int .i64 (kOf x), .string x.data, .string x.kept, .int .i64 (stOf x), .int .i64 x.stamp], .pointer (some ⟨g, 0, none⟩)] w fun e w' => e = .returned (.bool (inP p x)) ∧ Below w.heap.size w w' := by
  have cp := fun W => iParent_any x.path W (by omega)
  have hg := World.block_lt_of_cell? w _ hp
  unfold inP
  generalize tb (par x.path.data.toList) = V at cp ⊢
  have hb := fun o n => below_call ((Below.refl _ w).alloc (Nat.le_refl _) o) (below_drewN _ n)
  have HB := Lib.hid hb
  clear hb
  by_cases hv : V = p
  · have e1 : (V.toList == p.toList) = true := by rw [hv]; exact beq_self_eq_true _
    rw [decide_eq_true hv]
    clear hv
    go_enter Tryz.func62, Tryz.ntmps62
    go_wp2_with fail
    go_quiet ((go_at_call 63; exact Calls.quiet_of_same (cp _)))
    go_wp2
    go_ret
    exact ⟨rfl, HB.out _ _⟩
  · have e1 : (V.toList == p.toList) = false := bytes_ne hv
    rw [decide_eq_false hv]
    clear hv
    go_enter Tryz.func62, Tryz.ntmps62
    go_wp2_with fail
    go_quiet ((go_at_call 63; exact Calls.quiet_of_same (cp _)))
    go_wp2
    go_ret
    exact ⟨rfl, HB.out _ _⟩
set_option maxRecDepth 100000 in
theorem iRestC_any (x : It) (w : World) :
    Calls Tryz.prog 57 #[.string x.path, .agg #[.int .i64 (kOf x), .string x.data, .string x.kept, .int .i64 (stOf x), .int .i64 x.stamp]] w fun e w' => e = .returned (.bool x.loose) ∧ Below w.heap.size w w' := by
  have HB := Lib.hid (fun o => (Below.refl _ w).alloc (Nat.le_refl _) o)
  have hs : (x.loose = false ∧ stOf x = 0) ∨ (x.loose = true ∧ (stOf x = 1 ∨ stOf x = 2)) := by
    unfold stOf
    cases x.loose <;> cases x.anew <;> simp
  generalize stOf x = T at hs ⊢
  rcases hs with ⟨h1, rfl⟩ | ⟨h1, rfl | rfl⟩ <;> rw [h1]
  all_goals
    clear h1
    go_enter Tryz.func57, Tryz.ntmps57
    go_wp2
    go_ret
    exact ⟨rfl, HB.out _⟩
set_option maxRecDepth 100000 in
set_option maxHeartbeats 1000000 in
theorem iList_any (b bi bl : Nat) (l : Int) (s : St) (p : ByteArray) (w : World) (h : Ia b bi bl l w s) (hR : Rises s.L) (hn : s.L.length ≤ 1000000000) (hps : ∀ x ∈ s.L, x.path.size ≤ 8000000000000) :
    Calls Tryz.prog 26 #[.pointer (some ⟨b, 0, none⟩), .string p] w (ListTo (list s.L p) w) := by
  have hb := (Below.refl _ w).alloc (Nat.le_refl _) (.cells #[.string p] 9)
  have hc : (w.alloc (.cells #[.string p] 9)).cell? ⟨w.heap.size, 0, none⟩ = some (.string p) := by rw [World.cell?_alloc_at _ _ _ _ rfl]; rfl
  have cp := iPaths_any b bi bl l s 62 #[.pointer (some ⟨w.heap.size, 0, none⟩)] (inP p) _ (h.below hb) hR hn hps (fun a1 a2 W => Rg.enters Tryz.func62 (by kernel_rfl) (by kernel_rfl) _ W)
    (fun W x hW hx => iListC_any w.heap.size p x W ((hW.cell (p := ⟨w.heap.size, 0, none⟩) (by simp)).trans hc) (hps x hx))
  rw [held_list] at cp
  clear hc h
  go_enter Tryz.func26, Tryz.ntmps26
  go_wp2_with (go_at_call 56; refine cp.mono ?_; rintro e w1 ⟨v, rfl, hT, hb1⟩)
  go_ret
  exact ⟨_, rfl, own_base hT (by simp), below_call hb hb1⟩
end Go.Proofs.YtdpnmdnfnplcfaaGreat.Dk

namespace Go.Proofs.YtdpnmdnfnplcfaaGreat.Dk
open Go.RowKit Tx Pm Pl Pr
set_option linter.unusedVariables false
def mayRemoveS (s : St) (p : ByteArray) : Nat := if first s p 0 ≠ 0 then first s p 0 else if kind s.L p = 0 then 11 else if list s.L p ≠ [] then 12 else 0
set_option maxRecDepth 100000 in
set_option maxHeartbeats 1000000 in
theorem iMayRemove_any (b bi bl : Nat) (l : Int) (s : St) (p : ByteArray) (w : World) (h : Ia b bi bl l w s) (hR : Rises s.L) (hf : Fit s) (hp : p.size ≤ 8000000000000) :
    Calls Tryz.prog 76 #[.pointer (some ⟨b, 0, none⟩), .string p] w fun e w' => e = .returned (.int .i64 (mayRemoveS s p : Nat)) ∧ Below w.heap.size w w' := by
  have c1 := ready1 b bi bl 0 1 l s p w h (by omega) rfl hp
  have c2 := fun W (hW : Below w.heap.size w W) => iList_any b bi bl l s p W (h.below hW) hR hf.1 hf.2.1
  have HL := Lib.hid (fun W (hW : Below w.heap.size w W) => (h.below hW).look (maxLen_of hp))
  have HC := Lib.hid (fun W (hW : Below w.heap.size w W) => (h.below hW).cell.1)
  have hll : (list s.L p).length ≤ 1000000000 := Nat.le_trans (held_len (inP p) s.L) hf.1
  have f0 := fld0
  unfold mayRemoveS
  generalize first s p 0 = E at c1 ⊢
  generalize kind s.L p = K at HL ⊢
  generalize list s.L p = LL at c2 hll ⊢
  clear h hR hf
  by_cases hE : E = 0
  · subst hE
    rw [if_neg (by decide)]
    by_cases hK : K = 0
    · subst hK
      rw [if_pos rfl]
      go_enter Tryz.func76, Tryz.ntmps76
      go_wp2_with (first | (go_at_call 104; refine c1.mono ?_; rintro e w1 ⟨rfl, hb1⟩; have l0 := HL.out _ hb1; have g0 := HC.out _ hb1) | (go_at_call 26; refine (c2 _ hb1).mono ?_; rintro e w2 ⟨v, rfl, hT, hb2⟩; obtain ⟨a2, k2, rfl, _, _, _⟩ := hT.form; clear hT))
      go_ret
      exact ⟨rfl, hb1⟩
    · rw [if_neg hK]
      have e1 := ne_eq hK
      clear hK
      cases LL with
      | nil =>
        rw [if_neg (fun e => e rfl)]
        go_enter Tryz.func76, Tryz.ntmps76
        go_wp2_with (first | (go_at_call 104; refine c1.mono ?_; rintro e w1 ⟨rfl, hb1⟩; have l0 := HL.out _ hb1; have g0 := HC.out _ hb1) | (go_at_call 26; refine (c2 _ hb1).mono ?_; rintro e w2 ⟨v, rfl, hT, hb2⟩; obtain ⟨a2, k2, rfl, _, _, _⟩ := hT.form; clear hT))
        go_ret
        exact ⟨rfl, below_call hb1 hb2⟩
      | cons q LL =>
        rw [if_pos (by simp)]
        obtain ⟨m, hm⟩ : ∃ m, m = (q :: LL).length := ⟨_, rfl⟩
        have hm1 : 0 < m := by rw [hm]; simp
        rw [← hm] at hll
        have HM := Lib.hid hm
        clear hm
        go_enter Tryz.func76, Tryz.ntmps76
        go_wp2_with (first | (go_at_call 104; refine c1.mono ?_; rintro e w1 ⟨rfl, hb1⟩; have l0 := HL.out _ hb1; have g0 := HC.out _ hb1) | (go_at_call 26; refine (c2 _ hb1).mono ?_; rintro e w2 ⟨v, rfl, hT, hb2⟩; obtain ⟨a2, k2, rfl, _, _, _⟩ := hT.form; rw [← HM.out]; clear hT))
        go_ret
        exact ⟨rfl, below_call hb1 hb2⟩
  · rw [if_pos hE]
    have e1 := ne_eq hE
    clear hE
    go_enter Tryz.func76, Tryz.ntmps76
    go_wp2_with (first | (go_at_call 104; refine c1.mono ?_; rintro e w1 ⟨rfl, hb1⟩; have l0 := HL.out _ hb1; have g0 := HC.out _ hb1) | (go_at_call 26; refine (c2 _ hb1).mono ?_; rintro e w2 ⟨v, rfl, hT, hb2⟩; obtain ⟨a2, k2, rfl, _, _, _⟩ := hT.form; clear hT))
    go_ret
    exact ⟨rfl, hb1⟩
end Go.Proofs.YtdpnmdnfnplcfaaGreat.Dk

namespace Go.Proofs.YtdpnmdnfnplcfaaGreat.Dk
open Go.RowKit Tx Pm Pl Pr
set_option linter.unusedVariables false
theorem remove_step (s : St) (p : ByteArray) : removeS s p = stepR s (mayRemoveS s p) { (done s).2 with L := drop (done s).2.L p } := by
  unfold removeS mayRemoveS stepR
  by_cases h1 : first s p 0 ≠ 0
  · rw [if_pos h1, if_pos h1, if_pos h1]
  · rw [if_neg h1, if_neg h1]
    by_cases h2 : kind s.L p = 0
    · rw [if_pos h2, if_pos h2, if_pos (by decide)]
    · rw [if_neg h2, if_neg h2]
      by_cases h3 : list s.L p ≠ []
      · rw [if_pos h3, if_pos h3, if_pos (by decide)]
      · rw [if_neg h3, if_neg h3]
        rfl
theorem mayRemove_down {s : St} {p : ByteArray} (h : mayRemoveS s p = 0) : s.down = false := by
  unfold mayRemoveS at h
  split at h
  · rename_i h1; exact absurd h h1
  · rename_i h1; exact first_down (p := p) (m := 0) (by omega)
set_option maxRecDepth 100000 in
set_option maxHeartbeats 2000000 in
theorem iRemove_any (b bi bl : Nat) (l : Int) (s : St) (p : ByteArray) (w : World) (h : Ia b bi bl l w s) (hg : Good s) (ok : Ok s) (hp : p.size ≤ 8000000000000) :
    Calls Tryz.prog 31 #[.pointer (some ⟨b, 0, none⟩), .string p] w fun e w' => e = .returned (.int .i64 ((removeS s p).1 : Nat)) ∧ Ip b bi bl w (removeS s p).2 w' := by
  have hft := h.lt
  have hn := ok.fit.1
  have hst : (done s).2.stamps ≤ 1000000000000 := by rw [done_stamps]; exact ok.stamps
  have eL := done_L s
  rw [remove_step]
  obtain ⟨S', hS'⟩ : ∃ S', S' = { (done s).2 with L := drop (done s).2.L p } := ⟨_, rfl⟩
  rw [← hS']
  have hb1 := (Below.refl w.heap.size w).alloc (Nat.le_refl _) (.cells #[.pointer (some ⟨b, 0, none⟩)] 23)
  have k1 := cap_new w (.pointer (some ⟨b, 0, none⟩)) 23
  have k2 := cap_new (w.alloc (.cells #[.pointer (some ⟨b, 0, none⟩)] 23)) (.string p) 9
  have hs1 : (w.alloc (.cells #[.pointer (some ⟨b, 0, none⟩)] 23)).heap.size = w.heap.size + 1 := by simp
  rw [hs1] at k2
  have hb2 := hb1.alloc (by simp) (.cells #[.string p] 9)
  have k1 := cap_below k1 ((Below.refl _ _).alloc (Nat.le_refl _) (.cells #[.string p] 9))
  obtain ⟨W1, hW1⟩ : ∃ W1, W1 = ((w.alloc (.cells #[.pointer (some ⟨b, 0, none⟩)] 23)).alloc (.cells #[.string p] 9)) := ⟨_, rfl⟩
  rw [← hW1] at k1 k2 hb2
  have hb3 : Below w.heap.size w W1.drew := hb2.drew
  have cm := iMayRemove_any b bi bl l s p W1.drew (h.below hb3) hg.rises ok.fit hp
  have hen : ∀ W, (callFunc 77 #[.pointer (some ⟨w.heap.size, 0, none⟩), .pointer (some ⟨w.heap.size + 1, 0, none⟩)]).run Tryz.prog W = .ok (.enter 77 #[.pointer (some ⟨w.heap.size, 0, none⟩), .pointer (some ⟨w.heap.size + 1, 0, none⟩)]) W :=
    fun W => Rg.enters Tryz.func77 (by kernel_rfl) (by kernel_rfl) _ W
  have ct : ∀ W, Below W1.heap.size W1 W → Calls Tryz.prog 64 #[.pointer (some ⟨b, 0, none⟩), .int .i64 (mayRemoveS s p : Nat), .func (.func 77) #[] #[.pointer (some ⟨w.heap.size, 0, none⟩), .pointer (some ⟨w.heap.size + 1, 0, none⟩)]] W fun e w' => e = .returned (.int .i64 ((stepR s (mayRemoveS s p) S').1 : Nat)) ∧
      (Ip b bi bl w (stepR s (mayRemoveS s p) S').2 w' ∧ Cap w' w.heap.size (.pointer (some ⟨b, 0, none⟩)) ∧ Cap w' (w.heap.size + 1) (.string p)) := by
    intro W hW
    have hbW := below_call hb2 hW
    have j1 := cap_below k1 hW
    have j2 := cap_below k2 hW
    have hnf : ∀ k, ¬ Ft b bi bl (w.heap.size + k) := fun k hk => by have := hft _ hk; omega
    refine (iStep_any b bi bl l s _ _ _ S' W (h.below hbW) (fun e => mayRemove_down e) ok.steps hen (fun l1 W2 hr _ hI hc => ?_)).mono ?_
    · have m1 := cap_chg j1 hc (fun e => by have := hft b (.inl rfl); omega)
      have m2 := cap_chg j2 hc (fun e => by have := hft b (.inl rfl); omega)
      rw [hS']
      exact iRemoveC_any b bi bl _ _ l1 _ p W2 hI (by rw [eL]; exact hg.rises) m1 m2 hp
    · rintro e w' ⟨rfl, l5, h5, hc5⟩
      exact ⟨rfl, ⟨l5, h5, (Chg.of_below hbW).then hc5⟩, cap_chg j1 hc5 (hnf 0), cap_chg j2 hc5 (hnf 1)⟩
  generalize stepR s (mayRemoveS s p) S' = RES at ct ⊢
  generalize mayRemoveS s p = r at cm ct
  have HW1 := Lib.hid hW1
  clear h hg ok hS' hst eL hn hft hb1 hb2 hb3 hen
  go_enter Tryz.func31, Tryz.ntmps31
  go_wp2_with fail
  rw [← HW1.out]
  refine Rg.wp_only ?_ (regRemove _ (by kernel_rfl) _ w.heap.size (w.heap.size + 1) (.pointer (some ⟨b, 0, none⟩)) p r RES.1 W1 (fun W => Below W1.heap.size W1 W) (fun W => Ip b bi bl w RES.2 W ∧ Cap W w.heap.size (.pointer (some ⟨b, 0, none⟩)) ∧ Cap W (w.heap.size + 1) (.string p)) ⟨k1, k2⟩ (cm.mono (fun e w' he => ⟨he.1, (Below.refl _ W1).drew.trans he.2⟩)) (fun W hW => ⟨cap_below k1 hW, cap_below k2 hW⟩) ct (fun W hW => hW.2))
  rintro _ w9 ⟨rfl, h9⟩
  go_wp2_with fail
  go_ret
  exact ⟨rfl, h9.1⟩
end Go.Proofs.YtdpnmdnfnplcfaaGreat.Dk

namespace Go.Proofs.YtdpnmdnfnplcfaaGreat.Dk
open Go.RowKit Tx Pm Pl Pr
set_option linter.unusedVariables false
theorem read_old {s : St} (hg : Good s) (p : ByteArray) (hd : s.down = false) : readS s p = ((old s.L p).data, mbf s.L p) := by
  unfold readS mbf kind old
  rw [hd, if_neg (by decide)]
  cases hf : find s.L p with
  | none => rfl
  | some x =>
    unfold kindOf
    simp only [Option.getD_some]
    by_cases hx : x.dir = true
    · rw [(hg.dirs x (find_mem hf).1 hx).1]
      simp [hx]
    · simp [hx]
set_option maxRecDepth 100000 in
set_option maxHeartbeats 1000000 in
theorem iRead_any (b bi bl : Nat) (l : Int) (s : St) (p : ByteArray) (w : World) (h : Ia b bi bl l w s) (hg : Good s) (hp : p.size ≤ 8000000000000) :
    Calls Tryz.prog 94 #[.pointer (some ⟨b, 0, none⟩), .string p] w fun e w' => e = .returned (.tuple #[.string (readS s p).1, .int .i64 ((readS s p).2 : Nat)]) ∧ Below w.heap.size w w' := by
  have cm := fun n => iMbf_any b bi bl l s p (w.drewN n) (h.below (below_drewN _ _)) hp
  have hl := fun n => (h.below (below_drewN w n)).look (maxLen_of hp)
  obtain ⟨c0, c1, c2, c3, c4, c5⟩ := h.cell
  have hro := read_old hg p
  have hrd : s.down = true → readS s p = (⟨#[]⟩, 14) := fun e => by unfold readS; rw [if_pos e]
  have f1 := fld1
  generalize (old s.L p).data = X0 at hl hro
  generalize (old s.L p).kept = X1 at hl
  generalize stOf (old s.L p) = X2 at hl
  generalize ((old s.L p).stamp : Int) = X3 at hl
  generalize kind s.L p = K at hl
  generalize mbf s.L p = M at cm hro
  generalize readS s p = R at hro hrd ⊢
  generalize s.down = D at c5 hro hrd
  clear h hg c1 c2 c3 c4
  have HB := Lib.hid (fun n => below_drewN w n)
  cases D with
  | true =>
    rw [hrd rfl]
    clear hro hrd cm hl
    go_enter Tryz.func94, Tryz.ntmps94
    go_wp2
    go_ret2
    exact ⟨rfl, Below.refl _ _⟩
  | false =>
    rw [hro rfl]
    clear hro hrd
    go_enter Tryz.func94, Tryz.ntmps94
    go_wp2_with fail
    have hl0 := hl
    go_quiet ((go_at_call 108; exact (cm _).mono (fun _ _ ⟨he, hw⟩ => ⟨he, _, hw.symm⟩)))
    go_wp2
    go_ret2
    exact ⟨rfl, HB.out _⟩
set_option maxRecDepth 100000 in
theorem iNew_any (w : World) : Calls Tryz.prog 5 #[] w fun e w' => ∃ b bi bl, e = .returned (.pointer (some ⟨b, 0, none⟩)) ∧ Ia b bi bl (-1) w' newS ∧ (∀ i, Ft b bi bl i → w.heap.size ≤ i) ∧ Below w.heap.size w w' := by
  have hmm := @run_makeMap Tryz.prog
  have b1 := (Below.refl w.heap.size w).alloc (Nat.le_refl _) (.map #[] 0)
  have b2 := b1.alloc (by simp) (.map #[] 0)
  have b3 := b2.alloc (by simp; omega) (.cells #[.map (some w.heap.size), .map (some (w.heap.size + 1)), .int .i64 (-1), .int .i64 0, .int .i64 0, .bool false] 64)
  have hI : Ia (w.heap.size + 1 + 1) w.heap.size (w.heap.size + 1) (-1) (((w.alloc (.map #[] 0)).alloc (.map #[] 0)).alloc (.cells #[.map (some w.heap.size), .map (some (w.heap.size + 1)), .int .i64 (-1), .int .i64 0, .int .i64 0, .bool false] 64)) newS := by
    refine ⟨new_at _ _ (by simp), ?_, ?_, by omega, .inr rfl, by omega⟩
    · refine (mp_made w).kept ?_
      have := (((Below.refl _ (w.alloc (.map #[] 0))).alloc (Nat.le_refl _) (.map #[] 0)).alloc (by simp) (.cells #[.map (some w.heap.size), .map (some (w.heap.size + 1)), .int .i64 (-1), .int .i64 0, .int .i64 0, .bool false] 64)).block w.heap.size (by simp)
      exact this
    · have hl := lm_made (w.alloc (.map #[] 0))
      have e : (w.alloc (.map #[] 0)).heap.size = w.heap.size + 1 := by simp
      rw [e] at hl
      refine hl.kept ?_
      have := ((Below.refl _ ((w.alloc (.map #[] 0)).alloc (.map #[] 0))).alloc (Nat.le_refl _) (.cells #[.map (some w.heap.size), .map (some (w.heap.size + 1)), .int .i64 (-1), .int .i64 0, .int .i64 0, .bool false] 64)).block (w.heap.size + 1) (by simp)
      exact this
  have HE := Lib.hid (show ∃ b bi bl, (Ending.returned (.pointer (some ⟨w.heap.size + 1 + 1, 0, none⟩))) = .returned (.pointer (some ⟨b, 0, none⟩)) ∧ Ia b bi bl (-1) (((w.alloc (.map #[] 0)).alloc (.map #[] 0)).alloc (.cells #[.map (some w.heap.size), .map (some (w.heap.size + 1)), .int .i64 (-1), .int .i64 0, .int .i64 0, .bool false] 64)) newS ∧ (∀ i, Ft b bi bl i → w.heap.size ≤ i) ∧ Below w.heap.size w (((w.alloc (.map #[] 0)).alloc (.map #[] 0)).alloc (.cells #[.map (some w.heap.size), .map (some (w.heap.size + 1)), .int .i64 (-1), .int .i64 0, .int .i64 0, .bool false] 64)) from
    ⟨_, _, _, rfl, hI, fun i hi => by rcases hi with rfl | rfl | rfl <;> omega, b3⟩)
  clear hI b1 b2 b3
  go_enter Tryz.func5, Tryz.ntmps5
  go_wp2
  go_ret
  exact HE.out
end Go.Proofs.YtdpnmdnfnplcfaaGreat.Dk

namespace Go.Proofs.YtdpnmdnfnplcfaaGreat.Dk
open Go.RowKit Tx Pm
set_option linter.unusedVariables false
theorem div_nat (x d : Nat) : (x : Int) / (d : Int) = ((x / d : Nat) : Int) := (Int.natCast_ediv x d).symm
set_option maxRecDepth 100000 in
set_option maxHeartbeats 1000000 in
theorem iMix_any (loss : Int) (i : Nat) (w : World) (hl : -9223372036854775808 ≤ loss ∧ loss ≤ 9223372036854775807) (hi : i ≤ 2000000000) :
    Calls Tryz.prog 60 #[.int .i64 loss, .int .i64 (i : Nat)] w fun e w' => e = .returned (.int .u64 (mix (u64 loss) i : Nat)) ∧ w' = w := by
  go_enter Tryz.func60, Tryz.ntmps60
  go_wp2
  go_ret
  refine ⟨?_, rfl⟩
  have hA : IntKind.u64.wrap (IntKind.u64.wrap loss + IntKind.u64.wrap ((i : Int) * 11400714819323198485)) = ((mixA (u64 loss) i : Nat) : Int) := by
    have hu := u64_eq loss
    have hlt := u64_lt loss
    rw [hu]
    generalize u64 loss = a at hlt
    rw [IntKind.wrap_u64, IntKind.wrap_u64]
    unfold mixA
    omega
  have q1 := div_nat (mixA (u64 loss) i) 1073741824
  have x1 := xor_div (mixA (u64 loss) i) 1073741824 (mixA_lt _ i)
  have k1 := mul_nat (mixA (u64 loss) i ^^^ mixA (u64 loss) i / 1073741824) 13787848793156543929
  have q2 := div_nat (mixB (mixA (u64 loss) i)) 134217728
  have x2 := xor_div (mixB (mixA (u64 loss) i)) 134217728 (mixB_lt _)
  have k2 := mul_nat (mixB (mixA (u64 loss) i) ^^^ mixB (mixA (u64 loss) i) / 134217728) 10723151780598845931
  have q3 := div_nat (mixC (mixB (mixA (u64 loss) i))) 2147483648
  have x3 := xor_div (mixC (mixB (mixA (u64 loss) i))) 2147483648 (mixC_lt _)
  rw [show ((mixA (u64 loss) i ^^^ mixA (u64 loss) i / 1073741824) * 13787848793156543929 % 18446744073709551616) = mixB (mixA (u64 loss) i) from rfl] at k1
  rw [show ((mixB (mixA (u64 loss) i) ^^^ mixB (mixA (u64 loss) i) / 134217728) * 10723151780598845931 % 18446744073709551616) = mixC (mixB (mixA (u64 loss) i)) from rfl] at k2
  show Ending.returned (Value.int .u64 _) = _
  rw [hA]
  rw [show ((1073741824 : Nat) : Int) = 1073741824 from rfl] at q1
  rw [show ((134217728 : Nat) : Int) = 134217728 from rfl] at q2
  rw [show ((2147483648 : Nat) : Int) = 2147483648 from rfl] at q3
  rw [show ((13787848793156543929 : Nat) : Int) = 13787848793156543929 from rfl] at k1
  rw [show ((10723151780598845931 : Nat) : Int) = 10723151780598845931 from rfl] at k2
  rw [q1, x1, k1, q2, x2, k2, q3, x3]
  rfl
set_option maxRecDepth 100000 in
theorem iRest_any (m by_ : Nat) (w : World) (hm : m < 18446744073709551616) (h0 : 0 < by_) (h1 : by_ ≤ 4000000000000000000) :
    Calls Tryz.prog 101 #[.int .u64 (m : Nat), .int .i64 (by_ : Nat)] w fun e w' => e = .returned (.int .i64 (m % by_ : Nat)) ∧ w = w' := by
  have hlt : m % by_ < by_ := Nat.mod_lt _ h0
  have e1 : (m : Int).tmod (by_ : Int) = ((m % by_ : Nat) : Int) := (Int.ofNat_tmod m by_).symm
  have e2 : IntKind.u64.wrap ((m % by_ : Nat) : Int) = ((m % by_ : Nat) : Int) := by rw [wrap_nat, Nat.mod_eq_of_lt (by omega)]
  go_enter Tryz.func101, Tryz.ntmps101
  go_wp2
  go_ret
  exact ⟨ret_int (by rw [Int.natCast_emod]), rfl⟩
def loseR (X Y : ByteArray) (an : Bool) (m : Nat) : ByteArray := if an then (if m % (X.size + 2) = 0 then Y else X.extract 0 (m % (X.size + 2) - 1)) else X.extract 0 (Y.size + m % (X.size - Y.size + 1))
theorem lose_R (m : Nat) (x : It) : (lose m x).data = loseR x.data x.kept x.anew m ∧ (lose m x).kept = loseR x.data x.kept x.anew m := by
  unfold lose loseR
  exact ⟨rfl, rfl⟩
theorem infoIt : (Tryz.prog.info? 97).map (·.size) = some 5 := by kernel_rfl
set_option maxRecDepth 100000 in
set_option maxHeartbeats 1000000 in
theorem iLost_any (X Y : ByteArray) (an : Bool) (K T N : Int) (m : Nat) (w : World) (hT : T = if an then 2 else 1) (hX : X.size ≤ 1000000000000000000) (hY : an = false → Y.size ≤ X.size) (hm : m < 18446744073709551616) :
    Calls Tryz.prog 59 #[.agg #[.int .i64 K, .string X, .string Y, .int .i64 T, .int .i64 N], .int .u64 (m : Nat)] w fun e w' => e = .returned (.agg #[.int .i64 K, .string (loseR X Y an m), .string (loseR X Y an m), .int .i64 0, .int .i64 N]) ∧ Below w.heap.size w w' := by
  have hb := fun o o2 => ((Below.refl _ w).alloc (Nat.le_refl _) o).alloc (by simp) o2
  have HB := Lib.hid hb
  clear hb
  cases an with
  | true =>
    obtain rfl : T = 2 := hT
    have cr := fun W => iRest_any m (X.size + 2) W hm (by omega) (by omega)
    rw [show ((X.size + 2 : Nat) : Int) = (X.size : Int) + 2 by omega] at cr
    have hk := Nat.mod_lt m (show 0 < X.size + 2 by omega)
    obtain ⟨R, hR⟩ : ∃ R, R = loseR X Y true m := ⟨_, rfl⟩
    rw [← hR]
    unfold loseR at hR
    rw [if_pos rfl] at hR
    generalize m % (X.size + 2) = k at cr hk hR
    clear hY hm
    by_cases h0 : k = 0
    · subst h0
      rw [if_pos rfl] at hR
      subst hR
      go_enter Tryz.func59, Tryz.ntmps59
      go_wp2_with (go_at_call 101; refine (cr _).mono ?_; rintro e w' ⟨rfl, rfl⟩)
      refine bodyPost_ret (results_cell_row rfl _ _ _ _ _ _ _ rfl (new_at _ _ (by simp)) Tryz.underlying97 rfl infoIt) rfl ?_
      exact ⟨rfl, HB.out _ _⟩
    · rw [if_neg h0] at hR
      obtain ⟨j, rfl⟩ : ∃ j, k = j + 1 := ⟨k - 1, by omega⟩
      rw [Nat.add_sub_cancel] at hR
      have e0 := ne_eq h0
      have e1 : ((j + 1 : Nat) : Int) - 1 = j := by omega
      have HR := Lib.hid hR
      clear h0 hR
      go_enter Tryz.func59, Tryz.ntmps59
      go_wp2_with (go_at_call 101; refine (cr _).mono ?_; rintro e w' ⟨rfl, rfl⟩)
      refine bodyPost_ret (results_cell_row rfl _ _ _ _ _ _ _ rfl (new_at _ _ (by simp)) Tryz.underlying97 rfl infoIt) rfl ?_
      rw [HR.out]
      exact ⟨rfl, HB.out _ _⟩
  | false =>
    obtain rfl : T = 1 := hT
    have hYX := hY rfl
    have cr := fun W => iRest_any m (X.size - Y.size + 1) W hm (by omega) (by omega)
    rw [show ((X.size - Y.size + 1 : Nat) : Int) = (X.size : Int) - (Y.size : Int) + 1 by omega] at cr
    have hk := Nat.mod_lt m (show 0 < X.size - Y.size + 1 by omega)
    obtain ⟨R, hR⟩ : ∃ R, R = loseR X Y false m := ⟨_, rfl⟩
    rw [← hR]
    unfold loseR at hR
    rw [if_neg (by decide)] at hR
    generalize m % (X.size - Y.size + 1) = k at cr hk hR
    clear hY hm
    have HR := Lib.hid hR
    clear hR
    go_enter Tryz.func59, Tryz.ntmps59
    go_wp2_with (go_at_call 101; refine (cr _).mono ?_; rintro e w' ⟨rfl, rfl⟩)
    refine bodyPost_ret (results_cell_row rfl _ _ _ _ _ _ _ rfl (new_at _ _ (by simp)) Tryz.underlying97 rfl infoIt) rfl ?_
    rw [HR.out]
    exact ⟨rfl, HB.out _ _⟩
end Go.Proofs.YtdpnmdnfnplcfaaGreat.Dk

namespace Go.Proofs.YtdpnmdnfnplcfaaGreat.Fr
open Go.RowKit Wm Wr Fm
set_option linter.unusedVariables false
def made (w : World) (s : ByteArray) (c : Nat) : World := w.drew.alloc (.cells (bytesRow s c) 5 ((bytesRow s c).size, (bytesRow s c).size + 1))
theorem row_size (s : ByteArray) (c : Nat) : s.size ≤ (bytesRow s c).size := by
  unfold bytesRow
  simp
theorem made_cell (w : World) (s : ByteArray) (c k : Nat) (h : k < s.size) : (made w s c).cell? ⟨w.heap.size, k, none⟩ = some (bv (s.data.toList.getD k 0)) := by
  have h1 := World.cell?_alloc_mark w.drew (bytesRow s c) 5 ((bytesRow s c).size, (bytesRow s c).size + 1) k
  have h2 := bytesRow_at s c k h
  have h3 : (made w s c).cell? ⟨w.heap.size, k, none⟩ = (bytesRow s c)[k]? := h1
  rw [h3, h2, bv, List.getD_eq_getElem?_getD, List.getElem?_eq_getElem (by rw [len_l]; exact h)]
  simp
theorem made_at (w : World) (s : ByteArray) (c k : Nat) (h : k < s.size) : (made w s c).cell? ⟨w.heap.size, k, none⟩ = some (bv (s.data.toList.getD k 0)) ∧ (made w s c).frozen? ⟨w.heap.size, k, none⟩ = false := by
  refine ⟨made_cell w s c k h, ?_⟩
  have h1 := World.frozen?_alloc_mark w.drew (bytesRow s c) 5 (bytesRow s c).size ((bytesRow s c).size + 1) k
  have h3 : (made w s c).frozen? ⟨w.heap.size, k, none⟩ = (decide ((bytesRow s c).size ≤ k) && decide (k < (bytesRow s c).size + 1)) := h1
  have h4 := row_size s c
  rw [h3]
  simp
  omega
theorem made_below (w : World) (s : ByteArray) (c : Nat) : Below w.heap.size w (made w s c) := ((Below.refl _ w).drew).alloc (Nat.le_refl _) _
theorem add_zero_at (b j : Nat) : (⟨b, 0, none⟩ : Addr).add j = ⟨b, j, none⟩ := by
  unfold Addr.add
  split
  · next h => rw [h]
  · rw [Nat.zero_add]
theorem made_back (w : World) (s : ByteArray) (c B : Nat) (h : B / 8 < s.size) (W : World) (hW : W.heap = ((made w s c).setCell ⟨w.heap.size, B / 8, none⟩ (bv (UInt8.ofNat (flip (s.data.toList.getD (B / 8) 0).toNat (B % 8))))).heap) :
    (convert 125 9 (.slice (some ⟨w.heap.size, 0, none⟩) s.size c)).run Tryz.prog W = .ok (.string (trn s B)) W := by
  have hl := trn_list s B h
  have hsz : (trn s B).data.toList.length = s.size := by rw [hl, List.length_set, len_l]
  have hcv := run_convert_bytes_back (P := Tryz.prog) W 125 9 5 ⟨w.heap.size, 0, none⟩ c (trn s B).data.toList Tryz.underlying125 Tryz.underlying5 Tryz.underlying9 (fun j hj => by
    have hj' : j < s.size := by rw [hsz] at hj; exact hj
    have e1 : W.cell? ((⟨w.heap.size, 0, none⟩ : Addr).add j) = ((made w s c).setCell ⟨w.heap.size, B / 8, none⟩ (bv (UInt8.ofNat (flip (s.data.toList.getD (B / 8) 0).toNat (B % 8))))).cell? ⟨w.heap.size, j, none⟩ := by
      rw [add_zero_at]
      unfold World.cell?
      rw [hW]
    rw [e1]
    have e2 : (trn s B).data.toList[j]? = some ((trn s B).data.toList[j]) := List.getElem?_eq_getElem hj
    have e3 : ((trn s B).data.toList)[j]? = (s.data.toList.set (B / 8) (UInt8.ofNat (flip (s.data.toList.getD (B / 8) 0).toNat (B % 8))))[j]? := by rw [hl]
    rw [e3, List.getElem?_set] at e2
    by_cases hjB : B / 8 = j
    · subst hjB
      rw [World.cell?_setCell_same _ _ _ (made_cell w s c (B / 8) h)]
      rw [if_pos rfl, if_pos (by rw [len_l]; exact h)] at e2
      injection e2 with e2
      rw [← e2]
      rfl
    · rw [if_neg hjB] at e2
      rw [World.cell?_setCell_other _ _ _ _ (by intro hh; injection hh with _ hh _; exact hjB hh), made_cell w s c j hj', bv, List.getD_eq_getElem?_getD, e2]
      rfl)
  rw [hsz] at hcv
  exact hcv
theorem flip_lt' (c i : Nat) (hc : c < 256) (hi : i < 8) : flip c i < 256 := (flip_all c hc i hi).2.1
theorem pow_lt8 (B : Nat) : 2 ^ (B % 8) < 256 := by
  have := pow_small (B % 8) (Nat.mod_lt _ (by omega))
  omega
set_option maxRecDepth 100000 in
set_option maxHeartbeats 1000000 in
theorem fTurn_any (s : ByteArray) (bit : Int) (w : World) (hs : s.size ≤ 140737488355328) (h1 : -9223372036854775808 ≤ bit) (h2 : bit ≤ 9223372036854775807) :
    Calls Tryz.prog 88 #[.string s, .int .i64 bit] w fun e w' => e = .returned (.string (tn s bit)) ∧ Below w.heap.size w w' := by
  by_cases h0 : s.size = 0
  · rw [tn, if_pos h0]
    obtain rfl : s = ⟨#[]⟩ := by
      apply ByteArray.ext
      exact Array.size_eq_zero_iff.1 h0
    go_enter Tryz.func88, Tryz.ntmps88
    go_wp2
    go_ret
    exact ⟨rfl, Below.refl _ _⟩
  · have e0 : s.toList.isEmpty = false := by
      rw [ByteArray.toList_eq]
      cases hc : s.data.toList with
      | nil => exact absurd (by rw [← len_l, hc]; rfl) h0
      | cons a l => rfl
    rw [tn, if_neg h0]
    obtain ⟨B, hB, hBl⟩ : ∃ B : Nat, (B : Int) = bit % (8 * s.size : Nat) ∧ B < 8 * s.size := by
      have h3 := Int.emod_nonneg bit (show ((8 * s.size : Nat) : Int) ≠ 0 by omega)
      have h4 := Int.emod_lt_of_pos bit (show (0 : Int) < ((8 * s.size : Nat) : Int) by omega)
      obtain ⟨M, hM⟩ : ∃ M, M = bit % ((8 * s.size : Nat) : Int) := ⟨_, rfl⟩
      rw [← hM] at h3 h4 ⊢
      exact ⟨M.toNat, Int.toNat_of_nonneg h3, by omega⟩
    rw [← hB, Int.toNat_natCast]
    have hcast : ((8 * s.size : Nat) : Int) = 8 * (s.size : Int) := by omega
    have hcases : (bit.tmod (8 * (s.size : Int)) = B) ∨ (bit.tmod (8 * (s.size : Int)) < 0 ∧ bit.tmod (8 * (s.size : Int)) + 8 * (s.size : Int) = B) := by
      rw [← hcast, hB]
      by_cases hn : 0 ≤ bit
      · left; exact rem_pos hn
      · rcases rem_neg (n := 8 * s.size) (by omega) (show bit < 0 by omega) with ⟨h3, h4⟩ | h3
        · left; rw [h3, h4]
        · right; exact h3
    clear hB hcast h0
    obtain ⟨R, hR⟩ : ∃ R, R = bit.tmod (8 * (s.size : Int)) := ⟨_, rfl⟩
    rw [← hR] at hcases
    have hR' : bit.tmod (8 * (s.size : Int)) = R := hR.symm
    clear hR
    have hsz : 1 ≤ (s.size : Int) := by omega
    rcases hcases with rfl | ⟨hneg, hsum⟩
    all_goals
      have hb1 := run_bytes_of_string (P := Tryz.prog) w 9 125 5 s Tryz.underlying9 Tryz.underlying125 Tryz.underlying5
      have hat := made_at w s (grownCap w s.size 0 5) (B / 8) (by omega)
      have hbk := made_back w s (grownCap w s.size 0 5) B (by omega)
      have hbel := made_below w s (grownCap w s.size 0 5)
      obtain ⟨W1, hW1⟩ : ∃ W1, W1 = made w s (grownCap w s.size 0 5) := ⟨_, rfl⟩
      rw [show w.drew.alloc _ = made w s (grownCap w s.size 0 5) from rfl, ← hW1] at hb1
      rw [← hW1] at hat hbk hbel
      obtain ⟨C, hC⟩ : ∃ C, C = grownCap w s.size 0 5 := ⟨_, rfl⟩
      rw [← hC] at hb1 hbk
      clear hW1 hC
      obtain ⟨ha1, ha2⟩ := hat
      obtain ⟨c, hc⟩ : ∃ c, c = (s.data.toList.getD (B / 8) 0).toNat := ⟨_, rfl⟩
      rw [bv, ← hc] at ha1
      rw [← hc] at hbk
      have hcl : c < 256 := by rw [hc]; exact (s.data.toList.getD (B / 8) 0).toNat_lt
      have hf := flip_lt' c (B % 8) hcl (by omega)
      have hxor := u8_xor_nat c (2 ^ (B % 8)) hcl (pow_lt8 B)
      rw [show c ^^^ 2 ^ (B % 8) = flip c (B % 8) from rfl] at hxor
      obtain ⟨V, hV⟩ : ∃ V, V = flip c (B % 8) := ⟨_, rfl⟩
      rw [← hV] at hbk hf hxor
      have ebv : bv (UInt8.ofNat V) = .int .u8 (V : Int) := by rw [bv]; congr 1; simp; omega
      rw [ebv] at hbk
      have hp8 := pow_lt8 B
      obtain ⟨D, hD⟩ : ∃ D, D = 2 ^ (B % 8) := ⟨_, rfl⟩
      rw [← hD] at hxor
      have g1 : (B : Int).tdiv 8 = ((B / 8 : Nat) : Int) := by rw [Int.tdiv_eq_ediv_of_nonneg (by omega)]; omega
      have g2 : IntKind.i64.wrap ((B / 8 : Nat) : Int) = ((B / 8 : Nat) : Int) := IntWalk.i64_in _ (by omega)
      have g3 : (B : Int).tmod 8 = ((B % 8 : Nat) : Int) := by rw [Int.tmod_eq_emod_of_nonneg (by omega)]; omega
      have g4 : IntKind.i64.wrap ((B % 8 : Nat) : Int) = ((B % 8 : Nat) : Int) := IntWalk.i64_in _ (by omega)
      have g5 : ((B / 8 : Nat) : Int) < s.size := by omega
      have g6 : (B % 8 : Nat) < 8 := by omega
      obtain ⟨K, hK⟩ : ∃ K, K = B / 8 := ⟨_, rfl⟩
      obtain ⟨M, hM⟩ : ∃ M, M = B % 8 := ⟨_, rfl⟩
      rw [← hK] at g1 g2 g5 ha1 ha2 hbk
      rw [← hM] at g3 g4 g6 hD hp8
      have hpm : (2 : Int) ^ M % 256 = (D : Int) := by
        rw [show (2 : Int) ^ M = ((2 ^ M : Nat) : Int) by push_cast; rfl, ← hD]
        omega
      have HP := Lib.hid hpm
      have hc2 := hbk (W1.setCell ⟨w.heap.size, K, none⟩ (.int .u8 (V : Int))).drew rfl
      have hset : Below w.heap.size w (W1.setCell ⟨w.heap.size, K, none⟩ (.int .u8 (V : Int))).drew := (hbel.setCell (Nat.le_refl _) _).drew
      clear hc hV ebv hK hM hbk hpm
      go_enter Tryz.func88, Tryz.ntmps88
      go_wp2
      go_region
      all_goals
        rw [HP.out, hxor]
        go_wp2
        go_ret
        exact ⟨rfl, hset⟩
end Go.Proofs.YtdpnmdnfnplcfaaGreat.Fr

namespace Go.Proofs.YtdpnmdnfnplcfaaGreat.Dk
open Go.RowKit Tx Pm Pl Pr
set_option linter.unusedVariables false
def lse (x : It) : Bool := x.loose
theorem next_loose {s : St} {U j st : Nat} {p : ByteArray} {r : List ByteArray} : ∀ (m k : Nat) (pre : List It), s.L.length - k ≤ m → Through s U k j pre st → held lse (s.L.drop k) = p :: r →
    ∃ k2 pre2 x, Through s U k2 j pre2 st ∧ mid s k2 pre2 st = mid s k pre st ∧ s.L[k2]? = some x ∧ x.loose = true ∧ x.path = p ∧ held lse (s.L.drop (k2 + 1)) = r
  | 0, k, pre, hm, h, he => by
    rw [List.drop_of_length_le (by omega)] at he
    cases he
  | m + 1, k, pre, hm, h, he => by
    by_cases hk : k < s.L.length
    · have hx : s.L[k]? = some s.L[k] := List.getElem?_eq_getElem hk
      rw [List.drop_eq_getElem_cons hk, held_cons] at he
      cases hl : s.L[k].loose with
      | true =>
        have hl2 : lse s.L[k] = true := hl
        rw [if_pos hl2, List.singleton_append] at he
        injection he with he1 he2
        exact ⟨k, pre, s.L[k], h, rfl, hx, hl, he1, he2⟩
      | false =>
        have hl2 : ¬ lse s.L[k] = true := by unfold lse; rw [hl]; decide
        rw [if_neg hl2, List.nil_append] at he
        obtain ⟨k2, pre2, x, h1, h2, h3⟩ := next_loose m (k + 1) (pre ++ [s.L[k]]) (by omega) (through_calm h hx hl) he
        exact ⟨k2, pre2, x, h1, h2.trans (mid_calm h hx), h3⟩
    · rw [List.drop_of_length_le (by omega)] at he
      cases he
theorem end_loose {s : St} {U j st : Nat} : ∀ (m k : Nat) (pre : List It), s.L.length - k ≤ m → Through s U k j pre st → held lse (s.L.drop k) = [] →
    ∃ pre2, Through s U s.L.length j pre2 st ∧ mid s s.L.length pre2 st = mid s k pre st
  | 0, k, pre, hm, h, he => by
    have := h.le
    obtain rfl : k = s.L.length := by omega
    exact ⟨pre, h, rfl⟩
  | m + 1, k, pre, hm, h, he => by
    by_cases hk : k < s.L.length
    · have hx : s.L[k]? = some s.L[k] := List.getElem?_eq_getElem hk
      rw [List.drop_eq_getElem_cons hk, held_cons] at he
      cases hl : s.L[k].loose with
      | true =>
        have hl2 : lse s.L[k] = true := hl
        rw [if_pos hl2] at he
        cases he
      | false =>
        have hl2 : ¬ lse s.L[k] = true := by unfold lse; rw [hl]; decide
        rw [if_neg hl2, List.nil_append] at he
        obtain ⟨pre2, h1, h2⟩ := end_loose m (k + 1) (pre ++ [s.L[k]]) (by omega) (through_calm h hx hl) he
        exact ⟨pre2, h1, h2.trans (mid_calm h hx)⟩
    · have := h.le
      obtain rfl : k = s.L.length := by omega
      exact ⟨pre, h, rfl⟩
theorem restart_mid {s : St} {U j st : Nat} {pre : List It} {loss : Int} (hU : U = u64 loss) (h : Through s U s.L.length j pre st) : restartS s loss = { mid s s.L.length pre st with down := false, armed := -1 } := by
  have := through_end h
  unfold restartS mid
  rw [← hU, this, List.drop_of_length_le (Nat.le_refl _), List.append_nil]
theorem ne_dir {s : St} (hg : Good s) {x : It} (hx : x ∈ s.L) (hl : x.loose = true) : x.dir = false := by
  cases hd : x.dir with
  | false => rfl
  | true =>
    have := (hg.dirs x hx hd).2.2.1
    rw [hl] at this
    cases this
theorem mid_old {s : St} {U k j st : Nat} {pre : List It} {x : It} (hr : Rises s.L) (h : Through s U k j pre st) (hx : s.L[k]? = some x) (hd : x.dir = false) :
    old (mid s k pre st).L x.path = x ∧ kind (mid s k pre st).L x.path = 2 := by
  obtain ⟨e1, e2⟩ := mid_at h hx
  have hf := find_paths (mid_rises h hr) (List.mem_of_getElem? e2)
  refine ⟨by rw [old, hf]; rfl, ?_⟩
  unfold kind kindOf
  rw [hf]
  simp only
  rw [if_neg (by rw [hd]; decide)]
theorem mid_set {s : St} {U k j st : Nat} {pre : List It} {x : It} (hr : Rises s.L) (h : Through s U k j pre st) (hx : s.L[k]? = some x) (pick : Nat) :
    putS (mid s k pre st) (lose pick x) = mid s (k + 1) (pre ++ [{ lose pick x with stamp := st + 1 }]) (st + 1) :=
  mid_put h hr hx (x' := { lose pick x with stamp := st + 1 }) rfl
structure SoundW (s : St) : Prop where
  rises : Rises s.L
  kept : ∀ x ∈ s.L, x.anew = false → x.kept.size ≤ x.data.size
  size : ∀ x ∈ s.L, x.data.size ≤ 1000000000000000000 ∧ x.kept.size ≤ 1000000000000000000
  stamps : s.stamps + s.L.length ≤ 1000000000000
theorem Sound.wide {s : St} (h : Sound s) : SoundW s := ⟨h.rises, h.kept, fun x hx => by have := h.size x hx; omega, h.stamps⟩
set_option maxRecDepth 100000 in
set_option maxHeartbeats 4000000 in
theorem iRestart_any (b bi bl : Nat) (l : Int) (s : St) (loss : Int) (w : World) (h : Ia b bi bl l w s) (hg : Good s) (hs : SoundW s) (hn : s.L.length ≤ 1000000000) (hps : ∀ x ∈ s.L, x.path.size ≤ 8000000000000) (hl : -9223372036854775808 ≤ loss ∧ loss ≤ 9223372036854775807) :
    Calls Tryz.prog 23 #[.pointer (some ⟨b, 0, none⟩), .int .i64 loss] w fun e w' => e = .returned (.int .i64 ((0 : Nat) : Int)) ∧ Ip b bi bl w (restartS s loss) w' := by
  obtain ⟨U, hU⟩ : ∃ U, U = u64 loss := ⟨_, rfl⟩
  have cp := iPaths_any b bi bl l s 57 #[] lse w h hg.rises hn hps (fun a1 a2 W => Rg.enters Tryz.func57 (by kernel_rfl) (by kernel_rfl) _ W) (fun W x _ _ => iRestC_any x W)
  have hll := held_len lse s.L
  have HH := Lib.hid h
  have HG := Lib.hid hg
  have HS := Lib.hid hs
  have HN := Lib.hid hn
  have HP := Lib.hid hps
  have hft := h.lt
  have HF := Lib.hid hft
  clear h hg hs hps hft
  go_enter Tryz.func23, Tryz.ntmps23
  go_wp2_with fail
  go_at_call 56
  refine cp.mono ?_
  rintro e w1 ⟨v, rfl, hT, hb1⟩
  have hlen : (held lse s.L).length ≤ 1000000000 := Nat.le_trans hll HN.out
  obtain ⟨a, c, hv, hstr, _, _⟩ := hT.form
  have hge : ∀ bb off, a = some ⟨bb, off, none⟩ → w.heap.size ≤ bb ∨ (held lse s.L).length = 0 := by
    intro bb off ha
    rcases hT.2 with ⟨hv2, h0⟩ | ⟨g, cap, cur, hv2, hgg, _⟩
    · exact .inr h0
    · rw [hv, ha] at hv2
      cases hv2
      exact .inl hgg
  have hstr2 : ∀ W, Chg (Ft b bi bl) w1 W → ∀ j p, (held lse s.L)[j]? = some p → ∃ bb off, a = some ⟨bb, off, none⟩ ∧ W.cell? ⟨bb, off + j, none⟩ = some (.string p) := by
    intro W hW j p hj
    have hjl : j < (held lse s.L).length := (List.getElem?_eq_some_iff.1 hj).1
    rcases hstr.2 with h0 | ⟨bb, off, ha, hbb, hcc⟩
    · omega
    · refine ⟨bb, off, ha, ?_⟩
      have hgb := (hge bb off ha).resolve_right (by omega)
      have hx := hcc j p hj
      unfold World.cell? at *
      rw [hW.block bb hbb (fun hf => by have := HF.out bb hf; omega)]
      exact hx
  subst hv
  have HST := Lib.hid hstr2
  have hIA : Ia b bi bl l w1 (mid s 0 [] s.stamps) := HH.out.below hb1
  have HIA := Lib.hid hIA
  obtain ⟨n, hn2⟩ : ∃ n, n = (held lse s.L).length := ⟨_, rfl⟩
  rw [← hn2] at hlen
  have HN2 := Lib.hid hn2
  rw [← hn2]
  have HT := Lib.hid hT
  clear hstr hge hstr2 hIA hT cp hll hn2
  go_wp2_with fail
  go_loopw [14] (fun i wr => ∃ (j k st : Nat) (pre : List It) (l2 : Int), j ≤ n ∧ i = .int .i64 j ∧ Hid (Through s U k j pre st ∧ (held lse s.L).drop j = held lse (s.L.drop k)) ∧ Ia b bi bl l2 wr (mid s k pre st) ∧ Chg (Ft b bi bl) w1 wr) (fun i _ => n - (intOf i).toNat)
  case atStart => exact ⟨0, 0, s.stamps, [], l, Nat.zero_le _, rfl, ⟨through_zero s U, rfl⟩, HIA.out, Chg.refl _ _⟩
  case round =>
    obtain ⟨j, k, st, pre, l2, hj, rfl, hT2, hI, hC⟩ := hrel
    by_cases hlt : j < n
    · obtain ⟨p, hp⟩ : ∃ p, (held lse s.L)[j]? = some p := ⟨_, List.getElem?_eq_getElem (by rw [← HN2.out]; exact hlt)⟩
      obtain ⟨bb, off, ha, hcl⟩ := HST.out _ hC j p hp
      obtain ⟨hjl, hpe⟩ := List.getElem?_eq_some_iff.1 hp
      have hcons : held lse (s.L.drop k) = p :: (held lse s.L).drop (j + 1) := by rw [← hT2.out.2, List.drop_eq_getElem_cons hjl, hpe]
      obtain ⟨k2, pre2, x, hth, hmid, hx, hlo, hxp, hrest⟩ := next_loose _ k pre (Nat.le_refl _) hT2.out.1 hcons
      rw [← hmid] at hI
      have hxm := List.mem_of_getElem? hx
      have hd := ne_dir HG.out hxm hlo
      obtain ⟨ho, hk⟩ := mid_old HG.out.rises hth hx hd
      have hpx := HP.out x hxm
      have hsz := HS.out.size x hxm
      have hkp := HS.out.kept x hxm
      have hpl := mix_lt U (j + 1)
      have hnk := hth.num
      have hkl := hth.le
      have hss := hth.stamp
      have hsb := HS.out.stamps
      have cm := fun W => iMix_any loss (j + 1) W hl (by omega)
      rw [← hU] at cm
      have cl := fun W => iLost_any x.data x.kept x.anew 2 (stOf x) x.stamp (mix U (j + 1)) W (by unfold stOf; rw [hlo]; rfl) hsz.1 hkp hpl
      have cs := fun W (hW : Ia b bi bl l2 W (mid s k2 pre2 st)) => iSet_any b bi bl l2 (mid s k2 pre2 st) (lose (mix U (j + 1)) x) x.stamp p W hW hxp (by rw [← hxp]; exact hpx) (by rw [mid_len hth]; exact HN.out) (by show st ≤ _; omega)
      rw [mid_set HG.out.rises hth hx] at cs
      obtain ⟨q1, q2⟩ := lose_R (mix U (j + 1)) x
      rw [q1, q2, show kOf (lose (mix U (j + 1)) x) = 2 from kOf_file hd, show stOf (lose (mix U (j + 1)) x) = 0 from rfl] at cs
      have hlk := fun W (hW : Ia b bi bl l2 W (mid s k2 pre2 st)) => hW.look (p := p) (by rw [← hxp]; exact maxLen_of hpx)
      rw [hxp] at ho hk
      rw [ho, hk] at hlk
      have HTN := Lib.hid (And.intro (through_loose hth hx hlo) hrest.symm)
      generalize loseR x.data x.kept x.anew (mix U (j + 1)) = Z at cl cs
      generalize mix U (j + 1) = PK at cm cl hpl
      subst ha
      have hadd : IntKind.i64.wrap ((j : Int) + 1) = ((j + 1 : Nat) : Int) := IntWalk.i64_in _ (by omega)
      have HAD := Lib.hid hadd
      have HI := Lib.hid hI
      have HLK := Lib.hid hlk
      clear hadd hI hlk hth hx hlo hxp hrest hmid ho hk hpx hsz hkp hpl hnk hkl hss hsb q1 q2 hd hxm hcons hp hpe hjl hT2
      go_wp2_with fail
      refine Rg.wp_only ?_ (regRestart _ (by kernel_rfl) _ b bi bl j PK l2 loss 2 (stOf x) x.stamp (mid s k2 pre2 st) _ p x.data x.kept Z _ HI.out HLK.out HAD.out cm cl cs)
      rintro _ w9 ⟨rfl, l9, hI9, hC9⟩
      go_wp2_with fail
      go_roundw
      case rel => exact ⟨j + 1, k2 + 1, st + 1, _, l9, by omega, by go_num, HTN, hI9, hC.then hC9⟩
      case measure => simp [intOf]; omega
    · obtain rfl : j = n := by omega
      have hnil : held lse (s.L.drop k) = [] := by rw [← hT2.out.2, List.drop_of_length_le (by rw [HN2.out]; exact Nat.le_refl _)]
      obtain ⟨pre3, h3, h4⟩ := end_loose _ k pre (Nat.le_refl _) hT2.out.1 hnil
      have hres := restart_mid hU h3
      rw [h4] at hres
      have HRS := Lib.hid hres
      have hc9 := hI.cell
      have hw9 := hI.warm
      have hb1' : (wr.setCell ⟨b, 5, none⟩ (.bool false)).heap[b]? = some (.cells #[.map (some bi), .map (some bl), .int .i64 l2, .int .i64 (mid s k pre st).steps, .int .i64 (mid s k pre st).stamps, .bool false] 64 (0, 0)) := own_cells hI 5 _ rfl
      have hb2' : ((wr.setCell ⟨b, 5, none⟩ (.bool false)).setCell ⟨b, 2, none⟩ (.int .i64 (-1))).heap[b]? = some (.cells #[.map (some bi), .map (some bl), .int .i64 (-1), .int .i64 (mid s k pre st).steps, .int .i64 (mid s k pre st).stamps, .bool false] 64 (0, 0)) := set_block hb1' _
      have hc2 : Chg (· = b) wr ((wr.setCell ⟨b, 5, none⟩ (.bool false)).setCell ⟨b, 2, none⟩ (.int .i64 (-1))) := (chg_set _).then (chg_set _)
      have a2 : Ia b bi bl (-1) _ { mid s k pre st with down := false, armed := -1 } := hI.poke hc2 hb2' rfl rfl (.inr rfl) (by omega)
      have HE := Lib.hid (show Ip b bi bl w { mid s k pre st with down := false, armed := -1 } _ from ⟨-1, a2, ((Chg.of_below hb1).then hC).then (hc2.mono ft_b)⟩)
      have g2 : (wr.setCell ⟨b, 5, none⟩ (.bool false)).cell? ⟨b, 2, none⟩ = some (.int .i64 l2) := by unfold World.cell?; rw [hb1']; rfl
      obtain ⟨c0, c1, c2, c3, c4, c5⟩ := hc9
      clear hI hT2 hnil h3 h4 hres hb1' hb2' hc2 a2 hC
      go_wp2
      go_ret
      exact ⟨rfl, by rw [HRS.out]; exact HE.out⟩
end Go.Proofs.YtdpnmdnfnplcfaaGreat.Dk

namespace Go.Proofs.YtdpnmdnfnplcfaaGreat.Dk
open Go.RowKit Tx Pm Pl Pr
set_option linter.unusedVariables false
set_option maxRecDepth 100000 in
set_option maxHeartbeats 2000000 in
theorem iRot_any (b bi bl : Nat) (l : Int) (s : St) (p : ByteArray) (bit : Int) (w : World) (h : Ia b bi bl l w s) (ok : Ok s) (hp : p.size ≤ 8000000000000) (hbit : -9223372036854775808 ≤ bit ∧ bit ≤ 9223372036854775807)
    (hsz : (old s.L p).data.size ≤ 140737488355328 ∧ (old s.L p).kept.size ≤ 140737488355328) :
    Calls Tryz.prog 38 #[.pointer (some ⟨b, 0, none⟩), .string p, .int .i64 bit] w fun e w' => e = .returned (.int .i64 ((rotS s p bit).1 : Nat)) ∧ Ip b bi bl w (rotS s p bit).2 w' := by
  have c1 := iMaySync_any b bi bl l s p w h hp
  have hself : ∀ w', Below w.heap.size w w' → Ip b bi bl w s w' := fun w' hb => Ip.of (h.below hb) hb
  unfold rotS
  by_cases h1 : there s p ≠ 0
  · rw [if_pos h1]
    have HS := Lib.hid hself
    have e1 := ne_eq h1
    generalize there s p = E at c1 e1 ⊢
    clear h hself h1
    go_enter Tryz.func38, Tryz.ntmps38
    go_wp2_with (go_at_call 87; refine c1.mono ?_; rintro e w1 ⟨rfl, hb1⟩)
    go_ret
    exact ⟨rfl, HS.out _ hb1⟩
  · rw [if_neg h1]
    have h0 : there s p = 0 := by omega
    rw [h0] at c1
    have hk := (there_kind h0).2
    have hod : (old s.L p).dir = false := (old_file h0).1
    have ct1 := fun W => Fr.fTurn_any (old s.L p).data bit W hsz.1 hbit.1 hbit.2
    have ct2 := fun W => Fr.fTurn_any (old s.L p).kept bit W hsz.2 hbit.1 hbit.2
    have cs := fun W (hW : Ia b bi bl l W s) => iSet_any b bi bl l s { old s.L p with data := Fr.tn (old s.L p).data bit, kept := Fr.tn (old s.L p).kept bit } (old s.L p).stamp p W hW (old_path _ _) hp ok.fit.1 ok.stamps
    rw [show kOf { old s.L p with data := Fr.tn (old s.L p).data bit, kept := Fr.tn (old s.L p).kept bit } = 2 from kOf_file hod, show stOf { old s.L p with data := Fr.tn (old s.L p).data bit, kept := Fr.tn (old s.L p).kept bit } = stOf (old s.L p) from rfl] at cs
    simp only at cs
    have hlk := fun W (hW : Below w.heap.size w W) => (h.below hW).look (p := p) (maxLen_of hp)
    rw [hk] at hlk
    have HLK := Lib.hid hlk
    have HC := Lib.hid (fun W (hW : Below w.heap.size w W) => (h.below hW).cell.1)
    have HI := Lib.hid (fun W (hW : Below w.heap.size w W) => h.below hW)
    have hft := h.lt
    have HF := Lib.hid hft
    generalize putS s { old s.L p with data := Fr.tn (old s.L p).data bit, kept := Fr.tn (old s.L p).kept bit } = s2 at cs ⊢
    generalize Fr.tn (old s.L p).data bit = TX at ct1 cs
    generalize Fr.tn (old s.L p).kept bit = TY at ct2 cs
    generalize (old s.L p).data = X at ct1 HLK
    generalize (old s.L p).kept = Y at ct2 HLK
    generalize stOf (old s.L p) = T at HLK cs
    generalize ((old s.L p).stamp : Int) = M at HLK cs
    clear h hself h1 h0 hk hod hlk hft hsz ok
    go_enter Tryz.func38, Tryz.ntmps38
    go_wp2_with (go_at_call 87; refine c1.mono ?_; rintro e w1 ⟨rfl, hb1⟩; have g0 := HC.out _ hb1; have l0 := HLK.out _ hb1; have l1 := fun o => HLK.out _ (below_call hb1 ((Below.refl _ w1).alloc (Nat.le_refl _) o)))
    have hbx : Box5 (w1.alloc (.cells #[.int .i64 2, .string X, .string Y, .int .i64 T, .int .i64 M] 97)) w1.heap.size 2 X Y T M := box5_of (new_at w1 _ rfl)
    have hblk := new_at w1 (.cells #[.int .i64 2, .string X, .string Y, .int .i64 T, .int .i64 M] 97) rfl
    have hwm : ∀ W, Below (w1.alloc (.cells #[.int .i64 2, .string X, .string Y, .int .i64 T, .int .i64 M] 97)).heap.size (w1.alloc (.cells #[.int .i64 2, .string X, .string Y, .int .i64 T, .int .i64 M] 97)) W → ∀ k, W.frozen? ⟨w1.heap.size, k, none⟩ = false := by
      intro W hW k
      unfold World.frozen?
      rw [hW.block _ (by simp), hblk]
      simp
    refine Rg.wp_only ?_ (regRot _ (by kernel_rfl) _ w1.heap.size X Y TX TY 2 T M bit _ hbx hwm ct1 ct2)
    rintro _ w9 ⟨rfl, w4, hb4, rfl⟩
    have hbox4 := hbx.below hb4
    have hI4 := HI.out _ (below_call (below_call hb1 ((Below.refl _ w1).alloc (Nat.le_refl _) _)) hb4)
    have hnf : ∀ i, Ft b bi bl i → i ≠ w1.heap.size := fun i hi => by have := HF.out i hi; have := hb1.size; omega
    have hI5 := (hI4.chg (F := (· = w1.heap.size)) (chg_set (b := w1.heap.size) (k := 1) (.string TX)) (fun i hi => hnf i hi)).chg (F := (· = w1.heap.size)) (chg_set (b := w1.heap.size) (k := 2) (.string TY)) (fun i hi => hnf i hi)
    have hcg : Chg (Ft b bi bl) w ((w4.setCell ⟨w1.heap.size, 1, none⟩ (.string TX)).setCell ⟨w1.heap.size, 2, none⟩ (.string TY)) := by
      have hb5 := below_call (below_call hb1 ((Below.refl _ w1).alloc (Nat.le_refl _) (.cells #[.int .i64 2, .string X, .string Y, .int .i64 T, .int .i64 M] 97))) hb4
      have hz := hb1.size
      exact Chg.of_below ((hb5.setCell (by exact hz) _).setCell (by exact hz) _)
    have HCG := Lib.hid hcg
    have cs5 := cs _ hI5
    obtain ⟨hlt4, m0, m1, m2, m3, m4⟩ := hbox4
    have hw4 := fun k => hwm _ hb4 k
    clear hI4 hI5 hcg cs hbx hblk hwm l1
    go_wp2_with fail
    refine cs5.mono ?_
    rintro e w6 ⟨rfl, l6, hI6, hC6⟩
    go_wp2_with fail
    go_ret
    exact ⟨rfl, l6, hI6, HCG.out.then hC6⟩
end Go.Proofs.YtdpnmdnfnplcfaaGreat.Dk

namespace Go.Proofs.YtdpnmdnfnplcfaaGreat.Sc
open Go.RowKit Tx Pm Dk
set_option linter.unusedVariables false
def StepAt (bs : Nat) (K : Int) (P Q : ByteArray) (M : Int) (W : World) : Prop := W.cell? ⟨bs, 0, none⟩ = some (.int .i64 K) ∧ W.cell? ⟨bs, 1, none⟩ = some (.string P) ∧ W.cell? ⟨bs, 2, none⟩ = some (.string Q) ∧ W.cell? ⟨bs, 3, none⟩ = some (.int .i64 M)
set_option maxRecDepth 100000 in
set_option maxHeartbeats 2000000 in
theorem turnMkdir (ops : Array Oper) (hops : ops = (Rg.opsOf Tryz.f8 3)) (id : Nat) (bs : Nat) (K M : Int) (P Q : ByteArray) (X : Nat) (dv wv : Value) {u2 u3 u4 u6 u7 u8 u9 u10 u11 u12 u13 u14 u15 u16 u17 u18 u19 u20 u21 u22 u23 u24 u25 u26 u27 u28 u29 u30 u31 u32 u33 u34 u35 u36 u37 u38 u39 u40 u41 u42 u43 u44 u45 u46 u47 u48 u49 u50 u51 u52 u53 u54 u55 u56 u57 u58 u59 u60 u61 u62 u63 u64 u65 u66 u67 u68 u69 u70 u71 u72 u73 u74 u75 u76 u77 u78 u79 u80 u81 u82 u83 u84 u85 u86 u87 u88 u89 u90 u91 u92 u93 u94 u95 u96 u97 u98 u99 u100 u101 : Value} (w : World) (A B : World → Prop)
    (hS : StepAt bs K P Q M w) (hd : Calls Tryz.prog 27 #[dv, (.string P)] w.drew fun e w' => e = .returned (.int .i64 (X : Int)) ∧ A w') (hAS : ∀ W, A W → StepAt bs K P Q M W)
    (hw : ∀ W, A W → Calls Tryz.prog 29 #[wv, (.string P)] W fun e w' => e = .returned (.int .i64 (X : Int)) ∧ B w') (hBS : ∀ W, B W → StepAt bs K P Q M W) :
    (Code.region id ops true).wp Tryz.prog (Rg.Only fun a' w' => a' = ⟨#[dv, wv, u2, u3, u4, (.pointer (some ⟨bs, 0, none⟩)), (.bool true), u7, u8, u9, u10, dv, (.pointer (some ⟨bs, 1, none⟩)), (.string P), (.int .i64 (X : Int)), wv, (.pointer (some ⟨bs, 1, none⟩)), (.string P), (.int .i64 (X : Int)), (.bool true), u20, u21, u22, u23, u24, u25, u26, u27, u28, u29, u30, u31, u32, u33, u34, u35, u36, u37, u38, u39, u40, u41, u42, u43, u44, u45, u46, u47, u48, u49, u50, u51, u52, u53, u54, u55, u56, u57, u58, u59, u60, u61, u62, u63, u64, u65, u66, u67, u68, u69, u70, u71, u72, u73, u74, u75, u76, u77, u78, u79, u80, u81, u82, u83, u84, u85, u86, u87, u88, u89, u90, u91, u92, u93, u94, u95, u96, u97, u98, u99, u100, u101], []⟩ ∧ B w') ⟨#[dv, wv, u2, u3, u4, (.pointer (some ⟨bs, 0, none⟩)), u6, u7, u8, u9, u10, u11, u12, u13, u14, u15, u16, u17, u18, u19, u20, u21, u22, u23, u24, u25, u26, u27, u28, u29, u30, u31, u32, u33, u34, u35, u36, u37, u38, u39, u40, u41, u42, u43, u44, u45, u46, u47, u48, u49, u50, u51, u52, u53, u54, u55, u56, u57, u58, u59, u60, u61, u62, u63, u64, u65, u66, u67, u68, u69, u70, u71, u72, u73, u74, u75, u76, u77, u78, u79, u80, u81, u82, u83, u84, u85, u86, u87, u88, u89, u90, u91, u92, u93, u94, u95, u96, u97, u98, u99, u100, u101], []⟩ w := by
  subst hops
  have hNS : Region.noSelect (Rg.opsOf Tryz.f8 3) = true := by kernel_rfl
  refine wp_region_held_drew (S := StepAt bs K P Q M) (by kernel_rfl) hS (fun hHeld => ?_)
  rw [show (Rg.opsOf Tryz.f8 3).size = 10 by kernel_rfl]
  refine Rg.take (ops := (Rg.opsOf Tryz.f8 3)) 0 (some 11) (dv) hNS (by kernel_rfl) (by kernel_rfl) (by kernel_rfl) (by kernel_rfl) (by kernel_rfl) hHeld (Rg.y_move (x := (Operand.tmp 0)) (Or.inl (by kernel_rfl)) (by kernel_rfl)) ?_
  refine Rg.take (ops := (Rg.opsOf Tryz.f8 3)) 1 (some 12) ((.pointer (some ⟨bs, 1, none⟩))) hNS (by kernel_rfl) (by kernel_rfl) (by kernel_rfl) (by kernel_rfl) (by kernel_rfl) hHeld (Rg.y_field (T := 31) (k := 1) (x := (Operand.tmp 5)) (vx := (.pointer (some ⟨bs, 0, none⟩))) (by kernel_rfl) (by kernel_rfl) ?_) ?_
  · (intro w hSw; clear hSw; go_simp)
  refine Rg.take (ops := (Rg.opsOf Tryz.f8 3)) 2 (some 13) ((.string P)) hNS (by kernel_rfl) (by kernel_rfl) (by kernel_rfl) (by kernel_rfl) (by kernel_rfl) hHeld (Rg.y_load (T := 9) (x := (Operand.tmp 12)) (vx := (.pointer (some ⟨bs, 1, none⟩))) (by kernel_rfl) (by kernel_rfl) ?_) ?_
  · (intro w hSw; obtain ⟨hS0, hS1, hS2, hS3⟩ := hSw; go_simp)
  refine Rg.take (ops := (Rg.opsOf Tryz.f8 3)) 4 (some 15) (wv) hNS (by kernel_rfl) (by kernel_rfl) (by kernel_rfl) (by kernel_rfl) (by kernel_rfl) hHeld (Rg.y_move (x := (Operand.tmp 1)) (Or.inl (by kernel_rfl)) (by kernel_rfl)) ?_
  refine Rg.take (ops := (Rg.opsOf Tryz.f8 3)) 5 (some 16) ((.pointer (some ⟨bs, 1, none⟩))) hNS (by kernel_rfl) (by kernel_rfl) (by kernel_rfl) (by kernel_rfl) (by kernel_rfl) hHeld (Rg.y_field (T := 31) (k := 1) (x := (Operand.tmp 5)) (vx := (.pointer (some ⟨bs, 0, none⟩))) (by kernel_rfl) (by kernel_rfl) ?_) ?_
  · (intro w hSw; clear hSw; go_simp)
  refine Rg.take (ops := (Rg.opsOf Tryz.f8 3)) 6 (some 17) ((.string P)) hNS (by kernel_rfl) (by kernel_rfl) (by kernel_rfl) (by kernel_rfl) (by kernel_rfl) hHeld (Rg.y_load (T := 9) (x := (Operand.tmp 16)) (vx := (.pointer (some ⟨bs, 1, none⟩))) (by kernel_rfl) (by kernel_rfl) ?_) ?_
  · (intro w hSw; obtain ⟨hS0, hS1, hS2, hS3⟩ := hSw; go_simp)
  refine Rg.call (ops := (Rg.opsOf Tryz.f8 3)) (fn := Tryz.f27) (xs := #[Operand.tmp 11, Operand.tmp 13]) (ats := #[23, 9]) 3 (some 14) 27 #[dv, (.string P)] (by kernel_rfl) (by kernel_rfl) (by kernel_rfl) (by kernel_rfl) (by kernel_rfl) Tryz.func27 (by kernel_rfl) (by kernel_rfl) (by kernel_rfl) ?_
  refine hd.mono ?_
  rintro e w5 ⟨rfl, hA5⟩
  refine ⟨_, rfl, hAS _ hA5, fun hHeld => ?_⟩
  refine Rg.call (ops := (Rg.opsOf Tryz.f8 3)) (fn := Tryz.f29) (xs := #[Operand.tmp 15, Operand.tmp 17]) (ats := #[25, 9]) 7 (some 18) 29 #[wv, (.string P)] (by kernel_rfl) (by kernel_rfl) (by kernel_rfl) (by kernel_rfl) (by kernel_rfl) Tryz.func29 (by kernel_rfl) (by kernel_rfl) (by kernel_rfl) ?_
  refine (hw _ hA5).mono ?_
  rintro e w6 ⟨rfl, hB6⟩
  refine ⟨_, rfl, hBS _ hB6, fun hHeld => ?_⟩
  refine Rg.take (ops := (Rg.opsOf Tryz.f8 3)) 8 (some 19) ((.bool true)) hNS (by kernel_rfl) (by kernel_rfl) (by kernel_rfl) (by kernel_rfl) (by kernel_rfl) hHeld (Rg.y_bin (b := BinOp.eql) (T := 3) (R' := 3) (x := (Operand.tmp 14)) (y := (Operand.tmp 18)) (vx := (.int .i64 (X : Int))) (vy := (.int .i64 (X : Int))) (by kernel_rfl) (by kernel_rfl) (by kernel_rfl) ?_) ?_
  · (intro w hSw; clear hSw; go_simp)
  refine Rg.take (ops := (Rg.opsOf Tryz.f8 3)) 9 (some 6) ((.bool true)) hNS (by kernel_rfl) (by kernel_rfl) (by kernel_rfl) (by kernel_rfl) (by kernel_rfl) hHeld (Rg.y_move (x := (Operand.tmp 19)) (Or.inr (by kernel_rfl)) (by kernel_rfl)) ?_
  refine Rg.done (ops := (Rg.opsOf Tryz.f8 3)) (by kernel_rfl) ?_
  exact ⟨by kernel_rfl, hB6⟩
set_option maxRecDepth 100000 in
set_option maxHeartbeats 2000000 in
theorem turnWrite (ops : Array Oper) (hops : ops = (Rg.opsOf Tryz.f8 5)) (id : Nat) (bs : Nat) (K M : Int) (P Q : ByteArray) (X : Nat) (dv wv : Value) {u2 u3 u4 u6 u7 u8 u9 u10 u11 u12 u13 u14 u15 u16 u17 u18 u19 u20 u21 u22 u23 u24 u25 u26 u27 u28 u29 u30 u31 u32 u33 u34 u35 u36 u37 u38 u39 u40 u41 u42 u43 u44 u45 u46 u47 u48 u49 u50 u51 u52 u53 u54 u55 u56 u57 u58 u59 u60 u61 u62 u63 u64 u65 u66 u67 u68 u69 u70 u71 u72 u73 u74 u75 u76 u77 u78 u79 u80 u81 u82 u83 u84 u85 u86 u87 u88 u89 u90 u91 u92 u93 u94 u95 u96 u97 u98 u99 u100 u101 : Value} (w : World) (A B : World → Prop)
    (hS : StepAt bs K P Q M w) (hd : Calls Tryz.prog 28 #[dv, (.string P), (.string Q)] w.drew fun e w' => e = .returned (.int .i64 (X : Int)) ∧ A w') (hAS : ∀ W, A W → StepAt bs K P Q M W)
    (hw : ∀ W, A W → Calls Tryz.prog 30 #[wv, (.string P), (.string Q)] W fun e w' => e = .returned (.int .i64 (X : Int)) ∧ B w') (hBS : ∀ W, B W → StepAt bs K P Q M W) :
    (Code.region id ops true).wp Tryz.prog (Rg.Only fun a' w' => a' = ⟨#[dv, wv, u2, u3, u4, (.pointer (some ⟨bs, 0, none⟩)), (.bool true), u7, u8, u9, u10, u11, u12, u13, u14, u15, u16, u17, u18, u19, u20, u21, dv, (.pointer (some ⟨bs, 1, none⟩)), (.string P), (.pointer (some ⟨bs, 2, none⟩)), (.string Q), (.int .i64 (X : Int)), wv, (.pointer (some ⟨bs, 1, none⟩)), (.string P), (.pointer (some ⟨bs, 2, none⟩)), (.string Q), (.int .i64 (X : Int)), (.bool true), u35, u36, u37, u38, u39, u40, u41, u42, u43, u44, u45, u46, u47, u48, u49, u50, u51, u52, u53, u54, u55, u56, u57, u58, u59, u60, u61, u62, u63, u64, u65, u66, u67, u68, u69, u70, u71, u72, u73, u74, u75, u76, u77, u78, u79, u80, u81, u82, u83, u84, u85, u86, u87, u88, u89, u90, u91, u92, u93, u94, u95, u96, u97, u98, u99, u100, u101], []⟩ ∧ B w') ⟨#[dv, wv, u2, u3, u4, (.pointer (some ⟨bs, 0, none⟩)), u6, u7, u8, u9, u10, u11, u12, u13, u14, u15, u16, u17, u18, u19, u20, u21, u22, u23, u24, u25, u26, u27, u28, u29, u30, u31, u32, u33, u34, u35, u36, u37, u38, u39, u40, u41, u42, u43, u44, u45, u46, u47, u48, u49, u50, u51, u52, u53, u54, u55, u56, u57, u58, u59, u60, u61, u62, u63, u64, u65, u66, u67, u68, u69, u70, u71, u72, u73, u74, u75, u76, u77, u78, u79, u80, u81, u82, u83, u84, u85, u86, u87, u88, u89, u90, u91, u92, u93, u94, u95, u96, u97, u98, u99, u100, u101], []⟩ w := by
  subst hops
  have hNS : Region.noSelect (Rg.opsOf Tryz.f8 5) = true := by kernel_rfl
  refine wp_region_held_drew (S := StepAt bs K P Q M) (by kernel_rfl) hS (fun hHeld => ?_)
  rw [show (Rg.opsOf Tryz.f8 5).size = 14 by kernel_rfl]
  refine Rg.take (ops := (Rg.opsOf Tryz.f8 5)) 0 (some 22) (dv) hNS (by kernel_rfl) (by kernel_rfl) (by kernel_rfl) (by kernel_rfl) (by kernel_rfl) hHeld (Rg.y_move (x := (Operand.tmp 0)) (Or.inl (by kernel_rfl)) (by kernel_rfl)) ?_
  refine Rg.take (ops := (Rg.opsOf Tryz.f8 5)) 1 (some 23) ((.pointer (some ⟨bs, 1, none⟩))) hNS (by kernel_rfl) (by kernel_rfl) (by kernel_rfl) (by kernel_rfl) (by kernel_rfl) hHeld (Rg.y_field (T := 31) (k := 1) (x := (Operand.tmp 5)) (vx := (.pointer (some ⟨bs, 0, none⟩))) (by kernel_rfl) (by kernel_rfl) ?_) ?_
  · (intro w hSw; clear hSw; go_simp)
  refine Rg.take (ops := (Rg.opsOf Tryz.f8 5)) 2 (some 24) ((.string P)) hNS (by kernel_rfl) (by kernel_rfl) (by kernel_rfl) (by kernel_rfl) (by kernel_rfl) hHeld (Rg.y_load (T := 9) (x := (Operand.tmp 23)) (vx := (.pointer (some ⟨bs, 1, none⟩))) (by kernel_rfl) (by kernel_rfl) ?_) ?_
  · (intro w hSw; obtain ⟨hS0, hS1, hS2, hS3⟩ := hSw; go_simp)
  refine Rg.take (ops := (Rg.opsOf Tryz.f8 5)) 3 (some 25) ((.pointer (some ⟨bs, 2, none⟩))) hNS (by kernel_rfl) (by kernel_rfl) (by kernel_rfl) (by kernel_rfl) (by kernel_rfl) hHeld (Rg.y_field (T := 31) (k := 2) (x := (Operand.tmp 5)) (vx := (.pointer (some ⟨bs, 0, none⟩))) (by kernel_rfl) (by kernel_rfl) ?_) ?_
  · (intro w hSw; clear hSw; go_simp)
  refine Rg.take (ops := (Rg.opsOf Tryz.f8 5)) 4 (some 26) ((.string Q)) hNS (by kernel_rfl) (by kernel_rfl) (by kernel_rfl) (by kernel_rfl) (by kernel_rfl) hHeld (Rg.y_load (T := 9) (x := (Operand.tmp 25)) (vx := (.pointer (some ⟨bs, 2, none⟩))) (by kernel_rfl) (by kernel_rfl) ?_) ?_
  · (intro w hSw; obtain ⟨hS0, hS1, hS2, hS3⟩ := hSw; go_simp)
  refine Rg.take (ops := (Rg.opsOf Tryz.f8 5)) 6 (some 28) (wv) hNS (by kernel_rfl) (by kernel_rfl) (by kernel_rfl) (by kernel_rfl) (by kernel_rfl) hHeld (Rg.y_move (x := (Operand.tmp 1)) (Or.inl (by kernel_rfl)) (by kernel_rfl)) ?_
  refine Rg.take (ops := (Rg.opsOf Tryz.f8 5)) 7 (some 29) ((.pointer (some ⟨bs, 1, none⟩))) hNS (by kernel_rfl) (by kernel_rfl) (by kernel_rfl) (by kernel_rfl) (by kernel_rfl) hHeld (Rg.y_field (T := 31) (k := 1) (x := (Operand.tmp 5)) (vx := (.pointer (some ⟨bs, 0, none⟩))) (by kernel_rfl) (by kernel_rfl) ?_) ?_
  · (intro w hSw; clear hSw; go_simp)
  refine Rg.take (ops := (Rg.opsOf Tryz.f8 5)) 8 (some 30) ((.string P)) hNS (by kernel_rfl) (by kernel_rfl) (by kernel_rfl) (by kernel_rfl) (by kernel_rfl) hHeld (Rg.y_load (T := 9) (x := (Operand.tmp 29)) (vx := (.pointer (some ⟨bs, 1, none⟩))) (by kernel_rfl) (by kernel_rfl) ?_) ?_
  · (intro w hSw; obtain ⟨hS0, hS1, hS2, hS3⟩ := hSw; go_simp)
  refine Rg.take (ops := (Rg.opsOf Tryz.f8 5)) 9 (some 31) ((.pointer (some ⟨bs, 2, none⟩))) hNS (by kernel_rfl) (by kernel_rfl) (by kernel_rfl) (by kernel_rfl) (by kernel_rfl) hHeld (Rg.y_field (T := 31) (k := 2) (x := (Operand.tmp 5)) (vx := (.pointer (some ⟨bs, 0, none⟩))) (by kernel_rfl) (by kernel_rfl) ?_) ?_
  · (intro w hSw; clear hSw; go_simp)
  refine Rg.take (ops := (Rg.opsOf Tryz.f8 5)) 10 (some 32) ((.string Q)) hNS (by kernel_rfl) (by kernel_rfl) (by kernel_rfl) (by kernel_rfl) (by kernel_rfl) hHeld (Rg.y_load (T := 9) (x := (Operand.tmp 31)) (vx := (.pointer (some ⟨bs, 2, none⟩))) (by kernel_rfl) (by kernel_rfl) ?_) ?_
  · (intro w hSw; obtain ⟨hS0, hS1, hS2, hS3⟩ := hSw; go_simp)
  refine Rg.call (ops := (Rg.opsOf Tryz.f8 5)) (fn := Tryz.f28) (xs := #[Operand.tmp 22, Operand.tmp 24, Operand.tmp 26]) (ats := #[23, 9, 9]) 5 (some 27) 28 #[dv, (.string P), (.string Q)] (by kernel_rfl) (by kernel_rfl) (by kernel_rfl) (by kernel_rfl) (by kernel_rfl) Tryz.func28 (by kernel_rfl) (by kernel_rfl) (by kernel_rfl) ?_
  refine hd.mono ?_
  rintro e w5 ⟨rfl, hA5⟩
  refine ⟨_, rfl, hAS _ hA5, fun hHeld => ?_⟩
  refine Rg.call (ops := (Rg.opsOf Tryz.f8 5)) (fn := Tryz.f30) (xs := #[Operand.tmp 28, Operand.tmp 30, Operand.tmp 32]) (ats := #[25, 9, 9]) 11 (some 33) 30 #[wv, (.string P), (.string Q)] (by kernel_rfl) (by kernel_rfl) (by kernel_rfl) (by kernel_rfl) (by kernel_rfl) Tryz.func30 (by kernel_rfl) (by kernel_rfl) (by kernel_rfl) ?_
  refine (hw _ hA5).mono ?_
  rintro e w6 ⟨rfl, hB6⟩
  refine ⟨_, rfl, hBS _ hB6, fun hHeld => ?_⟩
  refine Rg.take (ops := (Rg.opsOf Tryz.f8 5)) 12 (some 34) ((.bool true)) hNS (by kernel_rfl) (by kernel_rfl) (by kernel_rfl) (by kernel_rfl) (by kernel_rfl) hHeld (Rg.y_bin (b := BinOp.eql) (T := 3) (R' := 3) (x := (Operand.tmp 27)) (y := (Operand.tmp 33)) (vx := (.int .i64 (X : Int))) (vy := (.int .i64 (X : Int))) (by kernel_rfl) (by kernel_rfl) (by kernel_rfl) ?_) ?_
  · (intro w hSw; clear hSw; go_simp)
  refine Rg.take (ops := (Rg.opsOf Tryz.f8 5)) 13 (some 6) ((.bool true)) hNS (by kernel_rfl) (by kernel_rfl) (by kernel_rfl) (by kernel_rfl) (by kernel_rfl) hHeld (Rg.y_move (x := (Operand.tmp 34)) (Or.inr (by kernel_rfl)) (by kernel_rfl)) ?_
  refine Rg.done (ops := (Rg.opsOf Tryz.f8 5)) (by kernel_rfl) ?_
  exact ⟨by kernel_rfl, hB6⟩
set_option maxRecDepth 100000 in
set_option maxHeartbeats 2000000 in
theorem turnRemove (ops : Array Oper) (hops : ops = (Rg.opsOf Tryz.f8 7)) (id : Nat) (bs : Nat) (K M : Int) (P Q : ByteArray) (X : Nat) (dv wv : Value) {u2 u3 u4 u6 u7 u8 u9 u10 u11 u12 u13 u14 u15 u16 u17 u18 u19 u20 u21 u22 u23 u24 u25 u26 u27 u28 u29 u30 u31 u32 u33 u34 u35 u36 u37 u38 u39 u40 u41 u42 u43 u44 u45 u46 u47 u48 u49 u50 u51 u52 u53 u54 u55 u56 u57 u58 u59 u60 u61 u62 u63 u64 u65 u66 u67 u68 u69 u70 u71 u72 u73 u74 u75 u76 u77 u78 u79 u80 u81 u82 u83 u84 u85 u86 u87 u88 u89 u90 u91 u92 u93 u94 u95 u96 u97 u98 u99 u100 u101 : Value} (w : World) (A B : World → Prop)
    (hS : StepAt bs K P Q M w) (hd : Calls Tryz.prog 31 #[dv, (.string P)] w.drew fun e w' => e = .returned (.int .i64 (X : Int)) ∧ A w') (hAS : ∀ W, A W → StepAt bs K P Q M W)
    (hw : ∀ W, A W → Calls Tryz.prog 32 #[wv, (.string P)] W fun e w' => e = .returned (.int .i64 (X : Int)) ∧ B w') (hBS : ∀ W, B W → StepAt bs K P Q M W) :
    (Code.region id ops true).wp Tryz.prog (Rg.Only fun a' w' => a' = ⟨#[dv, wv, u2, u3, u4, (.pointer (some ⟨bs, 0, none⟩)), (.bool true), u7, u8, u9, u10, u11, u12, u13, u14, u15, u16, u17, u18, u19, u20, u21, u22, u23, u24, u25, u26, u27, u28, u29, u30, u31, u32, u33, u34, u35, u36, dv, (.pointer (some ⟨bs, 1, none⟩)), (.string P), (.int .i64 (X : Int)), wv, (.pointer (some ⟨bs, 1, none⟩)), (.string P), (.int .i64 (X : Int)), (.bool true), u46, u47, u48, u49, u50, u51, u52, u53, u54, u55, u56, u57, u58, u59, u60, u61, u62, u63, u64, u65, u66, u67, u68, u69, u70, u71, u72, u73, u74, u75, u76, u77, u78, u79, u80, u81, u82, u83, u84, u85, u86, u87, u88, u89, u90, u91, u92, u93, u94, u95, u96, u97, u98, u99, u100, u101], []⟩ ∧ B w') ⟨#[dv, wv, u2, u3, u4, (.pointer (some ⟨bs, 0, none⟩)), u6, u7, u8, u9, u10, u11, u12, u13, u14, u15, u16, u17, u18, u19, u20, u21, u22, u23, u24, u25, u26, u27, u28, u29, u30, u31, u32, u33, u34, u35, u36, u37, u38, u39, u40, u41, u42, u43, u44, u45, u46, u47, u48, u49, u50, u51, u52, u53, u54, u55, u56, u57, u58, u59, u60, u61, u62, u63, u64, u65, u66, u67, u68, u69, u70, u71, u72, u73, u74, u75, u76, u77, u78, u79, u80, u81, u82, u83, u84, u85, u86, u87, u88, u89, u90, u91, u92, u93, u94, u95, u96, u97, u98, u99, u100, u101], []⟩ w := by
  subst hops
  have hNS : Region.noSelect (Rg.opsOf Tryz.f8 7) = true := by kernel_rfl
  refine wp_region_held_drew (S := StepAt bs K P Q M) (by kernel_rfl) hS (fun hHeld => ?_)
  rw [show (Rg.opsOf Tryz.f8 7).size = 10 by kernel_rfl]
  refine Rg.take (ops := (Rg.opsOf Tryz.f8 7)) 0 (some 37) (dv) hNS (by kernel_rfl) (by kernel_rfl) (by kernel_rfl) (by kernel_rfl) (by kernel_rfl) hHeld (Rg.y_move (x := (Operand.tmp 0)) (Or.inl (by kernel_rfl)) (by kernel_rfl)) ?_
  refine Rg.take (ops := (Rg.opsOf Tryz.f8 7)) 1 (some 38) ((.pointer (some ⟨bs, 1, none⟩))) hNS (by kernel_rfl) (by kernel_rfl) (by kernel_rfl) (by kernel_rfl) (by kernel_rfl) hHeld (Rg.y_field (T := 31) (k := 1) (x := (Operand.tmp 5)) (vx := (.pointer (some ⟨bs, 0, none⟩))) (by kernel_rfl) (by kernel_rfl) ?_) ?_
  · (intro w hSw; clear hSw; go_simp)
  refine Rg.take (ops := (Rg.opsOf Tryz.f8 7)) 2 (some 39) ((.string P)) hNS (by kernel_rfl) (by kernel_rfl) (by kernel_rfl) (by kernel_rfl) (by kernel_rfl) hHeld (Rg.y_load (T := 9) (x := (Operand.tmp 38)) (vx := (.pointer (some ⟨bs, 1, none⟩))) (by kernel_rfl) (by kernel_rfl) ?_) ?_
  · (intro w hSw; obtain ⟨hS0, hS1, hS2, hS3⟩ := hSw; go_simp)
  refine Rg.take (ops := (Rg.opsOf Tryz.f8 7)) 4 (some 41) (wv) hNS (by kernel_rfl) (by kernel_rfl) (by kernel_rfl) (by kernel_rfl) (by kernel_rfl) hHeld (Rg.y_move (x := (Operand.tmp 1)) (Or.inl (by kernel_rfl)) (by kernel_rfl)) ?_
  refine Rg.take (ops := (Rg.opsOf Tryz.f8 7)) 5 (some 42) ((.pointer (some ⟨bs, 1, none⟩))) hNS (by kernel_rfl) (by kernel_rfl) (by kernel_rfl) (by kernel_rfl) (by kernel_rfl) hHeld (Rg.y_field (T := 31) (k := 1) (x := (Operand.tmp 5)) (vx := (.pointer (some ⟨bs, 0, none⟩))) (by kernel_rfl) (by kernel_rfl) ?_) ?_
  · (intro w hSw; clear hSw; go_simp)
  refine Rg.take (ops := (Rg.opsOf Tryz.f8 7)) 6 (some 43) ((.string P)) hNS (by kernel_rfl) (by kernel_rfl) (by kernel_rfl) (by kernel_rfl) (by kernel_rfl) hHeld (Rg.y_load (T := 9) (x := (Operand.tmp 42)) (vx := (.pointer (some ⟨bs, 1, none⟩))) (by kernel_rfl) (by kernel_rfl) ?_) ?_
  · (intro w hSw; obtain ⟨hS0, hS1, hS2, hS3⟩ := hSw; go_simp)
  refine Rg.call (ops := (Rg.opsOf Tryz.f8 7)) (fn := Tryz.f31) (xs := #[Operand.tmp 37, Operand.tmp 39]) (ats := #[23, 9]) 3 (some 40) 31 #[dv, (.string P)] (by kernel_rfl) (by kernel_rfl) (by kernel_rfl) (by kernel_rfl) (by kernel_rfl) Tryz.func31 (by kernel_rfl) (by kernel_rfl) (by kernel_rfl) ?_
  refine hd.mono ?_
  rintro e w5 ⟨rfl, hA5⟩
  refine ⟨_, rfl, hAS _ hA5, fun hHeld => ?_⟩
  refine Rg.call (ops := (Rg.opsOf Tryz.f8 7)) (fn := Tryz.f32) (xs := #[Operand.tmp 41, Operand.tmp 43]) (ats := #[25, 9]) 7 (some 44) 32 #[wv, (.string P)] (by kernel_rfl) (by kernel_rfl) (by kernel_rfl) (by kernel_rfl) (by kernel_rfl) Tryz.func32 (by kernel_rfl) (by kernel_rfl) (by kernel_rfl) ?_
  refine (hw _ hA5).mono ?_
  rintro e w6 ⟨rfl, hB6⟩
  refine ⟨_, rfl, hBS _ hB6, fun hHeld => ?_⟩
  refine Rg.take (ops := (Rg.opsOf Tryz.f8 7)) 8 (some 45) ((.bool true)) hNS (by kernel_rfl) (by kernel_rfl) (by kernel_rfl) (by kernel_rfl) (by kernel_rfl) hHeld (Rg.y_bin (b := BinOp.eql) (T := 3) (R' := 3) (x := (Operand.tmp 40)) (y := (Operand.tmp 44)) (vx := (.int .i64 (X : Int))) (vy := (.int .i64 (X : Int))) (by kernel_rfl) (by kernel_rfl) (by kernel_rfl) ?_) ?_
  · (intro w hSw; clear hSw; go_simp)
  refine Rg.take (ops := (Rg.opsOf Tryz.f8 7)) 9 (some 6) ((.bool true)) hNS (by kernel_rfl) (by kernel_rfl) (by kernel_rfl) (by kernel_rfl) (by kernel_rfl) hHeld (Rg.y_move (x := (Operand.tmp 45)) (Or.inr (by kernel_rfl)) (by kernel_rfl)) ?_
  refine Rg.done (ops := (Rg.opsOf Tryz.f8 7)) (by kernel_rfl) ?_
  exact ⟨by kernel_rfl, hB6⟩
set_option maxRecDepth 100000 in
set_option maxHeartbeats 2000000 in
theorem turnRename (ops : Array Oper) (hops : ops = (Rg.opsOf Tryz.f8 9)) (id : Nat) (bs : Nat) (K M : Int) (P Q : ByteArray) (X : Nat) (dv wv : Value) {u2 u3 u4 u6 u7 u8 u9 u10 u11 u12 u13 u14 u15 u16 u17 u18 u19 u20 u21 u22 u23 u24 u25 u26 u27 u28 u29 u30 u31 u32 u33 u34 u35 u36 u37 u38 u39 u40 u41 u42 u43 u44 u45 u46 u47 u48 u49 u50 u51 u52 u53 u54 u55 u56 u57 u58 u59 u60 u61 u62 u63 u64 u65 u66 u67 u68 u69 u70 u71 u72 u73 u74 u75 u76 u77 u78 u79 u80 u81 u82 u83 u84 u85 u86 u87 u88 u89 u90 u91 u92 u93 u94 u95 u96 u97 u98 u99 u100 u101 : Value} (w : World) (A B : World → Prop)
    (hS : StepAt bs K P Q M w) (hd : Calls Tryz.prog 33 #[dv, (.string P), (.string Q)] w.drew fun e w' => e = .returned (.int .i64 (X : Int)) ∧ A w') (hAS : ∀ W, A W → StepAt bs K P Q M W)
    (hw : ∀ W, A W → Calls Tryz.prog 34 #[wv, (.string P), (.string Q)] W fun e w' => e = .returned (.int .i64 (X : Int)) ∧ B w') (hBS : ∀ W, B W → StepAt bs K P Q M W) :
    (Code.region id ops true).wp Tryz.prog (Rg.Only fun a' w' => a' = ⟨#[dv, wv, u2, u3, u4, (.pointer (some ⟨bs, 0, none⟩)), (.bool true), u7, u8, u9, u10, u11, u12, u13, u14, u15, u16, u17, u18, u19, u20, u21, u22, u23, u24, u25, u26, u27, u28, u29, u30, u31, u32, u33, u34, u35, u36, u37, u38, u39, u40, u41, u42, u43, u44, u45, u46, u47, dv, (.pointer (some ⟨bs, 1, none⟩)), (.string P), (.pointer (some ⟨bs, 2, none⟩)), (.string Q), (.int .i64 (X : Int)), wv, (.pointer (some ⟨bs, 1, none⟩)), (.string P), (.pointer (some ⟨bs, 2, none⟩)), (.string Q), (.int .i64 (X : Int)), (.bool true), u61, u62, u63, u64, u65, u66, u67, u68, u69, u70, u71, u72, u73, u74, u75, u76, u77, u78, u79, u80, u81, u82, u83, u84, u85, u86, u87, u88, u89, u90, u91, u92, u93, u94, u95, u96, u97, u98, u99, u100, u101], []⟩ ∧ B w') ⟨#[dv, wv, u2, u3, u4, (.pointer (some ⟨bs, 0, none⟩)), u6, u7, u8, u9, u10, u11, u12, u13, u14, u15, u16, u17, u18, u19, u20, u21, u22, u23, u24, u25, u26, u27, u28, u29, u30, u31, u32, u33, u34, u35, u36, u37, u38, u39, u40, u41, u42, u43, u44, u45, u46, u47, u48, u49, u50, u51, u52, u53, u54, u55, u56, u57, u58, u59, u60, u61, u62, u63, u64, u65, u66, u67, u68, u69, u70, u71, u72, u73, u74, u75, u76, u77, u78, u79, u80, u81, u82, u83, u84, u85, u86, u87, u88, u89, u90, u91, u92, u93, u94, u95, u96, u97, u98, u99, u100, u101], []⟩ w := by
  subst hops
  have hNS : Region.noSelect (Rg.opsOf Tryz.f8 9) = true := by kernel_rfl
  refine wp_region_held_drew (S := StepAt bs K P Q M) (by kernel_rfl) hS (fun hHeld => ?_)
  rw [show (Rg.opsOf Tryz.f8 9).size = 14 by kernel_rfl]
  refine Rg.take (ops := (Rg.opsOf Tryz.f8 9)) 0 (some 48) (dv) hNS (by kernel_rfl) (by kernel_rfl) (by kernel_rfl) (by kernel_rfl) (by kernel_rfl) hHeld (Rg.y_move (x := (Operand.tmp 0)) (Or.inl (by kernel_rfl)) (by kernel_rfl)) ?_
  refine Rg.take (ops := (Rg.opsOf Tryz.f8 9)) 1 (some 49) ((.pointer (some ⟨bs, 1, none⟩))) hNS (by kernel_rfl) (by kernel_rfl) (by kernel_rfl) (by kernel_rfl) (by kernel_rfl) hHeld (Rg.y_field (T := 31) (k := 1) (x := (Operand.tmp 5)) (vx := (.pointer (some ⟨bs, 0, none⟩))) (by kernel_rfl) (by kernel_rfl) ?_) ?_
  · (intro w hSw; clear hSw; go_simp)
  refine Rg.take (ops := (Rg.opsOf Tryz.f8 9)) 2 (some 50) ((.string P)) hNS (by kernel_rfl) (by kernel_rfl) (by kernel_rfl) (by kernel_rfl) (by kernel_rfl) hHeld (Rg.y_load (T := 9) (x := (Operand.tmp 49)) (vx := (.pointer (some ⟨bs, 1, none⟩))) (by kernel_rfl) (by kernel_rfl) ?_) ?_
  · (intro w hSw; obtain ⟨hS0, hS1, hS2, hS3⟩ := hSw; go_simp)
  refine Rg.take (ops := (Rg.opsOf Tryz.f8 9)) 3 (some 51) ((.pointer (some ⟨bs, 2, none⟩))) hNS (by kernel_rfl) (by kernel_rfl) (by kernel_rfl) (by kernel_rfl) (by kernel_rfl) hHeld (Rg.y_field (T := 31) (k := 2) (x := (Operand.tmp 5)) (vx := (.pointer (some ⟨bs, 0, none⟩))) (by kernel_rfl) (by kernel_rfl) ?_) ?_
  · (intro w hSw; clear hSw; go_simp)
  refine Rg.take (ops := (Rg.opsOf Tryz.f8 9)) 4 (some 52) ((.string Q)) hNS (by kernel_rfl) (by kernel_rfl) (by kernel_rfl) (by kernel_rfl) (by kernel_rfl) hHeld (Rg.y_load (T := 9) (x := (Operand.tmp 51)) (vx := (.pointer (some ⟨bs, 2, none⟩))) (by kernel_rfl) (by kernel_rfl) ?_) ?_
  · (intro w hSw; obtain ⟨hS0, hS1, hS2, hS3⟩ := hSw; go_simp)
  refine Rg.take (ops := (Rg.opsOf Tryz.f8 9)) 6 (some 54) (wv) hNS (by kernel_rfl) (by kernel_rfl) (by kernel_rfl) (by kernel_rfl) (by kernel_rfl) hHeld (Rg.y_move (x := (Operand.tmp 1)) (Or.inl (by kernel_rfl)) (by kernel_rfl)) ?_
  refine Rg.take (ops := (Rg.opsOf Tryz.f8 9)) 7 (some 55) ((.pointer (some ⟨bs, 1, none⟩))) hNS (by kernel_rfl) (by kernel_rfl) (by kernel_rfl) (by kernel_rfl) (by kernel_rfl) hHeld (Rg.y_field (T := 31) (k := 1) (x := (Operand.tmp 5)) (vx := (.pointer (some ⟨bs, 0, none⟩))) (by kernel_rfl) (by kernel_rfl) ?_) ?_
  · (intro w hSw; clear hSw; go_simp)
  refine Rg.take (ops := (Rg.opsOf Tryz.f8 9)) 8 (some 56) ((.string P)) hNS (by kernel_rfl) (by kernel_rfl) (by kernel_rfl) (by kernel_rfl) (by kernel_rfl) hHeld (Rg.y_load (T := 9) (x := (Operand.tmp 55)) (vx := (.pointer (some ⟨bs, 1, none⟩))) (by kernel_rfl) (by kernel_rfl) ?_) ?_
  · (intro w hSw; obtain ⟨hS0, hS1, hS2, hS3⟩ := hSw; go_simp)
  refine Rg.take (ops := (Rg.opsOf Tryz.f8 9)) 9 (some 57) ((.pointer (some ⟨bs, 2, none⟩))) hNS (by kernel_rfl) (by kernel_rfl) (by kernel_rfl) (by kernel_rfl) (by kernel_rfl) hHeld (Rg.y_field (T := 31) (k := 2) (x := (Operand.tmp 5)) (vx := (.pointer (some ⟨bs, 0, none⟩))) (by kernel_rfl) (by kernel_rfl) ?_) ?_
  · (intro w hSw; clear hSw; go_simp)
  refine Rg.take (ops := (Rg.opsOf Tryz.f8 9)) 10 (some 58) ((.string Q)) hNS (by kernel_rfl) (by kernel_rfl) (by kernel_rfl) (by kernel_rfl) (by kernel_rfl) hHeld (Rg.y_load (T := 9) (x := (Operand.tmp 57)) (vx := (.pointer (some ⟨bs, 2, none⟩))) (by kernel_rfl) (by kernel_rfl) ?_) ?_
  · (intro w hSw; obtain ⟨hS0, hS1, hS2, hS3⟩ := hSw; go_simp)
  refine Rg.call (ops := (Rg.opsOf Tryz.f8 9)) (fn := Tryz.f33) (xs := #[Operand.tmp 48, Operand.tmp 50, Operand.tmp 52]) (ats := #[23, 9, 9]) 5 (some 53) 33 #[dv, (.string P), (.string Q)] (by kernel_rfl) (by kernel_rfl) (by kernel_rfl) (by kernel_rfl) (by kernel_rfl) Tryz.func33 (by kernel_rfl) (by kernel_rfl) (by kernel_rfl) ?_
  refine hd.mono ?_
  rintro e w5 ⟨rfl, hA5⟩
  refine ⟨_, rfl, hAS _ hA5, fun hHeld => ?_⟩
  refine Rg.call (ops := (Rg.opsOf Tryz.f8 9)) (fn := Tryz.f34) (xs := #[Operand.tmp 54, Operand.tmp 56, Operand.tmp 58]) (ats := #[25, 9, 9]) 11 (some 59) 34 #[wv, (.string P), (.string Q)] (by kernel_rfl) (by kernel_rfl) (by kernel_rfl) (by kernel_rfl) (by kernel_rfl) Tryz.func34 (by kernel_rfl) (by kernel_rfl) (by kernel_rfl) ?_
  refine (hw _ hA5).mono ?_
  rintro e w6 ⟨rfl, hB6⟩
  refine ⟨_, rfl, hBS _ hB6, fun hHeld => ?_⟩
  refine Rg.take (ops := (Rg.opsOf Tryz.f8 9)) 12 (some 60) ((.bool true)) hNS (by kernel_rfl) (by kernel_rfl) (by kernel_rfl) (by kernel_rfl) (by kernel_rfl) hHeld (Rg.y_bin (b := BinOp.eql) (T := 3) (R' := 3) (x := (Operand.tmp 53)) (y := (Operand.tmp 59)) (vx := (.int .i64 (X : Int))) (vy := (.int .i64 (X : Int))) (by kernel_rfl) (by kernel_rfl) (by kernel_rfl) ?_) ?_
  · (intro w hSw; clear hSw; go_simp)
  refine Rg.take (ops := (Rg.opsOf Tryz.f8 9)) 13 (some 6) ((.bool true)) hNS (by kernel_rfl) (by kernel_rfl) (by kernel_rfl) (by kernel_rfl) (by kernel_rfl) hHeld (Rg.y_move (x := (Operand.tmp 60)) (Or.inr (by kernel_rfl)) (by kernel_rfl)) ?_
  refine Rg.done (ops := (Rg.opsOf Tryz.f8 9)) (by kernel_rfl) ?_
  exact ⟨by kernel_rfl, hB6⟩
set_option maxRecDepth 100000 in
set_option maxHeartbeats 2000000 in
theorem turnAppend (ops : Array Oper) (hops : ops = (Rg.opsOf Tryz.f8 11)) (id : Nat) (bs : Nat) (K M : Int) (P Q : ByteArray) (X : Nat) (dv wv : Value) {u2 u3 u4 u6 u7 u8 u9 u10 u11 u12 u13 u14 u15 u16 u17 u18 u19 u20 u21 u22 u23 u24 u25 u26 u27 u28 u29 u30 u31 u32 u33 u34 u35 u36 u37 u38 u39 u40 u41 u42 u43 u44 u45 u46 u47 u48 u49 u50 u51 u52 u53 u54 u55 u56 u57 u58 u59 u60 u61 u62 u63 u64 u65 u66 u67 u68 u69 u70 u71 u72 u73 u74 u75 u76 u77 u78 u79 u80 u81 u82 u83 u84 u85 u86 u87 u88 u89 u90 u91 u92 u93 u94 u95 u96 u97 u98 u99 u100 u101 : Value} (w : World) (A B : World → Prop)
    (hS : StepAt bs K P Q M w) (hd : Calls Tryz.prog 35 #[dv, (.string P), (.string Q)] w.drew fun e w' => e = .returned (.int .i64 (X : Int)) ∧ A w') (hAS : ∀ W, A W → StepAt bs K P Q M W)
    (hw : ∀ W, A W → Calls Tryz.prog 36 #[wv, (.string P), (.string Q)] W fun e w' => e = .returned (.int .i64 (X : Int)) ∧ B w') (hBS : ∀ W, B W → StepAt bs K P Q M W) :
    (Code.region id ops true).wp Tryz.prog (Rg.Only fun a' w' => a' = ⟨#[dv, wv, u2, u3, u4, (.pointer (some ⟨bs, 0, none⟩)), (.bool true), u7, u8, u9, u10, u11, u12, u13, u14, u15, u16, u17, u18, u19, u20, u21, u22, u23, u24, u25, u26, u27, u28, u29, u30, u31, u32, u33, u34, u35, u36, u37, u38, u39, u40, u41, u42, u43, u44, u45, u46, u47, u48, u49, u50, u51, u52, u53, u54, u55, u56, u57, u58, u59, u60, u61, u62, dv, (.pointer (some ⟨bs, 1, none⟩)), (.string P), (.pointer (some ⟨bs, 2, none⟩)), (.string Q), (.int .i64 (X : Int)), wv, (.pointer (some ⟨bs, 1, none⟩)), (.string P), (.pointer (some ⟨bs, 2, none⟩)), (.string Q), (.int .i64 (X : Int)), (.bool true), u76, u77, u78, u79, u80, u81, u82, u83, u84, u85, u86, u87, u88, u89, u90, u91, u92, u93, u94, u95, u96, u97, u98, u99, u100, u101], []⟩ ∧ B w') ⟨#[dv, wv, u2, u3, u4, (.pointer (some ⟨bs, 0, none⟩)), u6, u7, u8, u9, u10, u11, u12, u13, u14, u15, u16, u17, u18, u19, u20, u21, u22, u23, u24, u25, u26, u27, u28, u29, u30, u31, u32, u33, u34, u35, u36, u37, u38, u39, u40, u41, u42, u43, u44, u45, u46, u47, u48, u49, u50, u51, u52, u53, u54, u55, u56, u57, u58, u59, u60, u61, u62, u63, u64, u65, u66, u67, u68, u69, u70, u71, u72, u73, u74, u75, u76, u77, u78, u79, u80, u81, u82, u83, u84, u85, u86, u87, u88, u89, u90, u91, u92, u93, u94, u95, u96, u97, u98, u99, u100, u101], []⟩ w := by
  subst hops
  have hNS : Region.noSelect (Rg.opsOf Tryz.f8 11) = true := by kernel_rfl
  refine wp_region_held_drew (S := StepAt bs K P Q M) (by kernel_rfl) hS (fun hHeld => ?_)
  rw [show (Rg.opsOf Tryz.f8 11).size = 14 by kernel_rfl]
  refine Rg.take (ops := (Rg.opsOf Tryz.f8 11)) 0 (some 63) (dv) hNS (by kernel_rfl) (by kernel_rfl) (by kernel_rfl) (by kernel_rfl) (by kernel_rfl) hHeld (Rg.y_move (x := (Operand.tmp 0)) (Or.inl (by kernel_rfl)) (by kernel_rfl)) ?_
  refine Rg.take (ops := (Rg.opsOf Tryz.f8 11)) 1 (some 64) ((.pointer (some ⟨bs, 1, none⟩))) hNS (by kernel_rfl) (by kernel_rfl) (by kernel_rfl) (by kernel_rfl) (by kernel_rfl) hHeld (Rg.y_field (T := 31) (k := 1) (x := (Operand.tmp 5)) (vx := (.pointer (some ⟨bs, 0, none⟩))) (by kernel_rfl) (by kernel_rfl) ?_) ?_
  · (intro w hSw; clear hSw; go_simp)
  refine Rg.take (ops := (Rg.opsOf Tryz.f8 11)) 2 (some 65) ((.string P)) hNS (by kernel_rfl) (by kernel_rfl) (by kernel_rfl) (by kernel_rfl) (by kernel_rfl) hHeld (Rg.y_load (T := 9) (x := (Operand.tmp 64)) (vx := (.pointer (some ⟨bs, 1, none⟩))) (by kernel_rfl) (by kernel_rfl) ?_) ?_
  · (intro w hSw; obtain ⟨hS0, hS1, hS2, hS3⟩ := hSw; go_simp)
  refine Rg.take (ops := (Rg.opsOf Tryz.f8 11)) 3 (some 66) ((.pointer (some ⟨bs, 2, none⟩))) hNS (by kernel_rfl) (by kernel_rfl) (by kernel_rfl) (by kernel_rfl) (by kernel_rfl) hHeld (Rg.y_field (T := 31) (k := 2) (x := (Operand.tmp 5)) (vx := (.pointer (some ⟨bs, 0, none⟩))) (by kernel_rfl) (by kernel_rfl) ?_) ?_
  · (intro w hSw; clear hSw; go_simp)
  refine Rg.take (ops := (Rg.opsOf Tryz.f8 11)) 4 (some 67) ((.string Q)) hNS (by kernel_rfl) (by kernel_rfl) (by kernel_rfl) (by kernel_rfl) (by kernel_rfl) hHeld (Rg.y_load (T := 9) (x := (Operand.tmp 66)) (vx := (.pointer (some ⟨bs, 2, none⟩))) (by kernel_rfl) (by kernel_rfl) ?_) ?_
  · (intro w hSw; obtain ⟨hS0, hS1, hS2, hS3⟩ := hSw; go_simp)
  refine Rg.take (ops := (Rg.opsOf Tryz.f8 11)) 6 (some 69) (wv) hNS (by kernel_rfl) (by kernel_rfl) (by kernel_rfl) (by kernel_rfl) (by kernel_rfl) hHeld (Rg.y_move (x := (Operand.tmp 1)) (Or.inl (by kernel_rfl)) (by kernel_rfl)) ?_
  refine Rg.take (ops := (Rg.opsOf Tryz.f8 11)) 7 (some 70) ((.pointer (some ⟨bs, 1, none⟩))) hNS (by kernel_rfl) (by kernel_rfl) (by kernel_rfl) (by kernel_rfl) (by kernel_rfl) hHeld (Rg.y_field (T := 31) (k := 1) (x := (Operand.tmp 5)) (vx := (.pointer (some ⟨bs, 0, none⟩))) (by kernel_rfl) (by kernel_rfl) ?_) ?_
  · (intro w hSw; clear hSw; go_simp)
  refine Rg.take (ops := (Rg.opsOf Tryz.f8 11)) 8 (some 71) ((.string P)) hNS (by kernel_rfl) (by kernel_rfl) (by kernel_rfl) (by kernel_rfl) (by kernel_rfl) hHeld (Rg.y_load (T := 9) (x := (Operand.tmp 70)) (vx := (.pointer (some ⟨bs, 1, none⟩))) (by kernel_rfl) (by kernel_rfl) ?_) ?_
  · (intro w hSw; obtain ⟨hS0, hS1, hS2, hS3⟩ := hSw; go_simp)
  refine Rg.take (ops := (Rg.opsOf Tryz.f8 11)) 9 (some 72) ((.pointer (some ⟨bs, 2, none⟩))) hNS (by kernel_rfl) (by kernel_rfl) (by kernel_rfl) (by kernel_rfl) (by kernel_rfl) hHeld (Rg.y_field (T := 31) (k := 2) (x := (Operand.tmp 5)) (vx := (.pointer (some ⟨bs, 0, none⟩))) (by kernel_rfl) (by kernel_rfl) ?_) ?_
  · (intro w hSw; clear hSw; go_simp)
  refine Rg.take (ops := (Rg.opsOf Tryz.f8 11)) 10 (some 73) ((.string Q)) hNS (by kernel_rfl) (by kernel_rfl) (by kernel_rfl) (by kernel_rfl) (by kernel_rfl) hHeld (Rg.y_load (T := 9) (x := (Operand.tmp 72)) (vx := (.pointer (some ⟨bs, 2, none⟩))) (by kernel_rfl) (by kernel_rfl) ?_) ?_
  · (intro w hSw; obtain ⟨hS0, hS1, hS2, hS3⟩ := hSw; go_simp)
  refine Rg.call (ops := (Rg.opsOf Tryz.f8 11)) (fn := Tryz.f35) (xs := #[Operand.tmp 63, Operand.tmp 65, Operand.tmp 67]) (ats := #[23, 9, 9]) 5 (some 68) 35 #[dv, (.string P), (.string Q)] (by kernel_rfl) (by kernel_rfl) (by kernel_rfl) (by kernel_rfl) (by kernel_rfl) Tryz.func35 (by kernel_rfl) (by kernel_rfl) (by kernel_rfl) ?_
  refine hd.mono ?_
  rintro e w5 ⟨rfl, hA5⟩
  refine ⟨_, rfl, hAS _ hA5, fun hHeld => ?_⟩
  refine Rg.call (ops := (Rg.opsOf Tryz.f8 11)) (fn := Tryz.f36) (xs := #[Operand.tmp 69, Operand.tmp 71, Operand.tmp 73]) (ats := #[25, 9, 9]) 11 (some 74) 36 #[wv, (.string P), (.string Q)] (by kernel_rfl) (by kernel_rfl) (by kernel_rfl) (by kernel_rfl) (by kernel_rfl) Tryz.func36 (by kernel_rfl) (by kernel_rfl) (by kernel_rfl) ?_
  refine (hw _ hA5).mono ?_
  rintro e w6 ⟨rfl, hB6⟩
  refine ⟨_, rfl, hBS _ hB6, fun hHeld => ?_⟩
  refine Rg.take (ops := (Rg.opsOf Tryz.f8 11)) 12 (some 75) ((.bool true)) hNS (by kernel_rfl) (by kernel_rfl) (by kernel_rfl) (by kernel_rfl) (by kernel_rfl) hHeld (Rg.y_bin (b := BinOp.eql) (T := 3) (R' := 3) (x := (Operand.tmp 68)) (y := (Operand.tmp 74)) (vx := (.int .i64 (X : Int))) (vy := (.int .i64 (X : Int))) (by kernel_rfl) (by kernel_rfl) (by kernel_rfl) ?_) ?_
  · (intro w hSw; clear hSw; go_simp)
  refine Rg.take (ops := (Rg.opsOf Tryz.f8 11)) 13 (some 6) ((.bool true)) hNS (by kernel_rfl) (by kernel_rfl) (by kernel_rfl) (by kernel_rfl) (by kernel_rfl) hHeld (Rg.y_move (x := (Operand.tmp 75)) (Or.inr (by kernel_rfl)) (by kernel_rfl)) ?_
  refine Rg.done (ops := (Rg.opsOf Tryz.f8 11)) (by kernel_rfl) ?_
  exact ⟨by kernel_rfl, hB6⟩
set_option maxRecDepth 100000 in
set_option maxHeartbeats 2000000 in
theorem turnRestart (ops : Array Oper) (hops : ops = (Rg.opsOf Tryz.f8 13)) (id : Nat) (bs : Nat) (K M : Int) (P Q : ByteArray) (X : Nat) (dv wv : Value) {u2 u3 u4 u6 u7 u8 u9 u10 u11 u12 u13 u14 u15 u16 u17 u18 u19 u20 u21 u22 u23 u24 u25 u26 u27 u28 u29 u30 u31 u32 u33 u34 u35 u36 u37 u38 u39 u40 u41 u42 u43 u44 u45 u46 u47 u48 u49 u50 u51 u52 u53 u54 u55 u56 u57 u58 u59 u60 u61 u62 u63 u64 u65 u66 u67 u68 u69 u70 u71 u72 u73 u74 u75 u76 u77 u78 u79 u80 u81 u82 u83 u84 u85 u86 u87 u88 u89 u90 u91 u92 u93 u94 u95 u96 u97 u98 u99 u100 u101 : Value} (w : World) (A B : World → Prop)
    (hS : StepAt bs K P Q M w) (hd : Calls Tryz.prog 23 #[dv, (.int .i64 M)] w.drew fun e w' => e = .returned (.int .i64 (X : Int)) ∧ A w') (hAS : ∀ W, A W → StepAt bs K P Q M W)
    (hw : ∀ W, A W → Calls Tryz.prog 37 #[wv, (.int .i64 M)] W fun e w' => e = .returned (.int .i64 (X : Int)) ∧ B w') (hBS : ∀ W, B W → StepAt bs K P Q M W) :
    (Code.region id ops true).wp Tryz.prog (Rg.Only fun a' w' => a' = ⟨#[dv, wv, u2, u3, u4, (.pointer (some ⟨bs, 0, none⟩)), (.bool true), u7, u8, u9, u10, u11, u12, u13, u14, u15, u16, u17, u18, u19, u20, u21, u22, u23, u24, u25, u26, u27, u28, u29, u30, u31, u32, u33, u34, u35, u36, u37, u38, u39, u40, u41, u42, u43, u44, u45, u46, u47, u48, u49, u50, u51, u52, u53, u54, u55, u56, u57, u58, u59, u60, u61, u62, u63, u64, u65, u66, u67, u68, u69, u70, u71, u72, u73, u74, u75, u76, u77, dv, (.pointer (some ⟨bs, 3, none⟩)), (.int .i64 M), (.int .i64 (X : Int)), wv, (.pointer (some ⟨bs, 3, none⟩)), (.int .i64 M), (.int .i64 (X : Int)), (.bool true), u87, u88, u89, u90, u91, u92, u93, u94, u95, u96, u97, u98, u99, u100, u101], []⟩ ∧ B w') ⟨#[dv, wv, u2, u3, u4, (.pointer (some ⟨bs, 0, none⟩)), u6, u7, u8, u9, u10, u11, u12, u13, u14, u15, u16, u17, u18, u19, u20, u21, u22, u23, u24, u25, u26, u27, u28, u29, u30, u31, u32, u33, u34, u35, u36, u37, u38, u39, u40, u41, u42, u43, u44, u45, u46, u47, u48, u49, u50, u51, u52, u53, u54, u55, u56, u57, u58, u59, u60, u61, u62, u63, u64, u65, u66, u67, u68, u69, u70, u71, u72, u73, u74, u75, u76, u77, u78, u79, u80, u81, u82, u83, u84, u85, u86, u87, u88, u89, u90, u91, u92, u93, u94, u95, u96, u97, u98, u99, u100, u101], []⟩ w := by
  subst hops
  have hNS : Region.noSelect (Rg.opsOf Tryz.f8 13) = true := by kernel_rfl
  refine wp_region_held_drew (S := StepAt bs K P Q M) (by kernel_rfl) hS (fun hHeld => ?_)
  rw [show (Rg.opsOf Tryz.f8 13).size = 10 by kernel_rfl]
  refine Rg.take (ops := (Rg.opsOf Tryz.f8 13)) 0 (some 78) (dv) hNS (by kernel_rfl) (by kernel_rfl) (by kernel_rfl) (by kernel_rfl) (by kernel_rfl) hHeld (Rg.y_move (x := (Operand.tmp 0)) (Or.inl (by kernel_rfl)) (by kernel_rfl)) ?_
  refine Rg.take (ops := (Rg.opsOf Tryz.f8 13)) 1 (some 79) ((.pointer (some ⟨bs, 3, none⟩))) hNS (by kernel_rfl) (by kernel_rfl) (by kernel_rfl) (by kernel_rfl) (by kernel_rfl) hHeld (Rg.y_field (T := 31) (k := 3) (x := (Operand.tmp 5)) (vx := (.pointer (some ⟨bs, 0, none⟩))) (by kernel_rfl) (by kernel_rfl) ?_) ?_
  · (intro w hSw; clear hSw; go_simp)
  refine Rg.take (ops := (Rg.opsOf Tryz.f8 13)) 2 (some 80) ((.int .i64 M)) hNS (by kernel_rfl) (by kernel_rfl) (by kernel_rfl) (by kernel_rfl) (by kernel_rfl) hHeld (Rg.y_load (T := 3) (x := (Operand.tmp 79)) (vx := (.pointer (some ⟨bs, 3, none⟩))) (by kernel_rfl) (by kernel_rfl) ?_) ?_
  · (intro w hSw; obtain ⟨hS0, hS1, hS2, hS3⟩ := hSw; go_simp)
  refine Rg.take (ops := (Rg.opsOf Tryz.f8 13)) 4 (some 82) (wv) hNS (by kernel_rfl) (by kernel_rfl) (by kernel_rfl) (by kernel_rfl) (by kernel_rfl) hHeld (Rg.y_move (x := (Operand.tmp 1)) (Or.inl (by kernel_rfl)) (by kernel_rfl)) ?_
  refine Rg.take (ops := (Rg.opsOf Tryz.f8 13)) 5 (some 83) ((.pointer (some ⟨bs, 3, none⟩))) hNS (by kernel_rfl) (by kernel_rfl) (by kernel_rfl) (by kernel_rfl) (by kernel_rfl) hHeld (Rg.y_field (T := 31) (k := 3) (x := (Operand.tmp 5)) (vx := (.pointer (some ⟨bs, 0, none⟩))) (by kernel_rfl) (by kernel_rfl) ?_) ?_
  · (intro w hSw; clear hSw; go_simp)
  refine Rg.take (ops := (Rg.opsOf Tryz.f8 13)) 6 (some 84) ((.int .i64 M)) hNS (by kernel_rfl) (by kernel_rfl) (by kernel_rfl) (by kernel_rfl) (by kernel_rfl) hHeld (Rg.y_load (T := 3) (x := (Operand.tmp 83)) (vx := (.pointer (some ⟨bs, 3, none⟩))) (by kernel_rfl) (by kernel_rfl) ?_) ?_
  · (intro w hSw; obtain ⟨hS0, hS1, hS2, hS3⟩ := hSw; go_simp)
  refine Rg.call (ops := (Rg.opsOf Tryz.f8 13)) (fn := Tryz.f23) (xs := #[Operand.tmp 78, Operand.tmp 80]) (ats := #[23, 3]) 3 (some 81) 23 #[dv, (.int .i64 M)] (by kernel_rfl) (by kernel_rfl) (by kernel_rfl) (by kernel_rfl) (by kernel_rfl) Tryz.func23 (by kernel_rfl) (by kernel_rfl) (by kernel_rfl) ?_
  refine hd.mono ?_
  rintro e w5 ⟨rfl, hA5⟩
  refine ⟨_, rfl, hAS _ hA5, fun hHeld => ?_⟩
  refine Rg.call (ops := (Rg.opsOf Tryz.f8 13)) (fn := Tryz.f37) (xs := #[Operand.tmp 82, Operand.tmp 84]) (ats := #[25, 3]) 7 (some 85) 37 #[wv, (.int .i64 M)] (by kernel_rfl) (by kernel_rfl) (by kernel_rfl) (by kernel_rfl) (by kernel_rfl) Tryz.func37 (by kernel_rfl) (by kernel_rfl) (by kernel_rfl) ?_
  refine (hw _ hA5).mono ?_
  rintro e w6 ⟨rfl, hB6⟩
  refine ⟨_, rfl, hBS _ hB6, fun hHeld => ?_⟩
  refine Rg.take (ops := (Rg.opsOf Tryz.f8 13)) 8 (some 86) ((.bool true)) hNS (by kernel_rfl) (by kernel_rfl) (by kernel_rfl) (by kernel_rfl) (by kernel_rfl) hHeld (Rg.y_bin (b := BinOp.eql) (T := 3) (R' := 3) (x := (Operand.tmp 81)) (y := (Operand.tmp 85)) (vx := (.int .i64 (X : Int))) (vy := (.int .i64 (X : Int))) (by kernel_rfl) (by kernel_rfl) (by kernel_rfl) ?_) ?_
  · (intro w hSw; clear hSw; go_simp)
  refine Rg.take (ops := (Rg.opsOf Tryz.f8 13)) 9 (some 6) ((.bool true)) hNS (by kernel_rfl) (by kernel_rfl) (by kernel_rfl) (by kernel_rfl) (by kernel_rfl) hHeld (Rg.y_move (x := (Operand.tmp 86)) (Or.inr (by kernel_rfl)) (by kernel_rfl)) ?_
  refine Rg.done (ops := (Rg.opsOf Tryz.f8 13)) (by kernel_rfl) ?_
  exact ⟨by kernel_rfl, hB6⟩
set_option maxRecDepth 100000 in
set_option maxHeartbeats 2000000 in
theorem turnRot (ops : Array Oper) (hops : ops = (Rg.opsOf Tryz.f8 15)) (id : Nat) (bs : Nat) (K M : Int) (P Q : ByteArray) (X : Nat) (dv wv : Value) {u2 u3 u4 u6 u7 u8 u9 u10 u11 u12 u13 u14 u15 u16 u17 u18 u19 u20 u21 u22 u23 u24 u25 u26 u27 u28 u29 u30 u31 u32 u33 u34 u35 u36 u37 u38 u39 u40 u41 u42 u43 u44 u45 u46 u47 u48 u49 u50 u51 u52 u53 u54 u55 u56 u57 u58 u59 u60 u61 u62 u63 u64 u65 u66 u67 u68 u69 u70 u71 u72 u73 u74 u75 u76 u77 u78 u79 u80 u81 u82 u83 u84 u85 u86 u87 u88 u89 u90 u91 u92 u93 u94 u95 u96 u97 u98 u99 u100 u101 : Value} (w : World) (A B : World → Prop)
    (hS : StepAt bs K P Q M w) (hd : Calls Tryz.prog 38 #[dv, (.string P), (.int .i64 M)] w.drew fun e w' => e = .returned (.int .i64 (X : Int)) ∧ A w') (hAS : ∀ W, A W → StepAt bs K P Q M W)
    (hw : ∀ W, A W → Calls Tryz.prog 39 #[wv, (.string P), (.int .i64 M)] W fun e w' => e = .returned (.int .i64 (X : Int)) ∧ B w') (hBS : ∀ W, B W → StepAt bs K P Q M W) :
    (Code.region id ops true).wp Tryz.prog (Rg.Only fun a' w' => a' = ⟨#[dv, wv, u2, u3, u4, (.pointer (some ⟨bs, 0, none⟩)), (.bool true), u7, u8, u9, u10, u11, u12, u13, u14, u15, u16, u17, u18, u19, u20, u21, u22, u23, u24, u25, u26, u27, u28, u29, u30, u31, u32, u33, u34, u35, u36, u37, u38, u39, u40, u41, u42, u43, u44, u45, u46, u47, u48, u49, u50, u51, u52, u53, u54, u55, u56, u57, u58, u59, u60, u61, u62, u63, u64, u65, u66, u67, u68, u69, u70, u71, u72, u73, u74, u75, u76, u77, u78, u79, u80, u81, u82, u83, u84, u85, u86, u87, u88, dv, (.pointer (some ⟨bs, 1, none⟩)), (.string P), (.pointer (some ⟨bs, 3, none⟩)), (.int .i64 M), (.int .i64 (X : Int)), wv, (.pointer (some ⟨bs, 1, none⟩)), (.string P), (.pointer (some ⟨bs, 3, none⟩)), (.int .i64 M), (.int .i64 (X : Int)), (.bool true)], []⟩ ∧ B w') ⟨#[dv, wv, u2, u3, u4, (.pointer (some ⟨bs, 0, none⟩)), u6, u7, u8, u9, u10, u11, u12, u13, u14, u15, u16, u17, u18, u19, u20, u21, u22, u23, u24, u25, u26, u27, u28, u29, u30, u31, u32, u33, u34, u35, u36, u37, u38, u39, u40, u41, u42, u43, u44, u45, u46, u47, u48, u49, u50, u51, u52, u53, u54, u55, u56, u57, u58, u59, u60, u61, u62, u63, u64, u65, u66, u67, u68, u69, u70, u71, u72, u73, u74, u75, u76, u77, u78, u79, u80, u81, u82, u83, u84, u85, u86, u87, u88, u89, u90, u91, u92, u93, u94, u95, u96, u97, u98, u99, u100, u101], []⟩ w := by
  subst hops
  have hNS : Region.noSelect (Rg.opsOf Tryz.f8 15) = true := by kernel_rfl
  refine wp_region_held_drew (S := StepAt bs K P Q M) (by kernel_rfl) hS (fun hHeld => ?_)
  rw [show (Rg.opsOf Tryz.f8 15).size = 14 by kernel_rfl]
  refine Rg.take (ops := (Rg.opsOf Tryz.f8 15)) 0 (some 89) (dv) hNS (by kernel_rfl) (by kernel_rfl) (by kernel_rfl) (by kernel_rfl) (by kernel_rfl) hHeld (Rg.y_move (x := (Operand.tmp 0)) (Or.inl (by kernel_rfl)) (by kernel_rfl)) ?_
  refine Rg.take (ops := (Rg.opsOf Tryz.f8 15)) 1 (some 90) ((.pointer (some ⟨bs, 1, none⟩))) hNS (by kernel_rfl) (by kernel_rfl) (by kernel_rfl) (by kernel_rfl) (by kernel_rfl) hHeld (Rg.y_field (T := 31) (k := 1) (x := (Operand.tmp 5)) (vx := (.pointer (some ⟨bs, 0, none⟩))) (by kernel_rfl) (by kernel_rfl) ?_) ?_
  · (intro w hSw; clear hSw; go_simp)
  refine Rg.take (ops := (Rg.opsOf Tryz.f8 15)) 2 (some 91) ((.string P)) hNS (by kernel_rfl) (by kernel_rfl) (by kernel_rfl) (by kernel_rfl) (by kernel_rfl) hHeld (Rg.y_load (T := 9) (x := (Operand.tmp 90)) (vx := (.pointer (some ⟨bs, 1, none⟩))) (by kernel_rfl) (by kernel_rfl) ?_) ?_
  · (intro w hSw; obtain ⟨hS0, hS1, hS2, hS3⟩ := hSw; go_simp)
  refine Rg.take (ops := (Rg.opsOf Tryz.f8 15)) 3 (some 92) ((.pointer (some ⟨bs, 3, none⟩))) hNS (by kernel_rfl) (by kernel_rfl) (by kernel_rfl) (by kernel_rfl) (by kernel_rfl) hHeld (Rg.y_field (T := 31) (k := 3) (x := (Operand.tmp 5)) (vx := (.pointer (some ⟨bs, 0, none⟩))) (by kernel_rfl) (by kernel_rfl) ?_) ?_
  · (intro w hSw; clear hSw; go_simp)
  refine Rg.take (ops := (Rg.opsOf Tryz.f8 15)) 4 (some 93) ((.int .i64 M)) hNS (by kernel_rfl) (by kernel_rfl) (by kernel_rfl) (by kernel_rfl) (by kernel_rfl) hHeld (Rg.y_load (T := 3) (x := (Operand.tmp 92)) (vx := (.pointer (some ⟨bs, 3, none⟩))) (by kernel_rfl) (by kernel_rfl) ?_) ?_
  · (intro w hSw; obtain ⟨hS0, hS1, hS2, hS3⟩ := hSw; go_simp)
  refine Rg.take (ops := (Rg.opsOf Tryz.f8 15)) 6 (some 95) (wv) hNS (by kernel_rfl) (by kernel_rfl) (by kernel_rfl) (by kernel_rfl) (by kernel_rfl) hHeld (Rg.y_move (x := (Operand.tmp 1)) (Or.inl (by kernel_rfl)) (by kernel_rfl)) ?_
  refine Rg.take (ops := (Rg.opsOf Tryz.f8 15)) 7 (some 96) ((.pointer (some ⟨bs, 1, none⟩))) hNS (by kernel_rfl) (by kernel_rfl) (by kernel_rfl) (by kernel_rfl) (by kernel_rfl) hHeld (Rg.y_field (T := 31) (k := 1) (x := (Operand.tmp 5)) (vx := (.pointer (some ⟨bs, 0, none⟩))) (by kernel_rfl) (by kernel_rfl) ?_) ?_
  · (intro w hSw; clear hSw; go_simp)
  refine Rg.take (ops := (Rg.opsOf Tryz.f8 15)) 8 (some 97) ((.string P)) hNS (by kernel_rfl) (by kernel_rfl) (by kernel_rfl) (by kernel_rfl) (by kernel_rfl) hHeld (Rg.y_load (T := 9) (x := (Operand.tmp 96)) (vx := (.pointer (some ⟨bs, 1, none⟩))) (by kernel_rfl) (by kernel_rfl) ?_) ?_
  · (intro w hSw; obtain ⟨hS0, hS1, hS2, hS3⟩ := hSw; go_simp)
  refine Rg.take (ops := (Rg.opsOf Tryz.f8 15)) 9 (some 98) ((.pointer (some ⟨bs, 3, none⟩))) hNS (by kernel_rfl) (by kernel_rfl) (by kernel_rfl) (by kernel_rfl) (by kernel_rfl) hHeld (Rg.y_field (T := 31) (k := 3) (x := (Operand.tmp 5)) (vx := (.pointer (some ⟨bs, 0, none⟩))) (by kernel_rfl) (by kernel_rfl) ?_) ?_
  · (intro w hSw; clear hSw; go_simp)
  refine Rg.take (ops := (Rg.opsOf Tryz.f8 15)) 10 (some 99) ((.int .i64 M)) hNS (by kernel_rfl) (by kernel_rfl) (by kernel_rfl) (by kernel_rfl) (by kernel_rfl) hHeld (Rg.y_load (T := 3) (x := (Operand.tmp 98)) (vx := (.pointer (some ⟨bs, 3, none⟩))) (by kernel_rfl) (by kernel_rfl) ?_) ?_
  · (intro w hSw; obtain ⟨hS0, hS1, hS2, hS3⟩ := hSw; go_simp)
  refine Rg.call (ops := (Rg.opsOf Tryz.f8 15)) (fn := Tryz.f38) (xs := #[Operand.tmp 89, Operand.tmp 91, Operand.tmp 93]) (ats := #[23, 9, 3]) 5 (some 94) 38 #[dv, (.string P), (.int .i64 M)] (by kernel_rfl) (by kernel_rfl) (by kernel_rfl) (by kernel_rfl) (by kernel_rfl) Tryz.func38 (by kernel_rfl) (by kernel_rfl) (by kernel_rfl) ?_
  refine hd.mono ?_
  rintro e w5 ⟨rfl, hA5⟩
  refine ⟨_, rfl, hAS _ hA5, fun hHeld => ?_⟩
  refine Rg.call (ops := (Rg.opsOf Tryz.f8 15)) (fn := Tryz.f39) (xs := #[Operand.tmp 95, Operand.tmp 97, Operand.tmp 99]) (ats := #[25, 9, 3]) 11 (some 100) 39 #[wv, (.string P), (.int .i64 M)] (by kernel_rfl) (by kernel_rfl) (by kernel_rfl) (by kernel_rfl) (by kernel_rfl) Tryz.func39 (by kernel_rfl) (by kernel_rfl) (by kernel_rfl) ?_
  refine (hw _ hA5).mono ?_
  rintro e w6 ⟨rfl, hB6⟩
  refine ⟨_, rfl, hBS _ hB6, fun hHeld => ?_⟩
  refine Rg.take (ops := (Rg.opsOf Tryz.f8 15)) 12 (some 101) ((.bool true)) hNS (by kernel_rfl) (by kernel_rfl) (by kernel_rfl) (by kernel_rfl) (by kernel_rfl) hHeld (Rg.y_bin (b := BinOp.eql) (T := 3) (R' := 3) (x := (Operand.tmp 94)) (y := (Operand.tmp 100)) (vx := (.int .i64 (X : Int))) (vy := (.int .i64 (X : Int))) (by kernel_rfl) (by kernel_rfl) (by kernel_rfl) ?_) ?_
  · (intro w hSw; clear hSw; go_simp)
  refine Rg.take (ops := (Rg.opsOf Tryz.f8 15)) 13 (some 6) ((.bool true)) hNS (by kernel_rfl) (by kernel_rfl) (by kernel_rfl) (by kernel_rfl) (by kernel_rfl) hHeld (Rg.y_move (x := (Operand.tmp 101)) (Or.inr (by kernel_rfl)) (by kernel_rfl)) ?_
  refine Rg.done (ops := (Rg.opsOf Tryz.f8 15)) (by kernel_rfl) ?_
  exact ⟨by kernel_rfl, hB6⟩
end Go.Proofs.YtdpnmdnfnplcfaaGreat.Sc

namespace Go.Proofs.YtdpnmdnfnplcfaaGreat.Sc
open Go.RowKit Tx Pm Dk
set_option linter.unusedVariables false
structure Turns (O : World → (Nat → Prop) → St → Prop) (v : Value) : Prop where
  kind : Kind O
  mkdir : ∀ {w F s i T} (P : ByteArray), O w F s → Far s i T → P.size ≤ 1048576 → Calls Tryz.prog 27 #[v, .string P] w (Does O w F (mkdirS s P))
  write : ∀ {w F s i T} (P : ByteArray) (Q : ByteArray), O w F s → Far s i T → P.size ≤ 1048576 → Q.size ≤ 1048576 → Calls Tryz.prog 28 #[v, .string P, .string Q] w (Does O w F (writeS s P Q))
  remove : ∀ {w F s i T} (P : ByteArray), O w F s → Far s i T → P.size ≤ 1048576 → Calls Tryz.prog 31 #[v, .string P] w (Does O w F (removeS s P))
  rename : ∀ {w F s i T} (P : ByteArray) (Q : ByteArray), O w F s → Far s i T → P.size ≤ 1048576 → Q.size ≤ 1048576 → Calls Tryz.prog 33 #[v, .string P, .string Q] w (Does O w F (renameS s P Q))
  append : ∀ {w F s i T} (P : ByteArray) (Q : ByteArray), O w F s → Far s i T → P.size ≤ 1048576 → Q.size ≤ 1048576 → Calls Tryz.prog 35 #[v, .string P, .string Q] w (Does O w F (appendS s P Q))
  restart : ∀ {w F s i T} (M : Int), O w F s → Far s i T → -9223372036854775808 ≤ M ∧ M ≤ 9223372036854775807 → Calls Tryz.prog 23 #[v, .int .i64 M] w (Does O w F ((0, restartS s M)))
  rot : ∀ {w F s i T} (P : ByteArray) (M : Int), O w F s → Far s i T → P.size ≤ 1048576 → -9223372036854775808 ≤ M ∧ M ≤ 9223372036854775807 → Calls Tryz.prog 38 #[v, .string P, .int .i64 M] w (Does O w F (rotS s P M))
structure TurnsR (O : World → (Nat → Prop) → St → Prop) (v : Value) : Prop where
  mkdir : ∀ {w F s i T} (P : ByteArray), O w F s → Far s i T → P.size ≤ 1048576 → Calls Tryz.prog 29 #[v, .string P] w (Does O w F (mkdirS s P))
  write : ∀ {w F s i T} (P : ByteArray) (Q : ByteArray), O w F s → Far s i T → P.size ≤ 1048576 → Q.size ≤ 1048576 → Calls Tryz.prog 30 #[v, .string P, .string Q] w (Does O w F (writeS s P Q))
  remove : ∀ {w F s i T} (P : ByteArray), O w F s → Far s i T → P.size ≤ 1048576 → Calls Tryz.prog 32 #[v, .string P] w (Does O w F (removeS s P))
  rename : ∀ {w F s i T} (P : ByteArray) (Q : ByteArray), O w F s → Far s i T → P.size ≤ 1048576 → Q.size ≤ 1048576 → Calls Tryz.prog 34 #[v, .string P, .string Q] w (Does O w F (renameS s P Q))
  append : ∀ {w F s i T} (P : ByteArray) (Q : ByteArray), O w F s → Far s i T → P.size ≤ 1048576 → Q.size ≤ 1048576 → Calls Tryz.prog 36 #[v, .string P, .string Q] w (Does O w F (appendS s P Q))
  restart : ∀ {w F s i T} (M : Int), O w F s → Far s i T → -9223372036854775808 ≤ M ∧ M ≤ 9223372036854775807 → Calls Tryz.prog 37 #[v, .int .i64 M] w (Does O w F ((0, restartS s M)))
  rot : ∀ {w F s i T} (P : ByteArray) (M : Int), O w F s → Far s i T → P.size ≤ 1048576 → -9223372036854775808 ≤ M ∧ M ≤ 9223372036854775807 → Calls Tryz.prog 39 #[v, .string P, .int .i64 M] w (Does O w F (rotS s P M))
theorem ref_turns (b : Nat) : TurnsR (RefAt b) (.pointer (some ⟨b, 0, none⟩)) where
  mkdir := fun P h hf hP => by
    obtain ⟨vL, vR, hat, hF⟩ := h
    exact (rMkdir_any b _ vL vR P _ hat (hf.inv.ok hf.i hf.T) (by omega)).mono fun e w' ht => to_left hF ht
  write := fun P Q h hf hP hQ => by
    obtain ⟨vL, vR, hat, hF⟩ := h
    exact (rWrite_any b _ vL vR P Q _ hat (hf.inv.ok hf.i hf.T) (by omega) (by omega)).mono fun e w' ht => to_left hF ht
  append := fun P Q h hf hP hQ => by
    obtain ⟨vL, vR, hat, hF⟩ := h
    exact (rAppend_any b _ vL vR P Q _ hat (hf.inv.ok hf.i hf.T) (by omega) (fun x hx => by have := (hf.inv.size x hx).1; have := hf.T; omega) (by omega)).mono fun e w' ht => to_left hF ht
  rename := fun P Q h hf hP hQ => by
    obtain ⟨vL, vR, hat, hF⟩ := h
    exact (rRename_any b _ vL vR P Q _ hat (hf.inv.ok hf.i hf.T) (by omega) (by omega)).mono fun e w' ht => to_left hF ht
  remove := fun P h hf hP => by
    obtain ⟨vL, vR, hat, hF⟩ := h
    exact (rRemove_any b _ vL vR P _ hat (hf.inv.ok hf.i hf.T) (by omega)).mono fun e w' ht => to_left hF ht
  restart := fun M h hf hM => by
    obtain ⟨vL, vR, hat, hF⟩ := h
    exact (rRestart_any b _ vL vR M _ hat (hf.inv.sound hf.i hf.T) (by have := hf.inv.len; have := hf.i; omega) hM).mono fun e w' ht => to_left hF ht
  rot := fun P M h hf hP hM => by
    obtain ⟨vL, vR, hat, hF⟩ := h
    exact (rRot_any b _ vL vR P M _ hat (hf.inv.ok hf.i hf.T) (by omega) hM (fun x hx => by have := hf.inv.size x hx; have := hf.T; omega)).mono fun e w' ht => to_left hF ht
def tK (K : Int) : Int := if K = 1 then 1 else if K = 2 then 2 else if K = 3 then 6 else if K = 4 then 5 else if K = 5 then 3 else if K = 6 then 9 else if K = 7 then 10 else 0
theorem step_left {O : World → (Nat → Prop) → St → Prop} {w w1 : World} {F : Nat → Prop} {s' : St} {bs : Nat} {K M : Int} {P Q : ByteArray} (h : StepAt bs K P Q M w) (hl : Dk.Left O w F s' w1) (hn : ¬ F bs) (hb : bs < w.heap.size) : StepAt bs K P Q M w1 := by
  obtain ⟨F', _, hc, _⟩ := hl
  have e : ∀ k, w1.cell? ⟨bs, k, none⟩ = w.cell? ⟨bs, k, none⟩ := fun k => by unfold World.cell?; rw [hc.block bs hb hn]
  unfold StepAt
  rw [e, e, e, e]
  exact h
set_option maxRecDepth 100000 in
set_option maxHeartbeats 4000000 in
theorem turn_any {O : World → (Nat → Prop) → St → Prop} (v : Value) (b : Nat) (hwk : Turns O v) {F G : Nat → Prop} {s : St} {i T : Nat} (w : World) (hp : Pair O (RefAt b) w F G s) (far : Far s i T) (K M : Int) (P Q : ByteArray)
    (hP : P.size ≤ 1048576) (hQ : Q.size ≤ 1048576) (hM : -9223372036854775808 ≤ M ∧ M ≤ 9223372036854775807) :
    Calls Tryz.prog 8 #[v, .pointer (some ⟨b, 0, none⟩), .agg #[.int .i64 K, .string P, .string Q, .int .i64 M]] w fun e w' => e = .returned (.bool true) ∧ Both O b w F G (stepS s (tK K) P Q M) w' := by
  have k1 := hwk.kind
  have k2 := ref_kind b
  have hr := ref_turns b
  obtain ⟨o, ho⟩ : ∃ o : Obj, o = .cells #[.int .i64 K, .string P, .string Q, .int .i64 M] 31 := ⟨_, rfl⟩
  have hB0 : Below w.heap.size w (w.alloc o) := (Below.refl _ _).alloc (Nat.le_refl _) _
  have hp0 := pair_below k1 k2 hp hB0
  have hp1 := pair_below k1 k2 hp0 (Below.refl _ _).drew
  have hst : StepAt w.heap.size K P Q M (w.alloc o) := by
    rw [ho]
    exact ⟨by simp, by simp, by simp, by simp⟩
  have hst1 : StepAt w.heap.size K P Q M (w.alloc o).drew := hst
  have hnF : ¬ F w.heap.size := fun hh => by have := k1.lt hp.1 _ hh; omega
  have hnG : ¬ G w.heap.size := fun hh => by have := k2.lt hp.2.1 _ hh; omega
  have hlt1 : w.heap.size < (w.alloc o).drew.heap.size := by show _ < (w.alloc o).heap.size; simp
  -- a call of both
  have two : ∀ (X : Nat × St) (w6 : World), (∃ W : World, Dk.Left O (w.alloc o).drew F X.2 W ∧ Dk.Left (RefAt b) W G X.2 w6) → Both O b w F G X.2 w6 := by
    rintro X w6 ⟨W, hA, hB⟩
    exact both_after (hB0.trans (((Below.refl _ _).drew).mono hB0.size)) (pair_calls k1 k2 hp1 hA (fun (_ : Prop) _ _ _ => trivial) hB)
  have stepA : ∀ (s' : St) (W : World), Dk.Left O (w.alloc o).drew F s' W → StepAt w.heap.size K P Q M W := fun s' W hA => step_left hst1 hA hnF hlt1
  have stepB : ∀ (s' : St) (W : World), (∃ W0 : World, Dk.Left O (w.alloc o).drew F s' W0 ∧ Dk.Left (RefAt b) W0 G s' W) → StepAt w.heap.size K P Q M W := by
    rintro s' W ⟨W0, hA, hB⟩
    have := hA
    obtain ⟨_, _, hc, _⟩ := this
    exact step_left (stepA s' W0 hA) hB hnG (Nat.lt_of_lt_of_le hlt1 hc.size)
  have HTWO := Lib.hid two
  have HSA := Lib.hid stepA
  have HSB := Lib.hid stepB
  have HP1 := Lib.hid hp1
  have HP0 := Lib.hid hp0
  have HPP := Lib.hid hp
  have HST := Lib.hid hst
  have hcells := hst
  obtain ⟨q0, q1, q2, q3⟩ := hcells
  obtain ⟨r, hr0⟩ : ∃ r, r = stepS s (tK K) P Q M := ⟨_, rfl⟩
  rw [← hr0]
  have HR := Lib.hid hr0
  have HO := Lib.hid ho
  have HNF := Lib.hid hnF
  have HNG := Lib.hid hnG
  clear two stepA stepB hp1 hp0 hp hst hst1 hr0 hnF hnG hlt1
  by_cases h1 : K = 1
  · subst h1
    have hs : stepS s (tK 1) P Q M = (mkdirS s P).2 := rfl
    have hd := hwk.mkdir P HP1.out.1 far hP
    clear ho
    go_enter Tryz.func8, Tryz.ntmps8
    go_wp2_with fail
    rw [← HO.out]
    refine Rg.wp_only ?_ (turnMkdir _ (by kernel_rfl) _ w.heap.size _ M P Q (mkdirS s P).1 v (.pointer (some ⟨b, 0, none⟩)) _ (fun W => Dk.Left O (w.alloc o).drew F (mkdirS s P).2 W) (fun W => ∃ W0, Dk.Left O (w.alloc o).drew F (mkdirS s P).2 W0 ∧ Dk.Left (RefAt b) W0 G (mkdirS s P).2 W)
      HST.out hd (HSA.out _) (fun W hA => (hr.mkdir P (pair_other k2 HP1.out hA) far hP).mono fun e w' hh => ⟨hh.1, W, hA, hh.2⟩) (HSB.out _))
    rintro _ w9 ⟨rfl, hB9⟩
    go_wp2_with fail
    go_ret
    refine ⟨rfl, ?_⟩
    rw [HR.out, hs]
    exact HTWO.out (mkdirS s P) _ hB9
  have e1 : ((K : Int) == 1) = false := beq_eq_false_iff_ne.2 h1
  by_cases h2 : K = 2
  · subst h2
    have hs : stepS s (tK 2) P Q M = (writeS s P Q).2 := rfl
    have hd := hwk.write P Q HP1.out.1 far hP hQ
    clear ho
    go_enter Tryz.func8, Tryz.ntmps8
    go_wp2_with fail
    rw [← HO.out]
    refine Rg.wp_only ?_ (turnWrite _ (by kernel_rfl) _ w.heap.size _ M P Q (writeS s P Q).1 v (.pointer (some ⟨b, 0, none⟩)) _ (fun W => Dk.Left O (w.alloc o).drew F (writeS s P Q).2 W) (fun W => ∃ W0, Dk.Left O (w.alloc o).drew F (writeS s P Q).2 W0 ∧ Dk.Left (RefAt b) W0 G (writeS s P Q).2 W)
      HST.out hd (HSA.out _) (fun W hA => (hr.write P Q (pair_other k2 HP1.out hA) far hP hQ).mono fun e w' hh => ⟨hh.1, W, hA, hh.2⟩) (HSB.out _))
    rintro _ w9 ⟨rfl, hB9⟩
    go_wp2_with fail
    go_ret
    refine ⟨rfl, ?_⟩
    rw [HR.out, hs]
    exact HTWO.out (writeS s P Q) _ hB9
  have e2 : ((K : Int) == 2) = false := beq_eq_false_iff_ne.2 h2
  by_cases h3 : K = 3
  · subst h3
    have hs : stepS s (tK 3) P Q M = (removeS s P).2 := rfl
    have hd := hwk.remove P HP1.out.1 far hP
    clear ho
    go_enter Tryz.func8, Tryz.ntmps8
    go_wp2_with fail
    rw [← HO.out]
    refine Rg.wp_only ?_ (turnRemove _ (by kernel_rfl) _ w.heap.size _ M P Q (removeS s P).1 v (.pointer (some ⟨b, 0, none⟩)) _ (fun W => Dk.Left O (w.alloc o).drew F (removeS s P).2 W) (fun W => ∃ W0, Dk.Left O (w.alloc o).drew F (removeS s P).2 W0 ∧ Dk.Left (RefAt b) W0 G (removeS s P).2 W)
      HST.out hd (HSA.out _) (fun W hA => (hr.remove P (pair_other k2 HP1.out hA) far hP).mono fun e w' hh => ⟨hh.1, W, hA, hh.2⟩) (HSB.out _))
    rintro _ w9 ⟨rfl, hB9⟩
    go_wp2_with fail
    go_ret
    refine ⟨rfl, ?_⟩
    rw [HR.out, hs]
    exact HTWO.out (removeS s P) _ hB9
  have e3 : ((K : Int) == 3) = false := beq_eq_false_iff_ne.2 h3
  by_cases h4 : K = 4
  · subst h4
    have hs : stepS s (tK 4) P Q M = (renameS s P Q).2 := rfl
    have hd := hwk.rename P Q HP1.out.1 far hP hQ
    clear ho
    go_enter Tryz.func8, Tryz.ntmps8
    go_wp2_with fail
    rw [← HO.out]
    refine Rg.wp_only ?_ (turnRename _ (by kernel_rfl) _ w.heap.size _ M P Q (renameS s P Q).1 v (.pointer (some ⟨b, 0, none⟩)) _ (fun W => Dk.Left O (w.alloc o).drew F (renameS s P Q).2 W) (fun W => ∃ W0, Dk.Left O (w.alloc o).drew F (renameS s P Q).2 W0 ∧ Dk.Left (RefAt b) W0 G (renameS s P Q).2 W)
      HST.out hd (HSA.out _) (fun W hA => (hr.rename P Q (pair_other k2 HP1.out hA) far hP hQ).mono fun e w' hh => ⟨hh.1, W, hA, hh.2⟩) (HSB.out _))
    rintro _ w9 ⟨rfl, hB9⟩
    go_wp2_with fail
    go_ret
    refine ⟨rfl, ?_⟩
    rw [HR.out, hs]
    exact HTWO.out (renameS s P Q) _ hB9
  have e4 : ((K : Int) == 4) = false := beq_eq_false_iff_ne.2 h4
  by_cases h5 : K = 5
  · subst h5
    have hs : stepS s (tK 5) P Q M = (appendS s P Q).2 := rfl
    have hd := hwk.append P Q HP1.out.1 far hP hQ
    clear ho
    go_enter Tryz.func8, Tryz.ntmps8
    go_wp2_with fail
    rw [← HO.out]
    refine Rg.wp_only ?_ (turnAppend _ (by kernel_rfl) _ w.heap.size _ M P Q (appendS s P Q).1 v (.pointer (some ⟨b, 0, none⟩)) _ (fun W => Dk.Left O (w.alloc o).drew F (appendS s P Q).2 W) (fun W => ∃ W0, Dk.Left O (w.alloc o).drew F (appendS s P Q).2 W0 ∧ Dk.Left (RefAt b) W0 G (appendS s P Q).2 W)
      HST.out hd (HSA.out _) (fun W hA => (hr.append P Q (pair_other k2 HP1.out hA) far hP hQ).mono fun e w' hh => ⟨hh.1, W, hA, hh.2⟩) (HSB.out _))
    rintro _ w9 ⟨rfl, hB9⟩
    go_wp2_with fail
    go_ret
    refine ⟨rfl, ?_⟩
    rw [HR.out, hs]
    exact HTWO.out (appendS s P Q) _ hB9
  have e5 : ((K : Int) == 5) = false := beq_eq_false_iff_ne.2 h5
  by_cases h6 : K = 6
  · subst h6
    have hs : stepS s (tK 6) P Q M = ((0, restartS s M)).2 := rfl
    have hd := hwk.restart M HP1.out.1 far hM
    clear ho
    go_enter Tryz.func8, Tryz.ntmps8
    go_wp2_with fail
    rw [← HO.out]
    refine Rg.wp_only ?_ (turnRestart _ (by kernel_rfl) _ w.heap.size _ M P Q ((0, restartS s M)).1 v (.pointer (some ⟨b, 0, none⟩)) _ (fun W => Dk.Left O (w.alloc o).drew F ((0, restartS s M)).2 W) (fun W => ∃ W0, Dk.Left O (w.alloc o).drew F ((0, restartS s M)).2 W0 ∧ Dk.Left (RefAt b) W0 G ((0, restartS s M)).2 W)
      HST.out hd (HSA.out _) (fun W hA => (hr.restart M (pair_other k2 HP1.out hA) far hM).mono fun e w' hh => ⟨hh.1, W, hA, hh.2⟩) (HSB.out _))
    rintro _ w9 ⟨rfl, hB9⟩
    go_wp2_with fail
    go_ret
    refine ⟨rfl, ?_⟩
    rw [HR.out, hs]
    exact HTWO.out ((0, restartS s M)) _ hB9
  have e6 : ((K : Int) == 6) = false := beq_eq_false_iff_ne.2 h6
  by_cases h7 : K = 7
  · subst h7
    have hs : stepS s (tK 7) P Q M = (rotS s P M).2 := rfl
    have hd := hwk.rot P M HP1.out.1 far hP hM
    clear ho
    go_enter Tryz.func8, Tryz.ntmps8
    go_wp2_with fail
    rw [← HO.out]
    refine Rg.wp_only ?_ (turnRot _ (by kernel_rfl) _ w.heap.size _ M P Q (rotS s P M).1 v (.pointer (some ⟨b, 0, none⟩)) _ (fun W => Dk.Left O (w.alloc o).drew F (rotS s P M).2 W) (fun W => ∃ W0, Dk.Left O (w.alloc o).drew F (rotS s P M).2 W0 ∧ Dk.Left (RefAt b) W0 G (rotS s P M).2 W)
      HST.out hd (HSA.out _) (fun W hA => (hr.rot P M (pair_other k2 HP1.out hA) far hP hM).mono fun e w' hh => ⟨hh.1, W, hA, hh.2⟩) (HSB.out _))
    rintro _ w9 ⟨rfl, hB9⟩
    go_wp2_with fail
    go_ret
    refine ⟨rfl, ?_⟩
    rw [HR.out, hs]
    exact HTWO.out (rotS s P M) _ hB9
  have e7 : ((K : Int) == 7) = false := beq_eq_false_iff_ne.2 h7
  have hs : r = s := by
    rw [HR.out, tK, if_neg h1, if_neg h2, if_neg h3, if_neg h4, if_neg h5, if_neg h6, if_neg h7]
    rfl
  have HS := Lib.hid hs
  clear hs ho
  go_enter Tryz.func8, Tryz.ntmps8
  go_wp2_with fail
  go_ret
  refine ⟨rfl, ?_⟩
  rw [HS.out]
  exact both_same k1 HPP.out ((Below.refl _ _).alloc (Nat.le_refl _) _)
end Go.Proofs.YtdpnmdnfnplcfaaGreat.Sc

namespace Go.Proofs.YtdpnmdnfnplcfaaGreat.En
open Go.RowKit Tx
set_option linter.unusedVariables false
structure Nd where
  kind : Int
  data : ByteArray
structure Et where
  path : ByteArray
  node : Nd
def nv (n : Nd) : Value := .agg #[.int .i64 n.kind, .string n.data]
def cells (x : Et) : List Value := [.string x.path, .int .i64 x.node.kind, .string x.node.data]
def ev (x : Et) : Value := .agg #[.string x.path, .int .i64 x.node.kind, .string x.node.data]
def isInt (k : Int) : Prop := -9223372036854775808 ≤ k ∧ k ≤ 9223372036854775807
def Ents (w : World) (a : Option Addr) (n : Nat) (l : List Et) : Prop := l.length = n ∧ (n = 0 ∨ ∃ b off, a = some ⟨b, off, none⟩ ∧ b < w.heap.size ∧ ∀ k x, l[k]? = some x → w.cell? ⟨b, off + k * 3, none⟩ = some (.string x.path) ∧ w.cell? ⟨b, off + k * 3 + 1, none⟩ = some (.int .i64 x.node.kind) ∧ w.cell? ⟨b, off + k * 3 + 1 + 1, none⟩ = some (.string x.node.data))
theorem Ents.below {w w1 : World} {a : Option Addr} {n : Nat} {l : List Et} (h : Ents w a n l) (hb : Below w.heap.size w w1) : Ents w1 a n l := by
  refine ⟨h.1, ?_⟩
  rcases h.2 with h0 | ⟨b, off, ha, hlt, hc⟩
  · exact .inl h0
  · exact .inr ⟨b, off, ha, Nat.lt_of_lt_of_le hlt hb.size, fun k x hx => ⟨(hb.cell (p := ⟨b, _, none⟩) hlt).trans (hc k x hx).1, (hb.cell (p := ⟨b, _, none⟩) hlt).trans (hc k x hx).2.1, (hb.cell (p := ⟨b, _, none⟩) hlt).trans (hc k x hx).2.2⟩⟩
theorem sz_zero (d : ByteArray) : ((d.size : Int) == 0) = decide (d.size = 0) := by
  by_cases h : d.size = 0
  · rw [decide_eq_true h, h]; rfl
  · rw [decide_eq_false h]
    exact beq_eq_false_iff_ne.2 (by omega)
def whole (n : Nd) : Bool := if n.kind = 2 then decide (n.data.size ≤ 4096) else (decide (n.kind = 0) || decide (n.kind = 1)) && decide (n.data.size = 0)
set_option maxRecDepth 100000 in
set_option maxHeartbeats 1000000 in
theorem refWhole_any (n : Nd) (w : World) (hs : n.data.size ≤ 9223372036854775807) :
    Calls Tryz.prog 50 #[nv n] w fun e w' => e = .returned (.bool (whole n)) ∧ Below w.heap.size w w' := by
  obtain ⟨k, d⟩ := n
  by_cases h2 : k = 2
  · have hw : whole ⟨k, d⟩ = decide (d.size ≤ 4096) := by unfold whole; rw [if_pos h2]
    have e2 : ((k : Int) == 2) = true := by simp [h2]
    rw [hw]
    unfold nv
    clear h2 hw
    go_enter Tryz.func50, Tryz.ntmps50
    go_wp2
    go_ret
    exact ⟨congrArg (fun b => Ending.returned (Value.bool b)) (decide_eq_decide.2 (by omega)), (Below.refl _ _).alloc (Nat.le_refl _) _⟩
  · have hw : whole ⟨k, d⟩ = ((decide (k = 0) || decide (k = 1)) && decide (d.size = 0)) := by unfold whole; rw [if_neg h2]
    have e2 : ((k : Int) == 2) = false := beq_eq_false_iff_ne.2 h2
    rw [hw]
    unfold nv
    clear hw
    by_cases h0 : k = 0
    · subst h0
      clear h2
      rw [show (decide ((0 : Int) = 0) || decide ((0 : Int) = 1)) = true from rfl, Bool.true_and, ← sz_zero d]
      go_enter Tryz.func50, Tryz.ntmps50
      go_wp2
      go_ret
      exact ⟨rfl, (Below.refl _ _).alloc (Nat.le_refl _) _⟩
    · have e0 : ((k : Int) == 0) = false := beq_eq_false_iff_ne.2 h0
      by_cases h1 : k = 1
      · subst h1
        clear h2 h0
        rw [show (decide ((1 : Int) = 0) || decide ((1 : Int) = 1)) = true from rfl, Bool.true_and, ← sz_zero d]
        go_enter Tryz.func50, Tryz.ntmps50
        go_wp2
        go_ret
        exact ⟨rfl, (Below.refl _ _).alloc (Nat.le_refl _) _⟩
      · have e1 : ((k : Int) == 1) = false := beq_eq_false_iff_ne.2 h1
        rw [decide_eq_false h0, decide_eq_false h1, Bool.or_false, Bool.false_and]
        clear h2 h0 h1
        go_enter Tryz.func50, Tryz.ntmps50
        go_wp2
        go_ret
        exact ⟨rfl, (Below.refl _ _).alloc (Nat.le_refl _) _⟩
def tsize : List Et → Nat
  | [] => 0
  | x :: l => x.node.data.size + tsize l
theorem tsize_take (l : List Et) (k : Nat) (x : Et) (h : l[k]? = some x) : tsize (l.take (k + 1)) = tsize (l.take k) + x.node.data.size := by
  induction l generalizing k with
  | nil => cases h
  | cons y l ih =>
    cases k with
    | zero =>
      injection h with h
      subst h
      simp [tsize]
    | succ k =>
      have := ih k h
      rw [List.take_succ_cons, List.take_succ_cons, tsize, tsize, this]
      omega
theorem tsize_le (l : List Et) (k : Nat) : tsize (l.take k) ≤ tsize l := by
  induction l generalizing k with
  | nil => simp
  | cons y l ih =>
    cases k with
    | zero => simp [tsize]
    | succ k => have := ih k; rw [List.take_succ_cons, tsize, tsize]; omega
set_option maxRecDepth 100000 in
set_option maxHeartbeats 1000000 in
theorem refSize_any (a : Option Addr) (n c : Nat) (l : List Et) (w : World) (hl : Ents w a n l) (hn : n ≤ 9223372036854775806) (hs : tsize l ≤ 9223372036854775807) :
    Calls Tryz.prog 25 #[.slice a n c] w fun e w' => e = .returned (.int .i64 (tsize l : Nat)) ∧ w = w' := by
  obtain ⟨hln, hc⟩ := hl
  by_cases h0 : n = 0
  · subst h0
    obtain rfl : l = [] := List.length_eq_zero_iff.1 hln
    clear hc
    go_enter Tryz.func25, Tryz.ntmps25
    go_wp2
    go_loop [3, 4] (fun s i => i = .int .i64 0 ∧ s = .int .i64 0) (fun _ _ => 0)
    case atStart => exact ⟨rfl, rfl⟩
    case round =>
      obtain ⟨rfl, rfl⟩ := hrel
      go_wp2
      go_ret
      exact ⟨rfl, rfl⟩
  · obtain ⟨b, off, rfl, hb, hc⟩ := hc.resolve_left h0
    have HC := Lib.hid hc
    clear hc h0
    go_enter Tryz.func25, Tryz.ntmps25
    go_wp2
    go_loop [3, 4] (fun s i => ∃ k T : Nat, k ≤ n ∧ i = .int .i64 k ∧ s = .int .i64 (T : Nat) ∧ Hid (T = tsize (l.take k))) (fun _ i => n - (intOf i).toNat)
    case atStart => exact ⟨0, 0, Nat.zero_le _, rfl, rfl, rfl⟩
    case round =>
      obtain ⟨k, T, hk, rfl, rfl, hT⟩ := hrel
      by_cases hlt : k < n
      · obtain ⟨x, hx⟩ : ∃ x, l[k]? = some x := ⟨_, List.getElem?_eq_getElem (by omega)⟩
        obtain ⟨c1, c2, c3⟩ := HC.out k x hx
        have hnx := tsize_take l k x hx
        rw [← hT.out] at hnx
        have hle := tsize_le l (k + 1)
        rw [hnx] at hle
        have HN := Lib.hid hnx
        obtain ⟨D, hD⟩ : ∃ D, D = x.node.data := ⟨_, rfl⟩
        rw [← hD] at c3 hle HN
        clear hnx hT hD c1 c2 hln hx
        go_wp2
        go_round
        case rel => exact ⟨k + 1, T + D.size, by omega, by go_num, by go_num, HN.out.symm⟩
        case measure => simp [intOf]; omega
      · obtain rfl : k = n := by omega
        have h := hT.out
        rw [List.take_of_length_le (by omega)] at h
        subst h
        clear hT hln
        go_wp2
        go_ret
        exact ⟨rfl, rfl⟩
theorem infoN : (Tryz.prog.info? 52).map (·.size) = some 2 := by kernel_rfl
def tget (l : List Et) (p : ByteArray) : Nd := match l.find? (fun x => decide (x.path = p)) with
  | some x => x.node
  | none => ⟨0, ⟨#[]⟩⟩
theorem tget_hit (l : List Et) (p : ByteArray) (k : Nat) (x : Et) (h : l[k]? = some x) (hp : x.path = p) (hn : ∀ y ∈ l.take k, y.path ≠ p) : tget l p = x.node := by
  induction l generalizing k with
  | nil => cases h
  | cons y l ih =>
    cases k with
    | zero =>
      injection h with h
      subst h
      rw [tget, List.find?_cons_of_pos (by exact decide_eq_true hp)]
    | succ k =>
      have hy : y.path ≠ p := hn y (by simp)
      have := ih k h (fun z hz => hn z (by rw [List.take_succ_cons]; exact List.mem_cons_of_mem _ hz))
      rw [tget] at this ⊢
      rw [List.find?_cons_of_neg (by simp [hy])]
      exact this
theorem tget_none (l : List Et) (p : ByteArray) (hn : ∀ y ∈ l, y.path ≠ p) : tget l p = ⟨0, ⟨#[]⟩⟩ := by
  rw [tget, List.find?_eq_none.2 (fun y hy => by simp [hn y hy])]
set_option maxRecDepth 100000 in
set_option maxHeartbeats 1000000 in
theorem refGet_any (a : Option Addr) (n c : Nat) (l : List Et) (p : ByteArray) (w : World) (hl : Ents w a n l) (hn : n ≤ 9223372036854775806) :
    Calls Tryz.prog 22 #[.slice a n c, .string p] w fun e w' => e = .returned (nv (tget l p)) ∧ Below w.heap.size w w' := by
  obtain ⟨hln, hc⟩ := hl
  by_cases h0 : n = 0
  · subst h0
    obtain rfl : l = [] := List.length_eq_zero_iff.1 hln
    clear hc
    go_enter Tryz.func22, Tryz.ntmps22
    go_wp2
    go_loop [5] (fun i => i = .int .i64 0) (fun _ => 0)
    case atStart => exact rfl
    case round =>
      obtain rfl := hrel
      go_wp2
      refine bodyPost_ret (results_cell_row rfl _ _ _ _ _ _ _ rfl (heap_alloc_new _ _) Tryz.underlying52 rfl infoN) rfl ?_
      exact ⟨rfl, (Below.refl _ _).alloc (Nat.le_refl _) _⟩
  · obtain ⟨b, off, rfl, hb, hc⟩ := hc.resolve_left h0
    have HC := Lib.hid hc
    have hB : ∀ o, Below w.heap.size w (w.alloc o) := fun o => (Below.refl _ _).alloc (Nat.le_refl _) _
    clear hc h0
    go_enter Tryz.func22, Tryz.ntmps22
    go_wp2
    go_loop [5] (fun i => ∃ k : Nat, k ≤ n ∧ i = .int .i64 k ∧ Hid (∀ y ∈ l.take k, y.path ≠ p)) (fun i => n - (intOf i).toNat)
    case atStart => exact ⟨0, Nat.zero_le _, rfl, fun y hy => by simp at hy⟩
    case round =>
      obtain ⟨k, hk, rfl, hT⟩ := hrel
      by_cases hlt : k < n
      · obtain ⟨x, hx⟩ : ∃ x, l[k]? = some x := ⟨_, List.getElem?_eq_getElem (by omega)⟩
        obtain ⟨c1, c2, c3⟩ := HC.out k x hx
        have d1 := ((hB (.cells #[.int .i64 0, .string ⟨#[]⟩] 52)).cell (p := ⟨b, _, none⟩) hb).trans c1
        have d2 := ((hB (.cells #[.int .i64 0, .string ⟨#[]⟩] 52)).cell (p := ⟨b, _, none⟩) hb).trans c2
        have d3 := ((hB (.cells #[.int .i64 0, .string ⟨#[]⟩] 52)).cell (p := ⟨b, _, none⟩) hb).trans c3
        have hhit := tget_hit l p k x hx
        have hmiss : x.path ≠ p → ∀ y ∈ l.take (k + 1), y.path ≠ p := by
          intro hne y hy
          have hk2 : k < l.length := by omega
          rw [List.take_succ_eq_append_getElem hk2] at hy
          rcases List.mem_append.1 hy with hy | hy
          · exact hT.out y hy
          · rw [List.getElem?_eq_getElem hk2] at hx
            injection hx with hx
            rw [List.mem_singleton.1 hy, hx]
            exact hne
        obtain ⟨P, N⟩ := x
        obtain ⟨K, D⟩ := N
        simp only at c1 c2 c3 d1 d2 d3 hhit hmiss
        by_cases hp : P = p
        · have HR := Lib.hid (hhit hp hT.out)
          have e : (P.toList == p.toList) = true := by rw [hp]; exact beq_self_eq_true _
          clear hhit hmiss hT c1 c2 c3 hx hp hln
          go_wp2
          refine bodyPost_ret (results_cell_row rfl _ _ _ _ _ _ _ rfl (heap_alloc_new _ _) Tryz.underlying52 rfl infoN) rfl ?_
          exact ⟨by rw [HR.out]; rfl, (Below.refl _ _).alloc (Nat.le_refl _) _⟩
        · have HM := Lib.hid (hmiss hp)
          have e := bytes_ne hp
          clear hhit hmiss hT c1 c2 c3 hx hp hln
          go_wp2
          go_round
          case rel => exact ⟨k + 1, by omega, by go_num, HM⟩
          case measure => simp [intOf]; omega
      · obtain rfl : k = n := by omega
        have h := hT.out
        rw [List.take_of_length_le (by omega)] at h
        have HR := Lib.hid (tget_none l p h)
        clear hT hln h
        go_wp2
        refine bodyPost_ret (results_cell_row rfl _ _ _ _ _ _ _ rfl (heap_alloc_new _ _) Tryz.underlying52 rfl infoN) rfl ?_
        exact ⟨by rw [HR.out]; rfl, (Below.refl _ _).alloc (Nat.le_refl _) _⟩
end Go.Proofs.YtdpnmdnfnplcfaaGreat.En

namespace Go.Proofs.YtdpnmdnfnplcfaaGreat.Sc
open Go.RowKit Tx Pm Dk
set_option linter.unusedVariables false
structure Keeps (s s' : St) : Prop where
  up : s.stamps ≤ s'.stamps
  items : ∀ x ∈ s'.L, (∃ y ∈ s.L, y.path = x.path ∧ y.stamp = x.stamp ∧ y.data = x.data ∧ y.dir = x.dir) ∨ (s.stamps < x.stamp ∧ x.stamp ≤ s'.stamps) ∨ (x.dir = true ∧ x.stamp = 0)
theorem Keeps.refl (s : St) : Keeps s s := ⟨Nat.le_refl _, fun x hx => .inl ⟨x, hx, rfl, rfl, rfl, rfl⟩⟩
theorem Keeps.trans {a b c : St} (h : Keeps a b) (k : Keeps b c) : Keeps a c := by
  refine ⟨Nat.le_trans h.up k.up, fun x hx => ?_⟩
  rcases k.items x hx with ⟨y, hy, e1, e2, e3, e4⟩ | ⟨h1, h2⟩ | h1
  · rcases h.items y hy with ⟨z, hz, f1, f2, f3, f4⟩ | ⟨g1, g2⟩ | ⟨g1, g2⟩
    · exact .inl ⟨z, hz, f1.trans e1, f2.trans e2, f3.trans e3, f4.trans e4⟩
    · exact .inr (.inl ⟨by omega, by have := k.up; omega⟩)
    · exact .inr (.inr ⟨by rw [← e4]; exact g1, by rw [← e2]; exact g2⟩)
  · exact .inr (.inl ⟨by have := h.up; omega, h2⟩)
  · exact .inr (.inr h1)
theorem keeps_sub {s s' : St} (h : ∀ x ∈ s'.L, x ∈ s.L) (hs : s.stamps = s'.stamps) : Keeps s s' := ⟨Nat.le_of_eq hs, fun x hx => .inl ⟨x, h x hx, rfl, rfl, rfl, rfl⟩⟩
theorem keeps_done (s : St) : Keeps s (done s).2 := keeps_sub (fun x hx => by rw [done_L] at hx; exact hx) (done_stamps s).symm
theorem keeps_ins {s s' : St} {l : List It} {x : It} (hl : ∀ y ∈ l, y ∈ s.L) (hL : s'.L = ins l x) (hs : s.stamps ≤ s'.stamps)
    (hx : (∃ y ∈ s.L, y.path = x.path ∧ y.stamp = x.stamp ∧ y.data = x.data ∧ y.dir = x.dir) ∨ (s.stamps < x.stamp ∧ x.stamp ≤ s'.stamps) ∨ (x.dir = true ∧ x.stamp = 0)) : Keeps s s' := by
  refine ⟨hs, fun y hy => ?_⟩
  rw [hL] at hy
  rcases mem_ins hy with rfl | hy
  · exact hx
  · exact .inl ⟨y, hl y hy, rfl, rfl, rfl, rfl⟩
theorem keeps_putS {s : St} {l : List It} {x : It} (hl : ∀ y ∈ l, y ∈ s.L) : Keeps s (putS { (done s).2 with L := l } x) := by
  refine keeps_ins (x := stamped { (done s).2 with L := l } x) hl rfl ?_ (.inr (.inl ⟨?_, ?_⟩))
  · show s.stamps ≤ (done s).2.stamps + 1
    rw [done_stamps]; omega
  · show s.stamps < (done s).2.stamps + 1
    rw [done_stamps]; omega
  · exact Nat.le_refl _
theorem keeps_put0 {s : St} {x : It} : Keeps s (putS (done s).2 x) := by
  refine keeps_ins (l := s.L) (x := stamped (done s).2 x) (fun _ h => h) ?_ ?_ (.inr (.inl ⟨?_, ?_⟩))
  · show ins (done s).2.L _ = _
    rw [done_L]
  · show s.stamps ≤ (done s).2.stamps + 1
    rw [done_stamps]; omega
  · show s.stamps < (done s).2.stamps + 1
    rw [done_stamps]; omega
  · exact Nat.le_refl _
theorem keeps_mkdir (s : St) (p : ByteArray) : Keeps s (mkdirS s p).2 := by
  unfold mkdirS
  split
  · exact .refl s
  split
  · exact .refl s
  split
  · exact .refl s
  split
  · exact keeps_done s
  · refine keeps_ins (l := s.L) (fun _ h => h) (by show ins (done s).2.L _ = _; rw [done_L]) (by show _ ≤ (done s).2.stamps; rw [done_stamps]; omega) (.inr (.inr ⟨rfl, rfl⟩))
theorem keeps_write (s : St) (p d : ByteArray) : Keeps s (writeS s p d).2 := by
  unfold writeS
  split
  · exact .refl s
  split
  · exact .refl s
  split
  · exact .refl s
  split
  · exact .refl s
  split
  · exact keeps_done s
  · exact keeps_put0
theorem keeps_append (s : St) (p d : ByteArray) : Keeps s (appendS s p d).2 := by
  unfold appendS
  split
  · exact .refl s
  split
  · exact .refl s
  split
  · exact keeps_done s
  · exact keeps_put0
theorem keeps_sync (s : St) (p : ByteArray) : Keeps s (syncS s p).2 := by
  unfold syncS
  split
  · exact .refl s
  split
  · exact keeps_done s
  · rename_i h0 _
    obtain ⟨k, x, hk, hx, hf, _, hp, hd⟩ := there_file (by omega : there s p = 0)
    have ho : old s.L p = x := by unfold old; rw [hf]; rfl
    refine keeps_ins (l := s.L) (fun _ h => h) (by show ins (done s).2.L _ = _; rw [done_L]) (by show _ ≤ (done s).2.stamps; rw [done_stamps]; omega) (.inl ⟨x, List.mem_of_getElem? hx, ?_⟩)
    rw [ho]
    exact ⟨rfl, rfl, rfl, rfl⟩
theorem keeps_remove (s : St) (p : ByteArray) : Keeps s (removeS s p).2 := by
  unfold removeS
  split
  · exact .refl s
  split
  · exact .refl s
  split
  · exact .refl s
  split
  · exact keeps_done s
  · exact keeps_sub (fun x hx => by have := (List.mem_filter.1 hx).1; rw [done_L] at this; exact this) (done_stamps s).symm
theorem keeps_rename (s : St) (f t : ByteArray) : Keeps s (renameS s f t).2 := by
  unfold renameS
  split
  · exact .refl s
  split
  · exact .refl s
  split
  · exact .refl s
  split
  · exact .refl s
  split
  · exact .refl s
  split
  · exact keeps_done s
  · exact keeps_putS (fun y hy => by have := (List.mem_filter.1 hy).1; rw [done_L] at this; exact this)
theorem keeps_rot (s : St) (p : ByteArray) (bit : Int) : Keeps s (rotS s p bit).2 := by
  unfold rotS
  split
  · exact .refl s
  · exact keeps_ins (l := s.L) (x := stamped s _) (fun _ h => h) rfl (by show _ ≤ s.stamps + 1; omega) (.inr (.inl ⟨by show _ < s.stamps + 1; omega, Nat.le_refl _⟩))
theorem restart_items (loss : Nat) : ∀ (l : List It) (n st : Nat), st ≤ (restartL loss l n st).2 ∧ ∀ x ∈ (restartL loss l n st).1, x ∈ l ∨ (st < x.stamp ∧ x.stamp ≤ (restartL loss l n st).2)
  | [], n, st => ⟨Nat.le_refl _, fun x hx => by cases hx⟩
  | y :: l, n, st => by
    rw [restartL]
    split
    · obtain ⟨h1, h2⟩ := restart_items loss l (n + 1) (st + 1)
      refine ⟨by show st ≤ (restartL loss l (n + 1) (st + 1)).2; omega, fun x hx => ?_⟩
      rcases List.mem_cons.1 hx with rfl | hx
      · exact .inr ⟨by show st < st + 1; omega, h1⟩
      · rcases h2 x hx with h | ⟨h3, h4⟩
        · exact .inl (List.mem_cons_of_mem _ h)
        · exact .inr ⟨by omega, h4⟩
    · obtain ⟨h1, h2⟩ := restart_items loss l n st
      refine ⟨h1, fun x hx => ?_⟩
      rcases List.mem_cons.1 hx with rfl | hx
      · exact .inl (List.mem_cons_self ..)
      · exact (h2 x hx).imp (fun h => List.mem_cons_of_mem _ h) id
theorem keeps_restart (s : St) (loss : Int) : Keeps s (restartS s loss) := by
  obtain ⟨h1, h2⟩ := restart_items (u64 loss) s.L 0 s.stamps
  refine ⟨h1, fun x hx => ?_⟩
  rcases h2 x hx with h | h
  · exact .inl ⟨x, h, rfl, rfl, rfl, rfl⟩
  · exact .inr (.inl h)
theorem keeps_step (s : St) (K N : Int) (P Q : ByteArray) : Keeps s (stepS s K P Q N) := by
  unfold stepS
  split
  · exact keeps_mkdir s P
  split
  · exact keeps_write s P Q
  split
  · exact keeps_append s P Q
  split
  · exact keeps_sync s P
  split
  · exact keeps_rename s P Q
  split
  · exact keeps_remove s P
  split
  · unfold limitS
    split
    · exact .refl s
    split
    · exact .refl s
    · exact keeps_sub (fun _ h => h) rfl
  split
  · exact keeps_sub (fun _ h => h) rfl
  split
  · exact keeps_restart s N
  split
  · exact keeps_rot s P N
  · exact .refl s
def Stp (s : St) : Prop := ∀ x ∈ s.L, x.stamp ≤ s.stamps
theorem stp_new : Stp newS := fun x hx => by cases hx
theorem Stp.keep {s s' : St} (h : Stp s) (k : Keeps s s') : Stp s' := fun x hx => by
  rcases k.items x hx with ⟨y, hy, _, e, _, _⟩ | ⟨_, h2⟩ | ⟨_, h2⟩
  · have := h y hy
    have := k.up
    omega
  · exact h2
  · omega
structure Sn where
  path : ByteArray
  stamp : Nat
  node : En.Nd
def Good (s : St) (v : ByteArray) (seen : List Sn) : Prop := ∀ x ∈ seen, x.node.kind = 2 → x.stamp ≤ s.stamps ∧ ∀ y ∈ s.L, y.path = v ++ ⟨#[47]⟩ ++ x.path → y.stamp = x.stamp → y.dir = false → y.data = x.node.data
theorem good_none (s : St) (v : ByteArray) : Good s v [] := fun x hx => by cases hx
theorem Good.keep {s s' : St} {v : ByteArray} {seen : List Sn} (h : Good s v seen) (k : Keeps s s') : Good s' v seen := fun x hx hk => by
  obtain ⟨h1, h2⟩ := h x hx hk
  refine ⟨by have := k.up; omega, fun y hy e1 e2 e3 => ?_⟩
  rcases k.items y hy with ⟨z, hz, f1, f2, f3, f4⟩ | ⟨g1, g2⟩ | ⟨g1, g2⟩
  · rw [← f3]
    exact h2 z hz (f1.trans e1) (f2.trans e2) (f4.trans e3)
  · omega
  · rw [g1] at e3
    cases e3
def nodeOf (x : It) : En.Nd := if x.dir then ⟨1, ⟨#[]⟩⟩ else ⟨2, x.data⟩
end Go.Proofs.YtdpnmdnfnplcfaaGreat.Sc

namespace Go.Proofs.YtdpnmdnfnplcfaaGreat.En
open Go.RowKit Tx
set_option linter.unusedVariables false
theorem guardE : Tryz.prog.eqGuardType Tryz.prog.depth 54 = false := by kernel_rfl
theorem guardN : Tryz.prog.eqGuardType Tryz.prog.depth 52 = false := by kernel_rfl
theorem to_list {a b : ByteArray} : a.toList = b.toList ↔ a = b := by
  rw [ByteArray.toList_eq, ByteArray.toList_eq]
  exact ⟨fun h => ByteArray.ext (Array.toList_inj.1 h), fun h => by rw [h]⟩
theorem at_next {la lb : List Et} {k : Nat} {x : Et} (hx : la[k]? = some x) (hy : lb[k]? = some x) (h : la.take k = lb.take k) : la.take (k + 1) = lb.take (k + 1) := by
  obtain ⟨ha, ea⟩ := List.getElem?_eq_some_iff.1 hx
  obtain ⟨hb, eb⟩ := List.getElem?_eq_some_iff.1 hy
  rw [List.take_succ_eq_append_getElem ha, List.take_succ_eq_append_getElem hb, h, ea, eb]
theorem not_same {la lb : List Et} {k : Nat} {x y : Et} (hx : la[k]? = some x) (hy : lb[k]? = some y) (h : x ≠ y) : la ≠ lb := by
  rintro rfl
  rw [hx] at hy
  injection hy with hy
  exact h hy
def SameTo (la lb : List Et) (w : World) (e : Ending) (w' : World) : Prop := ∃ B, (B = true ↔ la = lb) ∧ e = .returned (.bool B) ∧ Below w.heap.size w w'
set_option maxRecDepth 100000 in
set_option maxHeartbeats 1000000 in
theorem refSame_any (a b : Option Addr) (n m ca cb : Nat) (la lb : List Et) (w : World) (ha : Ents w a n la) (hb : Ents w b m lb) (hn : n ≤ 9223372036854775806) (hm : m ≤ 9223372036854775806) :
    Calls Tryz.prog 12 #[.slice a n ca, .slice b m cb] w (SameTo la lb w) := by
  obtain ⟨hla, hca⟩ := ha
  obtain ⟨hlb, hcb⟩ := hb
  by_cases hnm : n = m
  · subst hnm
    have e0 : ((n : Int) == n) = true := beq_self_eq_true _
    by_cases h0 : n = 0
    · subst h0
      obtain rfl : la = [] := List.length_eq_zero_iff.1 hla
      obtain rfl : lb = [] := List.length_eq_zero_iff.1 hlb
      clear hca hcb
      go_enter Tryz.func12, Tryz.ntmps12
      go_wp2
      go_loop [5] (fun i => i = .int .i64 0) (fun _ => 0)
      case atStart => exact rfl
      case round =>
        obtain rfl := hrel
        go_wp2
        go_ret
        exact ⟨true, Iff.intro (fun _ => rfl) (fun _ => rfl), rfl, Below.refl _ _⟩
    · obtain ⟨ba, oa, rfl, hba, hca⟩ := hca.resolve_left h0
      obtain ⟨bb, ob, rfl, hbb, hcb⟩ := hcb.resolve_left h0
      have HA := Lib.hid hca
      have HB := Lib.hid hcb
      clear hca hcb h0
      go_enter Tryz.func12, Tryz.ntmps12
      go_wp2_with fail
      go_loopw [5] (fun i wr => ∃ k : Nat, k ≤ n ∧ i = .int .i64 k ∧ Hid (la.take k = lb.take k) ∧ Below w.heap.size w wr) (fun i _ => n - (intOf i).toNat)
      case atStart => exact ⟨0, Nat.zero_le _, rfl, rfl, Below.refl _ _⟩
      case round =>
        obtain ⟨k, hk, rfl, hT, hW⟩ := hrel
        by_cases hlt : k < n
        · obtain ⟨x, hx⟩ : ∃ x, la[k]? = some x := ⟨_, List.getElem?_eq_getElem (by omega)⟩
          obtain ⟨y, hy⟩ : ∃ y, lb[k]? = some y := ⟨_, List.getElem?_eq_getElem (by omega)⟩
          obtain ⟨c1, c2, c3⟩ := HA.out k x hx
          obtain ⟨d1, d2, d3⟩ := HB.out k y hy
          have f1 := (hW.cell (p := ⟨ba, _, none⟩) hba).trans c1
          have f2 := (hW.cell (p := ⟨ba, _, none⟩) hba).trans c2
          have f3 := (hW.cell (p := ⟨ba, _, none⟩) hba).trans c3
          have g1 := (hW.cell (p := ⟨bb, _, none⟩) hbb).trans d1
          have g2 := (hW.cell (p := ⟨bb, _, none⟩) hbb).trans d2
          have g3 := (hW.cell (p := ⟨bb, _, none⟩) hbb).trans d3
          have hlt1 : (k : Int) < (n : Int) := by omega
          have hgE := guardE
          clear c1 c2 c3 d1 d2 d3
          obtain ⟨P, K, D⟩ := x
          obtain ⟨P', K', D'⟩ := y
          simp only at f1 f2 f3 g1 g2 g3
          by_cases e1 : P.toList = P'.toList
          · by_cases e2 : K = K'
            · by_cases e3 : D.toList = D'.toList
              · obtain rfl := to_list.1 e1
                obtain rfl := to_list.1 e3
                subst e2
                have HN := Lib.hid (at_next hx hy hT.out)
                clear hx hy hT hla hlb e1 e3
                go_wp2_with fail
                go_quiet (fail)
                go_wp2_with fail
                go_roundw
                case rel => exact ⟨k + 1, by omega, by go_num, HN, below_drewN hW _⟩
                case measure => simp [intOf]; omega
              · have HE := Lib.hid (not_same hx hy (fun h => by injection h with h1 h2; injection h2 with h2 h3; exact e3 (to_list.2 h3)))
                clear hx hy hT hla hlb
                go_wp2_with fail
                go_quiet (fail)
                go_wp2_with fail
                go_ret
                exact ⟨false, Iff.intro (fun h => by cases h) (fun h => absurd h HE.out), rfl, below_drewN hW _⟩
            · have HE := Lib.hid (not_same hx hy (fun h => by injection h with h1 h2; injection h2 with h2 h3; exact e2 h2))
              clear hx hy hT hla hlb
              go_wp2_with fail
              go_quiet (fail)
              go_wp2_with fail
              go_ret
              exact ⟨false, Iff.intro (fun h => by cases h) (fun h => absurd h HE.out), rfl, below_drewN hW _⟩
          · have HE := Lib.hid (not_same hx hy (fun h => by injection h with h1 h2; exact e1 (to_list.2 h1)))
            clear hx hy hT hla hlb
            go_wp2_with fail
            go_quiet (fail)
            go_wp2_with fail
            go_ret
            exact ⟨false, Iff.intro (fun h => by cases h) (fun h => absurd h HE.out), rfl, below_drewN hW _⟩
        · obtain rfl : k = n := by omega
          have h := hT.out
          rw [List.take_of_length_le (by omega), List.take_of_length_le (by omega)] at h
          have HE := Lib.hid h
          clear hT h hla hlb
          go_wp2_with fail
          go_ret
          exact ⟨true, Iff.intro (fun _ => HE.out) (fun _ => rfl), rfl, hW⟩
  · have e0 : ((n : Int) == m) = false := beq_eq_false_iff_ne.2 (by omega)
    have HE : Hid (la ≠ lb) := fun h => hnm (by rw [← hla, ← hlb, h])
    clear hnm hca hcb hla hlb
    go_enter Tryz.func12, Tryz.ntmps12
    go_wp2
    go_ret
    exact ⟨false, Iff.intro (fun h => by cases h) (fun h => absurd h HE.out), rfl, Below.refl _ _⟩
end Go.Proofs.YtdpnmdnfnplcfaaGreat.En

namespace Go.Proofs.YtdpnmdnfnplcfaaGreat.En
open Go.RowKit Tx Pm Pr
set_option linter.unusedVariables false
theorem infoE : (Tryz.prog.info? 54).map (fun i => (i.zero, i.size, i.bytes)) = some (some (.agg #[.string ⟨#[]⟩, .int .i64 0, .string ⟨#[]⟩]), 3, 40) := by kernel_rfl
def Own (w : World) (B : Nat) (v : Value) (l : List Et) : Prop := w.ownsRow B 54 3 v l.length (l.flatMap cells)
theorem Own.below {w w1 : World} {B : Nat} {v : Value} {l : List Et} (h : Own w B v l) (hb : Below w.heap.size w w1) : Own w1 B v l := by
  refine ⟨h.1, ?_⟩
  rcases h.2 with h0 | ⟨g', cap', cur, hv, hg, hh, r⟩
  · exact .inl h0
  · exact .inr ⟨g', cap', cur, hv, hg, (hb.block g' (Array.getElem?_eq_some_iff.1 hh).1).trans hh, r⟩
theorem cell_three_new (w : World) (a b c : Value) (t : TypeId) : ∀ j u, [a, b, c][j]? = some u → (w.alloc (.cells #[a, b, c] t)).cell? ((⟨w.heap.size, 0, none⟩ : Addr).add j) = some u := by
  intro j u hj
  match j, hj with
  | 0, hj => simp at hj; subst hj; simp [Addr.add]
  | 1, hj => simp at hj; subst hj; simp [Addr.add]
  | 2, hj => simp at hj; subst hj; simp [Addr.add]
  | j + 3, hj => simp at hj
theorem cells_one (x : Et) : ∀ u ∈ cells x, u.oneCell' = true := by
  intro u hu
  simp [cells] at hu
  rcases hu with rfl | rfl | rfl <;> rfl
theorem flat_at : ∀ (l : List Et) (k : Nat) (x : Et) (j : Nat), l[k]? = some x → j < 3 → (l.flatMap cells)[k * 3 + j]? = (cells x)[j]?
  | [], k, x, j, h, _ => by cases h
  | y :: l, 0, x, j, h, hj => by
    injection h with h
    subst h
    rw [List.flatMap_cons, List.getElem?_append_left (by rw [Nat.zero_mul, Nat.zero_add]; exact hj), Nat.zero_mul, Nat.zero_add]
  | y :: l, k + 1, x, j, h, hj => by
    have e : (k + 1) * 3 + j = (cells y).length + (k * 3 + j) := by
      show _ = 3 + _
      omega
    rw [List.flatMap_cons, e, List.getElem?_append_right (by omega), Nat.add_sub_cancel_left]
    exact flat_at l k x j h hj
theorem Own.form {w : World} {B : Nat} {v : Value} {l : List Et} (h : Own w B v l) : ∃ a c, v = .slice a l.length c ∧ Ents w a l.length l ∧ l.length ≤ c ∧ c ≤ maxLen := by
  have hh := h
  rcases h.2 with ⟨rfl, h0⟩ | ⟨g, cap, cur, rfl, hg, hh2, hn, hc, _⟩
  · exact ⟨none, 0, by rw [h0], ⟨rfl, .inl h0⟩, by omega, Nat.zero_le _⟩
  · refine ⟨some ⟨g, 0, none⟩, cap, rfl, ⟨rfl, .inr ⟨g, 0, rfl, (Array.getElem?_eq_some_iff.1 hh2).1, fun k x hx => ?_⟩⟩, hn, hc⟩
    have h1 := hh.cells (g := g) rfl (k * 3 + 0) (.string x.path) (flat_at l k x 0 hx (by omega))
    have h2 := hh.cells (g := g) rfl (k * 3 + 1) (.int .i64 x.node.kind) (flat_at l k x 1 hx (by omega))
    have h3 := hh.cells (g := g) rfl (k * 3 + 2) (.string x.node.data) (flat_at l k x 2 hx (by omega))
    rw [WideShapes.add_plain] at h1 h2 h3
    exact ⟨h1, h2, h3⟩
end Go.Proofs.YtdpnmdnfnplcfaaGreat.En

namespace Go.Proofs.YtdpnmdnfnplcfaaGreat.Sc
open Go.RowKit Tx Pm Pr Dk
set_option linter.unusedVariables false
def tl (v p : ByteArray) : ByteArray := p.extract (v.size + 1) p.size
def inV (v : ByteArray) (x : It) : Bool := und x.path.data.toList v.data.toList && !decide (x.path = v)
def entS (L : List It) (v : ByteArray) : List En.Et := (L.filter (inV v)).map fun x => ⟨tl v x.path, nodeOf x⟩
def err15 (s : St) (v : ByteArray) : Nat := if chk v.data.toList 1 ≠ 0 then 10 else if s.down then 14 else if kind s.L v ≠ 1 then 11 else 0
def wkS (s : St) (v : ByteArray) : List En.Et × Nat := if err15 s v ≠ 0 then ([], err15 s v) else (entS s.L v, 0)
def snOf (s : St) (v : ByteArray) (e : En.Et) : Sn := ⟨e.path, stampS s (v ++ ⟨#[47]⟩ ++ e.path), e.node⟩
def snS (s : St) (v : ByteArray) : List Sn := (wkS s v).1.map (snOf s v)
def known (seen : List Sn) (x : Sn) : Bool := decide (x.node.kind = 1) || seen.any fun y => decide (y.path = x.path) && decide (y.stamp = x.stamp) && decide (y.node.kind = 2)
def rdS (s : St) (v : ByteArray) (seen : List Sn) : Nat := ((snS s v).filter fun x => !known seen x).length
theorem entS_take {L : List It} {v : ByteArray} {k : Nat} {x : It} (h : L[k]? = some x) : entS (L.take (k + 1)) v = entS (L.take k) v ++ if inV v x = true then [⟨tl v x.path, nodeOf x⟩] else [] := by
  unfold entS
  rw [List.take_add_one, h, List.filter_append, List.map_append]
  congr 1
  show List.map _ (List.filter _ [x]) = _
  by_cases e : inV v x = true
  · rw [if_pos e, List.filter_cons_of_pos e]; rfl
  · rw [if_neg e, List.filter_cons_of_neg e]; rfl
theorem entS_len (L : List It) (v : ByteArray) : (entS L v).length ≤ L.length := by
  unfold entS
  rw [List.length_map]
  exact List.length_filter_le _ _
theorem inV_long {v : ByteArray} {x : It} (h0 : v ≠ ⟨#[]⟩) (h : inV v x = true) : v.size + 1 ≤ x.path.size ∧ x.path = v ++ ⟨#[47]⟩ ++ tl v x.path := by
  unfold inV at h
  rw [Bool.and_eq_true] at h
  obtain ⟨h1, h2⟩ := h
  have hne : x.path ≠ v := fun e => by rw [e] at h2; simp at h2
  rw [und_eq h0 hne, List.isPrefixOf_iff_prefix] at h1
  obtain ⟨r, hr⟩ := h1
  have hl := congrArg List.length hr
  simp only [List.length_append, List.length_singleton, len_l] at hl
  refine ⟨by omega, ?_⟩
  apply ByteArray.ext
  apply Array.toList_inj.1
  rw [ByteArray.data_append, ByteArray.data_append, Array.toList_append, Array.toList_append]
  unfold tl
  rw [ByteArray.data_extract, Array.toList_extract, List.extract_eq_take_drop, ← hr]
  have e1 : (v.data.toList ++ [47] ++ r).drop (v.size + 1) = r := by
    rw [List.drop_left' (by simp only [List.length_append, List.length_singleton, len_l])]
  rw [e1, List.take_of_length_le (by omega)]
theorem infoS : (Tryz.prog.info? 83).map (fun i => (i.zero, i.size, i.bytes)) = some (some (.agg #[.string ⟨#[]⟩, .int .i64 0, .int .i64 0, .string ⟨#[]⟩]), 4, 48) := by kernel_rfl
def cellsN (x : Sn) : List Value := [.string x.path, .int .i64 (x.stamp : Int), .int .i64 x.node.kind, .string x.node.data]
theorem cellsN_one (x : Sn) : ∀ u ∈ cellsN x, u.oneCell' = true := by
  intro u hu
  simp only [cellsN, List.mem_cons, List.not_mem_nil, or_false] at hu
  rcases hu with rfl | rfl | rfl | rfl <;> rfl
def OwnN (w : World) (B : Nat) (v : Value) (l : List Sn) : Prop := w.ownsRow B 83 4 v l.length (l.flatMap cellsN)
theorem OwnN.below {w w1 : World} {B : Nat} {v : Value} {l : List Sn} (h : OwnN w B v l) (hb : Below w.heap.size w w1) : OwnN w1 B v l := by
  refine ⟨h.1, ?_⟩
  rcases h.2 with h0 | ⟨g', cap', cur, hv, hg, hh, r⟩
  · exact .inl h0
  · exact .inr ⟨g', cap', cur, hv, hg, (hb.block g' (Array.getElem?_eq_some_iff.1 hh).1).trans hh, r⟩
def Sns (w : World) (a : Option Addr) (n : Nat) (l : List Sn) : Prop := l.length = n ∧ (n = 0 ∨ ∃ b off, a = some ⟨b, off, none⟩ ∧ b < w.heap.size ∧ ∀ (k : Nat) x, l[k]? = some x →
  w.cell? ⟨b, off + k * 4, none⟩ = some (.string x.path) ∧ w.cell? ⟨b, off + k * 4 + 1, none⟩ = some (.int .i64 (x.stamp : Int)) ∧ w.cell? ⟨b, off + k * 4 + 2, none⟩ = some (.int .i64 x.node.kind) ∧ w.cell? ⟨b, off + k * 4 + 3, none⟩ = some (.string x.node.data))
theorem Sns.below {w w1 : World} {a : Option Addr} {n : Nat} {l : List Sn} (h : Sns w a n l) (hb : Below w.heap.size w w1) : Sns w1 a n l := by
  refine ⟨h.1, ?_⟩
  rcases h.2 with h0 | ⟨b, off, ha, hlt, hc⟩
  · exact .inl h0
  · refine .inr ⟨b, off, ha, Nat.lt_of_lt_of_le hlt hb.size, fun k x hx => ?_⟩
    obtain ⟨c0, c1, c2, c3⟩ := hc k x hx
    exact ⟨(hb.cell (p := ⟨b, _, none⟩) hlt).trans c0, (hb.cell (p := ⟨b, _, none⟩) hlt).trans c1, (hb.cell (p := ⟨b, _, none⟩) hlt).trans c2, (hb.cell (p := ⟨b, _, none⟩) hlt).trans c3⟩
theorem sns_nil (w : World) (a : Option Addr) : Sns w a 0 [] := ⟨rfl, .inl rfl⟩
theorem flatN_at (l : List Sn) (k : Nat) (x : Sn) (h : l[k]? = some x) (j : Nat) (u : Value) (hj : (cellsN x)[j]? = some u) : (l.flatMap cellsN)[k * 4 + j]? = some u := by
  induction l generalizing k with
  | nil => cases h
  | cons y l ih =>
    rw [List.flatMap_cons]
    cases k with
    | zero =>
      injection h with h
      subst h
      have hlt : j < (cellsN y).length := (List.getElem?_eq_some_iff.1 hj).1
      rw [Nat.zero_mul, Nat.zero_add, List.getElem?_append_left hlt]
      exact hj
    | succ k =>
      have e : (cellsN y).length = 4 := rfl
      rw [List.getElem?_append_right (by omega), e, show (k + 1) * 4 + j - 4 = k * 4 + j by omega]
      exact ih k h
theorem OwnN.form {w : World} {B : Nat} {v : Value} {l : List Sn} (h : OwnN w B v l) : ∃ a c, v = .slice a l.length c ∧ Sns w a l.length l ∧ l.length ≤ c := by
  have hh := h
  rcases h.2 with ⟨rfl, h0⟩ | ⟨g, cap, cur, rfl, hg, hh2, hn, hc, _⟩
  · exact ⟨none, 0, by rw [h0], ⟨rfl, .inl h0⟩, by omega⟩
  · refine ⟨some ⟨g, 0, none⟩, cap, rfl, ⟨rfl, .inr ⟨g, 0, rfl, (Array.getElem?_eq_some_iff.1 hh2).1, fun k x hx => ?_⟩⟩, hn⟩
    have key : ∀ j u, (cellsN x)[j]? = some u → w.cell? ⟨g, 0 + k * 4 + j, none⟩ = some u := fun j u hj => by
      have e := World.ownsRow.cells (g := g) hh rfl _ _ (flatN_at l k x hx j u hj)
      rw [WideShapes.add_plain, ← Nat.add_assoc] at e
      exact e
    exact ⟨key 0 _ rfl, key 1 _ rfl, key 2 _ rfl, key 3 _ rfl⟩
theorem own_nilE (w : World) (B : Nat) : En.Own w B (.slice none 0 0) [] := World.ownsRow_nil _ _ _ _
theorem own_nilN (w : World) (B : Nat) : OwnN w B (.slice none 0 0) [] := World.ownsRow_nil _ _ _ _
theorem cell_four (w : World) (a b c d : Value) (e : TypeId) : ∀ (j : Nat) u, [a, b, c, d][j]? = some u → (w.alloc (.cells #[a, b, c, d] e)).cell? ((⟨w.heap.size, 0, none⟩ : Addr).add j) = some u := by
  intro j u hj
  match j, hj with
  | 0, hj => simp at hj; subst hj; simp [Addr.add]
  | 1, hj => simp at hj; subst hj; simp [Addr.add]
  | 2, hj => simp at hj; subst hj; simp [Addr.add]
  | 3, hj => simp at hj; subst hj; simp [Addr.add]
  | j + 4, hj => simp at hj
set_option maxRecDepth 100000 in
theorem app_ent (w : World) (B : Nat) (v : Value) (l : List En.Et) (h : En.Own w B v l) (x : En.Et) (hl : l.length ≤ 1000000) (hB : B ≤ w.heap.size) :
    ∀ ty, ∃ v' W', (Builtin.append_ #[32, 32] ty #[v, .slice (some ⟨w.heap.size, 0, none⟩) 1 1]).run Tryz.prog (w.alloc (.cells #[.string x.path, .int .i64 x.node.kind, .string x.node.data] 54)) = .ok v' W' ∧ En.Own W' B v' (l ++ [x]) ∧ (w.alloc (.cells #[.string x.path, .int .i64 x.node.kind, .string x.node.data] 54)).grownBy W' v.ownBlock := by
  obtain ⟨i0, hi, hz0, hz1, hz2⟩ := info_parts En.infoE
  intro ty
  have hb2 : B ≤ (w.alloc (.cells #[.string x.path, .int .i64 x.node.kind, .string x.node.data] 54)).heap.size := by go_simp; omega
  obtain ⟨v', W', h1, h2, h3, _⟩ := run_append_own (P := Tryz.prog) (w.alloc (.cells #[.string x.path, .int .i64 x.node.kind, .string x.node.data] 54)) B 32 ty 54 i0 (.agg #[.string ⟨#[]⟩, .int .i64 0, .string ⟨#[]⟩]) 3 40 Tryz.underlying32 hi hz0 hz1 hz2 rfl (by decide) v l.length (l.flatMap En.cells) (World.ownsRow.alloc h _) ⟨w.heap.size, 0, none⟩ 1 1 (En.cells x) rfl (En.cell_three_new _ _ _ _ _)
    (En.cells_one x) (by unfold maxLen; omega) (by omega) hb2
  refine ⟨v', W', h1, ?_, h3⟩
  unfold En.Own
  rw [List.length_append, List.flatMap_append]
  simpa using h2
set_option maxRecDepth 100000 in
theorem app_sn (w : World) (B : Nat) (v : Value) (l : List Sn) (h : OwnN w B v l) (x : Sn) (hl : l.length ≤ 1000000) (hB : B ≤ w.heap.size) :
    ∀ ty, ∃ v' W', (Builtin.append_ #[28, 28] ty #[v, .slice (some ⟨w.heap.size, 0, none⟩) 1 1]).run Tryz.prog (w.alloc (.cells #[.string x.path, .int .i64 (x.stamp : Int), .int .i64 x.node.kind, .string x.node.data] 83)) = .ok v' W' ∧ OwnN W' B v' (l ++ [x]) ∧ (w.alloc (.cells #[.string x.path, .int .i64 (x.stamp : Int), .int .i64 x.node.kind, .string x.node.data] 83)).grownBy W' v.ownBlock := by
  obtain ⟨i0, hi, hz0, hz1, hz2⟩ := info_parts infoS
  intro ty
  have hb2 : B ≤ (w.alloc (.cells #[.string x.path, .int .i64 (x.stamp : Int), .int .i64 x.node.kind, .string x.node.data] 83)).heap.size := by go_simp; omega
  obtain ⟨v', W', h1, h2, h3, _⟩ := run_append_own (P := Tryz.prog) (w.alloc (.cells #[.string x.path, .int .i64 (x.stamp : Int), .int .i64 x.node.kind, .string x.node.data] 83)) B 28 ty 83 i0 (.agg #[.string ⟨#[]⟩, .int .i64 0, .int .i64 0, .string ⟨#[]⟩]) 4 48 Tryz.underlying28 hi hz0 hz1 hz2 rfl (by decide) v l.length (l.flatMap cellsN) (World.ownsRow.alloc h _) ⟨w.heap.size, 0, none⟩ 1 1 (cellsN x) rfl (cell_four _ _ _ _ _ _)
    (cellsN_one x) (by unfold maxLen; omega) (by omega) hb2
  refine ⟨v', W', h1, ?_, h3⟩
  unfold OwnN
  rw [List.length_append, List.flatMap_append]
  simpa using h2
end Go.Proofs.YtdpnmdnfnplcfaaGreat.Sc

namespace Go.Proofs.YtdpnmdnfnplcfaaGreat.Rg
open Go.RowKit
set_option linter.unusedVariables false
section
variable {P : Program} {S : World → Prop}
end
section
variable {P : Program} {ops : Array Oper} {R : Act → World → Prop} {S : World → Prop}
theorem bld (i : Nat) (d : Option Tmp) {T : TypeId} {len : Nat} {parts : Array (Nat × Operand)} {vs : Array (Nat × Value)} {v : Value} {w1 : World} {fuel : Nat} {listed : Array Bool} {a : Act} {w : World}
    (hi : decide (i < ops.size) = true) (hd : (opOf ops i).dst = d) (hr : Region.ready .any ops listed = [i])
    (hw : Region.wanted (opOf ops i) (yielded ops a.tmps) = true) (ho : (opOf ops i).op = .buildSlice T len parts) (hx : (parts.map fun (i, x) => (i, a.eval x)) = vs)
    (hv : (Instr.buildSlice T len vs).run P w = .ok v w1) (hS : S w1)
    (h : S w1 → wpAnyH P .any ops (Only R) S fuel (listed.setIfInBounds i true) (a.put d v) w1) : wpAnyH P .any ops (Only R) S (fuel + 1) listed a w := by
  refine one hr ?_
  subst hd
  unfold wpOp
  rw [opOf_some hi]
  simp only [hw, if_true]
  refine .inl ?_
  have he : (execOp a.eval (opOf ops i)).run P w = .ok (.value v) w1 := by
    generalize opOf ops i = o at ho
    obtain ⟨dst, op, ty, pos, after, guard⟩ := o
    simp only at ho
    subst ho
    simp only [execOp, Sem.run_bind]
    rw [hx, hv]
    rfl
  unfold Oper.wp
  rw [he, Oper.upon_value]
  exact ⟨hS, h hS⟩
end
end Go.Proofs.YtdpnmdnfnplcfaaGreat.Rg

namespace Go.Proofs.YtdpnmdnfnplcfaaGreat.Rg
open Go.RowKit
set_option linter.unusedVariables false
set_option linter.unusedSimpArgs false
set_option linter.unnecessarySimpa false
section
variable {P : Program} {ops : Array Oper} {R : Act → World → Prop} {S : World → Prop}
theorem app1 (i : Nat) (d : Option Tmp) {T : TypeId} {x y : Operand} {vx vy : Value} {fuel : Nat} {listed : Array Bool} {a : Act} {w : World}
    (hi : decide (i < ops.size) = true) (hd : (opOf ops i).dst = d) (hr : Region.ready .any ops listed = [i])
    (hw : Region.wanted (opOf ops i) (yielded ops a.tmps) = true) (ho : (opOf ops i).op = .call { callee := .builtin .append, args := #[x, y], argTypes := #[T, T] }) (hx : a.eval x = vx) (hy : a.eval y = vy)
    (h : ∀ ty, ∃ v w1, (Builtin.append_ #[T, T] ty #[vx, vy]).run P w = .ok v w1 ∧ S w1 ∧ (S w1 → wpAnyH P .any ops (Only R) S fuel (listed.setIfInBounds i true) (a.put d v) w1)) :
    wpAnyH P .any ops (Only R) S (fuel + 1) listed a w := by
  refine one hr ?_
  subst hd
  unfold wpOp
  rw [opOf_some hi]
  simp only [hw, if_true]
  refine .inl ?_
  obtain ⟨v, w1, hrun, hS, hk⟩ := h (opOf ops i).type
  generalize opOf ops i = o at ho hrun hk ⊢
  obtain ⟨dst, op, ty, pos, after, guard⟩ := o
  simp only at ho hrun hk ⊢
  subst ho
  unfold Oper.wp
  simp only [execOp, resolve, invoke, builtin, Sem.run_bind, Sem.run_pure, Result.andThen_ok, List.map_toArray, List.map_cons, List.map_nil, hx, hy, hrun]
  exact ⟨hS, hk hS⟩
end
end Go.Proofs.YtdpnmdnfnplcfaaGreat.Rg
