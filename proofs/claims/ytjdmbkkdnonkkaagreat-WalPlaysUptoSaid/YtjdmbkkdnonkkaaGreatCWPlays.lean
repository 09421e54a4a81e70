/-
  WalPlays, up to the bound: a journal over any script of records, resets, stops, losses, rotten bits and bytes by hand (that holds at most 1048576 values and letters) answers, step by step, what the document's own journal answers, and the file, the records, the damage and the disk's steps are the same: the law returns true, and writes nothing that was there. Condition: the bound of the second form.
-/
import Derived.Test.YtjdmbkkdnonkkaaGreatQ5
import Derived.ProofKit
import Derived.OpenShut
import Derived.ShutString
import Derived.Deep.Slices
import Derived.Deep.Fields
import Derived.ChangeSame
import Derived.Test.YtjdmbkkdnonkkaaGreatRows
import Derived.JoinedCond
import Derived.SizedLaws
import Derived.ChangeOld
import Derived.Deep.CondSized
namespace Go.Proofs.YtjdmbkkdnonkkaaGreat.Wl
open Go.RowKit Tx Pm Dk Fr
set_option linter.unusedVariables false
section
variable {b k : Nat} {F : Nat → Prop} {s s' : St} {w : World}
theorem rw_write (P Q : ByteArray) (h : RefAt b w F s) (ok : Ok s) (hP : P.size ≤ 8000000000000) (hQ : Q.size ≤ 1000000000000000000) (hk : writeS s P Q = (k, s')) : Calls Tryz.prog 125 #[.pointer (some ⟨b, 0, none⟩), .string P, .string Q] w (Dos (RefAt b) w F k s') := by
  obtain ⟨vL, vR, hat, hF⟩ := h
  have c := rWrite_any b _ vL vR P Q _ hat ok hP hQ
  rw [hk] at c
  exact c.mono fun e w' ht => to_left hF ht
theorem rw_append (P Q : ByteArray) (h : RefAt b w F s) (ok : Ok s) (hP : P.size ≤ 8000000000000) (hs : ∀ x ∈ s.L, x.data.size ≤ 10000000000000) (hQ : Q.size ≤ 10000000000000) (hk : appendS s P Q = (k, s')) : Calls Tryz.prog 29 #[.pointer (some ⟨b, 0, none⟩), .string P, .string Q] w (Dos (RefAt b) w F k s') := by
  obtain ⟨vL, vR, hat, hF⟩ := h
  have c := rAppend_any b _ vL vR P Q _ hat ok hP (fun x hx => by have := hs x hx; omega) (by omega)
  rw [hk] at c
  exact c.mono fun e w' ht => to_left hF ht
theorem rw_sync (P : ByteArray) (h : RefAt b w F s) (ok : Ok s) (hP : P.size ≤ 8000000000000) (hk : syncS s P = (k, s')) : Calls Tryz.prog 74 #[.pointer (some ⟨b, 0, none⟩), .string P] w (Dos (RefAt b) w F k s') := by
  obtain ⟨vL, vR, hat, hF⟩ := h
  have c := rSync_any b _ vL vR P _ hat ok hP
  rw [hk] at c
  exact c.mono fun e w' ht => to_left hF ht
theorem rw_rename (P Q : ByteArray) (h : RefAt b w F s) (ok : Ok s) (hP : P.size ≤ 8000000000000) (hQ : Q.size ≤ 8000000000000) (hk : renameS s P Q = (k, s')) : Calls Tryz.prog 126 #[.pointer (some ⟨b, 0, none⟩), .string P, .string Q] w (Dos (RefAt b) w F k s') := by
  obtain ⟨vL, vR, hat, hF⟩ := h
  have c := rRename_any b _ vL vR P Q _ hat ok hP hQ
  rw [hk] at c
  exact c.mono fun e w' ht => to_left hF ht
theorem rw_kind (P : ByteArray) (h : RefAt b w F s) (hn : s.L.length ≤ 1000000000) : Calls Tryz.prog 65 #[.pointer (some ⟨b, 0, none⟩), .string P] w fun e w' => e = .returned (.int .i64 (kind s.L P : Nat)) ∧ w = w' := by
  obtain ⟨vL, vR, hat, hF⟩ := h
  exact (rKind_any b _ vL vR P _ hat (by omega)).mono fun e w' hh => ⟨hh.1, by first | exact hh.2 | exact hh.2.symm⟩
theorem rw_read (P : ByteArray) (h : RefAt b w F s) (hn : s.L.length ≤ 1000000000) : Calls Tryz.prog 32 #[.pointer (some ⟨b, 0, none⟩), .string P] w fun e w' => e = .returned (.tuple #[.string (readS s P).1, .int .i64 ((readS s P).2 : Nat)]) ∧ Below w.heap.size w w' := by
  obtain ⟨vL, vR, hat, hF⟩ := h
  exact rRead_any b _ vL vR P _ hat hn
end
set_option maxRecDepth 100000 in
set_option maxHeartbeats 2000000 in
theorem rFill_any (b : Nat) {F : Nat → Prop} {s : St} (p d : ByteArray) (w : World) (h : RefAt b w F s) (o : FillOk s p d) (hp : p.size ≤ 1000) (hd : d.size ≤ 1000000000000000000) :
    Calls Tryz.prog 69 #[.pointer (some ⟨b, 0, none⟩), .string p, .string d] w (Dos (RefAt b) w F (fillS s p d).1 (fillS s p d).2) := by
  obtain ⟨o1, o2, o3⟩ := o
  have hcat := cat_size p
  obtain ⟨k1, s1, h1⟩ : ∃ k s1, writeS s (p ++ tT) d = (k, s1) := ⟨_, _, rfl⟩
  rw [h1] at o2 o3
  simp only at o2 o3
  obtain ⟨k2, s2, h2⟩ : ∃ k s2, syncS s1 (p ++ tT) = (k, s2) := ⟨_, _, rfl⟩
  rw [h2] at o3
  simp only at o3
  have c1 : Calls Tryz.prog 125 #[.pointer (some ⟨b, 0, none⟩), .string (p ++ ⟨#[95, 116]⟩), .string d] w (Dos (RefAt b) w F k1 s1) := rw_write (p ++ tT) d h o1 (by omega) hd h1
  have c2 : ∀ {W F1}, RefAt b W F1 s1 → Calls Tryz.prog 74 #[.pointer (some ⟨b, 0, none⟩), .string (p ++ ⟨#[95, 116]⟩)] W (Dos (RefAt b) W F1 k2 s2) := fun {W F1} hW => rw_sync (p ++ tT) hW o2 (by omega) h2
  have c3 : ∀ {W F1}, RefAt b W F1 s2 → Calls Tryz.prog 126 #[.pointer (some ⟨b, 0, none⟩), .string (p ++ ⟨#[95, 116]⟩), .string p] W (Dos (RefAt b) W F1 (renameS s2 (p ++ tT) p).1 (renameS s2 (p ++ tT) p).2) := fun {W F1} hW => rw_rename (p ++ tT) p hW o3 (by omega) (by omega) rfl
  by_cases e1 : k1 ≠ 0
  · rw [fill_1 h1 e1]
    have n1 := Dk.ne_eq e1
    clear h o1 o2 o3 c2 c3 h1 h2 e1
    go_enter Tryz.func69, Tryz.ntmps69
    go_wp2_with fail
    go_at_call 125
    refine c1.mono ?_
    rintro e w1 ⟨rfl, hl1⟩
    go_wp2_with fail
    go_ret
    exact ⟨rfl, hl1⟩
  · obtain rfl : k1 = 0 := by omega
    by_cases e2 : k2 ≠ 0
    · rw [fill_2 h1 h2 e2]
      have n2 := Dk.ne_eq e2
      clear h o1 o2 o3 c3 h1 h2 e1 e2
      go_enter Tryz.func69, Tryz.ntmps69
      go_wp2_with fail
      go_at_call 125
      refine c1.mono ?_
      rintro e w1 ⟨rfl, F1, p1, q1, r1⟩
      go_wp2_with fail
      go_at_call 74
      refine (c2 p1).mono ?_
      rintro e w2 ⟨rfl, hl2⟩
      go_wp2_with fail
      go_ret
      exact ⟨rfl, left_trans q1 r1 hl2⟩
    · obtain rfl : k2 = 0 := by omega
      rw [fill_3 h1 h2]
      clear h o1 o2 o3 h1 h2 e1 e2
      go_enter Tryz.func69, Tryz.ntmps69
      go_wp2_with fail
      go_at_call 125
      refine c1.mono ?_
      rintro e w1 ⟨rfl, F1, p1, q1, r1⟩
      go_wp2_with fail
      go_at_call 74
      refine (c2 p1).mono ?_
      rintro e w2 ⟨rfl, hl2⟩
      obtain ⟨F2, p2, q2, r2⟩ := left_trans q1 r1 hl2
      go_wp2_with fail
      go_at_call 126
      refine (c3 p2).mono ?_
      rintro e w3 ⟨rfl, hl3⟩
      go_wp2_with fail
      go_ret
      exact ⟨rfl, left_trans q2 r2 hl3⟩
end Go.Proofs.YtjdmbkkdnonkkaaGreat.Wl

namespace Go.Proofs.YtjdmbkkdnonkkaaGreat.Wl
open Go.RowKit Tx Pm Dk Fr
set_option linter.unusedVariables false
def RAddOk (x : Jst) (p r : ByteArray) : Prop := AddOk x p r ∧ (∀ y ∈ x.s.L, y.data.size ≤ 10000000000000) ∧ (Fm.pk r).size ≤ 10000000000000 ∧ r.size ≤ 2000000000
set_option maxRecDepth 100000 in
set_option maxHeartbeats 2000000 in
theorem rAdd_any (b j : Nat) {F Fd : Nat → Prop} {x : Jst} {v : Value} (p r : ByteArray) (w : World) (h : JAt (RefAt b) 60 b j p v Fd w F x) (o : RAddOk x p r) (hp : p.size ≤ 1000) :
    Calls Tryz.prog 20 #[.pointer (some ⟨j, 0, none⟩), .string r] w fun e w' => e = .returned (.int .i64 ((addS x p r).1 : Nat)) ∧ LeftA (Jn (RefAt b) 60 b j p) w F (addS x p r).2 w' := by
  obtain ⟨⟨o1, o2, o3, o4, o5⟩, o6, o7, o8⟩ := o
  obtain ⟨a0, c0, hform, _⟩ := h.row.form
  have kk := ref_kind b
  have hpk := Fm.pk_size r
  obtain ⟨k1, s1, h1⟩ : ∃ k s1, appendS x.s p (Fm.pk r) = (k, s1) := ⟨_, _, rfl⟩
  rw [h1] at o2
  simp only at o2
  obtain ⟨k2, s2, h2⟩ : ∃ k s2, syncS s1 p = (k, s2) := ⟨_, _, rfl⟩
  have cp := fun W => refPack_any r W (by omega)
  have ca : ∀ W, Below w.drew.heap.size w.drew W → Calls Tryz.prog 29 #[.pointer (some ⟨b, 0, none⟩), .string p, .string (Fm.pk r)] W fun e w' => e = .returned (.int .i64 (k1 : Nat)) ∧ Mid (RefAt b) 60 b j p v w F ⟨s1, x.R, x.dm⟩ w' := fun W hW =>
    (Mid.of kk h (below_call (Below.refl w.heap.size w).drew hW)).call kk (fun hd => rw_append p (Fm.pk r) hd o1 (by omega) o6 o7 h1)
  have cs : ∀ W, Mid (RefAt b) 60 b j p v w F ⟨s1, x.R, x.dm⟩ W → Calls Tryz.prog 74 #[.pointer (some ⟨b, 0, none⟩), .string p] W.drew fun e w' => e = .returned (.int .i64 (k2 : Nat)) ∧ Mid (RefAt b) 60 b j p v w F ⟨s2, x.R, x.dm⟩ w' := fun W hW => by
    obtain ⟨Fd', F', q, q2, q3⟩ := hW
    exact (Mid.trans q2 q3 (Mid.of kk q (Below.refl _ W).drew)).call (x := ⟨s1, x.R, x.dm⟩) kk (fun hd => rw_sync p hd o2 (by omega) h2)
  have hS := (h.below kk (Below.refl w.heap.size w).drew).two
  have hBS := fun W (hW : Mid (RefAt b) 60 b j p v w F ⟨s1, x.R, x.dm⟩ W) => hW.two
  have HS := Lib.hid hS
  have HCA := Lib.hid ca
  have HCS := Lib.hid cs
  have HBS := Lib.hid hBS
  generalize hK : Fm.pk r = K at cp ca HCA h1 o7
  by_cases e1 : k1 ≠ 0
  · rw [add_1 (by rw [hK]; exact h1) e1]
    have n1 := Dk.ne_eq e1
    clear h o1 o2 o3 o6 h1 h2 e1 hS ca cs hBS hK hpk
    go_enter Tryz.func20, Tryz.ntmps20
    go_wp2_with fail
    refine Rg.wp_only ?_ (regRAdd _ (by kernel_rfl) _ j b p r K k1 _ _ HS.out cp HCA.out HBS.out)
    rintro _ w9 ⟨rfl, hB9⟩
    go_wp2_with fail
    go_ret
    exact ⟨rfl, hB9.left⟩
  · obtain rfl : k1 = 0 := by omega
    by_cases e2 : k2 ≠ 0
    · rw [add_2 (by rw [hK]; exact h1) h2 e2]
      have n2 := Dk.ne_eq e2
      clear h o1 o2 o3 o6 h1 h2 e1 e2 hS ca cs hBS hK hpk
      go_enter Tryz.func20, Tryz.ntmps20
      go_wp2_with fail
      refine Rg.wp_only ?_ (regRAdd _ (by kernel_rfl) _ j b p r K 0 _ _ HS.out cp HCA.out HBS.out)
      rintro _ w9 ⟨rfl, hB9⟩
      obtain ⟨t0, t1⟩ := hB9.two
      have c9 := HCS.out _ hB9
      go_wp2_with fail
      go_still_tail 8, (by kernel_rfl)
      change wpList _ _ _ _ _ w9.drew
      go_wp2_with fail
      go_at_call 74
      refine c9.mono ?_
      rintro e w5 ⟨rfl, h5⟩
      go_wp2_with fail
      go_ret
      exact ⟨rfl, h5.left⟩
    · obtain rfl : k2 = 0 := by omega
      rw [add_3 (by rw [hK]; exact h1) h2]
      clear h o1 o2 o3 o6 h1 h2 e1 e2 hS ca cs hBS hK hpk
      obtain ⟨i0, hi, hz0, hz1, hz2⟩ := info_parts info9
      obtain ⟨n0, hn0⟩ : ∃ n0, n0 = x.R.length := ⟨_, rfl⟩
      rw [← hn0] at hform o5
      have HN0 := Lib.hid hn0
      subst hform
      clear hn0
      go_enter Tryz.func20, Tryz.ntmps20
      go_wp2_with fail
      refine Rg.wp_only ?_ (regRAdd _ (by kernel_rfl) _ j b p r K 0 _ _ HS.out cp HCA.out HBS.out)
      rintro _ w9 ⟨rfl, hB9⟩
      obtain ⟨t0, t1⟩ := hB9.two
      have c9 := HCS.out _ hB9
      go_wp2_with fail
      go_still_tail 8, (by kernel_rfl)
      change wpList _ _ _ _ _ w9.drew
      go_wp2_with fail
      go_at_call 74
      refine c9.mono ?_
      rintro e w5 ⟨rfl, Fd5, F5, q5, k5, n5⟩
      obtain ⟨t50, t51, t52, t53⟩ := q5.cell
      have hrow := q5.row
      unfold Fr.Texts at hrow
      have HQ := Lib.hid q5
      clear q5
      rw [← HN0.out] at hrow
      go_wp2_with (at_builtin; refine Ap.wpList_append_two _ rfl _ _ 56 rfl 0 9 i0 (.string ⟨#[]⟩) 1 16 Tryz.underlying56 hi hz0 hz1 hz2 rfl (by decide) (by decide) _ _ _ rfl (hrow.alloc _) ⟨w5.heap.size, 0, none⟩ 1 [Fr.sv r] rfl rfl ?c1 ?c2 ?c3 ?c4 ?c5 ?_)
      case c1 => exact cell_one_new _ _ _
      case c2 => exact Fr.sv_one [r]
      case c3 => omega
      case c4 => omega
      case c5 => exact Nat.zero_le _
      intro v' w6 hown hg
      obtain ⟨a6, c6, rfl⟩ := own_form hown
      obtain ⟨⟨g1, g2⟩, hfin⟩ := HQ.out.grown (r := r) kk ((Below.refl _ w5).alloc (Nat.le_refl _) (.cells #[.string r] 9)) (by rw [← HN0.out]; exact hown) (by rw [World.size_alloc]; exact hg)
      have HFIN := Lib.hid (hfin.trans k5 n5)
      clear hown hg hrow hfin
      go_wp2_with fail
      go_ret
      exact ⟨rfl, HFIN.out⟩
set_option maxRecDepth 100000 in
set_option maxHeartbeats 2000000 in
theorem rReset_any (b j : Nat) {F Fd : Nat → Prop} {x : Jst} {v : Value} (p : ByteArray) (w : World) (h : JAt (RefAt b) 60 b j p v Fd w F x) (o : FillOk x.s p ⟨#[]⟩) (hp : p.size ≤ 1000) :
    Calls Tryz.prog 22 #[.pointer (some ⟨j, 0, none⟩)] w fun e w' => e = .returned (.int .i64 ((resetS x p).1 : Nat)) ∧ LeftA (Jn (RefAt b) 60 b j p) w F (resetS x p).2 w' := by
  have kk := ref_kind b
  obtain ⟨k1, s1, h1⟩ : ∃ k s1, fillS x.s p ⟨#[]⟩ = (k, s1) := ⟨_, _, rfl⟩
  have hM := Mid.of kk h (Below.refl w.heap.size w).drew
  have c1 : Calls Tryz.prog 69 #[.pointer (some ⟨b, 0, none⟩), .string p, .string ⟨#[]⟩] w.drew fun e w' => e = .returned (.int .i64 (k1 : Nat)) ∧ Mid (RefAt b) 60 b j p v w F ⟨s1, x.R, x.dm⟩ w' := hM.call kk (fun hd => by
    have := rFill_any b p ⟨#[]⟩ w.drew hd o hp (by decide)
    rw [h1] at this
    exact this)
  obtain ⟨t0, t1, _, _⟩ := h.cell
  have hr : resetS x p = if k1 ≠ 0 then (k1, ⟨s1, x.R, x.dm⟩) else (0, ⟨s1, [], x.dm⟩) := by
    unfold resetS
    rw [h1]
  by_cases e1 : k1 ≠ 0
  · rw [hr, if_pos e1]
    have n1 := Dk.ne_eq e1
    clear h o hM e1 h1 hr
    go_enter Tryz.func22, Tryz.ntmps22
    go_wp2_with fail
    go_still_tail 8, (by kernel_rfl)
    change wpList _ _ _ _ _ w.drew
    go_wp2_with fail
    go_at_call 69
    refine c1.mono ?_
    rintro e w5 ⟨rfl, h5⟩
    go_wp2_with fail
    go_ret
    exact ⟨rfl, h5.left⟩
  · obtain rfl : k1 = 0 := by omega
    rw [hr, if_neg (fun h => h rfl)]
    clear h o hM e1 h1 hr
    go_enter Tryz.func22, Tryz.ntmps22
    go_wp2_with fail
    go_still_tail 8, (by kernel_rfl)
    change wpList _ _ _ _ _ w.drew
    go_wp2_with fail
    go_at_call 69
    refine c1.mono ?_
    rintro e w5 ⟨rfl, Fd5, F5, q5, k5, n5⟩
    obtain ⟨t50, t51, t52, t53⟩ := q5.cell
    have hwm := q5.warm 2
    have hfin : LeftA (Jn (RefAt b) 60 b j p) w F ⟨s1, [], x.dm⟩ (w5.setCell ⟨j, 2, none⟩ (.slice none 0 0)) := by
      refine LeftA.trans k5 n5 (Mid.left (q5.poke kk (v' := .slice none 0 0) ((chg_set (b := j) (k := 2) (.slice none 0 0)).mono (fun i hi => Or.inl hi)) ?_ (World.ownsRow_nil _ _ _ _) (fun i hi => by cases hi)))
      rw [set_block q5.blk]
      rfl
    have HF := Lib.hid hfin
    clear q5 k5 n5 hfin
    go_wp2_with fail
    go_ret
    exact ⟨rfl, HF.out⟩
end Go.Proofs.YtjdmbkkdnonkkaaGreat.Wl

namespace Go.Proofs.YtjdmbkkdnonkkaaGreat.Wl
open Go.RowKit Tx Pm Dk Fr
set_option linter.unusedVariables false
theorem new_mid {O : World → (Nat → Prop) → St → Prop} {T : TypeId} {b : Nat} {p : ByteArray} {v : Value} {w W : World} {F : Nat → Prop} {x : Jst} {o : Obj} (h : Mid O T b w.heap.size p v (w.alloc o) (fun i => F i ∨ i = w.heap.size) x W) : LeftA (Jn O T b w.heap.size p) w F x W := left_new h.left
set_option maxRecDepth 100000 in
set_option maxHeartbeats 4000000 in
theorem rOpen_any (b : Nat) {F : Nat → Prop} {s : St} (p : ByteArray) (w : World) (h : RefAt b w F s) (o : OpenOk s p) (hn : s.L.length ≤ 1000000000) (hz : (readS s p).1.size ≤ 8796093022207) (hp : p.size ≤ 1000) :
    Calls Tryz.prog 18 #[.pointer (some ⟨b, 0, none⟩), .string p] w (OpenTo (RefAt b) 60 b p w F (openS s p)) := by
  have kk := ref_kind b
  have hJ := jat_new kk 60 b p h
  obtain ⟨o1, o2⟩ := o
  obtain ⟨ob, hob⟩ : ∃ ob : Obj, ob = .cells #[.pointer (some ⟨b, 0, none⟩), .string p, .slice none 0 0, .bool false] 60 := ⟨_, rfl⟩
  rw [← hob] at hJ
  have ck := (rw_kind p hJ.dsk hn).mono fun e w' (hh : _ ∧ w.alloc ob = w') => (⟨hh.1, same_belowW hh.2⟩ : _ ∧ Below (w.alloc ob).heap.size (w.alloc ob) w')
  have HOB := Lib.hid hob
  have hlast : ∀ {v : Value} {x : Jst} {W : World}, Mid (RefAt b) 60 b w.heap.size p v (w.alloc ob) (fun i => F i ∨ i = w.heap.size) x W → LeftA (Jn (RefAt b) 60 b w.heap.size p) w F x W := fun hh => new_mid hh
  have HLAST : Hid (∀ (v : Value) (x : Jst) (W : World), Mid (RefAt b) 60 b w.heap.size p v (w.alloc ob) (fun i => F i ∨ i = w.heap.size) x W → LeftA (Jn (RefAt b) 60 b w.heap.size p) w F x W) := Lib.hid (fun v x W hh => hlast hh)
  clear hlast
  by_cases hk : kind s.L p = 0
  · obtain ⟨k1, s1, h1⟩ : ∃ k s1, fillS s p ⟨#[]⟩ = (k, s1) := ⟨_, _, rfl⟩
    rw [open_0 hk h1]
    have c1 : ∀ W, Below (w.alloc ob).heap.size (w.alloc ob) W → Calls Tryz.prog 69 #[.pointer (some ⟨b, 0, none⟩), .string p, .string ⟨#[]⟩] W fun e w' => e = .returned (.int .i64 (k1 : Nat)) ∧ Mid (RefAt b) 60 b w.heap.size p (.slice none 0 0) (w.alloc ob) (fun i => F i ∨ i = w.heap.size) ⟨s1, [], false⟩ w' := fun W hW => (Mid.of kk hJ hW).call kk (fun hd => by
      have := rFill_any b p ⟨#[]⟩ W hd (o1 hk) hp (by decide)
      rw [h1] at this
      exact this)
    have HC1 := Lib.hid c1
    rw [hk] at ck
    clear h o1 o2 hk h1 hJ c1 hob
    by_cases e1 : k1 ≠ 0
    · have n1 := Dk.ne_eq e1
      have HE := Lib.hid e1
      clear e1
      go_enter Tryz.func18, Tryz.ntmps18
      go_wp2_with fail
      go_at_call 65
      rw [← HOB.out]
      refine ck.mono ?_
      rintro e w4 ⟨rfl, hb4⟩
      go_wp2_with fail
      go_at_call 69
      refine (HC1.out _ hb4).mono ?_
      rintro e w5 ⟨rfl, h5⟩
      go_wp2_with fail
      go_ret2
      unfold OpenTo
      exact .inr ⟨HE.out, rfl, jn_disk (HLAST.out _ _ _ h5)⟩
    · obtain rfl : k1 = 0 := by omega
      clear e1
      go_enter Tryz.func18, Tryz.ntmps18
      go_wp2_with fail
      go_at_call 65
      rw [← HOB.out]
      refine ck.mono ?_
      rintro e w4 ⟨rfl, hb4⟩
      go_wp2_with fail
      go_at_call 69
      refine (HC1.out _ hb4).mono ?_
      rintro e w5 ⟨rfl, h5⟩
      go_wp2_with fail
      go_ret2
      unfold OpenTo
      exact .inl ⟨rfl, _, rfl, HLAST.out _ _ _ h5⟩
  · have nk := Dk.ne_eq hk
    obtain ⟨q1, q2, q3⟩ := o2 hk
    obtain ⟨t, k, hrd⟩ : ∃ t k, readS s p = (t, k) := ⟨_, _, rfl⟩
    have cr := fun W (hW : Below (w.alloc ob).heap.size (w.alloc ob) W) => rw_read p (hJ.below kk hW).dsk hn
    rw [hrd] at q1 q2 q3 cr hz
    simp only at q1 q2 q3 cr hz
    have HCR := Lib.hid cr
    clear cr
    by_cases hk0 : k ≠ 0
    · rw [open_1 hk hrd hk0]
      have n0 := Dk.ne_eq hk0
      have HE := Lib.hid hk0
      have hfin : ∀ W, Below (w.alloc ob).heap.size (w.alloc ob) W → Dk.Left (RefAt b) w F s W := fun W hW => jn_disk (HLAST.out _ _ _ (Mid.of kk hJ hW))
      have HF := Lib.hid hfin
      generalize kind s.L p = K at ck nk
      clear h o1 o2 hk hfin hrd hk0 q1 q2 q3 hJ hob hz
      go_enter Tryz.func18, Tryz.ntmps18
      go_wp2_with fail
      go_at_call 65
      rw [← HOB.out]
      refine ck.mono ?_
      rintro e w4 ⟨rfl, hb4⟩
      go_wp2_with fail
      go_at_call 32
      refine (HCR.out _ hb4).mono ?_
      rintro e w5 ⟨rfl, h5⟩
      go_wp2_with fail
      go_ret2
      unfold OpenTo
      exact .inr ⟨HE.out, rfl, HF.out _ (below_call hb4 h5)⟩
    · obtain rfl : k = 0 := by omega
      obtain ⟨R, g, e, hsc⟩ := Fm.trip (Fm.sc t 0)
      have hgl := sc_le t
      have cs := fun W => Fr.refScan_any t W hz
      unfold Fr.ScanTo at cs
      rw [hsc] at q2 q3 hgl cs
      simp only at q2 q3 hgl cs
      have HH := Lib.hid hJ
      have hgz : (g : Int) ≤ (t.size : Int) := by omega
      have hts : (t.size : Int) ≤ 1000000000000000000 := by omega
      by_cases he : e = 0
      · subst he
        rw [open_2 hk hrd hsc]
        generalize kind s.L p = K at ck nk
        clear h o1 o2 hk hrd hk0 q1 q2 q3 hsc hJ hob hz
        go_enter Tryz.func18, Tryz.ntmps18
        go_wp2_with fail
        go_at_call 65
        rw [← HOB.out]
        refine ck.mono ?_
        rintro e w4 ⟨rfl, hb4⟩
        go_wp2_with fail
        go_at_call 32
        refine (HCR.out _ hb4).mono ?_
        rintro e w5 ⟨rfl, h5⟩
        have hb5 := below_call hb4 h5
        go_wp2_with fail
        go_at_call 70
        refine (cs _).mono ?_
        rintro e w6 ⟨v, rfl, htx, hb6'⟩
        have hb6 := below_call hb5 hb6'
        obtain ⟨⟨g1, g2⟩, ⟨g3, g4⟩, hfin⟩ := HH.out.scanned kk (dm := false) hb6 htx hb5.size
        obtain ⟨a6, c6, hv⟩ := own_form htx
        obtain ⟨n6, hn6⟩ : ∃ n6, n6 = R.length := ⟨_, rfl⟩
        rw [← hn6] at hv
        have HFIN := Lib.hid hfin
        clear hn6 htx hfin hb6' h5
        subst hv
        go_wp2_with fail
        go_ret2
        unfold OpenTo
        exact .inl ⟨rfl, _, rfl, HLAST.out _ _ _ HFIN.out⟩
      · have hfk := q3 he
        obtain ⟨k1, s1, h1⟩ : ∃ k s1, fillS s p (t.extract 0 g) = (k, s1) := ⟨_, _, rfl⟩
        rw [open_3 hk hrd hsc he h1]
        have hxs : (t.extract 0 g).size ≤ 1000000000000000000 := by rw [ByteArray.size_extract]; omega
        have c1 : ∀ (v : Value) (dm : Bool) (W : World), Mid (RefAt b) 60 b w.heap.size p v (w.alloc ob) (fun i => F i ∨ i = w.heap.size) ⟨s, R, dm⟩ W → Calls Tryz.prog 69 #[.pointer (some ⟨b, 0, none⟩), .string p, .string (t.extract 0 g)] W fun e w' => e = .returned (.int .i64 (k1 : Nat)) ∧ Mid (RefAt b) 60 b w.heap.size p v (w.alloc ob) (fun i => F i ∨ i = w.heap.size) ⟨s1, R, dm⟩ w' := fun v dm W hW => hW.call (x := ⟨s, R, dm⟩) kk (fun hd => by
          have := rFill_any b p (t.extract 0 g) W hd hfk hp hxs
          rw [h1] at this
          exact this)
        have HC1 := Lib.hid c1
        have ne0 := Dk.ne_eq he
        have hbad : bad e = (decide (e = 6) || decide (e = 3)) := rfl
        generalize kind s.L p = K at ck nk
        clear h o1 o2 hk hrd hk0 q1 q2 q3 hsc hJ hob hz hfk h1 hxs c1
        have n6 : ((e : Int) == 6) = decide (e = 6) := by by_cases h : e = 6 <;> simp [h]; omega
        have n3 : ((e : Int) == 3) = decide (e = 3) := by by_cases h : e = 3 <;> simp [h]; omega
        rw [hbad]
        clear hbad he
        generalize decide (e = 6) = b6 at n6 ⊢
        generalize decide (e = 3) = b3 at n3 ⊢
        by_cases e1 : k1 ≠ 0
        · have n1 := Dk.ne_eq e1
          have HE := Lib.hid e1
          clear e1
          go_enter Tryz.func18, Tryz.ntmps18
          go_wp2_with fail
          go_at_call 65
          rw [← HOB.out]
          refine ck.mono ?_
          rintro e w4 ⟨rfl, hb4⟩
          go_wp2_with fail
          go_at_call 32
          refine (HCR.out _ hb4).mono ?_
          rintro e w5 ⟨rfl, h5⟩
          have hb5 := below_call hb4 h5
          go_wp2_with fail
          go_at_call 70
          refine (cs _).mono ?_
          rintro e w6 ⟨v, rfl, htx, hb6'⟩
          have hb6 := below_call hb5 hb6'
          obtain ⟨⟨g1, g2⟩, ⟨g3, g4⟩, hfin⟩ := HH.out.scanned kk (dm := b6 || b3) hb6 htx hb5.size
          obtain ⟨a6, c6, hv⟩ := own_form htx
          obtain ⟨n6, hn6⟩ : ∃ n6, n6 = R.length := ⟨_, rfl⟩
          rw [← hn6] at hv
          have HFIN := Lib.hid hfin
          clear hn6 htx hfin hb6' h5
          subst hv
          have hc6 := HC1.out _ _ _ HFIN.out
          cases b6
          · cases b3
            · rw [show (false || false) = false from rfl] at hc6 ⊢
              go_wp2_with fail
              go_at_call 69
              refine hc6.mono ?_
              rintro e w7 ⟨rfl, h7⟩
              go_wp2_with fail
              go_ret2
              unfold OpenTo
              exact .inr ⟨HE.out, rfl, jn_disk (HLAST.out _ _ _ h7)⟩
            · rw [show (false || true) = true from rfl] at hc6 ⊢
              go_wp2_with fail
              go_at_call 69
              refine hc6.mono ?_
              rintro e w7 ⟨rfl, h7⟩
              go_wp2_with fail
              go_ret2
              unfold OpenTo
              exact .inr ⟨HE.out, rfl, jn_disk (HLAST.out _ _ _ h7)⟩
          · cases b3
            · rw [show (true || false) = true from rfl] at hc6 ⊢
              go_wp2_with fail
              go_at_call 69
              refine hc6.mono ?_
              rintro e w7 ⟨rfl, h7⟩
              go_wp2_with fail
              go_ret2
              unfold OpenTo
              exact .inr ⟨HE.out, rfl, jn_disk (HLAST.out _ _ _ h7)⟩
            · rw [show (true || true) = true from rfl] at hc6 ⊢
              go_wp2_with fail
        · obtain rfl : k1 = 0 := by omega
          clear e1
          go_enter Tryz.func18, Tryz.ntmps18
          go_wp2_with fail
          go_at_call 65
          rw [← HOB.out]
          refine ck.mono ?_
          rintro e w4 ⟨rfl, hb4⟩
          go_wp2_with fail
          go_at_call 32
          refine (HCR.out _ hb4).mono ?_
          rintro e w5 ⟨rfl, h5⟩
          have hb5 := below_call hb4 h5
          go_wp2_with fail
          go_at_call 70
          refine (cs _).mono ?_
          rintro e w6 ⟨v, rfl, htx, hb6'⟩
          have hb6 := below_call hb5 hb6'
          obtain ⟨⟨g1, g2⟩, ⟨g3, g4⟩, hfin⟩ := HH.out.scanned kk (dm := b6 || b3) hb6 htx hb5.size
          obtain ⟨a6, c6, hv⟩ := own_form htx
          obtain ⟨n6, hn6⟩ : ∃ n6, n6 = R.length := ⟨_, rfl⟩
          rw [← hn6] at hv
          have HFIN := Lib.hid hfin
          clear hn6 htx hfin hb6' h5
          subst hv
          have hc6 := HC1.out _ _ _ HFIN.out
          cases b6
          · cases b3
            · rw [show (false || false) = false from rfl] at hc6 ⊢
              go_wp2_with fail
              go_at_call 69
              refine hc6.mono ?_
              rintro e w7 ⟨rfl, h7⟩
              go_wp2_with fail
              go_ret2
              unfold OpenTo
              exact .inl ⟨rfl, _, rfl, HLAST.out _ _ _ h7⟩
            · rw [show (false || true) = true from rfl] at hc6 ⊢
              go_wp2_with fail
              go_at_call 69
              refine hc6.mono ?_
              rintro e w7 ⟨rfl, h7⟩
              go_wp2_with fail
              go_ret2
              unfold OpenTo
              exact .inl ⟨rfl, _, rfl, HLAST.out _ _ _ h7⟩
          · cases b3
            · rw [show (true || false) = true from rfl] at hc6 ⊢
              go_wp2_with fail
              go_at_call 69
              refine hc6.mono ?_
              rintro e w7 ⟨rfl, h7⟩
              go_wp2_with fail
              go_ret2
              unfold OpenTo
              exact .inl ⟨rfl, _, rfl, HLAST.out _ _ _ h7⟩
            · rw [show (true || true) = true from rfl] at hc6 ⊢
              go_wp2_with fail
end Go.Proofs.YtjdmbkkdnonkkaaGreat.Wl

namespace Go.Proofs.YtjdmbkkdnonkkaaGreat.Dk
open Go.RowKit Tx Pm Pl Pr
set_option linter.unusedVariables false
set_option maxRecDepth 100000 in
set_option maxHeartbeats 2000000 in
theorem iRot_w (b bi bl : Nat) (l : Int) (s : St) (p : ByteArray) (bit : Int) (w : World) (h : Ia b bi bl l w s) (ok : Ok s) (hp : p.size ≤ 8000000000000) (hbit : -9223372036854775808 ≤ bit ∧ bit ≤ 9223372036854775807)
    (hsz : (old s.L p).data.size ≤ 1000000000000000000 ∧ (old s.L p).kept.size ≤ 1000000000000000000) :
    Calls Tryz.prog 26 #[.pointer (some ⟨b, 0, none⟩), .string p, .int .i64 bit] w fun e w' => e = .returned (.int .i64 ((rotS s p bit).1 : Nat)) ∧ Ip b bi bl w (rotS s p bit).2 w' := by
  have c1 := iMaySync_any b bi bl l s p w h hp
  have hself : ∀ w', Below w.heap.size w w' → Ip b bi bl w s w' := fun w' hb => Ip.of (h.below hb) hb
  unfold rotS
  by_cases h1 : there s p ≠ 0
  · rw [if_pos h1]
    have HS := Lib.hid hself
    have e1 := ne_eq h1
    generalize there s p = E at c1 e1 ⊢
    clear h hself h1
    go_enter Tryz.func26, Tryz.ntmps26
    go_wp2_with (go_at_call 83; refine c1.mono ?_; rintro e w1 ⟨rfl, hb1⟩)
    go_ret
    exact ⟨rfl, HS.out _ hb1⟩
  · rw [if_neg h1]
    have h0 : there s p = 0 := by omega
    rw [h0] at c1
    have hk := (there_kind h0).2
    have hod : (old s.L p).dir = false := (old_file h0).1
    have ct1 := fun W => Fr.fTurn_w (old s.L p).data bit W hsz.1 hbit.1 hbit.2
    have ct2 := fun W => Fr.fTurn_w (old s.L p).kept bit W hsz.2 hbit.1 hbit.2
    have cs := fun W (hW : Ia b bi bl l W s) => iSet_any b bi bl l s { old s.L p with data := Fr.tn (old s.L p).data bit, kept := Fr.tn (old s.L p).kept bit } (old s.L p).stamp p W hW (old_path _ _) hp ok.fit.1 ok.stamps
    rw [show kOf { old s.L p with data := Fr.tn (old s.L p).data bit, kept := Fr.tn (old s.L p).kept bit } = 2 from kOf_file hod, show stOf { old s.L p with data := Fr.tn (old s.L p).data bit, kept := Fr.tn (old s.L p).kept bit } = stOf (old s.L p) from rfl] at cs
    simp only at cs
    have hlk := fun W (hW : Below w.heap.size w W) => (h.below hW).look (p := p) (maxLen_of hp)
    rw [hk] at hlk
    have HLK := Lib.hid hlk
    have HC := Lib.hid (fun W (hW : Below w.heap.size w W) => (h.below hW).cell.1)
    have HI := Lib.hid (fun W (hW : Below w.heap.size w W) => h.below hW)
    have hft := h.lt
    have HF := Lib.hid hft
    generalize putS s { old s.L p with data := Fr.tn (old s.L p).data bit, kept := Fr.tn (old s.L p).kept bit } = s2 at cs ⊢
    generalize Fr.tn (old s.L p).data bit = TX at ct1 cs
    generalize Fr.tn (old s.L p).kept bit = TY at ct2 cs
    generalize (old s.L p).data = X at ct1 HLK
    generalize (old s.L p).kept = Y at ct2 HLK
    generalize stOf (old s.L p) = T at HLK cs
    generalize ((old s.L p).stamp : Int) = M at HLK cs
    clear h hself h1 h0 hk hod hlk hft hsz ok
    go_enter Tryz.func26, Tryz.ntmps26
    go_wp2_with (go_at_call 83; refine c1.mono ?_; rintro e w1 ⟨rfl, hb1⟩; have g0 := HC.out _ hb1; have l0 := HLK.out _ hb1; have l1 := fun o => HLK.out _ (below_call hb1 ((Below.refl _ w1).alloc (Nat.le_refl _) o)))
    have hbx : Box5 (w1.alloc (.cells #[.int .i64 2, .string X, .string Y, .int .i64 T, .int .i64 M] 117)) w1.heap.size 2 X Y T M := box5_of (new_at w1 _ rfl)
    have hblk := new_at w1 (.cells #[.int .i64 2, .string X, .string Y, .int .i64 T, .int .i64 M] 117) rfl
    have hwm : ∀ W, Below (w1.alloc (.cells #[.int .i64 2, .string X, .string Y, .int .i64 T, .int .i64 M] 117)).heap.size (w1.alloc (.cells #[.int .i64 2, .string X, .string Y, .int .i64 T, .int .i64 M] 117)) W → ∀ k, W.frozen? ⟨w1.heap.size, k, none⟩ = false := by
      intro W hW k
      unfold World.frozen?
      rw [hW.block _ (by simp), hblk]
      simp
    refine Rg.wp_only ?_ (regRot _ (by kernel_rfl) _ w1.heap.size X Y TX TY 2 T M bit _ hbx hwm ct1 ct2)
    rintro _ w9 ⟨rfl, w4, hb4, rfl⟩
    have hbox4 := hbx.below hb4
    have hI4 := HI.out _ (below_call (below_call hb1 ((Below.refl _ w1).alloc (Nat.le_refl _) _)) hb4)
    have hnf : ∀ i, Ft b bi bl i → i ≠ w1.heap.size := fun i hi => by have := HF.out i hi; have := hb1.size; omega
    have hI5 := (hI4.chg (F := (· = w1.heap.size)) (chg_set (b := w1.heap.size) (k := 1) (.string TX)) (fun i hi => hnf i hi)).chg (F := (· = w1.heap.size)) (chg_set (b := w1.heap.size) (k := 2) (.string TY)) (fun i hi => hnf i hi)
    have hcg : Chg (Ft b bi bl) w ((w4.setCell ⟨w1.heap.size, 1, none⟩ (.string TX)).setCell ⟨w1.heap.size, 2, none⟩ (.string TY)) := by
      have hb5 := below_call (below_call hb1 ((Below.refl _ w1).alloc (Nat.le_refl _) (.cells #[.int .i64 2, .string X, .string Y, .int .i64 T, .int .i64 M] 117))) hb4
      have hz := hb1.size
      exact Chg.of_below ((hb5.setCell (by exact hz) _).setCell (by exact hz) _)
    have HCG := Lib.hid hcg
    have cs5 := cs _ hI5
    obtain ⟨hlt4, m0, m1, m2, m3, m4⟩ := hbox4
    have hw4 := fun k => hwm _ hb4 k
    clear hI4 hI5 hcg cs hbx hblk hwm l1
    go_wp2_with fail
    refine cs5.mono ?_
    rintro e w6 ⟨rfl, l6, hI6, hC6⟩
    go_wp2_with fail
    go_ret
    exact ⟨rfl, l6, hI6, HCG.out.then hC6⟩
end Go.Proofs.YtjdmbkkdnonkkaaGreat.Dk

namespace Go.Proofs.YtjdmbkkdnonkkaaGreat.Wl
open Go.RowKit Tx Pm Dk Fr
set_option linter.unusedVariables false
theorem inv_writeW {s : St} {i T : Nat} {p d : ByteArray} (h : Inv s i T) (hp : p.size ≤ 1048576) (hd : d.size ≤ T + 1048576) : Inv (writeS s p d).2 (i + 1) (T + 1048576) := by
  unfold writeS
  split
  · exact h.more
  split
  · exact h.more
  split
  · exact h.more
  split
  · exact h.more
  split
  · exact inv_done h
  · obtain ⟨o1, o2, o3, o4⟩ := old_inv h hp
    have := inv_putS (x := { old s.L p with data := d, loose := true, anew := true }) h (same_in h) (Nat.le_refl _) o1 (by show d.size ≤ _; omega) (by show (old s.L p).kept.size ≤ _; omega) (fun hh => by cases hh)
    exact putS_L this
theorem inv_appendW {s : St} {i T : Nat} {p d : ByteArray} (h0 : Inv s i T) (hp : p.size ≤ 1048576) (hd : d.size ≤ 2097152) : Inv (appendS s p d).2 (i + 2) (T + 2097152) := by
  have h := h0.more
  obtain ⟨o1, o2, o3, o4⟩ := old_inv h0 hp
  have e2 : T + 2097152 = T + 1048576 + 1048576 := by omega
  rw [e2]
  show Inv (appendS s p d).2 (i + 1 + 1) (T + 1048576 + 1048576)
  unfold appendS
  split
  · exact h.more
  split
  · exact h.more
  split
  · exact inv_done h
  · have hsz : ((old s.L p).data ++ d).size = (old s.L p).data.size + d.size := ByteArray.size_append
    have := inv_putS (x := { old s.L p with data := (old s.L p).data ++ d, loose := true }) h (same_in h) (Nat.le_refl _) o1 (by show ((old s.L p).data ++ d).size ≤ _; omega) (by show (old s.L p).kept.size ≤ _; omega) (fun hh => by have := o4 hh; show (old s.L p).kept.size ≤ ((old s.L p).data ++ d).size; omega)
    exact putS_L this
structure Fa (x : Jst) (i : Nat) : Prop where
  inv : Inv x.s i (i * 1048576)
  recs : x.R.length ≤ i * 1048576
theorem mul_1 (i : Nat) : (i + 1) * 1048576 = i * 1048576 + 1048576 := Nat.succ_mul _ _
theorem mul_2 (i : Nat) : (i + 2) * 1048576 = i * 1048576 + 2097152 := by rw [Nat.add_mul]
theorem mul_le' {i : Nat} (h : i ≤ 1000) : i * 1048576 ≤ 1048576000 := Nat.le_trans (Nat.mul_le_mul_right _ h) (by decide)
theorem inv_up {s : St} {i j : Nat} (h : Inv s i (i * 1048576)) (hij : i ≤ j) : Inv s j (j * 1048576) := by
  obtain ⟨d, rfl⟩ : ∃ d, j = i + d := ⟨j - i, by omega⟩
  clear hij
  induction d with
  | zero => exact h
  | succ d ih =>
    have := ih.more
    rw [← mul_1] at this
    exact this
theorem Fa.up {x : Jst} {i j : Nat} (h : Fa x i) (hij : i ≤ j) : Fa x j := ⟨inv_up h.inv hij, Nat.le_trans h.recs (Nat.mul_le_mul_right _ hij)⟩
theorem i_write {s : St} {i : Nat} {p d : ByteArray} (h : Inv s i (i * 1048576)) (hp : p.size ≤ 1048576) (hd : d.size ≤ i * 1048576 + 1048576) : Inv (writeS s p d).2 (i + 1) ((i + 1) * 1048576) := by rw [mul_1]; exact inv_writeW h hp hd
theorem i_sync {s : St} {i : Nat} {p : ByteArray} (h : Inv s i (i * 1048576)) (hp : p.size ≤ 1048576) : Inv (syncS s p).2 (i + 1) ((i + 1) * 1048576) := by rw [mul_1]; exact inv_sync h hp
theorem i_rename {s : St} {i : Nat} {p q : ByteArray} (h : Inv s i (i * 1048576)) (hp : p.size ≤ 1048576) (hq : q.size ≤ 1048576) : Inv (renameS s p q).2 (i + 1) ((i + 1) * 1048576) := by rw [mul_1]; exact inv_rename h hp hq
theorem i_append {s : St} {i : Nat} {p d : ByteArray} (h : Inv s i (i * 1048576)) (hp : p.size ≤ 1048576) (hd : d.size ≤ 2097152) : Inv (appendS s p d).2 (i + 2) ((i + 2) * 1048576) := by rw [mul_2]; exact inv_appendW h hp hd
theorem i_restart {s : St} {i : Nat} {loss : Int} (h : Inv s i (i * 1048576)) (hi : i ≤ 1000) : Inv (restartS s loss) (i + 1) ((i + 1) * 1048576) := by rw [mul_1]; exact inv_restart h hi
theorem i_rot {s : St} {i : Nat} {p : ByteArray} {bit : Int} (h : Inv s i (i * 1048576)) (hp : p.size ≤ 1048576) : Inv (rotS s p bit).2 (i + 1) ((i + 1) * 1048576) := by rw [mul_1]; exact inv_rot h hp (fun x => tn_size x bit)
theorem i_fill {s : St} {i : Nat} {p d : ByteArray} (h : Inv s i (i * 1048576)) (hp : p.size ≤ 1000) (hd : d.size ≤ i * 1048576 + 1048576) : Inv (fillS s p d).2 (i + 3) ((i + 3) * 1048576) := by
  have hc : (p ++ tT).size = p.size + 2 := ByteArray.size_append
  have h1 := i_write (p := p ++ tT) h (by omega) hd
  have h2 := i_sync (p := p ++ tT) h1 (by omega)
  unfold fillS
  split
  · exact inv_up h1 (by omega)
  split
  · exact inv_up h2 (by omega)
  · exact i_rename h2 (by omega) (by omega)
theorem fillok_inv {s : St} {i : Nat} {p d : ByteArray} (h : Inv s i (i * 1048576)) (hi : i ≤ 990) (hp : p.size ≤ 1000) (hd : d.size ≤ i * 1048576 + 1048576) : Ok s ∧ Ok (writeS s (p ++ tT) d).2 ∧ Ok (syncS (writeS s (p ++ tT) d).2 (p ++ tT)).2 := by
  have hc : (p ++ tT).size = p.size + 2 := ByteArray.size_append
  have h1 := i_write (p := p ++ tT) h (by omega) hd
  have h2 := i_sync (p := p ++ tT) h1 (by omega)
  exact ⟨h.ok (by omega) (mul_le' (by omega)), h1.ok (by omega) (mul_le' (by omega)), h2.ok (by omega) (mul_le' (by omega))⟩
theorem fa_reset {x : Jst} {i : Nat} {p : ByteArray} (h : Fa x i) (hp : p.size ≤ 1000) : Fa (resetS x p).2 (i + 3) := by
  have h1 := i_fill (p := p) (d := ⟨#[]⟩) h.inv hp (Nat.zero_le _)
  unfold resetS
  split
  · exact ⟨h1, (h.up (by omega)).recs⟩
  · exact ⟨h1, Nat.zero_le _⟩
theorem fa_add {x : Jst} {i : Nat} {p r : ByteArray} (h : Fa x i) (hp : p.size ≤ 1000) (hr : (Fm.pk r).size ≤ 2097152) : Fa (addS x p r).2 (i + 3) := by
  have h1 := i_append (p := p) (d := Fm.pk r) h.inv (by omega) hr
  have h2 := i_sync (p := p) h1 (by omega)
  unfold addS
  split
  · exact ⟨inv_up h1 (by omega), (h.up (j := i + 3) (by omega)).recs⟩
  split
  · exact ⟨h2, (h.up (j := i + 3) (by omega)).recs⟩
  · refine ⟨h2, ?_⟩
    show (x.R ++ [r]).length ≤ _
    have := h.recs
    rw [List.length_append, mul_2, mul_1]
    show x.R.length + 1 ≤ _
    omega
theorem read_le {s : St} {i : Nat} {p : ByteArray} (h : Inv s i (i * 1048576)) : (readS s p).1.size ≤ i * 1048576 := by
  unfold readS
  split
  · exact Nat.zero_le _
  · split
    · exact Nat.zero_le _
    · rename_i x hx
      split
      · exact Nat.zero_le _
      · exact (h.size x (find_mem hx).1).1
theorem fa_open {s : St} {i : Nat} {p : ByteArray} (h : Inv s i (i * 1048576)) (hp : p.size ≤ 1000) : Fa (openS s p).2 (i + 3) := by
  have hrd := read_le (p := p) h
  have hn := Fm.sc_count (readS s p).1
  have hup := inv_up h (show i ≤ i + 3 by omega)
  have hlen : (Fm.sc (readS s p).1 0).1.length ≤ (i + 3) * 1048576 := Nat.le_trans hn (Nat.le_trans hrd (Nat.mul_le_mul_right _ (by omega)))
  unfold openS
  split
  · exact ⟨i_fill h hp (Nat.zero_le _), Nat.zero_le _⟩
  split
  · exact ⟨hup, Nat.zero_le _⟩
  split
  · exact ⟨hup, hlen⟩
  · refine ⟨i_fill h hp ?_, hlen⟩
    have := ext_size (readS s p).1 (Fm.sc (readS s p).1 0).2.1
    omega
end Go.Proofs.YtjdmbkkdnonkkaaGreat.Wl

namespace Go.Proofs.YtjdmbkkdnonkkaaGreat.Rg
open Go.RowKit
set_option linter.unusedVariables false
section
variable {P : Program} {S : World → Prop}
end
section
variable {P : Program} {ops : Array Oper} {R : Act → World → Prop} {S : World → Prop}
theorem bld (i : Nat) (d : Option Tmp) {T : TypeId} {len : Nat} {parts : Array (Nat × Operand)} {vs : Array (Nat × Value)} {v : Value} {w1 : World} {fuel : Nat} {listed : Array Bool} {a : Act} {w : World}
    (hi : decide (i < ops.size) = true) (hd : (opOf ops i).dst = d) (hr : Region.ready .any ops listed = [i])
    (hw : Region.wanted (opOf ops i) (yielded ops a.tmps) = true) (ho : (opOf ops i).op = .buildSlice T len parts) (hx : (parts.map fun (i, x) => (i, a.eval x)) = vs)
    (hv : (Instr.buildSlice T len vs).run P w = .ok v w1) (hS : S w1)
    (h : S w1 → wpAnyH P .any ops (Only R) S fuel (listed.setIfInBounds i true) (a.put d v) w1) : wpAnyH P .any ops (Only R) S (fuel + 1) listed a w := by
  refine one hr ?_
  subst hd
  unfold wpOp
  rw [opOf_some hi]
  simp only [hw, if_true]
  refine .inl ?_
  have he : (execOp a.eval (opOf ops i)).run P w = .ok (.value v) w1 := by
    generalize opOf ops i = o at ho
    obtain ⟨dst, op, ty, pos, after, guard⟩ := o
    simp only at ho
    subst ho
    simp only [execOp, Sem.run_bind]
    rw [hx, hv]
    rfl
  unfold Oper.wp
  rw [he, Oper.upon_value]
  exact ⟨hS, h hS⟩
end
end Go.Proofs.YtjdmbkkdnonkkaaGreat.Rg

namespace Go.Proofs.YtjdmbkkdnonkkaaGreat.Wl
open Go.RowKit Tx
set_option linter.unusedVariables false
def Shw (jw bw : Nat) (vr : Value) (dm : Bool) (X : Nat) (W : World) : Prop := W.cell? ⟨jw, 2, none⟩ = some vr ∧ W.cell? ⟨jw, 3, none⟩ = some (.bool dm) ∧ W.cell? ⟨bw, 2, none⟩ = some (.int .i64 (X : Int))
set_option maxRecDepth 100000 in
set_option maxHeartbeats 4000000 in
theorem regPlays (ops : Array Oper) (hops : ops = (Rg.opsOf Tryz.f3 47)) (id : Nat) (j b jw bw n c1 c2 X : Nat) (a1 a2 : Option Addr) (dm : Bool) (t : ByteArray) (vr : Value) {u0 u1 u2 u6 u8 u9 u10 u11 u13 u15 u18 u19 u20 u21 u22 u23 u24 u25 u26 u27 u28 u29 u30 u31 u32 u33 u34 u35 u36 u37 u38 u39 u40 u41 u42 u43 u44 u45 u46 u47 u48 u49 u50 u51 u52 u53 u54 u55 u56 u57 u58 u59 u60 u61 u62 u63 u64 u65 u66 u67 u68 u69 u70 u71 u72 u73 u74 u75 u76 u77 u78 u79 u80 u81 u82 u83 u84 u85 u86 u87 u88 u89 u90 u91 u92 u93 u94 u95 u96 u97 u98 u99 u100 u101 u102 u103 u104 u105 u106 u107 u108 u109 u110 u111 u112 u113 u114 u115 u116 u117 u118 u119 u120 u121 u122 u123 u124 u125 u126 u127 u128 u129 u130 u131 u132 u133 u134 u135 u136 u137 u138 u139 u140 u141 u142 u143 u144 u145 u146 u147 u148 u149 u150 u151 u152 u153 u154 u155 u156 u157 u158 u159 u160 u161 u162 u163 u164 u165 u166 u167 u168 u169 u170 u171 u172 u173 u174 u175 u176 u177 u178 u179 u180 u181 u182 u183 u184 u185 u186 u187 u188 u189 u190 u191 u192 u193 u194 u195 u196 u197 u198 u199 u200 u201 u202 u203 u204 u205 u206 u207 u208 u209 u210 u211 u212 u213 u214 u215 u216 u217 u218 u219 u220 u221 u222 u223 u224 u225 u226 u227 u228 u229 u230 u231 u232 u233 u234 : Value} (w : World) (B1 B2 B3 B4 B5 : World → Prop)
    (hS : Shw jw bw vr dm X w) (hA : Calls Tryz.prog 34 #[.slice a1 n c1, vr] w.drew fun e w' => e = .returned (.bool true) ∧ B1 w') (hAS : ∀ W, B1 W → Shw jw bw vr dm X W)
    (hB : ∀ W, B1 W → Calls Tryz.prog 34 #[.slice a2 n c2, .slice a1 n c1] W fun e w' => e = .returned (.bool true) ∧ B2 w') (hBS : ∀ W, B2 W → Shw jw bw vr dm X W)
    (hC : ∀ W, B2 W → Calls Tryz.prog 35 #[.pointer (some ⟨j, 0, none⟩)] W fun e w' => e = .returned (.bool dm) ∧ B3 w') (hCS : ∀ W, B3 W → Shw jw bw vr dm X W)
    (hD : ∀ W, B3 W → Calls Tryz.prog 36 #[.pointer (some ⟨b, 0, none⟩)] W fun e w' => e = .returned (.int .i64 (X : Int)) ∧ B4 w') (hDS : ∀ W, B4 W → Shw jw bw vr dm X W)
    (hES : ∀ W, B4 W → Shw jw bw vr dm X (W.alloc (.cells #[.slice a1 n c1, .slice a2 n c2] 56)))
    (hE : ∀ W, B4 W → Calls Tryz.prog 37 #[.slice (some ⟨W.heap.size, 0, none⟩) 2 2] (W.alloc (.cells #[.slice a1 n c1, .slice a2 n c2] 56)) fun e w' => e = .returned (.bool true) ∧ B5 w') (hGS : ∀ W, B5 W → Shw jw bw vr dm X W) :
    (Code.region id ops true).wp Tryz.prog (Rg.Only fun a' w' => ∃ z8 : Nat, a' = ⟨#[u0, u1, u2, (.pointer (some ⟨b, 0, none⟩)), (.pointer (some ⟨bw, 0, none⟩)), (.pointer (some ⟨j, 0, none⟩)), u6, (.pointer (some ⟨jw, 0, none⟩)), u8, u9, u10, u11, (.string t), u13, (.string t), u15, (.slice a1 n c1), (.slice a2 n c2), u18, u19, u20, u21, u22, u23, u24, u25, u26, u27, u28, u29, u30, u31, u32, u33, u34, u35, u36, u37, u38, u39, u40, u41, u42, u43, u44, u45, u46, u47, u48, u49, u50, u51, u52, u53, u54, u55, u56, u57, u58, u59, u60, u61, u62, u63, u64, u65, u66, u67, u68, u69, u70, u71, u72, u73, u74, u75, u76, u77, u78, u79, u80, u81, u82, u83, u84, u85, u86, u87, u88, u89, u90, u91, u92, u93, u94, u95, u96, u97, u98, u99, u100, u101, u102, u103, u104, u105, u106, u107, u108, u109, u110, u111, u112, u113, u114, u115, u116, u117, u118, u119, u120, u121, u122, u123, u124, u125, u126, u127, u128, u129, u130, u131, u132, u133, u134, u135, u136, u137, u138, u139, u140, u141, u142, u143, u144, u145, u146, u147, u148, u149, u150, u151, u152, u153, u154, u155, u156, u157, u158, u159, u160, u161, u162, u163, u164, u165, u166, u167, u168, u169, u170, u171, u172, u173, u174, u175, u176, u177, u178, u179, u180, u181, u182, u183, u184, u185, u186, u187, u188, u189, u190, u191, (.string t), (.string t), (.bool false), (.bool false), (.slice a1 n c1), (.pointer (some ⟨jw, 0, none⟩)), (.pointer (some ⟨jw, 0, none⟩)), (.pointer (some ⟨jw, 2, none⟩)), vr, (.bool true), (.bool false), (.bool false), (.bool false), (.slice a2 n c2), (.slice a1 n c1), (.bool true), (.bool false), (.bool false), (.bool false), (.pointer (some ⟨j, 0, none⟩)), (.bool dm), (.pointer (some ⟨jw, 0, none⟩)), (.pointer (some ⟨jw, 0, none⟩)), (.pointer (some ⟨jw, 3, none⟩)), (.bool dm), (.bool false), (.bool false), (.bool false), (.pointer (some ⟨b, 0, none⟩)), (.int .i64 (X : Int)), (.pointer (some ⟨bw, 0, none⟩)), (.pointer (some ⟨bw, 0, none⟩)), (.pointer (some ⟨bw, 2, none⟩)), (.int .i64 (X : Int)), (.bool false), (.bool false), (.bool false), (.slice a1 n c1), (.slice a2 n c2), (.slice (some ⟨z8, 0, none⟩) 2 2), (.bool true), (.bool false), (.bool false)], []⟩ ∧ B5 w') ⟨#[u0, u1, u2, (.pointer (some ⟨b, 0, none⟩)), (.pointer (some ⟨bw, 0, none⟩)), (.pointer (some ⟨j, 0, none⟩)), u6, (.pointer (some ⟨jw, 0, none⟩)), u8, u9, u10, u11, (.string t), u13, (.string t), u15, (.slice a1 n c1), (.slice a2 n c2), u18, u19, u20, u21, u22, u23, u24, u25, u26, u27, u28, u29, u30, u31, u32, u33, u34, u35, u36, u37, u38, u39, u40, u41, u42, u43, u44, u45, u46, u47, u48, u49, u50, u51, u52, u53, u54, u55, u56, u57, u58, u59, u60, u61, u62, u63, u64, u65, u66, u67, u68, u69, u70, u71, u72, u73, u74, u75, u76, u77, u78, u79, u80, u81, u82, u83, u84, u85, u86, u87, u88, u89, u90, u91, u92, u93, u94, u95, u96, u97, u98, u99, u100, u101, u102, u103, u104, u105, u106, u107, u108, u109, u110, u111, u112, u113, u114, u115, u116, u117, u118, u119, u120, u121, u122, u123, u124, u125, u126, u127, u128, u129, u130, u131, u132, u133, u134, u135, u136, u137, u138, u139, u140, u141, u142, u143, u144, u145, u146, u147, u148, u149, u150, u151, u152, u153, u154, u155, u156, u157, u158, u159, u160, u161, u162, u163, u164, u165, u166, u167, u168, u169, u170, u171, u172, u173, u174, u175, u176, u177, u178, u179, u180, u181, u182, u183, u184, u185, u186, u187, u188, u189, u190, u191, u192, u193, u194, u195, u196, u197, u198, u199, u200, u201, u202, u203, u204, u205, u206, u207, u208, u209, u210, u211, u212, u213, u214, u215, u216, u217, u218, u219, u220, u221, u222, u223, u224, u225, u226, u227, u228, u229, u230, u231, u232, u233, u234], []⟩ w := by
  subst hops
  have hNS : Region.noSelect (Rg.opsOf Tryz.f3 47) = true := by kernel_rfl
  refine wp_region_held_drew (S := Shw jw bw vr dm X) (by kernel_rfl) hS (fun hHeld => ?_)
  rw [show (Rg.opsOf Tryz.f3 47).size = 43 by kernel_rfl]
  refine Rg.take (ops := (Rg.opsOf Tryz.f3 47)) 0 (some 192) ((.string t)) hNS (by kernel_rfl) (by kernel_rfl) (by kernel_rfl) (by kernel_rfl) (by kernel_rfl) hHeld (Rg.y_move (x := (Operand.tmp 12)) (Or.inl (by kernel_rfl)) (by kernel_rfl)) ?_
  refine Rg.take (ops := (Rg.opsOf Tryz.f3 47)) 1 (some 193) ((.string t)) hNS (by kernel_rfl) (by kernel_rfl) (by kernel_rfl) (by kernel_rfl) (by kernel_rfl) hHeld (Rg.y_move (x := (Operand.tmp 14)) (Or.inl (by kernel_rfl)) (by kernel_rfl)) ?_
  refine Rg.take (ops := (Rg.opsOf Tryz.f3 47)) 2 (some 194) ((.bool false)) hNS (by kernel_rfl) (by kernel_rfl) (by kernel_rfl) (by kernel_rfl) (by kernel_rfl) hHeld (Rg.y_bin (b := BinOp.neq) (T := 9) (R' := 9) (x := (Operand.tmp 192)) (y := (Operand.tmp 193)) (vx := (.string t)) (vy := (.string t)) (by kernel_rfl) (by kernel_rfl) (by kernel_rfl) ?_) ?_
  · (intro w hSw; clear hSw; go_simp)
  refine Rg.take (ops := (Rg.opsOf Tryz.f3 47)) 3 (some 195) ((.bool false)) hNS (by kernel_rfl) (by kernel_rfl) (by kernel_rfl) (by kernel_rfl) (by kernel_rfl) hHeld (Rg.y_move (x := (Operand.tmp 194)) (Or.inl (by kernel_rfl)) (by kernel_rfl)) ?_
  refine Rg.take (ops := (Rg.opsOf Tryz.f3 47)) 4 (some 196) ((.slice a1 n c1)) hNS (by kernel_rfl) (by kernel_rfl) (by kernel_rfl) (by kernel_rfl) (by kernel_rfl) hHeld (Rg.y_move (x := (Operand.tmp 16)) (Or.inl (by kernel_rfl)) (by kernel_rfl)) ?_
  refine Rg.take (ops := (Rg.opsOf Tryz.f3 47)) 5 (some 197) ((.pointer (some ⟨jw, 0, none⟩))) hNS (by kernel_rfl) (by kernel_rfl) (by kernel_rfl) (by kernel_rfl) (by kernel_rfl) hHeld (Rg.y_move (x := (Operand.tmp 7)) (Or.inl (by kernel_rfl)) (by kernel_rfl)) ?_
  refine Rg.take (ops := (Rg.opsOf Tryz.f3 47)) 6 (some 198) ((.pointer (some ⟨jw, 0, none⟩))) hNS (by kernel_rfl) (by kernel_rfl) (by kernel_rfl) (by kernel_rfl) (by kernel_rfl) hHeld (Rg.y_nil (x := (Operand.tmp 197)) (by kernel_rfl) (by kernel_rfl)) ?_
  refine Rg.take (ops := (Rg.opsOf Tryz.f3 47)) 7 (some 199) ((.pointer (some ⟨jw, 2, none⟩))) hNS (by kernel_rfl) (by kernel_rfl) (by kernel_rfl) (by kernel_rfl) (by kernel_rfl) hHeld (Rg.y_field (T := 60) (k := 2) (x := (Operand.tmp 198)) (vx := (.pointer (some ⟨jw, 0, none⟩))) (by kernel_rfl) (by kernel_rfl) ?_) ?_
  · (intro w hSw; clear hSw; go_simp)
  refine Rg.take (ops := (Rg.opsOf Tryz.f3 47)) 8 (some 200) (vr) hNS (by kernel_rfl) (by kernel_rfl) (by kernel_rfl) (by kernel_rfl) (by kernel_rfl) hHeld (Rg.y_load (T := 56) (x := (Operand.tmp 199)) (vx := (.pointer (some ⟨jw, 2, none⟩))) (by kernel_rfl) (by kernel_rfl) ?_) ?_
  · (intro w hSw; obtain ⟨s0, s1, s2⟩ := hSw; go_simp)
  refine Rg.call (ops := (Rg.opsOf Tryz.f3 47)) (fn := Tryz.f34) (xs := #[Operand.tmp 196, Operand.tmp 200]) (ats := #[56, 56]) 9 (some 201) 34 #[(.slice a1 n c1), vr] (by kernel_rfl) (by kernel_rfl) (by kernel_rfl) (by kernel_rfl) (by kernel_rfl) Tryz.func34 (by kernel_rfl) (by kernel_rfl) (by kernel_rfl) ?_
  refine hA.mono ?_
  rintro e w5 ⟨rfl, h5⟩
  refine ⟨_, rfl, hAS _ h5, fun hHeld => ?_⟩
  refine Rg.take (ops := (Rg.opsOf Tryz.f3 47)) 10 (some 202) ((.bool false)) hNS (by kernel_rfl) (by kernel_rfl) (by kernel_rfl) (by kernel_rfl) (by kernel_rfl) hHeld (Rg.y_un (b := UnOp.not) (T := 4) (x := (Operand.tmp 201)) (vx := (.bool true)) (by kernel_rfl) (by kernel_rfl) ?_) ?_
  · (intro w hSw; clear hSw; go_simp)
  refine Rg.take (ops := (Rg.opsOf Tryz.f3 47)) 11 (some 203) ((.bool false)) hNS (by kernel_rfl) (by kernel_rfl) (by kernel_rfl) (by kernel_rfl) (by kernel_rfl) hHeld (Rg.y_pick (c := (Operand.tmp 195)) (x := (Operand.const (Value.bool true))) (y := (Operand.tmp 202)) (b := false) (by kernel_rfl) (by kernel_rfl) (by kernel_rfl)) ?_
  refine Rg.take (ops := (Rg.opsOf Tryz.f3 47)) 12 (some 204) ((.bool false)) hNS (by kernel_rfl) (by kernel_rfl) (by kernel_rfl) (by kernel_rfl) (by kernel_rfl) hHeld (Rg.y_move (x := (Operand.tmp 203)) (Or.inl (by kernel_rfl)) (by kernel_rfl)) ?_
  refine Rg.take (ops := (Rg.opsOf Tryz.f3 47)) 13 (some 205) ((.slice a2 n c2)) hNS (by kernel_rfl) (by kernel_rfl) (by kernel_rfl) (by kernel_rfl) (by kernel_rfl) hHeld (Rg.y_move (x := (Operand.tmp 17)) (Or.inl (by kernel_rfl)) (by kernel_rfl)) ?_
  refine Rg.take (ops := (Rg.opsOf Tryz.f3 47)) 14 (some 206) ((.slice a1 n c1)) hNS (by kernel_rfl) (by kernel_rfl) (by kernel_rfl) (by kernel_rfl) (by kernel_rfl) hHeld (Rg.y_move (x := (Operand.tmp 16)) (Or.inl (by kernel_rfl)) (by kernel_rfl)) ?_
  refine Rg.call (ops := (Rg.opsOf Tryz.f3 47)) (fn := Tryz.f34) (xs := #[Operand.tmp 205, Operand.tmp 206]) (ats := #[56, 56]) 15 (some 207) 34 #[(.slice a2 n c2), (.slice a1 n c1)] (by kernel_rfl) (by kernel_rfl) (by kernel_rfl) (by kernel_rfl) (by kernel_rfl) Tryz.func34 (by kernel_rfl) (by kernel_rfl) (by kernel_rfl) ?_
  refine (hB _ h5).mono ?_
  rintro e w6 ⟨rfl, h6⟩
  refine ⟨_, rfl, hBS _ h6, fun hHeld => ?_⟩
  refine Rg.take (ops := (Rg.opsOf Tryz.f3 47)) 16 (some 208) ((.bool false)) hNS (by kernel_rfl) (by kernel_rfl) (by kernel_rfl) (by kernel_rfl) (by kernel_rfl) hHeld (Rg.y_un (b := UnOp.not) (T := 4) (x := (Operand.tmp 207)) (vx := (.bool true)) (by kernel_rfl) (by kernel_rfl) ?_) ?_
  · (intro w hSw; clear hSw; go_simp)
  refine Rg.take (ops := (Rg.opsOf Tryz.f3 47)) 17 (some 209) ((.bool false)) hNS (by kernel_rfl) (by kernel_rfl) (by kernel_rfl) (by kernel_rfl) (by kernel_rfl) hHeld (Rg.y_pick (c := (Operand.tmp 204)) (x := (Operand.const (Value.bool true))) (y := (Operand.tmp 208)) (b := false) (by kernel_rfl) (by kernel_rfl) (by kernel_rfl)) ?_
  refine Rg.take (ops := (Rg.opsOf Tryz.f3 47)) 18 (some 210) ((.bool false)) hNS (by kernel_rfl) (by kernel_rfl) (by kernel_rfl) (by kernel_rfl) (by kernel_rfl) hHeld (Rg.y_move (x := (Operand.tmp 209)) (Or.inl (by kernel_rfl)) (by kernel_rfl)) ?_
  refine Rg.take (ops := (Rg.opsOf Tryz.f3 47)) 19 (some 211) ((.pointer (some ⟨j, 0, none⟩))) hNS (by kernel_rfl) (by kernel_rfl) (by kernel_rfl) (by kernel_rfl) (by kernel_rfl) hHeld (Rg.y_move (x := (Operand.tmp 5)) (Or.inl (by kernel_rfl)) (by kernel_rfl)) ?_
  refine Rg.take (ops := (Rg.opsOf Tryz.f3 47)) 21 (some 213) ((.pointer (some ⟨jw, 0, none⟩))) hNS (by kernel_rfl) (by kernel_rfl) (by kernel_rfl) (by kernel_rfl) (by kernel_rfl) hHeld (Rg.y_move (x := (Operand.tmp 7)) (Or.inl (by kernel_rfl)) (by kernel_rfl)) ?_
  refine Rg.take (ops := (Rg.opsOf Tryz.f3 47)) 22 (some 214) ((.pointer (some ⟨jw, 0, none⟩))) hNS (by kernel_rfl) (by kernel_rfl) (by kernel_rfl) (by kernel_rfl) (by kernel_rfl) hHeld (Rg.y_nil (x := (Operand.tmp 213)) (by kernel_rfl) (by kernel_rfl)) ?_
  refine Rg.take (ops := (Rg.opsOf Tryz.f3 47)) 23 (some 215) ((.pointer (some ⟨jw, 3, none⟩))) hNS (by kernel_rfl) (by kernel_rfl) (by kernel_rfl) (by kernel_rfl) (by kernel_rfl) hHeld (Rg.y_field (T := 60) (k := 3) (x := (Operand.tmp 214)) (vx := (.pointer (some ⟨jw, 0, none⟩))) (by kernel_rfl) (by kernel_rfl) ?_) ?_
  · (intro w hSw; clear hSw; go_simp)
  refine Rg.take (ops := (Rg.opsOf Tryz.f3 47)) 24 (some 216) ((.bool dm)) hNS (by kernel_rfl) (by kernel_rfl) (by kernel_rfl) (by kernel_rfl) (by kernel_rfl) hHeld (Rg.y_load (T := 4) (x := (Operand.tmp 215)) (vx := (.pointer (some ⟨jw, 3, none⟩))) (by kernel_rfl) (by kernel_rfl) ?_) ?_
  · (intro w hSw; obtain ⟨s0, s1, s2⟩ := hSw; go_simp)
  refine Rg.call (ops := (Rg.opsOf Tryz.f3 47)) (fn := Tryz.f35) (xs := #[Operand.tmp 211]) (ats := #[29]) 20 (some 212) 35 #[(.pointer (some ⟨j, 0, none⟩))] (by kernel_rfl) (by kernel_rfl) (by kernel_rfl) (by kernel_rfl) (by kernel_rfl) Tryz.func35 (by kernel_rfl) (by kernel_rfl) (by kernel_rfl) ?_
  refine (hC _ h6).mono ?_
  rintro e w7 ⟨rfl, h7⟩
  refine ⟨_, rfl, hCS _ h7, fun hHeld => ?_⟩
  refine Rg.take (ops := (Rg.opsOf Tryz.f3 47)) 25 (some 217) ((.bool false)) hNS (by kernel_rfl) (by kernel_rfl) (by kernel_rfl) (by kernel_rfl) (by kernel_rfl) hHeld (Rg.y_bin (b := BinOp.neq) (T := 4) (R' := 4) (x := (Operand.tmp 212)) (y := (Operand.tmp 216)) (vx := (.bool dm)) (vy := (.bool dm)) (by kernel_rfl) (by kernel_rfl) (by kernel_rfl) ?_) ?_
  · (intro w hSw; clear hSw; cases dm <;> go_simp)
  refine Rg.take (ops := (Rg.opsOf Tryz.f3 47)) 26 (some 218) ((.bool false)) hNS (by kernel_rfl) (by kernel_rfl) (by kernel_rfl) (by kernel_rfl) (by kernel_rfl) hHeld (Rg.y_pick (c := (Operand.tmp 210)) (x := (Operand.const (Value.bool true))) (y := (Operand.tmp 217)) (b := false) (by kernel_rfl) (by kernel_rfl) (by kernel_rfl)) ?_
  refine Rg.take (ops := (Rg.opsOf Tryz.f3 47)) 27 (some 219) ((.bool false)) hNS (by kernel_rfl) (by kernel_rfl) (by kernel_rfl) (by kernel_rfl) (by kernel_rfl) hHeld (Rg.y_move (x := (Operand.tmp 218)) (Or.inl (by kernel_rfl)) (by kernel_rfl)) ?_
  refine Rg.take (ops := (Rg.opsOf Tryz.f3 47)) 28 (some 220) ((.pointer (some ⟨b, 0, none⟩))) hNS (by kernel_rfl) (by kernel_rfl) (by kernel_rfl) (by kernel_rfl) (by kernel_rfl) hHeld (Rg.y_move (x := (Operand.tmp 3)) (Or.inl (by kernel_rfl)) (by kernel_rfl)) ?_
  refine Rg.take (ops := (Rg.opsOf Tryz.f3 47)) 30 (some 222) ((.pointer (some ⟨bw, 0, none⟩))) hNS (by kernel_rfl) (by kernel_rfl) (by kernel_rfl) (by kernel_rfl) (by kernel_rfl) hHeld (Rg.y_move (x := (Operand.tmp 4)) (Or.inl (by kernel_rfl)) (by kernel_rfl)) ?_
  refine Rg.take (ops := (Rg.opsOf Tryz.f3 47)) 31 (some 223) ((.pointer (some ⟨bw, 0, none⟩))) hNS (by kernel_rfl) (by kernel_rfl) (by kernel_rfl) (by kernel_rfl) (by kernel_rfl) hHeld (Rg.y_nil (x := (Operand.tmp 222)) (by kernel_rfl) (by kernel_rfl)) ?_
  refine Rg.take (ops := (Rg.opsOf Tryz.f3 47)) 32 (some 224) ((.pointer (some ⟨bw, 2, none⟩))) hNS (by kernel_rfl) (by kernel_rfl) (by kernel_rfl) (by kernel_rfl) (by kernel_rfl) hHeld (Rg.y_field (T := 45) (k := 2) (x := (Operand.tmp 223)) (vx := (.pointer (some ⟨bw, 0, none⟩))) (by kernel_rfl) (by kernel_rfl) ?_) ?_
  · (intro w hSw; clear hSw; go_simp)
  refine Rg.take (ops := (Rg.opsOf Tryz.f3 47)) 33 (some 225) ((.int .i64 (X : Int))) hNS (by kernel_rfl) (by kernel_rfl) (by kernel_rfl) (by kernel_rfl) (by kernel_rfl) hHeld (Rg.y_load (T := 3) (x := (Operand.tmp 224)) (vx := (.pointer (some ⟨bw, 2, none⟩))) (by kernel_rfl) (by kernel_rfl) ?_) ?_
  · (intro w hSw; obtain ⟨s0, s1, s2⟩ := hSw; go_simp)
  refine Rg.call (ops := (Rg.opsOf Tryz.f3 47)) (fn := Tryz.f36) (xs := #[Operand.tmp 220]) (ats := #[23]) 29 (some 221) 36 #[(.pointer (some ⟨b, 0, none⟩))] (by kernel_rfl) (by kernel_rfl) (by kernel_rfl) (by kernel_rfl) (by kernel_rfl) Tryz.func36 (by kernel_rfl) (by kernel_rfl) (by kernel_rfl) ?_
  refine (hD _ h7).mono ?_
  rintro e w8 ⟨rfl, h8⟩
  refine ⟨_, rfl, hDS _ h8, fun hHeld => ?_⟩
  refine Rg.take (ops := (Rg.opsOf Tryz.f3 47)) 34 (some 226) ((.bool false)) hNS (by kernel_rfl) (by kernel_rfl) (by kernel_rfl) (by kernel_rfl) (by kernel_rfl) hHeld (Rg.y_bin (b := BinOp.neq) (T := 3) (R' := 3) (x := (Operand.tmp 221)) (y := (Operand.tmp 225)) (vx := (.int .i64 (X : Int))) (vy := (.int .i64 (X : Int))) (by kernel_rfl) (by kernel_rfl) (by kernel_rfl) ?_) ?_
  · (intro w hSw; clear hSw; go_simp)
  refine Rg.take (ops := (Rg.opsOf Tryz.f3 47)) 35 (some 227) ((.bool false)) hNS (by kernel_rfl) (by kernel_rfl) (by kernel_rfl) (by kernel_rfl) (by kernel_rfl) hHeld (Rg.y_pick (c := (Operand.tmp 219)) (x := (Operand.const (Value.bool true))) (y := (Operand.tmp 226)) (b := false) (by kernel_rfl) (by kernel_rfl) (by kernel_rfl)) ?_
  refine Rg.take (ops := (Rg.opsOf Tryz.f3 47)) 36 (some 228) ((.bool false)) hNS (by kernel_rfl) (by kernel_rfl) (by kernel_rfl) (by kernel_rfl) (by kernel_rfl) hHeld (Rg.y_move (x := (Operand.tmp 227)) (Or.inl (by kernel_rfl)) (by kernel_rfl)) ?_
  refine Rg.take (ops := (Rg.opsOf Tryz.f3 47)) 37 (some 229) ((.slice a1 n c1)) hNS (by kernel_rfl) (by kernel_rfl) (by kernel_rfl) (by kernel_rfl) (by kernel_rfl) hHeld (Rg.y_move (x := (Operand.tmp 16)) (Or.inl (by kernel_rfl)) (by kernel_rfl)) ?_
  refine Rg.take (ops := (Rg.opsOf Tryz.f3 47)) 38 (some 230) ((.slice a2 n c2)) hNS (by kernel_rfl) (by kernel_rfl) (by kernel_rfl) (by kernel_rfl) (by kernel_rfl) hHeld (Rg.y_move (x := (Operand.tmp 17)) (Or.inl (by kernel_rfl)) (by kernel_rfl)) ?_
  refine Rg.bld (ops := (Rg.opsOf Tryz.f3 47)) 39 (some 231) (T := 62) (len := 2) (parts := #[(0, Operand.tmp 229), (1, Operand.tmp 230)]) (vs := #[(0, (.slice a1 n c1)), (1, (.slice a2 n c2))]) (v := (.slice (some ⟨w8.heap.size, 0, none⟩) 2 2)) (w1 := w8.alloc (.cells #[.slice a1 n c1, .slice a2 n c2] 56)) (by kernel_rfl) (by kernel_rfl) (by kernel_rfl) (by kernel_rfl) (by kernel_rfl) (by kernel_rfl) ?_ (hES _ h8) (fun hHeld => ?_)
  · (clear hHeld; go_simp)
  refine Rg.call (ops := (Rg.opsOf Tryz.f3 47)) (fn := Tryz.f37) (xs := #[Operand.tmp 231]) (ats := #[62]) 40 (some 232) 37 #[(.slice (some ⟨w8.heap.size, 0, none⟩) 2 2)] (by kernel_rfl) (by kernel_rfl) (by kernel_rfl) (by kernel_rfl) (by kernel_rfl) Tryz.func37 (by kernel_rfl) (by kernel_rfl) (by kernel_rfl) ?_
  refine (hE _ h8).mono ?_
  rintro e w9 ⟨rfl, h9⟩
  refine ⟨_, rfl, hGS _ h9, fun hHeld => ?_⟩
  refine Rg.take (ops := (Rg.opsOf Tryz.f3 47)) 41 (some 233) ((.bool false)) hNS (by kernel_rfl) (by kernel_rfl) (by kernel_rfl) (by kernel_rfl) (by kernel_rfl) hHeld (Rg.y_un (b := UnOp.not) (T := 4) (x := (Operand.tmp 232)) (vx := (.bool true)) (by kernel_rfl) (by kernel_rfl) ?_) ?_
  · (intro w hSw; clear hSw; go_simp)
  refine Rg.take (ops := (Rg.opsOf Tryz.f3 47)) 42 (some 234) ((.bool false)) hNS (by kernel_rfl) (by kernel_rfl) (by kernel_rfl) (by kernel_rfl) (by kernel_rfl) hHeld (Rg.y_pick (c := (Operand.tmp 228)) (x := (Operand.const (Value.bool true))) (y := (Operand.tmp 233)) (b := false) (by kernel_rfl) (by kernel_rfl) (by kernel_rfl)) ?_
  refine Rg.done (ops := (Rg.opsOf Tryz.f3 47)) (by kernel_rfl) ?_
  exact ⟨w8.heap.size, by kernel_rfl, h9⟩
end Go.Proofs.YtjdmbkkdnonkkaaGreat.Wl

namespace Go.Proofs.YtjdmbkkdnonkkaaGreat.Wl
open Go.RowKit Tx Pm Pl Pr Dk
set_option linter.unusedVariables false
structure Kd {α : Type} (O : World → (Nat → Prop) → α → Prop) : Prop where
  lt : ∀ {w F s}, O w F s → ∀ i, F i → i < w.heap.size
  kept : ∀ {w w1 F s}, O w F s → (∀ i, F i → w1.heap[i]? = w.heap[i]?) → O w1 F s
theorem kd_imp (b : Nat) : Kd (ImpAt b) := ⟨fun h => (imp_kind b).lt h, fun h hk => (imp_kind b).kept h hk⟩
theorem kd_ref (b : Nat) : Kd (RefAt b) := ⟨fun h => (ref_kind b).lt h, fun h hk => (ref_kind b).kept h hk⟩
abbrev Jw (b j : Nat) : World → (Nat → Prop) → Jst → Prop := Jn (RefAt b) 60 b j pL
theorem kd_jb (b j : Nat) : Kd (Jb b j) := ⟨fun h => (jn_kind (imp_kind b) _ b j pL).1 h, fun h hk => (jn_kind (imp_kind b) _ b j pL).2 h hk⟩
theorem kd_jw (b j : Nat) : Kd (Jw b j) := ⟨fun h => (jn_kind (ref_kind b) _ b j pL).1 h, fun h hk => (jn_kind (ref_kind b) _ b j pL).2 h hk⟩
section
variable {α β γ : Type} {OA : World → (Nat → Prop) → α → Prop} {OB : World → (Nat → Prop) → β → Prop} {OC : World → (Nat → Prop) → γ → Prop} {w0 W : World} {x : α} {y : β} {z : γ} {q : Option (Nat × Obj)}
def Tw (OA : World → (Nat → Prop) → α → Prop) (OB : World → (Nat → Prop) → β → Prop) (w0 : World) (q : Option (Nat × Obj)) (x : α) (y : β) (W : World) : Prop :=
  ∃ F G, OA W F x ∧ OB W G y ∧ (∀ i, F i → ¬ G i) ∧ (∀ i, F i ∨ G i → w0.heap.size ≤ i) ∧ Below w0.heap.size w0 W ∧ ∀ p, q = some p → W.heap[p.1]? = some p.2 ∧ ¬ F p.1 ∧ ¬ G p.1
theorem Tw.bel (h : Tw OA OB w0 q x y W) : Below w0.heap.size w0 W := by
  obtain ⟨_, _, _, _, _, _, h, _⟩ := h
  exact h
theorem Tw.turn (h : Tw OA OB w0 q x y W) : Tw OB OA w0 q y x W := by
  obtain ⟨F, G, h1, h2, h3, h4, h5, h6⟩ := h
  exact ⟨G, F, h2, h1, fun i hi hj => h3 i hj hi, fun i hi => h4 i hi.symm, h5, fun p hp => ⟨(h6 p hp).1, (h6 p hp).2.2, (h6 p hp).2.1⟩⟩
theorem Tw.drop (h : Tw OA OB w0 q x y W) : Tw OA OB w0 none x y W := by
  obtain ⟨F, G, h1, h2, h3, h4, h5, h6⟩ := h
  exact ⟨F, G, h1, h2, h3, h4, h5, fun p hp => by cases hp⟩
theorem tw_left (kA : Kd OA) (kB : Kd OB) {F G : Nat → Prop} {w' : World} (h1 : OA W F x) (h2 : OB W G y) (h3 : ∀ i, F i → ¬ G i) (h4 : ∀ i, F i ∨ G i → w0.heap.size ≤ i) (h5 : Below w0.heap.size w0 W) (h6 : ∀ p, q = some p → W.heap[p.1]? = some p.2 ∧ ¬ F p.1 ∧ ¬ G p.1) (hl : LeftA OC W F z w') : Tw OC OB w0 q z y w' := by
  obtain ⟨F', l1, l2, l3⟩ := hl
  have hs := h5.size
  have hltB := kB.lt h2
  have hkB : ∀ i, G i → w'.heap[i]? = W.heap[i]? := fun i hi => l2.block i (hltB i hi) (fun hf => h3 i hf hi)
  refine ⟨F', G, l1, kB.kept h2 hkB, fun i hi hg => ?_, fun i hi => ?_, h5.trans ⟨l2.os, l2.tape, l2.output, l2.size, fun i hi => l2.block i (Nat.lt_of_lt_of_le hi hs) (fun hf => by have := h4 i (.inl hf); omega)⟩, fun p hp => ?_⟩
  · rcases l3 i hi with hh | hh
    · exact h3 i hh hg
    · have := hltB i hg; omega
  · rcases hi with hi | hi
    · rcases l3 i hi with hh | hh
      · exact h4 i (.inl hh)
      · omega
    · exact h4 i (.inr hi)
  · obtain ⟨q1, q2, q3⟩ := h6 p hp
    have hplt := (Array.getElem?_eq_some_iff.1 q1).1
    exact ⟨(l2.block p.1 hplt q2).trans q1, fun hf => by rcases l3 _ hf with hh | hh; exact q2 hh; omega, q3⟩
theorem Tw.callA (kA : Kd OA) (kB : Kd OB) {f : FuncId} {args : Array Value} {P : Ending → Prop} (h : Tw OA OB w0 q x y W) (hc : ∀ F, OA W F x → Calls Tryz.prog f args W fun e w' => P e ∧ LeftA OC W F z w') : Calls Tryz.prog f args W fun e w' => P e ∧ Tw OC OB w0 q z y w' := by
  obtain ⟨F, G, h1, h2, h3, h4, h5, h6⟩ := h
  exact (hc F h1).mono fun e w' hh => ⟨hh.1, tw_left kA kB h1 h2 h3 h4 h5 h6 hh.2⟩
theorem Tw.callB (kA : Kd OA) (kB : Kd OB) {f : FuncId} {args : Array Value} {P : Ending → Prop} (h : Tw OA OB w0 q x y W) (hc : ∀ F, OB W F y → Calls Tryz.prog f args W fun e w' => P e ∧ LeftA OC W F z w') : Calls Tryz.prog f args W fun e w' => P e ∧ Tw OA OC w0 q x z w' :=
  (h.turn.callA kB kA hc).mono fun e w' hh => ⟨hh.1, hh.2.turn⟩
theorem Tw.below (kA : Kd OA) (kB : Kd OB) {w' : World} (h : Tw OA OB w0 q x y W) (hb : Below W.heap.size W w') : Tw OA OB w0 q x y w' := by
  obtain ⟨F, G, h1, h2, h3, h4, h5, h6⟩ := h
  exact ⟨F, G, kA.kept h1 (fun i hi => hb.block i (kA.lt h1 i hi)), kB.kept h2 (fun i hi => hb.block i (kB.lt h2 i hi)), h3, h4, below_call h5 hb, fun p hp => ⟨(hb.block p.1 (Array.getElem?_eq_some_iff.1 (h6 p hp).1).1).trans (h6 p hp).1, (h6 p hp).2⟩⟩
theorem Tw.box (kA : Kd OA) (kB : Kd OB) (h : Tw OA OB w0 none x y W) (o : Obj) : Tw OA OB w0 (some (W.heap.size, o)) x y (W.alloc o) := by
  obtain ⟨F, G, h1, h2, h3, h4, h5, h6⟩ := h
  have hbl := (Below.refl W.heap.size W).alloc (Nat.le_refl _) o
  refine ⟨F, G, kA.kept h1 (fun i hi => hbl.block i (kA.lt h1 i hi)), kB.kept h2 (fun i hi => hbl.block i (kB.lt h2 i hi)), h3, h4, below_call h5 hbl, fun p hp => ?_⟩
  injection hp with hp
  subst hp
  exact ⟨new_at W o rfl, fun hf => by have := kA.lt h1 _ hf; omega, fun hf => by have := kB.lt h2 _ hf; omega⟩
theorem Tw.at {bs : Nat} {o : Obj} (h : Tw OA OB w0 (some (bs, o)) x y W) : W.heap[bs]? = some o := by
  obtain ⟨_, _, _, _, _, _, _, h6⟩ := h
  exact (h6 _ rfl).1
end
theorem jn_call {O : World → (Nat → Prop) → St → Prop} (k : Dk.Kind O) {T : TypeId} {b j : Nat} {p : ByteArray} {W : World} {F : Nat → Prop} {x : Jst} {s' : St} {f : FuncId} {args : Array Value} {P : Ending → Prop} (h : Jn O T b j p W F x) (hc : ∀ Fd, O W Fd x.s → Calls Tryz.prog f args W fun e w' => P e ∧ Dk.Left O W Fd s' w') : Calls Tryz.prog f args W fun e w' => P e ∧ LeftA (Jn O T b j p) W F ⟨s', x.R, x.dm⟩ w' := by
  obtain ⟨v, Fd, hh⟩ := h
  exact (hc Fd hh.dsk).mono fun e w' h2 => ⟨h2.1, by
    obtain ⟨Fd', F', q, c, n⟩ := hh.disk_left k h2.2
    exact ⟨F', ⟨v, Fd', q⟩, c, n⟩⟩
section
variable {w0 W : World} {b j bw jw i : Nat} {x y : Jst} {q : Option (Nat × Obj)}
theorem Fa.ok (h : Fa x i) (hi : i ≤ 990) : Ok x.s := h.inv.ok (by omega) (mul_le' (by omega))
theorem Fa.big (h : Fa x i) (hi : i ≤ 990) : ∀ z ∈ x.s.L, z.data.size ≤ 1048576000 ∧ z.kept.size ≤ 1048576000 := fun z hz => by
  have := h.inv.size z hz
  have := mul_le' (i := i) (by omega)
  omega
theorem fa_old (h : Fa x i) (hi : i ≤ 990) (p : ByteArray) : (old x.s.L p).data.size ≤ 1048576000 ∧ (old x.s.L p).kept.size ≤ 1048576000 := by
  rcases old_cases x.s.L p with e | ⟨hm, _⟩
  · rw [e]
    exact ⟨Nat.zero_le _, Nat.zero_le _⟩
  · exact h.big hi _ hm
theorem pk_up {r : ByteArray} (h : r.size ≤ 1048576) : (Fm.pk r).size ≤ 1048590 := by
  have := Wm.vb_len (x := r.size) (by omega)
  rw [Fm.pk_size]
  omega
theorem fa_addok {r : ByteArray} (h : Fa x i) (hi : i ≤ 980) (hr : r.size ≤ 1048576) : RAddOk x pL r := by
  have hp := pk_up hr
  have ho := fa_old h (by omega) pL
  have h1 := i_append (p := pL) (d := Fm.pk r) h.inv (by decide) (by omega)
  have hl := h.recs
  have hm := mul_le' (i := i) (by omega)
  exact ⟨⟨h.ok (by omega), h1.ok (by omega) (mul_le' (by omega)), by omega, by omega, by omega⟩, fun z hz => by have := h.big (by omega) z hz; omega, by omega, by omega⟩
theorem fa_fillok {d : ByteArray} (h : Fa x i) (hi : i ≤ 980) (hd : d.size ≤ i * 1048576 + 1048576) : FillOk x.s pL d := fillok_inv h.inv (by omega) (by decide) hd
theorem fa_openok {s : St} (h : Inv s i (i * 1048576)) (hi : i ≤ 980) : OpenOk s pL ∧ s.L.length ≤ 1000000000 ∧ (readS s pL).1.size ≤ 8796093022207 := by
  have hrd := read_le (p := pL) h
  have hm := mul_le' (i := i) (by omega)
  have hn := Fm.sc_count (readS s pL).1
  have hx := ext_size (readS s pL).1 (Fm.sc (readS s pL).1 0).2.1
  have hlen := h.len
  exact ⟨⟨fun _ => fillok_inv h (by omega) (by decide) (Nat.zero_le _), fun _ => ⟨by omega, by omega, fun _ => fillok_inv h (by omega) (by decide) (by omega)⟩⟩, by omega, by omega⟩
theorem t_addA {OB : World → (Nat → Prop) → Jst → Prop} (kB : Kd OB) {r : ByteArray} (h : Tw (Jb b j) OB w0 q x y W) (o : AddOk x pL r) : Calls Tryz.prog 19 #[.pointer (some ⟨j, 0, none⟩), .string r] W fun e w' => e = .returned (.int .i64 ((addS x pL r).1 : Nat)) ∧ Tw (Jb b j) OB w0 q (addS x pL r).2 y w' :=
  h.callA (kd_jb b j) kB (fun F ⟨v, Fd, hh⟩ => iAdd_any b j pL r W hh o (by decide))
theorem t_addB {OA : World → (Nat → Prop) → Jst → Prop} (kA : Kd OA) {r : ByteArray} (h : Tw OA (Jw bw jw) w0 q x y W) (o : RAddOk y pL r) : Calls Tryz.prog 20 #[.pointer (some ⟨jw, 0, none⟩), .string r] W fun e w' => e = .returned (.int .i64 ((addS y pL r).1 : Nat)) ∧ Tw OA (Jw bw jw) w0 q x (addS y pL r).2 w' :=
  h.callB kA (kd_jw bw jw) (fun F ⟨v, Fd, hh⟩ => rAdd_any bw jw pL r W hh o (by decide))
theorem t_resetA {OB : World → (Nat → Prop) → Jst → Prop} (kB : Kd OB) (h : Tw (Jb b j) OB w0 q x y W) (o : FillOk x.s pL ⟨#[]⟩) : Calls Tryz.prog 21 #[.pointer (some ⟨j, 0, none⟩)] W fun e w' => e = .returned (.int .i64 ((resetS x pL).1 : Nat)) ∧ Tw (Jb b j) OB w0 q (resetS x pL).2 y w' :=
  h.callA (kd_jb b j) kB (fun F ⟨v, Fd, hh⟩ => iReset_any b j pL W hh o (by decide))
theorem t_resetB {OA : World → (Nat → Prop) → Jst → Prop} (kA : Kd OA) (h : Tw OA (Jw bw jw) w0 q x y W) (o : FillOk y.s pL ⟨#[]⟩) : Calls Tryz.prog 22 #[.pointer (some ⟨jw, 0, none⟩)] W fun e w' => e = .returned (.int .i64 ((resetS y pL).1 : Nat)) ∧ Tw OA (Jw bw jw) w0 q x (resetS y pL).2 w' :=
  h.callB kA (kd_jw bw jw) (fun F ⟨v, Fd, hh⟩ => rReset_any bw jw pL W hh o (by decide))
theorem t_armA {OB : World → (Nat → Prop) → Jst → Prop} (kB : Kd OB) {m : Int} (h : Tw (Jb b j) OB w0 q x y W) (hm : -9223372036854775808 ≤ m ∧ m ≤ 9223372036854775807) : Calls Tryz.prog 23 #[.pointer (some ⟨b, 0, none⟩), .int .i64 m] W fun e w' => e = .returned (.tuple #[]) ∧ Tw (Jb b j) OB w0 q ⟨{ x.s with armed := if m < 0 then -1 else m }, x.R, x.dm⟩ y w' :=
  h.callA (kd_jb b j) kB (fun F hh => jn_call (imp_kind b) hh (fun Fd hd => d_arm hd hm))
theorem t_restartA {OB : World → (Nat → Prop) → Jst → Prop} (kB : Kd OB) {m : Int} (h : Tw (Jb b j) OB w0 q x y W) (f : Fa x i) (hi : i ≤ 980) (hm : -9223372036854775808 ≤ m ∧ m ≤ 9223372036854775807) : Calls Tryz.prog 24 #[.pointer (some ⟨b, 0, none⟩), .int .i64 m] W fun e w' => e = .returned (.int .i64 (0 : Nat)) ∧ Tw (Jb b j) OB w0 q ⟨restartS x.s m, x.R, x.dm⟩ y w' :=
  h.callA (kd_jb b j) kB (fun F hh => jn_call (imp_kind b) hh (fun Fd hd => by
    obtain ⟨bi, bl, l, hI, hg, hF⟩ := hd
    have ok := f.ok (by omega)
    exact (iRestart_any b bi bl l _ m W hI hg (f.inv.sound (by omega) (mul_le' (by omega))).wide ok.fit.1 ok.fit.2.1 hm).mono fun e w' ht => ⟨ht.1, ht.2.left (good_restart hg) hF⟩))
theorem t_restartB {OA : World → (Nat → Prop) → Jst → Prop} (kA : Kd OA) {m : Int} (h : Tw OA (Jw bw jw) w0 q x y W) (f : Fa y i) (hi : i ≤ 980) (hm : -9223372036854775808 ≤ m ∧ m ≤ 9223372036854775807) : Calls Tryz.prog 25 #[.pointer (some ⟨bw, 0, none⟩), .int .i64 m] W fun e w' => e = .returned (.int .i64 (0 : Nat)) ∧ Tw OA (Jw bw jw) w0 q x ⟨restartS y.s m, y.R, y.dm⟩ w' :=
  h.callB kA (kd_jw bw jw) (fun F hh => jn_call (ref_kind bw) hh (fun Fd hd => by
    obtain ⟨vL, vR, hat, hF⟩ := hd
    have hl := f.inv.len
    exact (rRestart_any bw _ vL vR m W hat (f.inv.sound (by omega) (mul_le' (by omega))) (by omega) hm).mono fun e w' ht => to_left hF ht))
theorem t_rotA {OB : World → (Nat → Prop) → Jst → Prop} (kB : Kd OB) {m : Int} (h : Tw (Jb b j) OB w0 q x y W) (f : Fa x i) (hi : i ≤ 980) (hm : -9223372036854775808 ≤ m ∧ m ≤ 9223372036854775807) : Calls Tryz.prog 26 #[.pointer (some ⟨b, 0, none⟩), .string pL, .int .i64 m] W fun e w' => e = .returned (.int .i64 ((rotS x.s pL m).1 : Nat)) ∧ Tw (Jb b j) OB w0 q ⟨(rotS x.s pL m).2, x.R, x.dm⟩ y w' :=
  h.callA (kd_jb b j) kB (fun F hh => jn_call (imp_kind b) hh (fun Fd hd => by
    obtain ⟨bi, bl, l, hI, hg, hF⟩ := hd
    have ho := fa_old f (by omega) pL
    exact (iRot_w b bi bl l _ pL m W hI (f.ok (by omega)) (by decide) hm (by omega)).mono fun e w' ht => ⟨ht.1, ht.2.left (good_rot hg) hF⟩))
theorem t_rotB {OA : World → (Nat → Prop) → Jst → Prop} (kA : Kd OA) {m : Int} (h : Tw OA (Jw bw jw) w0 q x y W) (f : Fa y i) (hi : i ≤ 980) (hm : -9223372036854775808 ≤ m ∧ m ≤ 9223372036854775807) : Calls Tryz.prog 27 #[.pointer (some ⟨bw, 0, none⟩), .string pL, .int .i64 m] W fun e w' => e = .returned (.int .i64 ((rotS y.s pL m).1 : Nat)) ∧ Tw OA (Jw bw jw) w0 q x ⟨(rotS y.s pL m).2, y.R, y.dm⟩ w' :=
  h.callB kA (kd_jw bw jw) (fun F hh => jn_call (ref_kind bw) hh (fun Fd hd => by
    obtain ⟨vL, vR, hat, hF⟩ := hd
    exact (rRot_any bw _ vL vR pL m W hat (f.ok (by omega)) (by decide) hm (fun z hz => by have := f.big (by omega) z hz; omega)).mono fun e w' ht => to_left hF ht))
theorem t_appendA {OB : World → (Nat → Prop) → Jst → Prop} (kB : Kd OB) {r : ByteArray} (h : Tw (Jb b j) OB w0 q x y W) (f : Fa x i) (hi : i ≤ 980) (hr : r.size ≤ 1048576) : Calls Tryz.prog 28 #[.pointer (some ⟨b, 0, none⟩), .string pL, .string r] W fun e w' => e = .returned (.int .i64 ((appendS x.s pL r).1 : Nat)) ∧ Tw (Jb b j) OB w0 q ⟨(appendS x.s pL r).2, x.R, x.dm⟩ y w' :=
  h.callA (kd_jb b j) kB (fun F hh => jn_call (imp_kind b) hh (fun Fd hd => iw_append pL r hd (f.ok (by omega)) (by decide) (by omega) (by have := fa_old f (by omega) pL; omega) rfl))
theorem t_appendB {OA : World → (Nat → Prop) → Jst → Prop} (kA : Kd OA) {r : ByteArray} (h : Tw OA (Jw bw jw) w0 q x y W) (f : Fa y i) (hi : i ≤ 980) (hr : r.size ≤ 1048576) : Calls Tryz.prog 29 #[.pointer (some ⟨bw, 0, none⟩), .string pL, .string r] W fun e w' => e = .returned (.int .i64 ((appendS y.s pL r).1 : Nat)) ∧ Tw OA (Jw bw jw) w0 q x ⟨(appendS y.s pL r).2, y.R, y.dm⟩ w' :=
  h.callB kA (kd_jw bw jw) (fun F hh => jn_call (ref_kind bw) hh (fun Fd hd => rw_append pL r hd (f.ok (by omega)) (by decide) (fun z hz => by have := f.big (by omega) z hz; omega) (by omega) rfl))
theorem Tw.diskA {OB : World → (Nat → Prop) → Jst → Prop} (h : Tw (Jb b j) OB w0 q x y W) : Tw (ImpAt b) OB w0 q x.s y W := by
  obtain ⟨F, G, ⟨v, Fd, h1⟩, h2, h3, h4, h5, h6⟩ := h
  have hsub : ∀ i, Fd i → F i := fun i hi => (h1.foot i).2 (.inl hi)
  exact ⟨Fd, G, h1.dsk, h2, fun i hi => h3 i (hsub i hi), fun i hi => h4 i (hi.imp (hsub i) id), h5, fun p hp => ⟨(h6 p hp).1, fun hf => (h6 p hp).2.1 (hsub _ hf), (h6 p hp).2.2⟩⟩
theorem Tw.diskB {α : Type} {OA : World → (Nat → Prop) → α → Prop} {x : α} (h : Tw OA (Jw bw jw) w0 q x y W) : Tw OA (RefAt bw) w0 q x y.s W := by
  have h := h.turn
  obtain ⟨F, G, ⟨v, Fd, h1⟩, h2, h3, h4, h5, h6⟩ := h
  have hsub : ∀ i, Fd i → F i := fun i hi => (h1.foot i).2 (.inl hi)
  refine Tw.turn ⟨Fd, G, h1.dsk, h2, fun i hi => h3 i (hsub i hi), fun i hi => h4 i (hi.imp (hsub i) id), h5, fun p hp => ⟨(h6 p hp).1, fun hf => (h6 p hp).2.1 (hsub _ hf), (h6 p hp).2.2⟩⟩
theorem t_openA {β : Type} {OB : World → (Nat → Prop) → β → Prop} {y : β} (kB : Kd OB) {s : St} (h : Tw (ImpAt b) OB w0 q s y W) (o : OpenOk s pL) : Calls Tryz.prog 17 #[.pointer (some ⟨b, 0, none⟩), .string pL] W fun e w' => ((openS s pL).1 = 0 ∧ ∃ j, e = .returned (.tuple #[.pointer (some ⟨j, 0, none⟩), .int .i64 0]) ∧ Tw (Jb b j) OB w0 q (openS s pL).2 y w') ∨ ((openS s pL).1 ≠ 0 ∧ e = .returned (.tuple #[.pointer none, .int .i64 ((openS s pL).1 : Nat)]) ∧ Tw (ImpAt b) OB w0 q (openS s pL).2.s y w') := by
  obtain ⟨F, G, h1, h2, h3, h4, h5, h6⟩ := h
  refine (iOpen_any b pL W h1 o (by decide)).mono fun e w' hh => ?_
  rcases hh with ⟨h0, j, he, hl⟩ | ⟨h0, he, hl⟩
  · exact .inl ⟨h0, j, he, tw_left (kd_imp b) kB h1 h2 h3 h4 h5 h6 hl⟩
  · exact .inr ⟨h0, he, tw_left (kd_imp b) kB h1 h2 h3 h4 h5 h6 hl⟩
theorem t_openB {α : Type} {OA : World → (Nat → Prop) → α → Prop} {x : α} (kA : Kd OA) {s : St} (h : Tw OA (RefAt bw) w0 q x s W) (o : OpenOk s pL) (hn : s.L.length ≤ 1000000000) (hz : (readS s pL).1.size ≤ 8796093022207) : Calls Tryz.prog 18 #[.pointer (some ⟨bw, 0, none⟩), .string pL] W fun e w' => ((openS s pL).1 = 0 ∧ ∃ jw, e = .returned (.tuple #[.pointer (some ⟨jw, 0, none⟩), .int .i64 0]) ∧ Tw OA (Jw bw jw) w0 q x (openS s pL).2 w') ∨ ((openS s pL).1 ≠ 0 ∧ e = .returned (.tuple #[.pointer none, .int .i64 ((openS s pL).1 : Nat)]) ∧ Tw OA (RefAt bw) w0 q x (openS s pL).2.s w') := by
  have h := h.turn
  obtain ⟨F, G, h1, h2, h3, h4, h5, h6⟩ := h
  refine (rOpen_any bw pL W h1 o hn hz (by decide)).mono fun e w' hh => ?_
  rcases hh with ⟨h0, j, he, hl⟩ | ⟨h0, he, hl⟩
  · exact .inl ⟨h0, j, he, (tw_left (kd_ref bw) kA h1 h2 h3 h4 h5 h6 hl).turn⟩
  · exact .inr ⟨h0, he, (tw_left (kd_ref bw) kA h1 h2 h3 h4 h5 h6 hl).turn⟩
theorem t_down {β : Type} {OB : World → (Nat → Prop) → β → Prop} {y : β} (h : Tw (Jb b j) OB w0 q x y W) : Calls Tryz.prog 30 #[.pointer (some ⟨b, 0, none⟩)] W fun e w' => e = .returned (.bool x.s.down) ∧ w' = W := by
  obtain ⟨F, G, ⟨v, Fd, h1⟩, _⟩ := h
  obtain ⟨bi, bl, l, hI, _⟩ := h1.dsk
  exact (iDown_any b bi bl l _ W hI).mono fun e w' ht => ⟨ht.1, ht.2.symm⟩
theorem t_steps {β : Type} {OB : World → (Nat → Prop) → β → Prop} {y : β} (h : Tw (Jb b j) OB w0 q x y W) : Calls Tryz.prog 36 #[.pointer (some ⟨b, 0, none⟩)] W fun e w' => e = .returned (.int .i64 (x.s.steps : Nat)) ∧ w' = W := by
  obtain ⟨F, G, ⟨v, Fd, h1⟩, _⟩ := h
  obtain ⟨bi, bl, l, hI, _⟩ := h1.dsk
  exact (iSteps_any b bi bl l _ W hI).mono fun e w' ht => ⟨ht.1, ht.2.symm⟩
theorem t_readA {β : Type} {OB : World → (Nat → Prop) → β → Prop} {y : β} (h : Tw (Jb b j) OB w0 q x y W) : Calls Tryz.prog 31 #[.pointer (some ⟨b, 0, none⟩), .string pL] W fun e w' => e = .returned (.tuple #[.string (readS x.s pL).1, .int .i64 ((readS x.s pL).2 : Nat)]) ∧ Below W.heap.size W w' := by
  obtain ⟨F, G, ⟨v, Fd, h1⟩, _⟩ := h
  exact iw_read pL h1.dsk (by decide)
theorem t_readB {α : Type} {OA : World → (Nat → Prop) → α → Prop} {x : α} (h : Tw OA (Jw bw jw) w0 q x y W) (hn : y.s.L.length ≤ 1000000000) : Calls Tryz.prog 32 #[.pointer (some ⟨bw, 0, none⟩), .string pL] W fun e w' => e = .returned (.tuple #[.string (readS y.s pL).1, .int .i64 ((readS y.s pL).2 : Nat)]) ∧ Below W.heap.size W w' := by
  obtain ⟨F, G, _, ⟨v, Fd, h1⟩, _⟩ := h
  exact rw_read pL h1.dsk hn
theorem t_records {β : Type} {OB : World → (Nat → Prop) → β → Prop} {y : β} {n : Nat} (h : Tw (Jb b j) OB w0 q x y W) (hl : x.R.length = n) (hn : n ≤ 10000000000) : Calls Tryz.prog 33 #[.pointer (some ⟨j, 0, none⟩)] W fun e w' => ∃ a c, e = .returned (.slice a n c) ∧ Fr.Texts w' W.heap.size (.slice a n c) x.R ∧ Below W.heap.size W w' := by
  obtain ⟨F, G, ⟨v, Fd, h1⟩, _⟩ := h
  refine (iRecords_any (imp_kind b) b j pL W h1 (by omega)).mono fun e w' hh => ?_
  obtain ⟨v', he, ht, hb⟩ := hh
  obtain ⟨a, c, rfl, _⟩ := ht.form
  rw [hl] at he ht
  exact ⟨a, c, he, ht, hb⟩
theorem t_damaged {β : Type} {OB : World → (Nat → Prop) → β → Prop} {y : β} (h : Tw (Jb b j) OB w0 q x y W) : Calls Tryz.prog 35 #[.pointer (some ⟨j, 0, none⟩)] W fun e w' => e = .returned (.bool x.dm) ∧ w' = W := by
  obtain ⟨F, G, ⟨v, Fd, h1⟩, _⟩ := h
  exact (iDamaged_any _ b j pL W h1).mono fun e w' hh => ⟨hh.1, hh.2.symm⟩
end
end Go.Proofs.YtjdmbkkdnonkkaaGreat.Wl

namespace Go.Proofs.YtjdmbkkdnonkkaaGreat.Wl
open Go.RowKit Tx Pm Pl Pr Dk
set_option linter.unusedVariables false
theorem t_shows {w0 W : World} {OA : World → (Nat → Prop) → Jst → Prop} {bw jw : Nat} {x y : Jst} {q : Option (Nat × Obj)} (h : Tw OA (Jw bw jw) w0 q x y W) : ∃ ar cr, ∀ W1, Below W.heap.size W W1 → Shw jw bw (.slice ar y.R.length cr) y.dm y.s.steps W1 ∧ Strs W1 ar y.R.length y.R := by
  obtain ⟨F, G, _, ⟨v, Fd, h1⟩, _⟩ := h
  obtain ⟨a, c, hv, hs, _⟩ := h1.row.form
  refine ⟨a, c, fun W1 hW => ?_⟩
  have h2 := h1.below (ref_kind bw) hW
  obtain ⟨_, _, t2, t3⟩ := h2.cell
  obtain ⟨vL, vR, hat, hF⟩ := h2.dsk
  obtain ⟨_, _, s2, _⟩ := hat.cell
  rw [hv] at t2
  have hst : Fr.Strs W1 a y.R.length y.R := hs.below hW
  exact ⟨⟨t2, t3, s2⟩, hst⟩
theorem plays_tail {w0 w8 w10 : World} {b j bw jw n c1 c2 Bb : Nat} {y : Jst} {q : Option (Nat × Obj)} {a1 a2 : Option Addr} (h8 : Tw (Jb b j) (Jw bw jw) w0 q y y w8) (hb : Below w8.heap.size w8 w10) (hR : y.R.length = n) (hn : n ≤ 10000000000) (t1 : Fr.Texts w10 w8.heap.size (.slice a1 n c1) y.R) (t2 : Fr.Texts w10 Bb (.slice a2 n c2) y.R) (hBb : w8.heap.size ≤ Bb) (hsep : ∀ x, a1 = some x → x.block < Bb) :
    ∃ vr, Shw jw bw vr y.dm y.s.steps w10 ∧
      Calls Tryz.prog 34 #[.slice a1 n c1, vr] w10.drew (fun e w' => e = .returned (.bool true) ∧ Below w10.heap.size w10 w') ∧
      (∀ W, Below w10.heap.size w10 W → Shw jw bw vr y.dm y.s.steps W) ∧
      (∀ W, Below w10.heap.size w10 W → Calls Tryz.prog 34 #[.slice a2 n c2, .slice a1 n c1] W fun e w' => e = .returned (.bool true) ∧ Below w10.heap.size w10 w') ∧
      (∀ W, Below w10.heap.size w10 W → Calls Tryz.prog 35 #[.pointer (some ⟨j, 0, none⟩)] W fun e w' => e = .returned (.bool y.dm) ∧ Below w10.heap.size w10 w') ∧
      (∀ W, Below w10.heap.size w10 W → Calls Tryz.prog 36 #[.pointer (some ⟨b, 0, none⟩)] W fun e w' => e = .returned (.int .i64 (y.s.steps : Nat)) ∧ Below w10.heap.size w10 w') ∧
      (∀ W, Below w10.heap.size w10 W → Shw jw bw vr y.dm y.s.steps (W.alloc (.cells #[.slice a1 n c1, .slice a2 n c2] 56))) ∧
      (∀ W, Below w10.heap.size w10 W → Calls Tryz.prog 37 #[.slice (some ⟨W.heap.size, 0, none⟩) 2 2] (W.alloc (.cells #[.slice a1 n c1, .slice a2 n c2] 56)) fun e w' => e = .returned (.bool true) ∧ Below w8.heap.size w8 w') ∧
      (∀ W, Below w8.heap.size w8 W → Shw jw bw vr y.dm y.s.steps W) := by
  obtain ⟨ar, cr, hsh⟩ := t_shows h8
  have hd : Below w10.heap.size w10 w10.drew := (Below.refl _ _).drew
  have hs := hb.size
  have s1 : ∀ W, Below w10.heap.size w10 W → Strs W a1 n y.R := fun W hW => by
    obtain ⟨a, c, hv, hst, _⟩ := t1.form
    rw [hR] at hv hst
    injection hv with e1
    subst e1
    exact hst.below hW
  have s2 : ∀ W, Below w10.heap.size w10 W → Strs W a2 n y.R := fun W hW => by
    obtain ⟨a, c, hv, hst, _⟩ := t2.form
    rw [hR] at hv hst
    injection hv with e1
    subst e1
    exact hst.below hW
  have h10 : ∀ W, Below w10.heap.size w10 W → Tw (Jb b j) (Jw bw jw) w0 q y y W := fun W hW => h8.below (kd_jb b j) (kd_jw bw jw) (below_call hb hW)
  rw [hR] at hsh
  refine ⟨.slice ar n cr, (hsh _ hb).1, ?_, fun W hW => (hsh _ (below_call hb hW)).1, fun W hW => ?_, fun W hW => ?_, fun W hW => ?_, fun W hW => (hsh _ (below_call hb (below_call hW ((Below.refl _ _).alloc (Nat.le_refl _) _)))).1, fun W hW => ?_, fun W hW => (hsh _ hW).1⟩
  · exact (same_true a1 ar n c1 cr y.R w10.drew (by omega) (s1 _ hd) (hsh _ (below_call hb hd)).2).mono fun e w' hh => ⟨hh.1, below_call hd hh.2⟩
  · exact (same_true a2 a1 n c2 c1 y.R W (by omega) (s2 _ hW) (s1 _ hW)).mono fun e w' hh => ⟨hh.1, below_call hW hh.2⟩
  · exact (t_damaged (h10 W hW)).mono fun e w' hh => ⟨hh.1, by rw [hh.2]; exact hW⟩
  · exact (t_steps (h10 W hW)).mono fun e w' hh => ⟨hh.1, by rw [hh.2]; exact hW⟩
  · have t1' : Tx.Texts W w8.heap.size (.slice a1 n c1) y.R := own_kept t1 (fun g hg => hW.block g (t1.lt g hg).2)
    have t2' : Tx.Texts W Bb (.slice a2 n c2) y.R := own_kept t2 (fun g hg => hW.block g (t2.lt g hg).2)
    have hWs := hW.size
    refine (Aq.two_apart (B := w8.heap.size) hn hR t1' t2' (Nat.le_refl _) hBb hsep (by omega)).mono fun e w' hh => ⟨hh.1, ?_⟩
    have hb1 : Below w8.heap.size w8 (W.alloc (.cells #[.slice a1 n c1, .slice a2 n c2] 56)) := below_call hb (below_call hW ((Below.refl _ _).alloc (Nat.le_refl _) _))
    exact hb1.trans hh.2
end Go.Proofs.YtjdmbkkdnonkkaaGreat.Wl

namespace Go.Proofs.YtjdmbkkdnonkkaaGreat.Wl
open Go.RowKit
set_option linter.unusedVariables false
set_option maxRecDepth 100000 in
set_option maxHeartbeats 4000000 in
theorem regPlaysAdd (ops : Array Oper) (hops : ops = (Rg.opsOf Tryz.f3 15)) (id : Nat) (j jw bs k : Nat) (t : ByteArray) {u0 u1 u2 u3 u4 u6 u8 u9 u11 u12 u13 u14 u15 u16 u17 u18 u19 u20 u21 u22 u23 u24 u25 u26 u27 u28 u29 u30 u31 u32 u33 u34 u35 u36 u37 u38 u39 u40 u41 u42 u43 u44 u45 u46 u47 u48 u49 u50 u51 u52 u53 u54 u55 u56 u57 u58 u59 u60 u61 u62 u63 u64 u65 u66 u67 u68 u69 u70 u71 u72 u73 u74 u75 u76 u77 u78 u79 u80 u81 u82 u83 u84 u85 u86 u87 u88 u89 u90 u91 u92 u93 u94 u95 u96 u97 u98 u99 u100 u101 u102 u103 u104 u105 u106 u107 u108 u109 u110 u111 u112 u113 u114 u115 u116 u117 u118 u119 u120 u121 u122 u123 u124 u125 u126 u127 u128 u129 u130 u131 u132 u133 u134 u135 u136 u137 u138 u139 u140 u141 u142 u143 u144 u145 u146 u147 u148 u149 u150 u151 u152 u153 u154 u155 u156 u157 u158 u159 u160 u161 u162 u163 u164 u165 u166 u167 u168 u169 u170 u171 u172 u173 u174 u175 u176 u177 u178 u179 u180 u181 u182 u183 u184 u185 u186 u187 u188 u189 u190 u191 u192 u193 u194 u195 u196 u197 u198 u199 u200 u201 u202 u203 u204 u205 u206 u207 u208 u209 u210 u211 u212 u213 u214 u215 u216 u217 u218 u219 u220 u221 u222 u223 u224 u225 u226 u227 u228 u229 u230 u231 u232 u233 u234 : Value} (w : World) (B1 B2 : World → Prop) (hS : w.drew.cell? ⟨bs, 1, none⟩ = some (.string t))
    (hA : Calls Tryz.prog 19 #[.pointer (some ⟨j, 0, none⟩), .string t] w.drew fun e w' => e = .returned (.int .i64 (k : Nat)) ∧ B1 w') (hAS : ∀ W, B1 W → W.cell? ⟨bs, 1, none⟩ = some (.string t))
    (hB : ∀ W, B1 W → Calls Tryz.prog 20 #[.pointer (some ⟨jw, 0, none⟩), .string t] W fun e w' => e = .returned (.int .i64 (k : Nat)) ∧ B2 w') (hBS : ∀ W, B2 W → W.cell? ⟨bs, 1, none⟩ = some (.string t)) :
    (Code.region id ops true).wp Tryz.prog (Rg.Only fun a' w' => a' = ⟨#[u0, u1, u2, u3, u4, (.pointer (some ⟨j, 0, none⟩)), u6, (.pointer (some ⟨jw, 0, none⟩)), u8, u9, (.pointer (some ⟨bs, 0, none⟩)), u11, u12, u13, u14, u15, u16, u17, u18, u19, u20, u21, u22, u23, u24, u25, u26, u27, u28, u29, u30, u31, u32, u33, u34, u35, u36, u37, u38, u39, u40, u41, u42, u43, u44, u45, u46, u47, u48, u49, u50, u51, u52, u53, u54, u55, u56, u57, u58, u59, u60, u61, u62, u63, u64, u65, u66, u67, u68, u69, u70, u71, u72, u73, u74, u75, u76, u77, (.pointer (some ⟨j, 0, none⟩)), (.pointer (some ⟨bs, 1, none⟩)), (.string t), (.int .i64 (k : Nat)), (.pointer (some ⟨jw, 0, none⟩)), (.pointer (some ⟨bs, 1, none⟩)), (.string t), (.int .i64 (k : Nat)), (.bool false), u87, u88, u89, u90, u91, u92, u93, u94, u95, u96, u97, u98, u99, u100, u101, u102, u103, u104, u105, u106, u107, u108, u109, u110, u111, u112, u113, u114, u115, u116, u117, u118, u119, u120, u121, u122, u123, u124, u125, u126, u127, u128, u129, u130, u131, u132, u133, u134, u135, u136, u137, u138, u139, u140, u141, u142, u143, u144, u145, u146, u147, u148, u149, u150, u151, u152, u153, u154, u155, u156, u157, u158, u159, u160, u161, u162, u163, u164, u165, u166, u167, u168, u169, u170, u171, u172, u173, u174, u175, u176, u177, u178, u179, u180, u181, u182, u183, u184, u185, u186, u187, u188, u189, u190, u191, u192, u193, u194, u195, u196, u197, u198, u199, u200, u201, u202, u203, u204, u205, u206, u207, u208, u209, u210, u211, u212, u213, u214, u215, u216, u217, u218, u219, u220, u221, u222, u223, u224, u225, u226, u227, u228, u229, u230, u231, u232, u233, u234], []⟩ ∧ B2 w') ⟨#[u0, u1, u2, u3, u4, (.pointer (some ⟨j, 0, none⟩)), u6, (.pointer (some ⟨jw, 0, none⟩)), u8, u9, (.pointer (some ⟨bs, 0, none⟩)), u11, u12, u13, u14, u15, u16, u17, u18, u19, u20, u21, u22, u23, u24, u25, u26, u27, u28, u29, u30, u31, u32, u33, u34, u35, u36, u37, u38, u39, u40, u41, u42, u43, u44, u45, u46, u47, u48, u49, u50, u51, u52, u53, u54, u55, u56, u57, u58, u59, u60, u61, u62, u63, u64, u65, u66, u67, u68, u69, u70, u71, u72, u73, u74, u75, u76, u77, u78, u79, u80, u81, u82, u83, u84, u85, u86, u87, u88, u89, u90, u91, u92, u93, u94, u95, u96, u97, u98, u99, u100, u101, u102, u103, u104, u105, u106, u107, u108, u109, u110, u111, u112, u113, u114, u115, u116, u117, u118, u119, u120, u121, u122, u123, u124, u125, u126, u127, u128, u129, u130, u131, u132, u133, u134, u135, u136, u137, u138, u139, u140, u141, u142, u143, u144, u145, u146, u147, u148, u149, u150, u151, u152, u153, u154, u155, u156, u157, u158, u159, u160, u161, u162, u163, u164, u165, u166, u167, u168, u169, u170, u171, u172, u173, u174, u175, u176, u177, u178, u179, u180, u181, u182, u183, u184, u185, u186, u187, u188, u189, u190, u191, u192, u193, u194, u195, u196, u197, u198, u199, u200, u201, u202, u203, u204, u205, u206, u207, u208, u209, u210, u211, u212, u213, u214, u215, u216, u217, u218, u219, u220, u221, u222, u223, u224, u225, u226, u227, u228, u229, u230, u231, u232, u233, u234], []⟩ w := by
  subst hops
  have hNS : Region.noSelect (Rg.opsOf Tryz.f3 15) = true := by kernel_rfl
  refine wp_region_held_drew (S := (fun W => W.cell? ⟨bs, 1, none⟩ = some (.string t))) (by kernel_rfl) hS (fun hHeld => ?_)
  rw [show (Rg.opsOf Tryz.f3 15).size = 9 by kernel_rfl]
  refine Rg.take (ops := (Rg.opsOf Tryz.f3 15)) 0 (some 78) ((.pointer (some ⟨j, 0, none⟩))) hNS (by kernel_rfl) (by kernel_rfl) (by kernel_rfl) (by kernel_rfl) (by kernel_rfl) hHeld (Rg.y_move (x := (Operand.tmp 5)) (Or.inl (by kernel_rfl)) (by kernel_rfl)) ?_
  refine Rg.take (ops := (Rg.opsOf Tryz.f3 15)) 1 (some 79) ((.pointer (some ⟨bs, 1, none⟩))) hNS (by kernel_rfl) (by kernel_rfl) (by kernel_rfl) (by kernel_rfl) (by kernel_rfl) hHeld (Rg.y_field (T := 37) (k := 1) (x := (Operand.tmp 10)) (vx := (.pointer (some ⟨bs, 0, none⟩))) (by kernel_rfl) (by kernel_rfl) ?_) ?_
  · (intro w hSw; clear hSw; go_simp)
  refine Rg.take (ops := (Rg.opsOf Tryz.f3 15)) 2 (some 80) ((.string t)) hNS (by kernel_rfl) (by kernel_rfl) (by kernel_rfl) (by kernel_rfl) (by kernel_rfl) hHeld (Rg.y_load (T := 9) (x := (Operand.tmp 79)) (vx := (.pointer (some ⟨bs, 1, none⟩))) (by kernel_rfl) (by kernel_rfl) ?_) ?_
  · (intro w hSw; go_simp)
  refine Rg.take (ops := (Rg.opsOf Tryz.f3 15)) 4 (some 82) ((.pointer (some ⟨jw, 0, none⟩))) hNS (by kernel_rfl) (by kernel_rfl) (by kernel_rfl) (by kernel_rfl) (by kernel_rfl) hHeld (Rg.y_move (x := (Operand.tmp 7)) (Or.inl (by kernel_rfl)) (by kernel_rfl)) ?_
  refine Rg.take (ops := (Rg.opsOf Tryz.f3 15)) 5 (some 83) ((.pointer (some ⟨bs, 1, none⟩))) hNS (by kernel_rfl) (by kernel_rfl) (by kernel_rfl) (by kernel_rfl) (by kernel_rfl) hHeld (Rg.y_field (T := 37) (k := 1) (x := (Operand.tmp 10)) (vx := (.pointer (some ⟨bs, 0, none⟩))) (by kernel_rfl) (by kernel_rfl) ?_) ?_
  · (intro w hSw; clear hSw; go_simp)
  refine Rg.take (ops := (Rg.opsOf Tryz.f3 15)) 6 (some 84) ((.string t)) hNS (by kernel_rfl) (by kernel_rfl) (by kernel_rfl) (by kernel_rfl) (by kernel_rfl) hHeld (Rg.y_load (T := 9) (x := (Operand.tmp 83)) (vx := (.pointer (some ⟨bs, 1, none⟩))) (by kernel_rfl) (by kernel_rfl) ?_) ?_
  · (intro w hSw; go_simp)
  refine Rg.call (ops := (Rg.opsOf Tryz.f3 15)) (fn := Tryz.f19) (xs := #[Operand.tmp 78, Operand.tmp 80]) (ats := #[29, 9]) 3 (some 81) 19 #[(.pointer (some ⟨j, 0, none⟩)), (.string t)] (by kernel_rfl) (by kernel_rfl) (by kernel_rfl) (by kernel_rfl) (by kernel_rfl) Tryz.func19 (by kernel_rfl) (by kernel_rfl) (by kernel_rfl) ?_
  refine hA.mono ?_
  rintro e w5 ⟨rfl, h5⟩
  refine ⟨_, rfl, hAS _ h5, fun hHeld => ?_⟩
  refine Rg.call (ops := (Rg.opsOf Tryz.f3 15)) (fn := Tryz.f20) (xs := #[Operand.tmp 82, Operand.tmp 84]) (ats := #[33, 9]) 7 (some 85) 20 #[(.pointer (some ⟨jw, 0, none⟩)), (.string t)] (by kernel_rfl) (by kernel_rfl) (by kernel_rfl) (by kernel_rfl) (by kernel_rfl) Tryz.func20 (by kernel_rfl) (by kernel_rfl) (by kernel_rfl) ?_
  refine (hB _ h5).mono ?_
  rintro e w6 ⟨rfl, h6⟩
  refine ⟨_, rfl, hBS _ h6, fun hHeld => ?_⟩
  refine Rg.take (ops := (Rg.opsOf Tryz.f3 15)) 8 (some 86) ((.bool false)) hNS (by kernel_rfl) (by kernel_rfl) (by kernel_rfl) (by kernel_rfl) (by kernel_rfl) hHeld (Rg.y_bin (b := BinOp.neq) (T := 3) (R' := 3) (x := (Operand.tmp 81)) (y := (Operand.tmp 85)) (vx := (.int .i64 (k : Nat))) (vy := (.int .i64 (k : Nat))) (by kernel_rfl) (by kernel_rfl) (by kernel_rfl) ?_) ?_
  · (intro w hSw; clear hSw; go_simp)
  refine Rg.done (ops := (Rg.opsOf Tryz.f3 15)) (by kernel_rfl) ?_
  exact ⟨by kernel_rfl, h6⟩
end Go.Proofs.YtjdmbkkdnonkkaaGreat.Wl

namespace Go.Proofs.YtjdmbkkdnonkkaaGreat.Ws
open Go.ChangeMaps (open_string shut_string)
open Go.ChangeShapes Go.WideShapes Go.ChangeAt Go.RowKit Tx
set_option linter.unusedVariables false
structure Sp where
  k : Int
  t : ByteArray
  n : Int
def dS {H : Type} (x : Sp) : DataW H := .agg [.lit (.int .i64 x.k), .lit (.string x.t.data.toList), .lit (.int .i64 x.n)]
def int64 (k : Int) : Prop := -9223372036854775808 ≤ k ∧ k ≤ 9223372036854775807
theorem cells9 : Tryz.prog.cellsOf 9 = 1 := by kernel_rfl
theorem cells3 : Tryz.prog.cellsOf 3 = 1 := by kernel_rfl
theorem cellsS : Tryz.prog.cellsOf 37 = 3 := by kernel_rfl
theorem wf_int {k : Int} (h : (Lit.int .i64 k).wf = true) : int64 k := by
  unfold int64
  simpa [Lit.wf, IntKind.min, IntKind.max, IntKind.signed, IntKind.bits] using h
def Script (w : World) (a : Option Addr) (n : Nat) (l : List Sp) : Prop := l.length = n ∧ (n = 0 ∨ ∃ b off, a = some ⟨b, off, none⟩ ∧ b < w.heap.size ∧ ∀ k x, l[k]? = some x → w.cell? ⟨b, off + k * 3, none⟩ = some (.int .i64 x.k) ∧ w.cell? ⟨b, off + k * 3 + 1, none⟩ = some (.string x.t) ∧ w.cell? ⟨b, off + k * 3 + 1 + 1, none⟩ = some (.int .i64 x.n))
theorem step_open {H : Type} {enc : TypeId × Value → H} {w : World} {base : Nat} {spare : Nat → Bool} {held : Bool} {m : Nat} {c0 c1 c2 : Value} {y : DataW H × List MemPlace} (h : DataW.trod enc Tryz.prog w base spare held m 37 [c0, c1, c2] = some y) :
    ∃ x : Sp, c0 = .int .i64 x.k ∧ c1 = .string x.t ∧ c2 = .int .i64 x.n ∧ y = (dS x, []) ∧ int64 x.k ∧ int64 x.n := by
  obtain ⟨ys, m2, _, hy, _, hyl, hf⟩ := DataW.trod_struct Tryz.underlying37 h
  have h0 := hf 0 _ rfl
  have h1 := hf 1 _ rfl
  have h2 := hf 2 _ rfl
  match ys, hyl with
  | [y0, y1, y2], _ =>
    have h0 : DataW.trod enc Tryz.prog w base spare held m2 3 (([c0, c1, c2].drop 0).take (Tryz.prog.cellsOf 3)) = some y0 := h0
    have h1 : DataW.trod enc Tryz.prog w base spare held m2 9 (([c0, c1, c2].drop 1).take (Tryz.prog.cellsOf 9)) = some y1 := h1
    have h2 : DataW.trod enc Tryz.prog w base spare held m2 3 (([c0, c1, c2].drop 2).take (Tryz.prog.cellsOf 3)) = some y2 := h2
    rw [cells3] at h0 h2
    rw [cells9] at h1
    obtain ⟨k, hk, hx0, hw⟩ := DataW.trod_int Tryz.underlying3 h0
    obtain ⟨p, hp, hx1, hl1⟩ := DataW.trod_string Tryz.underlying9 h1
    obtain ⟨n, hn, hx2, hw2⟩ := DataW.trod_int Tryz.underlying3 h2
    simp at hk hp hn
    refine ⟨⟨k, p, n⟩, hk, hp, hn, ?_, wf_int hw, wf_int hw2⟩
    rw [hy, hx0, hx1, hx2]
    rfl
theorem step_at {H : Type} {enc : TypeId × Value → H} {w : World} {base : Nat} {spare : Nat → Bool} {held : Bool} {m : Nat} {a : Addr} {cs' : List Value} {y : DataW H × List MemPlace} (hc : w.cells? base a 3 = some cs') (h : DataW.trod enc Tryz.prog w base spare held m 37 cs' = some y) :
    ∃ x : Sp, w.cell? a = some (.int .i64 x.k) ∧ w.cell? (a.add 1) = some (.string x.t) ∧ w.cell? (a.add 2) = some (.int .i64 x.n) ∧ y = (dS x, []) ∧ int64 x.k ∧ int64 x.n := by
  obtain ⟨_, hcl, hat⟩ := World.cells?_some hc
  match cs', hcl with
  | [c0, c1, c2], _ =>
    obtain ⟨x, h0, h1, h2, hy, hr⟩ := step_open h
    have a0 := hat 0 (by omega)
    have a1 := hat 1 (by omega)
    have a2 := hat 2 (by omega)
    refine ⟨x, ?_, ?_, ?_, hy, hr⟩
    · have e : a.add 0 = a := by simp [Addr.add]
      rw [e] at a0
      rw [a0, h0]
      rfl
    · rw [a1, h1]; rfl
    · rw [a2, h2]; rfl
theorem open_steps {H : Type} {enc : TypeId × Value → H} {w : World} {base : Nat} {spare : Nat → Bool} {held : Bool} {fuel : Nat} {cs : List Value} {x : DataW H × List MemPlace} (h : DataW.trod enc Tryz.prog w base spare held fuel 22 cs = some x) :
    (cs = [.slice none 0 0] ∧ x = (.nil, [])) ∨ ∃ (a : Addr) (len cap : Nat) (l : List Sp) (rest : List (DataW H)) (pl : List MemPlace), cs = [.slice (some a) len cap] ∧ len ≤ cap ∧ cap ≤ maxLen ∧ x = (.slice (l.map dS) rest, pl) ∧ Script w (some a) len l ∧ ∀ e ∈ l, int64 e.k ∧ int64 e.n := by
  rcases Go.Deep.open_slice Tryz.underlying22 h with h0 | ⟨a, len, cap, m, n, D, Pl, rfl, hb, hl, hm, hmm, hx, hi⟩
  · exact .inl h0
  · right
    have hlm : len ≤ m := by
      rw [hmm]
      split
      · exact hl
      · exact Nat.le_refl _
    have hex : ∀ i, i < len → ∃ e : Sp, w.cell? (a.add (i * 3)) = some (.int .i64 e.k) ∧ w.cell? ((a.add (i * 3)).add 1) = some (.string e.t) ∧ w.cell? ((a.add (i * 3)).add 2) = some (.int .i64 e.n) ∧ D i = dS e ∧ int64 e.k ∧ int64 e.n := by
      intro i him
      obtain ⟨cs', hc, ht⟩ := hi i (by omega)
      rw [cellsS] at hc
      obtain ⟨e, h1, h2, h3, h5, hr⟩ := step_at hc ht
      exact ⟨e, h1, h2, h3, congrArg Prod.fst h5, hr⟩
    have : Inhabited Sp := ⟨⟨0, ⟨#[]⟩, 0⟩⟩
    obtain ⟨X, hX⟩ := Go.Deep.choose_lt hex
    have hget : ∀ k y, ((List.range len).map X)[k]? = some y → k < len ∧ y = X k := by
      intro k y hk
      have hk2 := (List.getElem?_eq_some_iff.1 hk).1
      simp at hk2
      rw [List.getElem?_map, List.getElem?_range hk2] at hk
      injection hk with hk
      exact ⟨hk2, hk.symm⟩
    refine ⟨a, len, cap, (List.range len).map X, (List.range (m - len)).map fun j => D (len + j), x.2, rfl, hl, hm, ?_, ⟨by simp, ?_⟩, ?_⟩
    · rw [hx]
      refine Prod.ext ?_ rfl
      show DataW.slice _ _ = DataW.slice _ _
      congr 1
      rw [List.map_map]
      refine List.map_congr_left (fun i hi' => ?_)
      exact (hX i (List.mem_range.1 hi')).2.2.2.1
    · by_cases h0 : len = 0
      · exact .inl h0
      · right
        obtain ⟨b, off, spot⟩ := a
        have hc0 := (hX 0 (by omega)).1
        rw [Nat.zero_mul] at hc0
        have hspot : spot = none := by simpa [Addr.add] using World.cell?_spot hc0
        subst hspot
        refine ⟨b, off, rfl, ?_, fun k y hk => ?_⟩
        · have := World.block_lt_of_cell? w _ hc0
          simpa [Addr.add] using this
        · obtain ⟨hk2, rfl⟩ := hget k y hk
          obtain ⟨h1, h2, h3, _⟩ := hX k hk2
          rw [add_plain] at h1 h2 h3
          rw [add_plain] at h2 h3
          exact ⟨h1, h2, h3⟩
    · intro e he
      obtain ⟨k, hk⟩ := List.getElem?_of_mem he
      obtain ⟨hk2, rfl⟩ := hget k e hk
      exact (hX k hk2).2.2.2.2
theorem bulk_step {H : Type} (x : Sp) : Rows.uptoBulk (dS (H := H) x) = x.t.size + 4 := by
  have e : Rows.uptoBulk (dS (H := H) x) = 1 + ((x.t.data.toList.length + 1) + (1 + 0)) + 1 := rfl
  rw [e, len_l]
  omega
theorem bulk_steps {H : Type} : ∀ l : List Sp, l.length ≤ Rows.uptoBulkAll (l.map (dS (H := H))) ∧ ∀ x ∈ l, x.t.size ≤ Rows.uptoBulkAll (l.map (dS (H := H)))
  | [] => ⟨Nat.zero_le _, fun x hx => by cases hx⟩
  | y :: l => by
    obtain ⟨h1, h2⟩ := bulk_steps (H := H) l
    have e : Rows.uptoBulkAll ((y :: l).map (dS (H := H))) = Rows.uptoBulk (dS (H := H) y) + Rows.uptoBulkAll (l.map (dS (H := H))) := rfl
    rw [e, bulk_step]
    refine ⟨by rw [List.length_cons]; omega, fun x hx => ?_⟩
    rcases List.mem_cons.1 hx with rfl | hx
    · omega
    · have := h2 x hx
      omega
theorem arg_steps {H : Type} {enc : TypeId × Value → H} {w : World} {base : Nat} {spare : Nat → Bool} {held : Bool} {a : Option Addr} {n c : Nat} {d : DataW H} {p : List MemPlace} (h : DataW.Trod enc Tryz.prog w base spare held 22 (.slice a n c) d p) :
    ∃ l : List Sp, Script w a n l ∧ (∀ e ∈ l, int64 e.k ∧ int64 e.n) ∧ n ≤ Rows.uptoBulk d ∧ ∀ e ∈ l, e.t.size ≤ Rows.uptoBulk d := by
  obtain ⟨fuel, hf⟩ := h
  rcases open_steps hf with ⟨hcs, _⟩ | ⟨x, len, cap, l, rest, pl, hcs, _, _, hx, he, hall⟩
  · simp [Value.cells] at hcs
    obtain ⟨rfl, rfl, rfl⟩ := hcs
    exact ⟨[], ⟨rfl, .inl rfl⟩, (fun e he => by cases he), Nat.zero_le _, (fun e he => by cases he)⟩
  · simp [Value.cells] at hcs
    obtain ⟨rfl, rfl, rfl⟩ := hcs
    have hd : d = .slice (l.map dS) rest := congrArg Prod.fst hx
    have e : Rows.uptoBulk d = Rows.uptoBulkAll (l.map (dS (H := H))) + Rows.uptoBulkAll rest + 1 := by rw [hd]; rfl
    obtain ⟨h1, h2⟩ := bulk_steps (H := H) l
    rw [he.1] at h1
    refine ⟨l, he, hall, by omega, fun y hy => ?_⟩
    have := h2 y hy
    omega
end Go.Proofs.YtjdmbkkdnonkkaaGreat.Ws

namespace Go.Proofs.YtjdmbkkdnonkkaaGreat.walPlays
open Go.ChangeMaps (open_string shut_string)
open Go.ChangeShapes Go.WideShapes Go.ChangeAt Go.RowKit Tx Pm Dk Wl Ws
set_option linter.unusedVariables false
theorem steps_nth {w : World} {a : Option Addr} {n : Nat} {l : List Ws.Sp} (h : Ws.Script w a n l) {k : Nat} {x : Ws.Sp} (hx : l[k]? = some x) : ∃ b off, a = some ⟨b, off, none⟩ ∧ b < w.heap.size ∧ w.cell? ⟨b, off + k * 3, none⟩ = some (.int .i64 x.k) ∧ w.cell? ⟨b, off + k * 3 + 1, none⟩ = some (.string x.t) ∧ w.cell? ⟨b, off + k * 3 + 1 + 1, none⟩ = some (.int .i64 x.n) := by
  have hk := (List.getElem?_eq_some_iff.1 hx).1
  rcases h.2 with h0 | ⟨b, off, ha, hlt, hc⟩
  · rw [h.1] at hk; omega
  · exact ⟨b, off, ha, hlt, hc k x hx⟩
def bx (K M : Int) (T : ByteArray) : Obj := .cells #[.int .i64 K, .string T, .int .i64 M] 37
theorem bx_cells {W : World} {bs : Nat} {K M : Int} {T : ByteArray} (h : W.heap[bs]? = some (bx K M T)) : W.cell? ⟨bs, 0, none⟩ = some (.int .i64 K) ∧ W.cell? ⟨bs, 1, none⟩ = some (.string T) ∧ W.cell? ⟨bs, 2, none⟩ = some (.int .i64 M) := by
  refine ⟨?_, ?_, ?_⟩ <;> · unfold World.cell?; rw [h]; rfl
abbrev TJ (w0 : World) (b j bw jw : Nat) (q : Option (Nat × Obj)) (x y : Jst) (W : World) : Prop := Tw (Jb b j) (Jw bw jw) w0 q x y W
def At7 (w0 : World) (b j bw jw : Nat) (q : Option (Nat × Obj)) (i : Nat) (W : World) : Prop := ∃ y, TJ w0 b j bw jw q y y W ∧ Fa y i
theorem ref_armed {b : Nat} {w : World} {F : Nat → Prop} {s : St} (M : Int) (h : RefAt b w F s) : (w.cell? ⟨b, 4, none⟩ = some (.int .i64 s.armed) ∧ w.frozen? ⟨b, 4, none⟩ = false) ∧ Dk.Left (RefAt b) w F { s with armed := M } (w.setCell ⟨b, 4, none⟩ (.int .i64 M)) := by
  obtain ⟨vL, vR, hat, hF⟩ := h
  obtain ⟨_, _, _, _, p4, _⟩ := hat.cell
  refine ⟨⟨p4, hat.warm 4⟩, Foot b vL vR, ⟨vL, vR, hat.poke ?_ (fun i hi => set_other _ hi) rfl rfl, fun _ => Iff.rfl⟩, (chg_set (b := b) (k := 4) (.int .i64 M)).mono (fun i hi => (hF i).2 (.inl hi)), fun g hg => .inl ((hF g).2 hg)⟩
  rw [set_block hat.blk _]
  rfl
theorem jw_armed {b j : Nat} {w : World} {F : Nat → Prop} {x : Jst} (M : Int) (h : Jw b j w F x) : (w.cell? ⟨b, 4, none⟩ = some (.int .i64 x.s.armed) ∧ w.frozen? ⟨b, 4, none⟩ = false) ∧ LeftA (Jw b j) w F ⟨{ x.s with armed := M }, x.R, x.dm⟩ (w.setCell ⟨b, 4, none⟩ (.int .i64 M)) := by
  obtain ⟨v, Fd, h⟩ := h
  obtain ⟨h1, h2⟩ := ref_armed M h.dsk
  obtain ⟨Fd', F', q, c, n⟩ := h.disk_left (ref_kind b) h2
  exact ⟨h1, F', ⟨v, Fd', q⟩, c, n⟩
theorem tj_armed {w0 W : World} {b j bw jw : Nat} {q : Option (Nat × Obj)} {x y : Jst} (M : Int) (h : TJ w0 b j bw jw q x y W) : (W.cell? ⟨bw, 4, none⟩ = some (.int .i64 y.s.armed) ∧ W.frozen? ⟨bw, 4, none⟩ = false) ∧ TJ w0 b j bw jw q x ⟨{ y.s with armed := M }, y.R, y.dm⟩ (W.setCell ⟨bw, 4, none⟩ (.int .i64 M)) := by
  obtain ⟨F, G, h1, h2, h3, h4, h5, h6⟩ := h
  obtain ⟨a1, a2⟩ := jw_armed M h2
  exact ⟨a1, (tw_left (kd_jw bw jw) (kd_jb b j) h2 h1 (fun i hi hj => h3 i hj hi) (fun i hi => h4 i hi.symm) h5 (fun p hp => ⟨(h6 p hp).1, (h6 p hp).2.2, (h6 p hp).2.1⟩) a2).turn⟩
theorem fa_arm {x : Jst} {i : Nat} {M : Int} (h : Fa x i) (hM : -9223372036854775808 ≤ M ∧ M ≤ 9223372036854775807) : Fa ⟨{ x.s with armed := if M < 0 then -1 else M }, x.R, x.dm⟩ i := by
  have h1 := h.inv
  exact ⟨⟨h1.rises, h1.len, h1.path, h1.size, h1.kept, h1.rooms, h1.steps, h1.stamps, by show -1 ≤ (if M < 0 then (-1 : Int) else M) ∧ (if M < 0 then (-1 : Int) else M) ≤ _; split <;> omega⟩, h.recs⟩
theorem fa_restart {x : Jst} {i : Nat} {M : Int} (h : Fa x i) (hi : i ≤ 1000) : Fa ⟨restartS x.s M, x.R, x.dm⟩ (i + 1) := ⟨i_restart h.inv hi, (h.up (j := i + 1) (by omega)).recs⟩
theorem fa_rot {x : Jst} {i : Nat} {M : Int} (h : Fa x i) : Fa ⟨(rotS x.s pL M).2, x.R, x.dm⟩ (i + 1) := ⟨i_rot h.inv (by decide), (h.up (j := i + 1) (by omega)).recs⟩
theorem fa_append {x : Jst} {i : Nat} {r : ByteArray} (h : Fa x i) (hr : r.size ≤ 1048576) : Fa ⟨(appendS x.s pL r).2, x.R, x.dm⟩ (i + 2) := ⟨i_append h.inv (by decide) (by omega), (h.up (j := i + 2) (by omega)).recs⟩
theorem tw_new {w W1 W2 W3 : World} {b bw : Nat} (o1 : Own (ImpAt b) w a1S W1) (hbw : W1.heap.size ≤ bw) (hat : At W2 bw newS (.slice none 0 0) (.slice none 0 0)) (hb2 : Below W1.heap.size W1 W2) (hb3 : Below W2.heap.size W2 W3) : Tw (ImpAt b) (RefAt bw) w none a1S newS W3 := by
  obtain ⟨F, h1, h2, h3⟩ := o1
  have b13 := below_call hb2 hb3
  have hs := h3.size
  have hw3 : RefAt bw W3 (fun i => i = bw) newS := ⟨_, _, hat.below hb3, fun i => ⟨fun h => .inl h, fun h => by rcases h with h | h | h; exact h; cases h; cases h⟩⟩
  refine ⟨F, _, (kd_imp b).kept h1 (fun i hi => b13.block i ((kd_imp b).lt h1 i hi)), hw3, fun i hi hj => ?_, fun i hi => ?_, below_call h3 b13, fun p hp => by cases hp⟩
  · have := (kd_imp b).lt h1 i hi
    omega
  · rcases hi with hi | hi
    · exact h2 i hi
    · omega
set_option maxRecDepth 100000 in
set_option maxHeartbeats 60000000 in
theorem walk (A : Option Addr) (n0 c : Nat) (l : List Ws.Sp) (w : World) (hl : Ws.Script w A n0 l) (hn0 : n0 ≤ 1048576) (hs : ∀ x ∈ l, x.t.size ≤ 1048576 ∧ Ws.int64 x.k ∧ Ws.int64 x.n) :
    Calls Tryz.prog 3 #[.slice A n0 c] w fun e w' => e = .returned (.bool true) ∧ Below w.heap.size w w' := by
  have HL := Lib.hid hl
  have HS := Lib.hid hs
  have HLN := Lib.hid hl.1
  have cm := made_any w w (Below.refl _ _)
  clear hl hs
  go_enter Tryz.func3, Tryz.ntmps3
  go_wp2_with fail
  go_at_call 13
  refine (cm).mono ?_
  rintro e w1 ⟨b, rfl, o1⟩
  go_wp2_with fail
  go_at_call 14
  refine (rNew_any _).mono ?_
  rintro e w2 ⟨bw, rfl, hbw, hatw, hb2⟩
  go_wp2_with fail
  go_at_call 15
  refine (awake_any6 w2 w2 (Below.refl _ _)).mono ?_
  rintro e w3 ⟨rfl, hb3⟩
  have hT3 := tw_new o1 hbw hatw hb2 hb3
  have cmk : Calls Tryz.prog 16 #[.pointer (some ⟨bw, 0, none⟩), .string ⟨#[118]⟩] w3 fun e w' => e = .returned (.int .i64 0) ∧ Tw (ImpAt b) (RefAt bw) w none a1S a1S w' := hT3.callB (kd_imp b) (kd_ref bw) (fun F hd => by
    obtain ⟨vL, vR, hat, hF⟩ := hd
    have c := rMkdir_any bw _ vL vR pV w3 hat ok_new (by decide)
    rw [a1_mk] at c
    exact c.mono fun e w' ht => to_left hF ht)
  clear o1 hatw hb2 hb3 hT3 hbw cm
  go_wp2_with fail
  go_at_call 16
  refine (cmk).mono ?_
  rintro e w4 ⟨rfl, hT4⟩
  have cA := t_openA (kd_ref bw) hT4 openok_new
  rw [new_open] at cA
  clear cmk
  go_wp2_with fail
  go_at_call 17
  refine (cA).mono ?_
  rintro e w5 (⟨_, j, rfl, hT5⟩ | ⟨hne, _⟩)
  rotate_left
  · exact absurd rfl hne
  have i1 : Inv a1S 1 (1 * 1048576) := inv_mkdir (p := pV) inv_new (by decide)
  obtain ⟨_, oo2, oo3⟩ := fa_openok i1 (by omega)
  have cB := t_openB (kd_jb b j) hT5 openok_new oo2 oo3
  rw [new_open] at cB
  have hf0 : Fa ⟨J ⟨#[]⟩ 2 4 2 (-1), [], false⟩ (4 + 7 * 0) := by
    have := fa_open (p := pL) i1 (by decide)
    rw [new_open] at this
    exact this
  clear i1 oo2 oo3 hT4 hT5
  go_wp2_with fail
  go_at_call 18
  refine (cB).mono ?_
  rintro e w6 (⟨_, jw, rfl, hT6⟩ | ⟨hne, _⟩)
  rotate_left
  · exact absurd rfl hne
  clear cA cB
  generalize (⟨J ⟨#[]⟩ 2 4 2 (-1), [], false⟩ : Jst) = y0 at hT6 hf0
  go_wp2_with fail
  go_loopw [5, 6, 7, 8, 9] (fun lv ev mv fv iv wr => ∃ (k j jw : Nat) (y : Jst), k ≤ n0 ∧ k ≤ 120 ∧ iv = .int .i64 k ∧ lv = .pointer (some ⟨j, 0, none⟩) ∧ mv = .pointer (some ⟨jw, 0, none⟩) ∧ TJ w b j bw jw none y y wr ∧ Fa y (4 + 7 * k)) (fun _ _ _ _ i _ => n0 - (intOf i).toNat)
  case atStart => exact ⟨0, j, jw, y0, Nat.zero_le _, Nat.zero_le _, rfl, rfl, rfl, hT6, hf0⟩
  case round =>
    clear hT6 hf0
    obtain ⟨k, j, jw, y, hkn, hk120, rfl, rfl, rfl, hT, hf⟩ := hrel
    by_cases hgo : k < n0 ∧ k < 120
    · obtain ⟨hlt, hlt120⟩ := hgo
      obtain ⟨x, hx⟩ : ∃ x, l[k]? = some x := ⟨_, List.getElem?_eq_getElem (by have := HLN.out; omega)⟩
      obtain ⟨ba, off, rfl, hba, c1, c2, c3⟩ := steps_nth HL.out hx
      have hB := hT.bel
      obtain ⟨hts, hKi, hM⟩ := HS.out x (List.mem_of_getElem? hx)
      have d1 := (hB.cell (p := ⟨ba, _, none⟩) hba).trans c1
      have d2 := (hB.cell (p := ⟨ba, _, none⟩) hba).trans c2
      have d3 := (hB.cell (p := ⟨ba, _, none⟩) hba).trans c3
      obtain ⟨K, T, M⟩ := x
      simp only at d1 d2 d3 hts hKi hM
      have hltz : (k : Int) < (n0 : Int) := by omega
      have hltz2 : (k : Int) < 120 := by omega
      have hT0 := hT.box (kd_jb b j) (kd_jw bw jw) (bx K M T)
      obtain ⟨e0, e1, e2⟩ := bx_cells hT0.at
      clear c1 c2 c3 hx hT hB
      have hT := hT0
      clear hT0
      go_upto_region 12 with fail
      go_cut [11] from 52 to 235 (fun ag wq => ∃ g : Bool, ag = .bool g ∧ TJ w b j bw jw (some (wr.heap.size, bx K M T)) y y wq)
      case first => as_aux_lemma =>
        by_cases hK3 : K = 3
        · as_aux_lemma =>
          subst hK3
          go_wp2_with fail
          go_meet
          exact ⟨true, rfl, hT⟩
        have n3 : ((K : Int) == 3) = false := beq_eq_false_iff_ne.2 hK3
        by_cases hK5 : K = 5
        · as_aux_lemma =>
          subst hK5
          go_wp2_with fail
          go_meet
          exact ⟨true, rfl, hT⟩
        have n5 : ((K : Int) == 5) = false := beq_eq_false_iff_ne.2 hK5
        clear hK3 hK5
        go_wp2_with fail
        go_meet
        exact ⟨false, rfl, hT⟩
      case rest => as_aux_lemma =>
        clear hT e0 e1 e2
        obtain ⟨g, rfl, hT⟩ := hcut
        obtain ⟨e0, e1, e2⟩ := bx_cells hT.at
        go_upto_block 2 with fail
        go_cut [9] from 76 to 235 (fun iv wq => iv = .int .i64 (k : Nat) ∧ At7 w b j bw jw (some (wr.heap.size, bx K M T)) (4 + 7 * k + 3) wq)
        case first => as_aux_lemma =>
          by_cases hK3 : K = 3
          · as_aux_lemma =>
            subst hK3
            have hf3 := hf.up (j := 4 + 7 * k + 3) (by omega)
            clear hf
            go_wp2_with fail
            go_meet
            exact ⟨rfl, _, hT, hf3⟩
          have n3 : ((K : Int) == 3) = false := beq_eq_false_iff_ne.2 hK3
          by_cases hK5 : K = 5
          · as_aux_lemma =>
            subst hK5
            obtain ⟨e0, e1, e2⟩ := bx_cells hT.at
            go_wp2_with fail
            go_at_call 24
            refine (t_restartA (kd_jw bw jw) hT hf (by omega) hM).mono ?_
            rintro e w12 ⟨rfl, hT12⟩
            obtain ⟨f0, f1, f2⟩ := bx_cells hT12.at
            clear hT e0 e1 e2
            go_wp2_with fail
            go_at_call 25
            refine (t_restartB (kd_jb b j) hT12 hf (by omega) hM).mono ?_
            rintro e w13 ⟨rfl, hT13⟩
            have hf13 : Fa ⟨restartS y.s M, y.R, y.dm⟩ (4 + 7 * k + 1) := fa_restart (M := M) hf (by omega)
            clear hT12 hf f0 f1 f2
            generalize hy2 : (⟨restartS y.s M, y.R, y.dm⟩ : Jst) = y2 at hT13 hf13
            have hdn2 : y2.s.down = false := by rw [← hy2]; rfl
            clear hy2
            obtain ⟨y, rfl⟩ : ∃ y, y = y2 := ⟨_, rfl⟩
            have hT := hT13
            clear hT13
            have hf := hf13
            clear hf13
            have hf3 := hf.up (j := 4 + 7 * k + 3) (by omega)
            clear hf
            go_wp2_with fail
            go_meet
            exact ⟨rfl, _, hT, hf3⟩
          have n5 : ((K : Int) == 5) = false := beq_eq_false_iff_ne.2 hK5
          by_cases hK1 : K = 1
          · as_aux_lemma =>
            subst hK1
            have hd := hT.below (kd_jb b j) (kd_jw bw jw) (Below.refl _ _).drew
            have hro := fa_addok (r := T) hf (by omega) hts
            have hpk := pk_up hts
            have hS := (bx_cells hd.at).2.1
            have hA := t_addA (kd_jw bw jw) hd hro.1
            have hBc := fun W (hW : TJ w b j bw jw (some (wr.heap.size, bx 1 M T)) (addS y pL T).2 y W) => t_addB (kd_jb b j) hW hro
            have hAS := fun W (hW : TJ w b j bw jw (some (wr.heap.size, bx 1 M T)) (addS y pL T).2 y W) => (bx_cells hW.at).2.1
            have hBS := fun W (hW : TJ w b j bw jw (some (wr.heap.size, bx 1 M T)) (addS y pL T).2 (addS y pL T).2 W) => (bx_cells hW.at).2.1
            have HS1 := Lib.hid hS
            have HA1 := Lib.hid hA
            have HB1 := Lib.hid hBc
            have HAS1 := Lib.hid hAS
            have HBS1 := Lib.hid hBS
            have hfa : Fa (addS y pL T).2 (4 + 7 * k + 3) := fa_add hf (by decide) (by omega)
            have HFA := Lib.hid hfa
            clear hd hro hS hA hBc hAS hBS hT hfa
            go_wp2_with fail
            refine Rg.wp_only ?_ (regPlaysAdd _ (by kernel_rfl) _ j jw wr.heap.size (addS y pL T).1 T _ _ _ HS1.out HA1.out HAS1.out HB1.out HBS1.out)
            rintro _ w9 ⟨rfl, hB9⟩
            go_wp2_with fail
            go_meet
            exact ⟨rfl, _, hB9, HFA.out⟩
          have n1 : ((K : Int) == 1) = false := beq_eq_false_iff_ne.2 hK1
          by_cases hK2 : K = 2
          · as_aux_lemma =>
            subst hK2
            have hfo : FillOk y.s pL ⟨#[]⟩ := fa_fillok hf (by omega) (Nat.zero_le _)
            have HFO := Lib.hid hfo
            have HFA := Lib.hid (fa_reset (p := pL) hf (by decide))
            clear hfo
            go_wp2_with fail
            go_at_call 21
            refine (t_resetA (kd_jw bw jw) hT HFO.out).mono ?_
            rintro e w9 ⟨rfl, hT9⟩
            clear hT
            go_wp2_with fail
            go_at_call 22
            refine (t_resetB (kd_jb b j) hT9 HFO.out).mono ?_
            rintro e w10 ⟨rfl, hT10⟩
            clear hT9
            generalize (resetS y pL).1 = rk at *
            go_wp2_with fail
            go_meet
            exact ⟨rfl, _, hT10, HFA.out⟩
          have n2 : ((K : Int) == 2) = false := beq_eq_false_iff_ne.2 hK2
          by_cases hK4 : K = 4
          · as_aux_lemma =>
            subst hK4
            have HFA := Lib.hid ((fa_arm (M := M) hf hM).up (j := 4 + 7 * k + 3) (by omega))
            go_wp2_with fail
            go_at_call 23
            refine (t_armA (kd_jw bw jw) hT hM).mono ?_
            rintro e w9 ⟨rfl, hT9⟩
            obtain ⟨e0, e1, e2⟩ := bx_cells hT9.at
            obtain ⟨⟨g1, g2⟩, hT10⟩ := tj_armed M hT9
            obtain ⟨f0, f1, f2⟩ := bx_cells hT10.at
            have HT10 := Lib.hid hT10
            have HT9 := Lib.hid hT9
            clear hT hT9 hT10
            by_cases hneg : M < 0
            · have hlt : decide (M < 0) = true := decide_eq_true hneg
              obtain ⟨⟨g3, g4⟩, hT11⟩ := tj_armed (-1) HT10.out
              have HT11 := Lib.hid hT11
              clear hT11
              have HNEG := Lib.hid hneg
              go_wp2_with fail
              go_meet
              have h1 := HT11.out
              have h2 := HFA.out
              rw [if_pos HNEG.out] at h1 h2
              exact ⟨rfl, _, h1, h2⟩
            · have hlt : decide (M < 0) = false := decide_eq_false hneg
              have HNEG := Lib.hid hneg
              go_wp2_with fail
              go_meet
              have h1 := HT10.out
              have h2 := HFA.out
              rw [if_neg (show ¬ M < 0 by have := HNEG.out; omega)] at h1 h2
              exact ⟨rfl, _, h1, h2⟩
          have n4 : ((K : Int) == 4) = false := beq_eq_false_iff_ne.2 hK4
          by_cases hK6 : K = 6
          · as_aux_lemma =>
            subst hK6
            have HFA := Lib.hid ((fa_rot (M := M) hf).up (j := 4 + 7 * k + 3) (by omega))
            go_wp2_with fail
            go_at_call 26
            refine (t_rotA (kd_jw bw jw) hT hf (by omega) hM).mono ?_
            rintro e w9 ⟨rfl, hT9⟩
            obtain ⟨e0, e1, e2⟩ := bx_cells hT9.at
            clear hT
            go_wp2_with fail
            go_at_call 27
            refine (t_rotB (kd_jb b j) hT9 hf (by omega) hM).mono ?_
            rintro e w10 ⟨rfl, hT10⟩
            clear hT9
            go_wp2_with fail
            go_meet
            exact ⟨rfl, _, hT10, HFA.out⟩
          have n6 : ((K : Int) == 6) = false := beq_eq_false_iff_ne.2 hK6
          by_cases hK7 : K = 7
          · as_aux_lemma =>
            subst hK7
            have HFA := Lib.hid ((fa_append (r := T) hf hts).up (j := 4 + 7 * k + 3) (by omega))
            go_wp2_with fail
            go_at_call 28
            refine (t_appendA (kd_jw bw jw) hT hf (by omega) hts).mono ?_
            rintro e w9 ⟨rfl, hT9⟩
            obtain ⟨e0, e1, e2⟩ := bx_cells hT9.at
            clear hT
            go_wp2_with fail
            go_at_call 29
            refine (t_appendB (kd_jb b j) hT9 hf (by omega) hts).mono ?_
            rintro e w10 ⟨rfl, hT10⟩
            clear hT9
            go_wp2_with fail
            go_meet
            exact ⟨rfl, _, hT10, HFA.out⟩
          have n7 : ((K : Int) == 7) = false := beq_eq_false_iff_ne.2 hK7
          have hf3 := hf.up (j := 4 + 7 * k + 3) (by omega)
          clear hK1 hK2 hK3 hK4 hK5 hK6 hK7 hf
          go_wp2_with fail
          go_meet
          exact ⟨rfl, _, hT, hf3⟩
        case rest => as_aux_lemma =>
          clear hT hf e0 e1 e2
          obtain ⟨rfl, y, hT, hf⟩ := hcut
          go_upto_region 34 with fail
          go_cut [9, 145] from 146 to 235 (fun iv cv wq => iv = .int .i64 (k : Nat) ∧ ∃ c : Bool, cv = .bool c ∧ At7 w b j bw jw (some (wr.heap.size, bx K M T)) (4 + 7 * k + 3) wq)
          case first => as_aux_lemma =>
            obtain ⟨dn, hdn⟩ : ∃ dn, dn = y.s.down := ⟨_, rfl⟩
            have cd := t_down hT
            rw [← hdn] at cd
            clear hdn
            cases g
            · go_wp2_with fail
              go_at_call 30
              refine cd.mono ?_
              rintro e w11 ⟨rfl, rfl⟩
              go_wp2_with fail
              go_meet
              exact ⟨rfl, dn, rfl, y, hT, hf⟩
            · go_wp2_with fail
              go_meet
              exact ⟨rfl, true, rfl, y, hT, hf⟩
          case rest => as_aux_lemma =>
            clear hT hf y
            obtain ⟨rfl, cb, rfl, y, hT, hf⟩ := hcut
            go_upto_if 145 with fail
            go_cut [5, 6, 7, 8, 9] from 146 to 235 (fun lv ev mv fv iv wq => iv = .int .i64 (k : Nat) ∧ ∃ (j jw : Nat) (y : Jst), lv = .pointer (some ⟨j, 0, none⟩) ∧ mv = .pointer (some ⟨jw, 0, none⟩) ∧ TJ w b j bw jw (some (wr.heap.size, bx K M T)) y y wq ∧ Fa y (4 + 7 * (k + 1)))
            case first => as_aux_lemma =>
              cases cb
              · have hf := hf.up (j := 4 + 7 * (k + 1)) (by omega)
                go_wp2_with fail
                go_meet
                exact ⟨rfl, j, jw, y, rfl, rfl, hT, hf⟩
              obtain ⟨dn, hdn⟩ : ∃ dn, dn = y.s.down := ⟨_, rfl⟩
              have cd := t_down hT
              rw [← hdn] at cd
              clear hdn
              go_wp2_with fail
              go_at_call 30
              refine cd.mono ?_
              rintro e w11 ⟨rfl, rfl⟩
              go_upto_if 147 with fail
              go_cut [9] from 148 to 235 (fun iv wq => iv = .int .i64 (k : Nat) ∧ At7 w b j bw jw (some (wr.heap.size, bx K M T)) (4 + 7 * k + 3 + 1) wq)
              case first => as_aux_lemma =>
                cases dn
                · have hf3 := hf.up (j := 4 + 7 * k + 3 + 1) (by omega)
                  go_wp2_with fail
                  go_meet
                  exact ⟨rfl, y, hT, hf3⟩
                · obtain ⟨e0, e1, e2⟩ := bx_cells hT.at
                  go_wp2_with fail
                  go_at_call 24
                  refine (t_restartA (kd_jw bw jw) hT hf (by omega) hM).mono ?_
                  rintro e w12 ⟨rfl, hT12⟩
                  obtain ⟨f0, f1, f2⟩ := bx_cells hT12.at
                  clear hT e0 e1 e2
                  go_wp2_with fail
                  go_at_call 25
                  refine (t_restartB (kd_jb b j) hT12 hf (by omega) hM).mono ?_
                  rintro e w13 ⟨rfl, hT13⟩
                  have hf13 : Fa ⟨restartS y.s M, y.R, y.dm⟩ (4 + 7 * k + 3 + 1) := fa_restart (M := M) hf (by omega)
                  clear hT12 hf f0 f1 f2
                  generalize hy2 : (⟨restartS y.s M, y.R, y.dm⟩ : Jst) = y2 at hT13 hf13
                  have hdn2 : y2.s.down = false := by rw [← hy2]; rfl
                  clear hy2
                  obtain ⟨y, rfl⟩ : ∃ y, y = y2 := ⟨_, rfl⟩
                  have hT := hT13
                  clear hT13
                  have hf := hf13
                  clear hf13
                  go_wp2_with fail
                  go_meet
                  exact ⟨rfl, y, hT, hf⟩
              case rest => as_aux_lemma =>
                clear hT hf cd y
                obtain ⟨rfl, y, hT, hf⟩ := hcut
                obtain ⟨oo1, oo2, oo3⟩ := fa_openok hf.inv (by omega)
                have hf2 : Fa (openS y.s pL).2 (4 + 7 * k + 3 + 1 + 3) := fa_open hf.inv (by decide)
                have hTA := hT.diskA.diskB
                have HOO := Lib.hid oo1
                have HF2 := Lib.hid hf2
                clear hT hf2 oo1 hf
                have cA := t_openA (kd_ref bw) hTA HOO.out
                obtain ⟨rc, z, hz⟩ : ∃ rc z, openS y.s pL = (rc, z) := ⟨_, _, rfl⟩
                have HZ := Lib.hid hz
                rw [hz] at cA
                have HF3 : Hid (Fa z (4 + 7 * k + 3 + 1 + 3)) := Lib.hid (by have := HF2.out; rw [hz] at this; exact this)
                clear hz hTA
                by_cases hrc : rc = 0
                · subst hrc
                  go_wp2_with fail
                  go_at_call 17
                  refine (cA).mono ?_
                  rintro e w15 hh
                  obtain ⟨_, j2, rfl, hT15⟩ | ⟨hne, _⟩ := hh
                  rotate_left
                  · exact absurd rfl hne
                  have cB := t_openB (kd_jb b j2) hT15 HOO.out oo2 oo3
                  rw [HZ.out] at cB
                  clear hT15
                  go_wp2_with fail
                  go_at_call 18
                  refine (cB).mono ?_
                  rintro e w16 hh
                  obtain ⟨_, jw2, rfl, hT16⟩ | ⟨hne, _⟩ := hh
                  rotate_left
                  · exact absurd rfl hne
                  clear oo2 oo3 HOO HF2 HZ
                  have hf : Fa z (4 + 7 * (k + 1)) := HF3.out.up (by omega)
                  clear HF3
                  obtain ⟨y, rfl⟩ : ∃ y, y = z := ⟨_, rfl⟩
                  have hT := hT16
                  clear hT16
                  go_wp2_with fail
                  go_meet
                  exact ⟨rfl, j2, jw2, y, rfl, rfl, hT, hf⟩
                · as_aux_lemma =>
                  have nrc := Dk.ne_eq hrc
                  have HRC := Lib.hid hrc
                  have e8 : ((rc : Int) == (rc : Int)) = true := beq_self_eq_true _
                  clear hrc
                  go_wp2_with fail
                  go_at_call 17
                  refine (cA).mono ?_
                  rintro e w15 hh
                  obtain ⟨h0, _⟩ | ⟨_, rfl, hT15⟩ := hh
                  · exact absurd h0 HRC.out
                  have cB := t_openB (kd_imp b) hT15 HOO.out oo2 oo3
                  rw [HZ.out] at cB
                  clear hT15
                  go_wp2_with fail
                  go_at_call 18
                  refine (cB).mono ?_
                  rintro e w16 hh
                  obtain ⟨h0, _⟩ | ⟨_, rfl, hT16⟩ := hh
                  · exact absurd h0 HRC.out
                  have hbel := hT16.bel
                  clear hT16 oo2 oo3
                  go_wp2_with fail
                  go_ret
                  exact ⟨rfl, hbel⟩
            case rest => as_aux_lemma =>
              clear hT hf y
              obtain ⟨rfl, j, jw, y, rfl, rfl, hT, hf⟩ := hcut
              obtain ⟨n, hn⟩ : ∃ n, n = y.R.length := ⟨_, rfl⟩
              have hn2 : n ≤ 10000000000 := by have := hf.recs; have := mul_le' (i := 4 + 7 * (k + 1)) (by omega); omega
              have hlen9 : y.s.L.length ≤ 1000000000 := by have := hf.inv.len; omega
              have hnR := hn.symm
              have HNR := Lib.hid hnR
              have HF := Lib.hid hf
              have HT := Lib.hid hT
              clear hn hnR hf
              go_wp2_with fail
              go_at_call 31
              refine (t_readA hT).mono ?_
              rintro e w21 ⟨rfl, hb21⟩
              have hT21 := hT.below (kd_jb b j) (kd_jw bw jw) hb21
              clear hT
              go_wp2_with fail
              go_at_call 32
              refine (t_readB hT21 hlen9).mono ?_
              rintro e w22 ⟨rfl, hb22⟩
              have hT22 := hT21.below (kd_jb b j) (kd_jw bw jw) hb22
              clear hT21
              generalize (readS y.s pL).1 = tx
              generalize (readS y.s pL).2 = kx
              go_wp2_with fail
              go_at_call 33
              refine (t_records hT22 HNR.out hn2).mono ?_
              rintro e w23 ⟨a1, c1, rfl, tx1, hb23⟩
              have hT23 := hT22.below (kd_jb b j) (kd_jw bw jw) hb23
              have TX1 := Lib.hid tx1
              have HT22 := Lib.hid hT22
              clear tx1 hT22
              go_wp2_with fail
              go_at_call 33
              refine (t_records hT23 HNR.out hn2).mono ?_
              rintro e w24 ⟨a2, c2, rfl, tx2, hb24⟩
              have hsep : ∀ x, a1 = some x → x.block < w23.heap.size := fun x hx => (Aq.texts_block (TX1.out : Tx.Texts w23 w22.heap.size (.slice a1 n c1) y.R) hx).2
              have tx1' : Fr.Texts w24 w22.heap.size (.slice a1 n c1) y.R := TX1.out.below hb24
              obtain ⟨vr, p1, p2, p3, p4, p5, p6, p7, p8, p9⟩ := plays_tail HT22.out (below_call hb23 hb24) HNR.out hn2 tx1' tx2 hb23.size hsep
              have HP1 := Lib.hid p1
              have HP2 := Lib.hid p2
              have HP3 := Lib.hid p3
              have HP4 := Lib.hid p4
              have HP5 := Lib.hid p5
              have HP6 := Lib.hid p6
              have HP7 := Lib.hid p7
              have HP8 := Lib.hid p8
              have HP9 := Lib.hid p9
              have HSEP := Lib.hid hsep
              clear p1 p2 p3 p4 p5 p6 p7 p8 p9 tx1' tx2 hsep hT23
              go_wp2_with fail
              refine Rg.wp_only ?_ (regPlays _ (by kernel_rfl) _ j b jw bw n c1 c2 y.s.steps a1 a2 y.dm tx vr _ _ _ _ _ _ HP1.out HP2.out HP3.out HP4.out HP3.out HP5.out HP3.out HP6.out HP3.out HP7.out HP8.out HP9.out)
              rintro _ w25 ⟨z8, rfl, hB5⟩
              have hT25 := (HT22.out.below (kd_jb b j) (kd_jw bw jw) hB5).drop
              go_wp2_with fail
              go_roundw
              case rel => exact ⟨k + 1, j, jw, y, by omega, by omega, by go_num, rfl, rfl, hT25, HF.out⟩
              case measure => simp [intOf]; omega
    · have hbel := hT.bel
      clear hT hf
      by_cases hlt : k < n0
      · have hltz : (k : Int) < (n0 : Int) := by omega
        have hlt2 : ¬ (k : Int) < 120 := by omega
        go_wp2_with fail
        go_ret
        exact ⟨rfl, hbel⟩
      · have hltz : ¬ (k : Int) < (n0 : Int) := by omega
        go_wp2_with fail
        go_ret
        exact ⟨rfl, hbel⟩
theorem own : ownKnob Tryz.prog.godebug = none := by kernel_rfl
theorem laidOut : laidOutB Tryz.prog = true := by kernel_rfl
set_option maxRecDepth 100000 in
theorem contract (H : Type) (enc : TypeId × Value → H) (W : World) (base : Nat) (args : Array Value) (ds gs : List (DataW H)) (before : List MemPlace)
    (hval0 : ∀ (j : Nat) t v, Tryz.f3.params[j]? = some t → args[j]? = some v → Value.okWide Tryz.prog W .any base t v)
    (hW : DataW.Whole enc Tryz.prog Tryz.f3.params.toList Rows.walPlaysSpec.vars false W args.toList ds gs before)
    (hk : Rows.uptoSmall H (ds ++ gs) = true)
    (hsz0 : (DataW.weightsEach Tryz.prog (Tryz.f3.params.toList ++ Rows.walPlaysSpec.plain.varTypes Tryz.prog) (ds ++ gs)).all (· ≤ reachBytes) = true) :
    Calls Tryz.prog 3 args W fun e W' => ∃ v, e = .returned v ∧ Rows.walPlaysSpec.post enc Tryz.prog Tryz.f3 false true false false W args v W' := by
  have hval : ∀ (j : Nat) t v, Tryz.f3.params[j]? = some t → args[j]? = some v → Value.okWide Tryz.prog W .any base t v := hval0
  have hsz := hsz0
  clear hsz0
  have hW' := hW
  obtain ⟨p, q, hA0, hV, rfl, hfz, hnd⟩ := hW
  have hA : DataW.TrodAll enc Tryz.prog W 0 (fun _ => true) true Tryz.f3.params.toList args.toList ds p := hA0
  rw [Tryz.params3] at hA hval hsz
  obtain ⟨v0, vs0, d0, ds0, p0, q0, hargs, rfl, rfl, h0, r0⟩ := trodAll_cons hA
  obtain ⟨rfl, rfl, rfl⟩ := trodAll_nil r0
  obtain rfl : args = #[v0] := by cases args; simp_all
  obtain ⟨rfl, rfl⟩ := trodVars_none hV
  obtain ⟨A0, n0, c0, rfl⟩ := okWide_slice Tryz.underlying22 (hval 0 22 v0 rfl rfl)
  have k0 := h0
  have lt0 : ∀ x ∈ p0, x.block < W.heap.size := by obtain ⟨m, hm⟩ := k0; exact DataW.trod_lt m _ _ _ hm
  clear hA0 hval0
  obtain ⟨l0, e0, i0, m0, sm0⟩ := arg_steps k0
  have hbulk : Rows.uptoBulk d0 ≤ 1048576 := by
    have h := of_decide_eq_true hk
    rw [List.append_nil] at h
    have x : Rows.uptoBulkAll [d0] = Rows.uptoBulk d0 + 0 := rfl
    rw [x] at h
    omega
  refine (walk A0 n0 c0 l0 W e0 (by omega) (fun x hx => by have := sm0 x hx; have := i0 x hx; exact ⟨by omega, this⟩)).mono fun e W' ⟨he, bel⟩ => ?_
  subst he
  exact ⟨_, rfl, _, _, _, [], _, [], hW', trodAll_mk1 (shut_bool Tryz.underlying4 _), (trodAll_cons_mk (Below.trod laidOut (by kernel_rfl) (of_decide_eq_true (by kernel_rfl)) k0 bel lt0) trodAll_mk0), rfl, bel.frame _, fun h => by cases h⟩
set_option maxRecDepth 100000 in
theorem lifted (os : Os) (started : os.Started) (H : Type) (enc : TypeId × Value → H) (F : Stop.Interp) :
    ReturnsInHanded {} Tryz.checked os 3 .any ((Rows.OpenSpec.upto Rows.walPlaysSpec).pre6 enc Tryz.prog Tryz.f3 Rows.walPlaysUptoRow.domain false) (((Rows.OpenSpec.upto Rows.walPlaysSpec).at F).post enc Tryz.prog Tryz.f3 false true false false) := by
  refine returnsInHanded_of_cond_sized (C := Tryz.checked) (s := Rows.OpenSpec.upto Rows.walPlaysSpec) (k := Rows.uptoSmall) rfl own started (by kernel_rfl) Tryz.func3
    (OpenSpec.witness (enc := enc) (C := Tryz.checked) (s := Rows.OpenSpec.upto Rows.walPlaysSpec) (k := Rows.uptoSmall) rfl false ⟨#[], #[.slice none 0 0], []⟩ 8 (by kernel_rfl) (by kernel_rfl) (by kernel_rfl)
      (x := ([.nil], [], [])) (by kernel_rfl) rfl (by kernel_rfl)) ?_
  intro W base args ds gs before hval hW _ hk hsz0 _
  exact contract H enc W base args ds gs before hval hW hk hsz0
theorem over : Rows.walPlaysUptoRow.holds Tryz.pinned (Rows.OpenSpec.upto Rows.walPlaysSpec) :=
  OpenClaim.holds_of_cond 3 Tryz.f3 rfl rfl rfl rfl rfl rfl rfl ⟨rfl, rfl, rfl, rfl, rfl⟩ rfl rfl rfl rfl rfl (by kernel_rfl) Tryz.func3 (by kernel_rfl)
    (of_decide_eq_true (by kernel_rfl)) (by unfold Func.isWrapper; first | (rw [if_pos (by decide +kernel)]; kernel_rfl) | (rw [if_neg (by decide +kernel)]; exact ⟨rfl, rfl⟩))
    (fun os started H enc _ F => lifted os started H enc F)
end Go.Proofs.YtjdmbkkdnonkkaaGreat.walPlays
namespace Go.Proofs.YtjdmbkkdnonkkaaGreat
theorem walPlaysUpto_holds : Rows.WalPlaysUptoSaid := walPlays.over
#print axioms walPlaysUpto_holds
end Go.Proofs.YtjdmbkkdnonkkaaGreat
