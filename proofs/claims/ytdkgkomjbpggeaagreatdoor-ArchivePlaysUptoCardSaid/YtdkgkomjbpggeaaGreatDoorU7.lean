/- Texts of this seat, one behind the other. -/
import Derived.Test.YtdkgkomjbpggeaaGreatDoorU6
import Derived.Maps.AppendAt
import Derived.Laws.AppendOwnNone
namespace Go.Proofs.YtdkgkomjbpggeaaGreatDoor.Az
open Go.RowKit Tx Pm Dk Wm Wr Wl Pl Tb Bl Fm
open Fr hiding sv Texts cnt cnt_snoc
open En (Et tcheck)
open Ac (Ar upd upd_same upd_other files saveA turnA backA forgetA calm Kd)
set_option linter.unusedVariables false
set_option linter.unusedSimpArgs false
set_option linter.unnecessarySimpa false
section
variable {w0 : World × (Nat → Prop)} {W : World} {d j t m u M N i : Nat} {x : Tst} {C : List On} {Z : List It} {vals : Nat → Option ByteArray}
theorem bzgetA (h : Bz d j t m u x Z w0 C M N W) (hz : Zr Z vals) (h1 : 1 ≤ i) (h6 : i ≤ 6) : ∃ s, (∀ v, vals i = some v → s = v) ∧ ∀ V, Below W.heap.size W V → Calls Tryz.prog 38 #[.pointer (some ⟨u, 0, none⟩), .string (keyA i)] V fun e w' => e = .returned (.tuple #[.string s, .bool (vals i).isSome]) ∧ Below V.heap.size V w' := by
  obtain ⟨l, o1, o2, o3, o4, o5⟩ := h
  have hf := o4 _ (keyA_not i)
  rw [hz.1 i h1 h6] at hf
  refine ⟨overV x.L l (keyA i), fun v hv => ?_, fun V hV => ?_⟩
  · rw [hv] at hf
    exact over_val hf
  · have c := f_bget (key := keyA i) (owf_below o1 hV) (by have := keyA_size h6; omega)
    rw [over_find, hf, Option.isSome_map] at c
    exact c
end
set_option maxRecDepth 100000 in
set_option maxHeartbeats 2000000 in
theorem load_none {u i : Nat} {W : World} {s : ByteArray} (h6 : i ≤ 6) (hT : Tab W)
    (hg : ∀ V, Below W.heap.size W V → Calls Tryz.prog 38 #[.pointer (some ⟨u, 0, none⟩), .string (keyA i)] V fun e w' => e = .returned (.tuple #[.string s, .bool false]) ∧ Below V.heap.size V w') :
    Calls Tryz.prog 31 #[.pointer (some ⟨u, 0, none⟩), .int .i64 (i : Int)] W fun e w' => e = .returned (.tuple #[nilK, .int .i64 11]) ∧ Below W.heap.size W w' := by
  have HB0 := Lib.hid ((Below.refl _ W).alloc (Nat.le_refl _) (kO (.slice none 0 0) (.slice none 0 0)))
  have HN0 := Lib.hid (new_at W (kO (.slice none 0 0) (.slice none 0 0)) (g := W.heap.size) rfl)
  have ck := keyOf_any i (W.alloc (kO (.slice none 0 0) (.slice none 0 0))) h6 (hT.below HB0.out)
  unfold nilK
  go_enter Tryz.func31, Tryz.ntmps31
  go_wp2_with fail
  go_at_call 33
  refine ck.mono ?_
  rintro e w1 ⟨rfl, hb1⟩
  have HB1 := Lib.hid (Tx.below_call HB0.out hb1)
  have HZ1 := Lib.hid (kept_at HN0.out hb1)
  have c := hg _ HB1.out
  clear hg ck hb1
  go_wp2_with fail
  go_at_call 38
  refine c.mono ?_
  rintro e w2 ⟨rfl, hb2⟩
  have hz := kept_at HZ1.out hb2
  have hB2 := Tx.below_call HB1.out hb2
  obtain ⟨⟨s00, s01⟩, ⟨s10, s11⟩, s3, s4⟩ := store2 (T := 80) (v0 := .slice none 0 0) (v1 := .slice none 0 0) hz (.slice none 0 0) (.slice none 0 0)
  have HB2 := Lib.hid (hB2.trans (s4.below hB2.size (fun b hb => by omega)))
  have HS3 := Lib.hid s3
  clear c hb2 hz hB2 s3 s4
  go_wp2_with fail
  refine bodyPost_ret (results_cell_row_tmp rfl _ _ _ _ _ _ _ rfl HS3.out Tryz.underlying80 rfl infoKp) rfl ?_
  exact ⟨rfl, HB2.out⟩
set_option maxRecDepth 100000 in
set_option maxHeartbeats 2000000 in
theorem load_bad {u i : Nat} {W : World} {s : ByteArray} (h6 : i ≤ 6) (hT : Tab W) (hb : Bad s) (hs : s.size ≤ 100000000)
    (hg : ∀ V, Below W.heap.size W V → Calls Tryz.prog 38 #[.pointer (some ⟨u, 0, none⟩), .string (keyA i)] V fun e w' => e = .returned (.tuple #[.string s, .bool true]) ∧ Below V.heap.size V w') :
    Calls Tryz.prog 31 #[.pointer (some ⟨u, 0, none⟩), .int .i64 (i : Int)] W fun e w' => e = .returned (.tuple #[nilK, .int .i64 6]) ∧ Below W.heap.size W w' := by
  have HB0 := Lib.hid ((Below.refl _ W).alloc (Nat.le_refl _) (kO (.slice none 0 0) (.slice none 0 0)))
  have HN0 := Lib.hid (new_at W (kO (.slice none 0 0) (.slice none 0 0)) (g := W.heap.size) rfl)
  have ck := keyOf_any i (W.alloc (kO (.slice none 0 0) (.slice none 0 0))) h6 (hT.below HB0.out)
  have cr := fun V => read_bad u s V hb hs
  unfold nilK at cr ⊢
  go_enter Tryz.func31, Tryz.ntmps31
  go_wp2_with fail
  go_at_call 33
  refine ck.mono ?_
  rintro e w1 ⟨rfl, hb1⟩
  have HB1 := Lib.hid (Tx.below_call HB0.out hb1)
  have HZ1 := Lib.hid (kept_at HN0.out hb1)
  have c := hg _ HB1.out
  clear hg ck hb1
  go_wp2_with fail
  go_at_call 38
  refine c.mono ?_
  rintro e w2 ⟨rfl, hb2⟩
  have HZ2 := Lib.hid (kept_at HZ1.out hb2)
  have HB2 := Lib.hid (Tx.below_call HB1.out hb2)
  have cr2 := cr w2
  clear c hb2 cr
  go_wp2_with fail
  go_at_call 40
  refine cr2.mono ?_
  rintro e w3 ⟨rfl, hb3⟩
  have hb34 := Tx.below_call hb3 ((Below.refl w3.heap.size w3).alloc (Nat.le_refl _) (kO (.slice none 0 0) (.slice none 0 0)))
  have hz := kept_at HZ2.out hb34
  have hB3 := Tx.below_call HB2.out hb34
  obtain ⟨⟨s00, s01⟩, ⟨s10, s11⟩, s3, s4⟩ := store2 (T := 80) (v0 := .slice none 0 0) (v1 := .slice none 0 0) hz (.slice none 0 0) (.slice none 0 0)
  have HB3 := Lib.hid (hB3.trans (s4.below hB3.size (fun b hb => by omega)))
  have HS3 := Lib.hid s3
  unfold kO at s00 s01 s10 s11 HB3 HS3
  clear cr2 hb3 hb34 hz hB3 s3 s4
  go_wp2_with fail
  refine bodyPost_ret (results_cell_row_tmp rfl _ _ _ _ _ _ _ rfl HS3.out Tryz.underlying80 rfl infoKp) rfl ?_
  exact ⟨rfl, HB3.out⟩
set_option maxRecDepth 100000 in
set_option maxHeartbeats 2000000 in
theorem load_ok {u i : Nat} {W : World} {κ : ByteArray → ByteArray} {l : List Et} (h6 : i ≤ 6) (hT : Tab W) (ht : tcheck l = 0) (hκ : ∀ x ∈ l, x.node.kind = 2 → (κ x.node.data).size ≤ 14) (hbk : Ac.bk l ≤ 10000000)
    (hc : ∀ x ∈ l, x.node.kind = 2 → ∀ V, Below W.heap.size W V → Calls Tryz.prog 144 #[.pointer (some ⟨u, 0, none⟩), .string (κ x.node.data)] V fun e w' => e = .returned (.tuple #[.string x.node.data, .int .i64 0]) ∧ Below V.heap.size V w')
    (hg : ∀ V, Below W.heap.size W V → Calls Tryz.prog 38 #[.pointer (some ⟨u, 0, none⟩), .string (keyA i)] V fun e w' => e = .returned (.tuple #[.string (val16 κ l), .bool true]) ∧ Below V.heap.size V w') :
    Calls Tryz.prog 31 #[.pointer (some ⟨u, 0, none⟩), .int .i64 (i : Int)] W fun e w' => ∃ v vk, e = .returned (.tuple #[.agg #[v, vk], .int .i64 0]) ∧ En.Own w' W.heap.size v l ∧ Texts w' W.heap.size vk ((files l).map κ) ∧ Below W.heap.size W w' := by
  have HB0 := Lib.hid ((Below.refl _ W).alloc (Nat.le_refl _) (kO (.slice none 0 0) (.slice none 0 0)))
  have HN0 := Lib.hid (new_at W (kO (.slice none 0 0) (.slice none 0 0)) (g := W.heap.size) rfl)
  have ck := keyOf_any i (W.alloc (kO (.slice none 0 0) (.slice none 0 0))) h6 (hT.below HB0.out)
  have cr := fun V (hV : Below W.heap.size W V) => read_ok (ub := u) l V ht hκ hbk (fun x hx hk V2 hV2 => hc x hx hk V2 (Tx.below_call hV hV2))
  have hll : l.length ≤ 200 := (ok_all ht hbk).1
  clear hc ht hκ hbk
  generalize val16 κ l = s at *
  go_enter Tryz.func31, Tryz.ntmps31
  go_wp2_with fail
  go_at_call 33
  refine ck.mono ?_
  rintro e w1 ⟨rfl, hb1⟩
  have HB1 := Lib.hid (Tx.below_call HB0.out hb1)
  have HZ1 := Lib.hid (kept_at HN0.out hb1)
  have c := hg _ HB1.out
  clear hg ck hb1
  go_wp2_with fail
  go_at_call 38
  refine c.mono ?_
  rintro e w2 ⟨rfl, hb2⟩
  have HZ2 := Lib.hid (kept_at HZ1.out hb2)
  have HB2 := Lib.hid (Tx.below_call HB1.out hb2)
  have cr2 := cr w2 HB2.out
  clear c hb2 cr
  go_wp2_with fail
  go_at_call 40
  refine cr2.mono ?_
  rintro e w3 ⟨v3, vk, rfl, hO, hTx, hb3⟩
  obtain ⟨a, cc, rfl, _⟩ := hO.form
  obtain ⟨ak, ck, hvk, _⟩ := hTx.form
  rw [List.length_map] at hvk
  subst hvk
  have hgt : W.heap.size < w2.heap.size := (Array.getElem?_eq_some_iff.1 HZ2.out).1
  have hb34 := (Below.refl w3.heap.size w3).alloc (Nat.le_refl _) (kO (.slice a l.length cc) (.slice ak (files l).length ck))
  have hz := kept_at (kept_at HZ2.out hb3) hb34
  have hB3 := Tx.below_call (Tx.below_call HB2.out hb3) hb34
  have hO4 := hO.below hb34
  have hT4 := hTx.below hb34
  obtain ⟨⟨s00, s01⟩, ⟨s10, s11⟩, s3, s4⟩ := store2 (T := 80) (v0 := .slice none 0 0) (v1 := .slice none 0 0) hz (.slice a l.length cc) (.slice ak (files l).length ck)
  have HB3 := Lib.hid (hB3.trans (s4.below hB3.size (fun b hb => by omega)))
  have HO4 := Lib.hid (own_less (own_chg hO4 s4 (fun g hg e => by have := (hO4.lt g hg).1; omega)) (Nat.le_of_lt hgt))
  have HT4 := Lib.hid (own_less (own_chg hT4 s4 (fun g hg e => by have := (hT4.lt g hg).1; omega)) (Nat.le_of_lt hgt))
  have HS3 := Lib.hid s3
  unfold kO at s00 s01 s10 s11 HB3 HS3 HO4 HT4
  clear cr2 hb3 hb34 hz hB3 s3 s4 hO4 hT4 hO hTx
  go_wp2_with fail
  refine bodyPost_ret (results_cell_row_tmp rfl _ _ _ _ _ _ _ rfl HS3.out Tryz.underlying80 rfl infoKp) rfl ?_
  exact ⟨_, _, rfl, HO4.out, HT4.out, HB3.out⟩
end Go.Proofs.YtdkgkomjbpggeaaGreatDoor.Az

namespace Go.Proofs.YtdkgkomjbpggeaaGreatDoor.Az
open Go.RowKit Go.ChangeShapes Go.WideShapes Tx Pm Dk Wm Wr Wl Pl Tb Bl Fm
open Fr hiding sv Texts cnt cnt_snoc
open En (Et tcheck Ents)
open Ac (files)
set_option linter.unusedVariables false
set_option linter.unusedSimpArgs false
set_option linter.unnecessarySimpa false
section
variable {w0 : World × (Nat → Prop)} {W : World} {d j t m u M N i : Nat} {x : Tst} {C : List On} {Z : List It}
theorem bzputA {v : ByteArray} (h : Bz d j t m u x Z w0 C M N W) (h1 : 1 ≤ i) (h6 : i ≤ 6) (hN : N ≤ 100000000) : Calls Tryz.prog 32 #[.pointer (some ⟨u, 0, none⟩), .string (keyA i), .string v] W fun e w' => e = .returned (.tuple #[]) ∧ Bz d j t m u x (app Z ⟨keyA i, v, false⟩) w0 C M N w' := by
  obtain ⟨l, o1, o2, o3, o4, o5⟩ := h
  have hf := f_facts o1
  have hl := o5.len hf.2
  have hks := keyA_size h6
  refine (f_put (key := keyA i) (val := v) o1 (by omega) (by omega)).mono fun e w' ⟨he, ho⟩ => ⟨he, _, ho, ?_, o3, fun p hp => ?_, o5.arch h1 h6 rfl (fun e => by cases e)⟩
  · rw [all_bat hf.1 hf.2]
    refine ⟨rises_app o2.rises _, fun p hp => ?_⟩
    rw [find_app7, if_neg (fun e => by have e2 : keyA i = p := e; have := keyA_not i; rw [e2, hp] at this; cases this)]
    exact o2.look p hp
  · rw [all_bat hf.1 hf.2, find_app7, find_app7, o4 p hp]
theorem bzdropA (h : Bz d j t m u x Z w0 C M N W) (h1 : 1 ≤ i) (h6 : i ≤ 6) (hN : N ≤ 100000000) : Calls Tryz.prog 43 #[.pointer (some ⟨u, 0, none⟩), .string (keyA i)] W fun e w' => e = .returned (.tuple #[]) ∧ Bz d j t m u x (app Z ⟨keyA i, ⟨#[]⟩, true⟩) w0 C M N w' := by
  obtain ⟨l, o1, o2, o3, o4, o5⟩ := h
  have hf := f_facts o1
  have hl := o5.len hf.2
  have hks := keyA_size h6
  refine (f_drop (key := keyA i) o1 (by omega) (by omega)).mono fun e w' ⟨he, ho⟩ => ⟨he, _, ho, ?_, o3, fun p hp => ?_, o5.arch h1 h6 rfl (fun _ => rfl)⟩
  · rw [all_bat hf.1 hf.2]
    refine ⟨rises_app o2.rises _, fun p hp => ?_⟩
    rw [find_app7, if_neg (fun e => by have e2 : keyA i = p := e; have := keyA_not i; rw [e2, hp] at this; cases this)]
    exact o2.look p hp
  · rw [all_bat hf.1 hf.2, find_app7, find_app7, o4 p hp]
end
structure Sv (d j t m u : Nat) (x : Tst) (Z : List It) (w0 : World × (Nat → Prop)) (C : List On) (M N : Nat) (v vk : Value) (kb B nk : Nat) (ks : List Value) (q : Option Nat) (V : World) : Prop where
  bq : Bq d j t m u x Z w0 C M N (fun g => q = some g ∨ vk.ownBlock = some g ∨ g = kb) V
  z : ∀ zz, q = some zz → V.heap[zz]? = some (.cells #[.int .u8 0] 5 (0, 0))
  k : V.heap[kb]? = some (kO v vk)
  row : V.ownsRow B 9 1 vk nk ks
section
variable {w0 : World × (Nat → Prop)} {d j t m u M N M' N' kb B nk : Nat} {x : Tst} {C C' : List On} {Z Z' : List It} {v vk : Value} {ks : List Value} {V V' : World} {q : Option Nat}
theorem Sv.below (h : Sv d j t m u x Z w0 C M N v vk kb B nk ks q V) (hb : Below V.heap.size V V') : Sv d j t m u x Z w0 C M N v vk kb B nk ks q V' :=
  ⟨h.bq.below hb, fun zz hz => (hb.block zz (Array.getElem?_eq_some_iff.1 (h.z zz hz)).1).trans (h.z zz hz), (hb.block kb (Array.getElem?_eq_some_iff.1 h.k).1).trans h.k, own_kept h.row (fun g hg => hb.block g (h.row.lt g hg).2)⟩
theorem Sv.call {f : FuncId} {args : Array Value} {P : Ending → Prop} (h : Sv d j t m u x Z w0 C M N v vk kb B nk ks q V) (hT : TabZ w0) (hc : ∀ F, (∀ i, F i → w0.2 i ∨ w0.1.heap.size ≤ i) → TabZ (V, F) → Bz d j t m u x Z (V, F) C M N V → Calls Tryz.prog f args V fun e w' => P e ∧ Bz d j t m u x Z' (V, F) C' M' N' w') :
    Calls Tryz.prog f args V fun e w' => P e ∧ Sv d j t m u x Z' w0 C' M' N' v vk kb B nk ks q w' :=
  (h.bq.call hT hc).mono fun e w' ⟨h1, h2, h3, h4⟩ => ⟨h1, h2, fun zz hz => (h3 zz (.inl hz)).trans (h.z zz hz), (h3 kb (.inr (.inr rfl))).trans h.k, own_kept h.row (fun g hg => h3 g (.inr (.inl hg)))⟩
theorem Sv.bld (h : Sv d j t m u x Z w0 C M N v vk kb B nk ks none V) : ∃ zz wz, (Instr.buildSlice 87 1 #[(0, .int .u8 0)]).run Tryz.prog V = .ok (.slice (some ⟨zz, 0, none⟩) 1 1) wz ∧ Sv d j t m u x Z w0 C M N v vk kb B nk ks (some zz) wz := by
  have hb := (Below.refl V.heap.size V).alloc (Nat.le_refl _) (.cells #[.int .u8 0] 5)
  have hh := h.below hb
  refine ⟨V.heap.size, V.alloc (.cells #[.int .u8 0] 5), by go_simp, h.bq.go (Chg.of_below hb) (fun g hg => ?_), fun zz hz => ?_, hh.k, hh.row⟩
  · rcases hg with hg | hg
    · injection hg with hg
      exact .inr (by subst hg; simp)
    · exact .inl (.inr hg)
  · injection hz with hz
    subst hz
    exact new_at V (.cells #[.int .u8 0] 5) rfl
theorem Sv.conv {zz : Nat} (h : Sv d j t m u x Z w0 C M N v vk kb B nk ks (some zz) V) : (Go.convert 87 9 (.slice (some ⟨zz, 0, none⟩) 1 1)).run Tryz.prog V = .ok (.string ⟨#[0]⟩) V := conv_zero V zz (by unfold World.cell?; rw [h.z zz rfl]; rfl)
end
def sel {α : Type} (st k : Nat) (a b : α) : α := if st ≤ k then a else b
set_option maxRecDepth 100000 in
set_option maxHeartbeats 8000000 in
theorem save_any {w0 : World × (Nat → Prop)} {W : World} {d j t m u M N i : Nat} {x : Tst} {C : List On} {Z : List It} (a : Option Addr) (n c : Nat) (l : List Et) (old : List ByteArray) (h : Bz d j t m u x Z w0 C M N W) (hx : Xk x) (hT : TabZ w0) (hM : M + 200 ≤ 10000000) (hN : N + 200 ≤ 10000000) (h1 : 1 ≤ i) (h6 : i ≤ 6)
    (he : ∀ V, Chg w0.2 w0.1 V → Ents V a n l) (hnc : n ≤ c) (hcm : c ≤ 9223372036854775807) (ht : tcheck l = 0) (hbk : Ac.bk l ≤ 10000000) (hol : ∀ e, cnt old e ≤ refD C e) (hoz : old.length ≤ 200)
    (hld : ∀ V, Below W.heap.size W V → Calls Tryz.prog 31 #[.pointer (some ⟨u, 0, none⟩), .int .i64 (i : Int)] V fun e w' => ∃ v vk c, e = .returned (.tuple #[.agg #[v, vk], .int .i64 c]) ∧ (∃ a n c, v = .slice a n c) ∧ Texts w' V.heap.size vk (old.map (keyD C)) ∧ Below V.heap.size V w') :
    Calls Tryz.prog 11 #[.pointer (some ⟨u, 0, none⟩), .int .i64 (i : Int), .slice a n c] W fun e w' => e = .returned (.int .i64 0) ∧ Bz d j t m u x (app Z ⟨keyA i, val16 (keyD (putsC C (files l))) l, false⟩) w0 (relsC (putsC C (files l)) old) (M + (files l).length) (N + (files l).length) w' := by
  obtain ⟨hlen, hok⟩ := ok_all ht hbk
  have hln := (he W h.chg).1
  have hfl := Ac.files_len l
  have hgC := h.good
  have hsz : ∀ e ∈ files l, e.size ≤ 140737488351232 := fun e he => by
    obtain ⟨z, hz, _, rfl⟩ := mem_files.1 he
    have := (hok z hz).data
    omega
  have hg1 := putsC_good hgC (files l) hsz
  have hκ : ∀ y ∈ l, y.node.kind = 2 → (keyD (putsC C (files l)) y.node.data).size ≤ 14 := fun y hy hyk => by
    have hh : (of8 (putsC C (files l)) y.node.data).isSome = true := by
      rw [has_ref hg1, (putsC_ref hgC (files l) hsz y.node.data).1]
      have := cnt_pos.2 (mem_files.2 ⟨y, hy, hyk, rfl⟩)
      omega
    obtain ⟨q, hq, _, e, _⟩ := of8_mem hh
    rw [e]
    exact keyO_size hg1 (by omega) hq
  obtain ⟨v1, v2, v3⟩ := val16_size (κ := keyD (putsC C (files l))) ht hbk hκ
  have hck := En.tCheck_any a n c l W (he W h.chg) hnc hcm (by omega) (small_of hok)
  rw [ht] at hck
  have hsp := isSpoke_any (i : Int) W (by omega)
  rw [Ac.may_yes (by omega) (by omega)] at hsp
  have HOLR : Hid (∀ e, cnt old e ≤ refD (putsC C (files l)) e) := Lib.hid (fun e => by rw [(putsC_ref hgC (files l) hsz e).1]; have := hol e; omega)
  have HOK : Hid (∀ e ∈ old, keyD (putsC C (files l)) e = keyD C e) := Lib.hid (fun e he => (putsC_ref hgC (files l) hsz e).2 (by
    rw [has_ref hgC]
    have := hol e
    have := cnt_pos.2 he
    omega))
  have HG1 := Lib.hid hg1
  have HH := Lib.hid h
  have HE := Lib.hid he
  have HT := Lib.hid hT
  have HX := Lib.hid hx
  have HOKK := Lib.hid hok
  have HLD := Lib.hid hld
  have HBK := Lib.hid hbk
  have HV2 := Lib.hid v2
  have HV1 := Lib.hid v1
  have HOZ := Lib.hid hoz
  clear h he hT hx hld hol hgC hsz hg1 hκ hok ht hbk v3 v2 v1 hoz
  go_enter Tryz.func11, Tryz.ntmps11
  go_wp2_with fail
  go_at_call 29
  refine hsp.mono ?_
  rintro e w1 ⟨rfl, rfl⟩
  clear hsp
  go_wp2_with fail
  go_at_call 30
  refine hck.mono ?_
  rintro e w2 ⟨rfl, hb2⟩
  have HB2 := Lib.hid hb2
  have hl2 := HLD.out w2 hb2
  clear hck hb2
  go_wp2_with fail
  go_at_call 31
  refine hl2.mono ?_
  rintro e w3 ⟨v, vk, cc, rfl, ⟨av, nv, cv, rfl⟩, hTx, hb3⟩
  obtain ⟨ak, ck, hvk, _⟩ := hTx.form
  rw [List.length_map] at hvk
  subst hvk
  have hb23 := Tx.below_call HB2.out hb3
  have hbK := (Below.refl w3.heap.size w3).alloc (Nat.le_refl _) (kO (.slice av nv cv) (.slice ak old.length ck))
  have hT3 := hTx.below hbK
  have hbWK := Tx.below_call hb23 hbK
  have hs3 := hb23.size
  have hs2 := HB2.out.size
  have hSV0 : Sv d j t m u x Z w0 C M N (.slice av nv cv) (.slice ak old.length ck) w3.heap.size w2.heap.size old.length ((old.map (keyD C)).map sv) none (w3.alloc (kO (.slice av nv cv) (.slice ak old.length ck))) := by
    refine ⟨(bq_first HH.out).go (Chg.of_below hbWK) (fun g hg => .inr ?_), (fun zz hz => by cases hz), new_at w3 (kO (.slice av nv cv) (.slice ak old.length ck)) rfl, ?_⟩
    · rcases hg with hg | hg | rfl
      · cases hg
      · have := hT3.lt g hg
        exact ⟨by omega, this.2⟩
      · exact ⟨by omega, by simp⟩
    · have := hT3
      unfold Texts at this
      rw [List.length_map] at this
      exact this
  have HSV := Lib.hid (hSV0.below ((Below.refl _ (w3.alloc (kO (.slice av nv cv) (.slice ak old.length ck)))).drew))
  clear hl2 hb3 hb23 hbK hT3 hTx hbWK hSV0
  go_wp2_with fail
  have hpk : (Fm.pk (cat (rpP (keyD (putsC C (files l))) l))).size ≤ 9000000000000 := by
    have h1 := HV2.out
    have h2 := HBK.out
    unfold val16 vz at h1
    rw [ByteArray.size_append] at h1
    omega
  refine Rg.wp_only ?_ (regSaveZ _ (by kernel_rfl) _ u (i : Int) (keyA i) (cat (rpP (keyD (putsC C (files l))) l)) (Fm.pk (cat (rpP (keyD (putsC C (files l))) l))) (.slice a n c) _
    (fun st q V => Sv d j t m u x (sel st 3 Z (app Z ⟨keyA i, val16 (keyD (putsC C (files l))) l, false⟩)) w0 (sel st 1 C (putsC C (files l))) (sel st 1 M (M + (files l).length)) (sel st 1 N (N + (files l).length)) (.slice av nv cv) (.slice ak old.length ck) w3.heap.size w2.heap.size old.length ((old.map (keyD C)).map sv) q V)
    HSV.out (fun st V hV => hV.bld) (fun st zz V hV => hV.conv)
    (fun q V hV => (keyOf_any i V h6 (HT.out V hV.bq.chg)).mono fun e w' ⟨g1, g2⟩ => ⟨g1, hV.below g2⟩)
    (fun q V hV => hV.call HT.out (fun F hF hTF hBz => record_any a n c l hBz HX.out hTF hM hN (fun V' hc => HE.out V' (hV.bq.chg.trans hc hF)) hnc (by omega) HOKK.out HBK.out))
    (fun q V hV => (fPack_any (cat (rpP (keyD (putsC C (files l))) l)) V (by have := HV1.out; have := HBK.out; omega)).mono fun e w' ⟨g1, g2⟩ => ⟨g1, hV.below g2⟩)
    hpk (fun q V hV => hV.call HT.out (fun F hF hTF hBz => bzputA hBz h1 h6 (by show N + (files l).length ≤ _; omega))))
  rintro a' w9 ⟨z8, rfl, q9, hq9⟩
  have hq9 : Sv d j t m u x (app Z ⟨keyA i, val16 (keyD (putsC C (files l))) l, false⟩) w0 (putsC C (files l)) (M + (files l).length) (N + (files l).length) (.slice av nv cv) (.slice ak old.length ck) w3.heap.size w2.heap.size old.length ((old.map (keyD C)).map sv) q9 w9 := hq9
  have k1 : w9.cell? ⟨w3.heap.size, 1, none⟩ = some (.slice ak old.length ck) := by unfold World.cell?; rw [hq9.k]; rfl
  obtain ⟨nk, hnk⟩ : ∃ nk, nk = old.length := ⟨_, rfl⟩
  have HQ9 := Lib.hid hq9
  have HNK := Lib.hid hnk
  have hnk2 : nk ≤ 200 := by rw [hnk]; exact HOZ.out
  rw [← hnk] at k1
  clear hq9 HSV hnk
  go_wp2_with fail
  go_loopw [40] (fun iv wr => ∃ jq : Nat, jq ≤ nk ∧ iv = .int .i64 jq ∧ Bq d j t m u x (app Z ⟨keyA i, val16 (keyD (putsC C (files l))) l, false⟩) w0 (relsC (putsC C (files l)) (old.take jq)) (M + (files l).length) (N + (files l).length) (fun g => (Value.slice ak old.length ck).ownBlock = some g) wr ∧ wr.ownsRow w2.heap.size 9 1 (.slice ak old.length ck) old.length ((old.map (keyD C)).map sv)) (fun iv _ => nk - (intOf iv).toNat)
  case atStart => exact ⟨0, Nat.zero_le _, rfl, HQ9.out.bq.go (Chg.refl _ _) (fun g hg => .inl (.inr (.inl hg))), HQ9.out.row⟩
  case round =>
    obtain ⟨q, hq, rfl, hb, hr⟩ := hrel
    by_cases hlt : q < nk
    · obtain ⟨e, he⟩ : ∃ e, old[q]? = some e := ⟨_, List.getElem?_eq_getElem (by rw [← HNK.out]; exact hlt)⟩
      have hst := strs_row hr
      obtain ⟨bk, off, rfl, hbk, g0⟩ := Strs.at2 hst (x := keyD C e) (by rw [List.getElem?_map, he]; rfl) (by rw [← HNK.out]; exact hlt)
      have hqz : (q : Int) < (nk : Int) := by omega
      obtain ⟨g1, g2, g3⟩ := relsC_at HG1.out HOLR.out he
      have hke : keyD (putsC C (files l)) e = keyD C e := HOK.out e (List.mem_of_getElem? he)
      rw [hke] at g2 g3
      have hks : (keyD C e).size ≤ 14 := by
        obtain ⟨y, hy, _, e2, _⟩ := of8_mem g1
        rw [← g2, e2]
        exact keyO_size (relsC_good HG1.out _) (by omega) hy
      have cr := hb.call HT.out (fun F hF hTF hBz => bzrel (key := keyD C e) hBz (by omega) (by omega) (by omega))
      rw [← g3] at cr
      have HR := Lib.hid hr
      clear hb hr hst g1 g2 g3 he hke
      go_wp2_with fail
      go_at_call 36
      refine cr.mono ?_
      rintro e' w10 ⟨rfl, hb10, hk10, _⟩
      have hr10 := own_kept HR.out (fun g hg => hk10 g hg)
      clear cr hk10
      go_wp2_with fail
      go_roundw
      case rel => exact ⟨q + 1, by omega, by go_num, hb10, hr10⟩
      case measure => simp [intOf]; omega
    · obtain rfl : q = nk := by omega
      rw [List.take_of_length_le (by rw [← HNK.out]; exact Nat.le_refl _)] at hb
      have HB := Lib.hid hb.bz
      clear hb hr
      go_wp2_with fail
      go_ret
      exact ⟨rfl, HB.out⟩
end Go.Proofs.YtdkgkomjbpggeaaGreatDoor.Az

namespace Go.Proofs.YtdkgkomjbpggeaaGreatDoor.Az
open Go.RowKit Go.ChangeShapes Go.WideShapes Tx Pm Dk Wm Wr Wl Pl Tb Bl Fm
open Fr hiding sv Texts cnt cnt_snoc
open En (Et tcheck Ents)
open Ac (files)
set_option linter.unusedVariables false
set_option linter.unusedSimpArgs false
set_option linter.unnecessarySimpa false
set_option maxRecDepth 100000 in
set_option maxHeartbeats 4000000 in
theorem turn_any {w0 : World × (Nat → Prop)} {W : World} {d j t m u M N i : Nat} {x : Tst} {C : List On} {Z : List It} {vals : Nat → Option ByteArray} {v : ByteArray} (bit : Int) (h : Bz d j t m u x Z w0 C M N W) (hz : Zr Z vals) (hT : TabZ w0) (hN : N ≤ 10000000) (h1 : 1 ≤ i) (h6 : i ≤ 6)
    (hv : vals i = some v) (hv0 : 0 < v.size) (hvs : v.size ≤ 100000000) (hb1 : -9223372036854775808 ≤ bit) (hb2 : bit ≤ 9223372036854775807) (hbad : Bad (inv (Fr.tn v bit))) :
    Calls Tryz.prog 15 #[.pointer (some ⟨u, 0, none⟩), .int .i64 (i : Int), .int .i64 bit] W fun e w' => e = .returned (.int .i64 0) ∧ Bz d j t m u x (app Z ⟨keyA i, Fr.tn v bit, false⟩) w0 C M N w' := by
  have hsp := isSpoke_any (i : Int) W (by omega)
  rw [Ac.may_yes (by omega) (by omega)] at hsp
  have ck := fun V (hV : Below W.heap.size W V) => keyOf_any i V h6 ((hT W h.chg).below hV)
  obtain ⟨s, hs, cg⟩ := bzgetA h hz h1 h6
  obtain rfl := hs v hv
  rw [hv, Option.isSome_some] at cg
  have hts := tn_size s bit
  have ct := fun V => fTurn_any s bit V (by omega) hb1 hb2
  have ci := fun V => invert_any (Fr.tn s bit) V (by omega) (by omega)
  have hil : (inv (Fr.tn s bit)).size ≤ 100000000 := by rw [inv_size (by omega)]; omega
  have cr := fun V => read_bad u (inv (Fr.tn s bit)) V hbad hil
  have HH := Lib.hid h
  have HT := Lib.hid hT
  clear h hz hT hs hv hbad
  generalize inv (Fr.tn s bit) = iv at *
  generalize Fr.tn s bit = tv at *
  unfold nilK at cr
  go_enter Tryz.func15, Tryz.ntmps15
  go_wp2_with fail
  go_at_call 29
  refine hsp.mono ?_
  rintro e w1 ⟨rfl, rfl⟩
  have ck1 := ck _ (Below.refl _ _)
  clear hsp
  go_wp2_with fail
  go_at_call 33
  refine ck1.mono ?_
  rintro e w2 ⟨rfl, b2⟩
  have cg2 := cg _ b2
  have HB2 := Lib.hid b2
  clear ck1 b2 cg
  go_wp2_with fail
  go_at_call 38
  refine cg2.mono ?_
  rintro e w3 ⟨rfl, b3⟩
  have HB3 := Lib.hid (Tx.below_call HB2.out b3)
  have ct3 := ct w3
  clear cg2 b3 ct
  go_wp2_with fail
  go_at_call 39
  refine ct3.mono ?_
  rintro e w4 ⟨rfl, b4⟩
  have HB4 := Lib.hid (Tx.below_call HB3.out b4)
  have ci4 := ci w4
  clear ct3 b4 ci
  go_wp2_with fail
  go_at_call 41
  refine ci4.mono ?_
  rintro e w5 ⟨rfl, b5⟩
  have HB5 := Lib.hid (Tx.below_call HB4.out b5)
  have cr5 := cr w5
  clear ci4 b5 cr
  go_wp2_with fail
  go_at_call 40
  refine cr5.mono ?_
  rintro e w6 ⟨rfl, b6⟩
  have b7 := Tx.below_call (Tx.below_call HB5.out b6) ((Below.refl w6.heap.size w6).alloc (Nat.le_refl _) (kO (.slice none 0 0) (.slice none 0 0)))
  have ck7 := ck _ b7
  have HB7 := Lib.hid b7
  clear cr5 b6 b7 ck
  go_wp2_with fail
  go_at_call 33
  refine ck7.mono ?_
  rintro e w8 ⟨rfl, b8⟩
  have cp := bzputA (v := tv) (HH.out.below (Tx.below_call HB7.out b8)) h1 h6 (by omega)
  clear ck7 b8
  go_wp2_with fail
  go_at_call 32
  refine cp.mono ?_
  rintro e w9 ⟨rfl, hb9⟩
  go_wp2_with fail
  go_ret
  exact ⟨rfl, hb9⟩
def unc (v : ByteArray) : ByteArray := if pop8 (lastB v).toNat ≤ 4 then inv v else v
theorem unc_size {v : ByteArray} (h : 0 < v.size) : (unc v).size = v.size := by
  unfold unc
  split
  · exact inv_size h
  · rfl
theorem pop_full {x : UInt8} (h : pop8 x.toNat ≤ 4) : x ≠ 255 := fun e => by
  subst e
  revert h
  decide
theorem unc_bad {v : ByteArray} (h : Bad v) (h0 : 0 < v.size) : Bad (unc v) := by
  unfold unc
  split
  · rename_i hp
    exact inv_bad h0 (pop_full hp)
  · exact h
set_option maxRecDepth 100000 in
set_option maxHeartbeats 4000000 in
theorem uncount_any {w0 : World × (Nat → Prop)} {W : World} {d j t m u M N i : Nat} {x : Tst} {C : List On} {Z : List It} {vals : Nat → Option ByteArray} {v : ByteArray} (h : Bz d j t m u x Z w0 C M N W) (hz : Zr Z vals) (hT : TabZ w0) (hN : N ≤ 10000000) (h1 : 1 ≤ i) (h6 : i ≤ 6)
    (hv : vals i = some v) (hv0 : 0 < v.size) (hvs : v.size ≤ 100000000) :
    Calls Tryz.prog 44 #[.pointer (some ⟨u, 0, none⟩), .int .i64 (i : Int)] W fun e w' => e = .returned (.tuple #[]) ∧ ∃ Z', Zr Z' (Ac.upd vals i (some (unc v))) ∧ Bz d j t m u x Z' w0 C M N w' := by
  have ck := fun V (hV : Below W.heap.size W V) => keyOf_any i V h6 ((hT W h.chg).below hV)
  obtain ⟨s, hs, cg⟩ := bzgetA h hz h1 h6
  obtain rfl := hs v hv
  rw [hv, Option.isSome_some] at cg
  have ci := fun V => invert_any s V hv0 hvs
  obtain ⟨n, hn⟩ : ∃ n, s.size = n + 1 := ⟨s.size - 1, by omega⟩
  have hnl : n < s.size := by omega
  have hlb : lastB s = s[n] := by
    unfold lastB
    rw [show s.size - 1 = n by omega, List.getD_eq_getElem?_getD, List.getElem?_eq_getElem (by rw [Wm.len_l]; exact hnl)]
    rfl
  have co := fun V => ones_any (s[n]) V
  have e1 : (s.size : Int) - 1 = (n : Int) := by omega
  have hs1 : (1 : Int) ≤ (s.size : Int) := by omega
  have HH := Lib.hid h
  have HZ := Lib.hid hz
  have HU : Hid (unc s = if pop8 (s[n]).toNat ≤ 4 then inv s else s) := Lib.hid (by unfold unc; rw [hlb])
  have HV := Lib.hid hv
  clear h hz hT hs hv hn hlb
  obtain ⟨pp, hpp⟩ : ∃ pp, pp = pop8 (s[n]).toNat := ⟨_, rfl⟩
  rw [← hpp] at HU
  simp only [← hpp] at co
  clear hpp
  by_cases hp : pp ≤ 4
  · have HU2 : Hid (unc s = inv s) := Lib.hid (by rw [HU.out, if_pos hp])
    have hpz : (pp : Int) ≤ 4 := by omega
    generalize inv s = iv at *
    go_enter Tryz.func44, Tryz.ntmps44
    go_wp2_with fail
    go_at_call 33
    refine (ck _ (Below.refl _ _)).mono ?_
    rintro e w2 ⟨rfl, b2⟩
    have cg2 := cg _ b2
    have HB2 := Lib.hid b2
    clear b2 cg
    go_wp2_with fail
    go_at_call 38
    refine cg2.mono ?_
    rintro e w3 ⟨rfl, b3⟩
    have HB3 := Lib.hid (Tx.below_call HB2.out b3)
    have co3 := co w3
    clear cg2 b3 co
    go_wp2_with fail
    go_at_call 79
    refine co3.mono ?_
    rintro e w4 ⟨rfl, rfl⟩
    clear co3
    have ck3 := ck _ HB3.out
    have ci3 := ci
    clear ck ci
    go_wp2_with fail
    go_at_call 33
    refine ck3.mono ?_
    rintro e w5 ⟨rfl, b5⟩
    have HB5 := Lib.hid (Tx.below_call HB3.out b5)
    have ci5 := ci3 w5
    clear ck3 b5 ci3
    go_wp2_with fail
    go_at_call 41
    refine ci5.mono ?_
    rintro e w6 ⟨rfl, b6⟩
    have cp := bzputA (v := iv) (HH.out.below (Tx.below_call HB5.out b6)) h1 h6 (by omega)
    clear ci5 b6
    go_wp2_with fail
    go_at_call 32
    refine cp.mono ?_
    rintro e w9 ⟨rfl, hb9⟩
    go_wp2_with fail
    go_end0
    rw [HU2.out]
    exact ⟨rfl, _, zr_put HZ.out _ h1 h6, hb9⟩
  · have HU2 : Hid (unc s = s) := Lib.hid (by rw [HU.out, if_neg hp])
    have hpz : ¬ (pp : Int) ≤ 4 := by omega
    clear ci
    go_enter Tryz.func44, Tryz.ntmps44
    go_wp2_with fail
    go_at_call 33
    refine (ck _ (Below.refl _ _)).mono ?_
    rintro e w2 ⟨rfl, b2⟩
    have cg2 := cg _ b2
    have HB2 := Lib.hid b2
    clear b2 cg
    go_wp2_with fail
    go_at_call 38
    refine cg2.mono ?_
    rintro e w3 ⟨rfl, b3⟩
    have HB3 := Lib.hid (Tx.below_call HB2.out b3)
    have co3 := co w3
    clear cg2 b3 co
    go_wp2_with fail
    go_at_call 79
    refine co3.mono ?_
    rintro e w4 ⟨rfl, rfl⟩
    clear co3
    clear ck
    go_wp2_with fail
    go_end0
    refine ⟨rfl, Z, ?_, HH.out.below HB3.out⟩
    have e2 : Ac.upd vals i (some (unc s)) = vals := by
      funext k
      unfold Ac.upd
      split
      · rename_i hk
        rw [hk, HU2.out, HV.out]
      · rfl
    rw [e2]
    exact HZ.out
end Go.Proofs.YtdkgkomjbpggeaaGreatDoor.Az

namespace Go.Proofs.YtdkgkomjbpggeaaGreatDoor.Az
open Go.RowKit Go.ChangeShapes Go.WideShapes Tx Pm Dk Wm Wr Wl Pl Tb Bl Fm
open Fr hiding sv Texts cnt cnt_snoc
open En (Et tcheck Ents)
open Ac (files)
set_option linter.unusedVariables false
set_option linter.unusedSimpArgs false
set_option linter.unnecessarySimpa false
inductive Vk (C : List On) : Option ByteArray → List ByteArray → Nat → Prop
  | none : Vk C none [] 11
  | bad {v : ByteArray} : Bad v → 0 < v.size → v.size ≤ 100000000 → Vk C (some v) [] 6
  | ok {l : List Et} : tcheck l = 0 → Ac.bk l ≤ 10000000 → (∀ e ∈ files l, (of8 C e).isSome = true) → Vk C (some (val16 (keyD C) l)) (files l) 0
theorem Vk.there {C : List On} {v : Option ByteArray} {l : List ByteArray} {e : Nat} (h : Vk C v l e) : ∀ x ∈ l, (of8 C x).isSome = true := by
  cases h with
  | none => exact fun x hx => by cases hx
  | bad _ _ _ => exact fun x hx => by cases hx
  | ok _ _ h => exact h
theorem Vk.len {C : List On} {v : Option ByteArray} {l : List ByteArray} {e : Nat} (h : Vk C v l e) : l.length ≤ 200 := by
  cases h with
  | none => exact Nat.zero_le _
  | bad _ _ _ => exact Nat.zero_le _
  | ok h1 h2 _ =>
    have := (ok_all h1 h2).1
    have := Ac.files_len ‹List Et›
    omega
theorem Vk.six {C : List On} {v : Option ByteArray} {l : List ByteArray} {e : Nat} (h : Vk C v l e) (he : e = 6) : ∃ vv, v = some vv ∧ 0 < vv.size ∧ vv.size ≤ 100000000 := by
  cases h with
  | none => cases he
  | bad _ k2 k3 => exact ⟨_, rfl, k2, k3⟩
  | ok _ _ _ => cases he
theorem load_vk {w0 : World × (Nat → Prop)} {W : World} {d j t m u M N i e : Nat} {x : Tst} {C : List On} {Z : List It} {vals : Nat → Option ByteArray} {old : List ByteArray} (h : Bz d j t m u x Z w0 C M N W) (hz : Zr Z vals) (hT : TabZ w0) (hM : M ≤ 10000000) (h1 : 1 ≤ i) (h6 : i ≤ 6) (hk : Vk C (vals i) old e) :
    Calls Tryz.prog 31 #[.pointer (some ⟨u, 0, none⟩), .int .i64 (i : Int)] W fun en w' => ∃ v vk, en = .returned (.tuple #[.agg #[v, vk], .int .i64 (e : Nat)]) ∧ (∃ a n c, v = .slice a n c) ∧ Texts w' W.heap.size vk (old.map (keyD C)) ∧ Below W.heap.size W w' := by
  obtain ⟨s, hs, cg⟩ := bzgetA h hz h1 h6
  have hTW : Tab W := hT W h.chg
  cases hv : vals i with
  | none =>
    rw [hv] at hk cg
    cases hk
    refine (load_none h6 hTW cg).mono fun en w' ⟨he, hb⟩ => ⟨_, _, he, ⟨_, _, _, rfl⟩, World.ownsRow_nil _ _ _ _, hb⟩
  | some v =>
    obtain rfl := hs v hv
    rw [hv] at hk cg
    cases hk with
    | bad k1 k2 k3 => exact (load_bad h6 hTW k1 k3 cg).mono fun en w' ⟨he, hb⟩ => ⟨_, _, he, ⟨_, _, _, rfl⟩, World.ownsRow_nil _ _ _ _, hb⟩
    | @ok l k1 k2 k3 =>
      have hg := h.good
      have hat : ∀ y ∈ l, y.node.kind = 2 → ∃ q, at8 C (keyD C y.node.data) = some q ∧ q.data = y.node.data ∧ (keyD C y.node.data).size ≤ 14 := fun y hy hyk => by
        have hh := k3 _ (mem_files.2 ⟨y, hy, hyk, rfl⟩)
        obtain ⟨q, e1, _, e3⟩ := at8_data hg hh
        obtain ⟨r, hr, _, e5, _⟩ := of8_mem hh
        exact ⟨q, e1, e3, by rw [e5]; exact keyO_size hg (by omega) hr⟩
      refine (load_ok h6 hTW k1 (fun y hy hyk => by obtain ⟨_, _, _, e⟩ := hat y hy hyk; exact e) k2 (fun y hy hyk V hV => ?_) cg).mono fun en w' ⟨v, vk, he, ho, ht, hb⟩ => ?_
      · obtain ⟨q, e1, e2, e3⟩ := hat y hy hyk
        have c := bzget (key := keyD C y.node.data) (h.below hV) (by omega) (by omega)
        rw [e1] at c
        simp only [e2] at c
        exact c
      · obtain ⟨a, c, rfl, _⟩ := ho.form
        exact ⟨_, _, he, ⟨_, _, _, rfl⟩, ht, hb⟩
def uncV (vals : Nat → Option ByteArray) (es : Nat → Nat) (n : Nat) : Nat → Option ByteArray := fun k => if 1 ≤ k ∧ k ≤ n ∧ es k = 6 then (vals k).map unc else vals k
theorem uncV_succ (vals : Nat → Option ByteArray) (es : Nat → Nat) (n : Nat) : uncV vals es (n + 1) = if es (n + 1) = 6 then Ac.upd (uncV vals es n) (n + 1) ((vals (n + 1)).map unc) else uncV vals es n := by
  funext k
  by_cases h6 : es (n + 1) = 6
  · rw [if_pos h6]
    unfold uncV Ac.upd
    by_cases hk : k = n + 1
    · subst hk
      rw [if_pos ⟨by omega, by omega, h6⟩, if_pos rfl]
    · rw [if_neg hk]
      show (if 1 ≤ k ∧ k ≤ n + 1 ∧ es k = 6 then (vals k).map unc else vals k) = (if 1 ≤ k ∧ k ≤ n ∧ es k = 6 then (vals k).map unc else vals k)
      by_cases hc : 1 ≤ k ∧ k ≤ n ∧ es k = 6
      · rw [if_pos hc, if_pos ⟨hc.1, by omega, hc.2.2⟩]
      · rw [if_neg hc, if_neg (fun h => hc ⟨h.1, by omega, h.2.2⟩)]
  · rw [if_neg h6]
    unfold uncV
    by_cases hc : 1 ≤ k ∧ k ≤ n ∧ es k = 6
    · rw [if_pos hc, if_pos ⟨hc.1, by omega, hc.2.2⟩]
    · rw [if_neg hc, if_neg (fun h => hc ⟨h.1, by
        rcases Nat.lt_or_ge k (n + 1) with hh | hh
        · omega
        · have : k = n + 1 := by omega
          subst this
          exact absurd h.2.2 h6, h.2.2⟩)]
theorem uncV_at (vals : Nat → Option ByteArray) (es : Nat → Nat) (n : Nat) : uncV vals es n (n + 1) = vals (n + 1) := by
  unfold uncV
  rw [if_neg (by omega)]
theorem Bq.callZ {w0 : World × (Nat → Prop)} {V : World} {d j t m u M N M' N' : Nat} {x : Tst} {C C' : List On} {Z : List It} {Q : Nat → Prop} {R : List It → Prop} {f : FuncId} {args : Array Value} {P : Ending → Prop} (h : Bq d j t m u x Z w0 C M N Q V) (hT : TabZ w0) (hc : ∀ F, (∀ i, F i → w0.2 i ∨ w0.1.heap.size ≤ i) → TabZ (V, F) → Bz d j t m u x Z (V, F) C M N V → Calls Tryz.prog f args V fun e w' => P e ∧ ∃ Z', R Z' ∧ Bz d j t m u x Z' (V, F) C' M' N' w') :
    Calls Tryz.prog f args V fun e w' => P e ∧ ∃ Z', R Z' ∧ Bq d j t m u x Z' w0 C' M' N' Q w' ∧ (∀ i, Q i → w'.heap[i]? = V.heap[i]?) ∧ V.heap.size ≤ w'.heap.size := by
  obtain ⟨F, h1, h2, h3, h4, h5⟩ := h
  refine (hc F h1 (fun V2 hV => hT V2 (h3.trans hV h1)) (h4 V (fun _ _ => rfl))).mono fun e w' ⟨hp, Z', hr, hb⟩ => ⟨hp, Z', hr, ?_, ?_, hb.chg.size⟩
  · obtain ⟨F', k1, k2, k3⟩ := bz_freshF hb
    have hcg := hb.chg
    have hs := hcg.size
    refine ⟨F', fun i hi => ?_, k2, h3.trans hcg h1, k3, fun i hi => ⟨Nat.lt_of_lt_of_le (h5 i hi).1 hs, fun hf => ?_, (h5 i hi).2.2⟩⟩
    · rcases k1 i hi with hh | hh
      · exact h1 i hh
      · exact .inr (Nat.le_trans h3.size hh)
    · rcases k1 i hf with hh | hh
      · exact (h5 i hi).2.1 hh
      · have := (h5 i hi).1
        have hh : V.heap.size ≤ i := hh
        omega
  · intro i hi
    exact hb.chg.block i (h5 i hi).1 (h5 i hi).2.1
theorem Bq.rowAt {w0 : World × (Nat → Prop)} {V V' : World} {d j t m u M N B n : Nat} {x : Tst} {C : List On} {Z : List It} {Q Q' : Nat → Prop} {v v' : Value} {xs : List Value} (h : Bq d j t m u x Z w0 C M N Q V) (ho : V'.ownsRow B 9 1 v' n xs)
    (hg : V.grownBy V' v.ownBlock) (hat : v'.ownBlock = v.ownBlock ∨ v'.ownBlock = some V.heap.size) (hQ : ∀ g, v.ownBlock = some g → Q g) (hQ' : ∀ g, Q' g → Q g ∨ v'.ownBlock = some g) : Bq d j t m u x Z w0 C M N Q' V' := by
  have hc : Chg Q V V' := ⟨hg.os, hg.tape, hg.output, hg.size, fun i hi hn => hg.block i hi (fun e => hn (hQ i e.symm))⟩
  refine h.go hc (fun i hi => ?_)
  rcases hQ' i hi with hh | hh
  · exact .inl hh
  · rcases hat with e | e
    · exact .inl (hQ i (by rw [← e]; exact hh))
    · rw [e] at hh
      injection hh with hh
      have := (ho.lt i (by rw [e, hh])).2
      exact .inr ⟨by omega, this⟩
theorem heldK_succL (κ : ByteArray → ByteArray) (f : Nat → List ByteArray) (n : Nat) : (heldK κ f (n + 1)).map sv = (heldK κ f n).map sv ++ ((f (n + 1)).map κ).map sv := by rw [heldK_succ, List.map_append]
set_option maxRecDepth 100000 in
set_option maxHeartbeats 8000000 in
theorem forget_any {w0 : World × (Nat → Prop)} {W : World} {d j t m u M N i : Nat} {x : Tst} {C : List On} {Z : List It} {vals : Nat → Option ByteArray} {old : Nat → List ByteArray} {es : Nat → Nat} (h : Bz d j t m u x Z w0 C M N W) (hx : Xk x) (hz : Zr Z vals) (hT : TabZ w0) (hM : M ≤ 1000000) (hN : N ≤ 1000000) (h1 : 1 ≤ i) (h6 : i ≤ 6)
    (hk : ∀ n, 1 ≤ n → n ≤ 6 → Vk C (Ac.upd vals i none n) (old n) (es n)) (ho : ∀ n, (old n).length ≤ 200) :
    Calls Tryz.prog 16 #[.pointer (some ⟨u, 0, none⟩), .int .i64 (i : Int)] W fun e w' => e = .returned (.int .i64 0) ∧ ∃ Z', Zr Z' (uncV (Ac.upd vals i none) es 6) ∧ Bz d j t m u x Z' w0 (swC C (heldK (keyD C) old 6)) (M + (heldK (keyD C) old 6).length) N w' := by
  have hsp := isSpoke_any (i : Int) W (by omega)
  rw [Ac.may_yes (by omega) (by omega)] at hsp
  have ck := keyOf_any i W h6 (hT W h.chg)
  obtain ⟨vs0, hvs0⟩ : ∃ vs0, vs0 = Ac.upd vals i none := ⟨_, rfl⟩
  have HZD := Lib.hid (hvs0 ▸ zr_drop hz h1 h6)
  rw [← hvs0] at hk ⊢
  have HH := Lib.hid h
  have HT := Lib.hid hT
  have HX := Lib.hid hx
  have HK := Lib.hid hk
  have HO := Lib.hid ho
  have hB0 := h.chg.size
  clear h hz hT hx hk ho hvs0
  go_enter Tryz.func16, Tryz.ntmps16
  go_wp2_with fail
  go_at_call 29
  refine hsp.mono ?_
  rintro e w1 ⟨rfl, rfl⟩
  clear hsp
  go_wp2_with fail
  go_at_call 33
  refine ck.mono ?_
  rintro e w2 ⟨rfl, b2⟩
  have cd := bzdropA (HH.out.below b2) h1 h6 (by omega)
  clear ck b2
  go_wp2_with fail
  go_at_call 43
  refine cd.mono ?_
  rintro e w3 ⟨rfl, hb3⟩
  have HQ3 := Lib.hid (bq_first hb3)
  have HS3 := Lib.hid hb3.chg.size
  clear cd hb3
  go_wp2_with fail
  go_loopw [5, 6] (fun hv ov wr => ∃ (n k : Nat) (Zn : List It), n ≤ 6 ∧ ov = .int .i64 (n + 1 : Nat) ∧ Zr Zn (uncV vs0 es n) ∧ Bq d j t m u x Zn w0 C M N (fun g => hv.ownBlock = some g) wr ∧ Hid (k = (heldK (keyD C) old n).length) ∧ k ≤ n * 200 ∧ wr.ownsRow w3.heap.size 9 1 hv k ((heldK (keyD C) old n).map sv) ∧ w3.heap.size ≤ wr.heap.size) (fun _ ov _ => 7 - (intOf ov).toNat)
  case atStart =>
    refine ⟨0, 0, _, by omega, rfl, ?_, HQ3.out.go (Chg.refl _ _) (fun g hg => by cases hg), rfl, by omega, World.ownsRow_nil _ _ _ _, Nat.le_refl _⟩
    have e : uncV vs0 es 0 = vs0 := by
      funext q
      unfold uncV
      rw [if_neg (by omega)]
    rw [e]
    exact HZD.out
  case round =>
    clear HQ3
    obtain ⟨n, k, Zn, hn, rfl, hzn, hq, hkl, hkb, hrow, hsz⟩ := hrel
    by_cases hlt : n < 6
    · have hvk := HK.out (n + 1) (by omega) (by omega)
      have hvk2 : Vk C (uncV vs0 es n (n + 1)) (old (n + 1)) (es (n + 1)) := by rw [uncV_at]; exact hvk
      have cl := load_vk hq.bz hzn HT.out (by omega) (by omega) (by omega) hvk2
      have hnz : ((n + 1 : Nat) : Int) ≤ 6 := by omega
      have HRW := Lib.hid hrow
      have HQ := Lib.hid hq
      have HZN := Lib.hid hzn
      clear hq hrow hzn
      go_wp2_with fail
      go_at_call 31
      refine cl.mono ?_
      rintro e w4 ⟨v, vk, rfl, ⟨av, nv, cv, rfl⟩, hTx, hb4⟩
      obtain ⟨ak, ck, hvf, _⟩ := hTx.form
      rw [List.length_map] at hvf
      subst hvf
      obtain ⟨mo, hmo⟩ : ∃ mo, mo = (old (n + 1)).length := ⟨_, rfl⟩
      have hmo2 : mo ≤ 200 := by rw [hmo]; exact HO.out _
      rw [← hmo] at hTx ⊢
      have HMO := Lib.hid hmo
      have hbK := (Below.refl w4.heap.size w4).alloc (Nat.le_refl _) (kO (.slice av nv cv) (.slice ak mo ck))
      have hbWK := Tx.below_call hb4 hbK
      have hT4 := hTx.below hbK
      have hvr4 : (w4.alloc (kO (.slice av nv cv) (.slice ak mo ck))).ownsRow wr.heap.size 9 1 (.slice ak mo ck) mo (((old (n + 1)).map (keyD C)).map sv) := by
        have := hT4
        unfold Texts at this
        rw [List.length_map, ← hmo] at this
        exact this
      have hq4 : Bq d j t m u x Zn w0 C M N (fun g => u5.ownBlock = some g ∨ (Value.slice ak mo ck).ownBlock = some g ∨ g = w4.heap.size) (w4.alloc (kO (.slice av nv cv) (.slice ak mo ck))) := HQ.out.go (Chg.of_below hbWK) (fun g hg => by
        rcases hg with hg | hg | rfl
        · exact .inl hg
        · have := hvr4.lt g hg
          exact .inr ⟨this.1, this.2⟩
        · exact .inr ⟨hb4.size, by simp⟩)
      have hr4 := own_kept HRW.out (fun g hg => hbWK.block g (HRW.out.lt g hg).2)
      have hkb4 := new_at w4 (kO (.slice av nv cv) (.slice ak mo ck)) (g := w4.heap.size) rfl
      have hs4 : w3.heap.size ≤ (w4.alloc (kO (.slice av nv cv) (.slice ak mo ck))).heap.size := Nat.le_trans hsz hbWK.size
      clear cl hTx hb4 hbK hbWK hT4 hmo
      by_cases he6 : es (n + 1) = 6
      · obtain ⟨vv, hvv, hv0, hvs⟩ := hvk.six he6
        have hezz : ((es (n + 1) : Nat) : Int) = 6 := by omega
        have cu := hq4.callZ HT.out (fun F hF hTF hBz => uncount_any (i := n + 1) hBz HZN.out hTF (by omega) (by omega) (by omega) (by rw [uncV_at]; exact hvv) hv0 hvs)
        have hvs2 : Ac.upd (uncV vs0 es n) (n + 1) (some (unc vv)) = uncV vs0 es (n + 1) := by rw [uncV_succ, if_pos he6, hvv]; rfl
        rw [hvs2] at cu
        have HR4 := Lib.hid hr4
        have HV4 := Lib.hid hvr4
        have HK4 := Lib.hid hkb4
        have HS4 := Lib.hid hs4
        rw [he6]
        clear hr4 hvr4 hkb4 hs4 hq4 hvk hvk2
        go_wp2_with fail
        go_at_call 44
        refine cu.mono ?_
        rintro e w5 ⟨rfl, Z5, hz5, hq5, hk5, hs45⟩
        have hr5 := own_kept HR4.out (fun g hg => hk5 g (.inl hg))
        have hvr5 := own_kept HV4.out (fun g hg => hk5 g (.inr (.inl hg)))
        have hkb5 := (hk5 _ (.inr (.inr rfl))).trans HK4.out
        have hs5 := Nat.le_trans HS4.out hs45
        clear cu hk5 hs45
        have hk1 : w5.cell? ⟨w4.heap.size, 1, none⟩ = some (.slice ak mo ck) := by unfold World.cell?; rw [hkb5]; rfl
        obtain ⟨iS, hS, hS0, hS1, hS2⟩ := info_parts infoSt
        have hk8 : (k + mo) * 16 ≤ 140737488355328 := by omega
        have HSTK := Lib.hid (strs_row hvr5)
        have hrr := hr5
        cases ak with
        | none =>
          have hm0 : mo = 0 := HSTK.out.2.elim id (fun ⟨b, off, e, _⟩ => by cases e)
          have hck : ck = 0 := by
            rcases hvr5.2 with ⟨e, _⟩ | ⟨g, cap, cur, e, _⟩
            · injection e
            · injection e with e1 _ _
              cases e1
          subst hck
          have hnil : old (n + 1) = [] := List.eq_nil_of_length_eq_zero (by rw [← HMO.out]; exact hm0)
          have HQ6 : Hid (Bq d j t m u x Z5 w0 C M N (fun g => u5.ownBlock = some g) w5) := Lib.hid (hq5.go (Chg.refl _ _) (fun g hg => .inl (.inl hg)))
          have HR6 : Hid (w5.ownsRow w3.heap.size 9 1 u5 k ((heldK (keyD C) old (n + 1)).map sv)) := Lib.hid (by rw [heldK_succL, hnil]; simpa using hr5)
          have HL6 : Hid (k = (heldK (keyD C) old (n + 1)).length) := Lib.hid (by rw [heldK_succ, hnil, hkl.out]; simp)
          clear hq5 hr5 hvr5 hkb5 hnil
          subst hm0
          go_wp2_with (at_builtin; refine wpList_append_own_none rfl (.tmp 31) (.tmp 33) 52 rfl w3.heap.size 9 iS 1 Tryz.underlying52 hS _ _ _ rfl hrr rfl ?_)
          go_wp2_with fail
          go_roundw
          case rel => exact ⟨n + 1, k, Z5, by omega, by go_num, hz5, HQ6.out, HL6.out, by omega, HR6.out, hs5⟩
          case measure => simp [intOf]; omega
        | some ad =>
          go_wp2_with (at_builtin; refine wpList_append_own_at _ rfl (.tmp 31) (.tmp 33) 52 rfl w3.heap.size 9 iS (.string ⟨#[]⟩) 1 16 Tryz.underlying52 hS hS0 hS1 hS2 rfl (by decide) _ _ _ rfl hrr ad mo ck (((old (n + 1)).map (keyD C)).map sv) rfl ?c1 ?c2 ?c3 ?c4 ?c5 ?c6 ?_)
          case c1 => rw [List.length_map, List.length_map, ← HMO.out, Nat.mul_one]
          case c2 =>
            intro q v hv
            rw [List.getElem?_map] at hv
            obtain ⟨y, hy, rfl⟩ := Option.map_eq_some_iff.1 hv
            rcases HSTK.out.2 with h0 | ⟨bk, off, e, _, g0⟩
            · have hq := (List.getElem?_eq_some_iff.1 hy).1
              rw [List.length_map, ← HMO.out, h0] at hq
              omega
            · injection e with e
              subst e
              rw [WideShapes.add_plain]
              exact g0 q y hy
          case c3 => exact Tx.sv_one _
          case c4 => unfold maxLen; omega
          case c5 => exact hk8
          case c6 => exact hs5
          intro v6 w6 hr6 hg6 _ hat6
          obtain ⟨a6, c6, rfl⟩ := row_form hr6
          have HQ6 : Hid (Bq d j t m u x Z5 w0 C M N (fun g => (Value.slice a6 (k + mo) c6).ownBlock = some g) w6) := Lib.hid (hq5.rowAt hr6 hg6 hat6 (fun g hg => .inl hg) (fun g hg => .inr hg))
          have HR6 : Hid (w6.ownsRow w3.heap.size 9 1 (.slice a6 (k + mo) c6) (k + mo) ((heldK (keyD C) old (n + 1)).map sv)) := Lib.hid (by rw [heldK_succL, List.map_map]; exact hr6)
          have HL6 : Hid (k + mo = (heldK (keyD C) old (n + 1)).length) := Lib.hid (by rw [heldK_succ, List.length_append, List.length_map, ← hkl.out, ← HMO.out])
          have hs6 : w3.heap.size ≤ w6.heap.size := Nat.le_trans hs5 hg6.size
          clear hq5 hr5 hr6 hg6 hat6 hvr5 hkb5 hrr
          go_wp2_with fail
          go_roundw
          case rel => exact ⟨n + 1, k + mo, Z5, by omega, by go_num, hz5, HQ6.out, HL6.out, by omega, HR6.out, hs6⟩
          case measure => simp [intOf]; omega
      · have hezz : ¬ ((es (n + 1) : Nat) : Int) = 6 := by omega
        have hez2 : (((es (n + 1) : Nat) : Int) == 6) = false := by simpa using hezz
        have hz5 : Zr Zn (uncV vs0 es (n + 1)) := by rw [uncV_succ, if_neg he6]; exact HZN.out
        have hq5 := hq4
        have hr5 := hr4
        have hvr5 := hvr4
        have hkb5 := hkb4
        have hs5 := hs4
        clear hr4 hvr4 hkb4 hs4 hq4 hvk hvk2
        have hk1 : (w4.alloc (kO (.slice av nv cv) (.slice ak mo ck))).cell? ⟨w4.heap.size, 1, none⟩ = some (.slice ak mo ck) := by unfold World.cell?; rw [hkb5]; rfl
        obtain ⟨iS, hS, hS0, hS1, hS2⟩ := info_parts infoSt
        have hk8 : (k + mo) * 16 ≤ 140737488355328 := by omega
        have HSTK := Lib.hid (strs_row hvr5)
        have hrr := hr5
        cases ak with
        | none =>
          have hm0 : mo = 0 := HSTK.out.2.elim id (fun ⟨b, off, e, _⟩ => by cases e)
          have hck : ck = 0 := by
            rcases hvr5.2 with ⟨e, _⟩ | ⟨g, cap, cur, e, _⟩
            · injection e
            · injection e with e1 _ _
              cases e1
          subst hck
          have hnil : old (n + 1) = [] := List.eq_nil_of_length_eq_zero (by rw [← HMO.out]; exact hm0)
          have HQ6 : Hid (Bq d j t m u x Zn w0 C M N (fun g => u5.ownBlock = some g) (w4.alloc (kO (.slice av nv cv) (.slice none mo 0)))) := Lib.hid (hq5.go (Chg.refl _ _) (fun g hg => .inl (.inl hg)))
          have HR6 : Hid ((w4.alloc (kO (.slice av nv cv) (.slice none mo 0))).ownsRow w3.heap.size 9 1 u5 k ((heldK (keyD C) old (n + 1)).map sv)) := Lib.hid (by rw [heldK_succL, hnil]; simpa using hr5)
          have HL6 : Hid (k = (heldK (keyD C) old (n + 1)).length) := Lib.hid (by rw [heldK_succ, hnil, hkl.out]; simp)
          clear hq5 hr5 hvr5 hkb5 hnil
          subst hm0
          go_wp2_with (at_builtin; refine wpList_append_own_none rfl (.tmp 31) (.tmp 33) 52 rfl w3.heap.size 9 iS 1 Tryz.underlying52 hS _ _ _ rfl hrr rfl ?_)
          go_wp2_with fail
          go_roundw
          case rel => exact ⟨n + 1, k, Zn, by omega, by go_num, hz5, HQ6.out, HL6.out, by omega, HR6.out, hs5⟩
          case measure => simp [intOf]; omega
        | some ad =>
          go_wp2_with (at_builtin; refine wpList_append_own_at _ rfl (.tmp 31) (.tmp 33) 52 rfl w3.heap.size 9 iS (.string ⟨#[]⟩) 1 16 Tryz.underlying52 hS hS0 hS1 hS2 rfl (by decide) _ _ _ rfl hrr ad mo ck (((old (n + 1)).map (keyD C)).map sv) rfl ?c1 ?c2 ?c3 ?c4 ?c5 ?c6 ?_)
          case c1 => rw [List.length_map, List.length_map, ← HMO.out, Nat.mul_one]
          case c2 =>
            intro q v hv
            rw [List.getElem?_map] at hv
            obtain ⟨y, hy, rfl⟩ := Option.map_eq_some_iff.1 hv
            rcases HSTK.out.2 with h0 | ⟨bk, off, e, _, g0⟩
            · have hq := (List.getElem?_eq_some_iff.1 hy).1
              rw [List.length_map, ← HMO.out, h0] at hq
              omega
            · injection e with e
              subst e
              rw [WideShapes.add_plain]
              exact g0 q y hy
          case c3 => exact Tx.sv_one _
          case c4 => unfold maxLen; omega
          case c5 => exact hk8
          case c6 => exact hs5
          intro v6 w6 hr6 hg6 _ hat6
          obtain ⟨a6, c6, rfl⟩ := row_form hr6
          rw [show w4.heap.size + 1 = (w4.alloc (kO (.slice av nv cv) (.slice (some ad) mo ck))).heap.size by simp] at hat6
          have HQ6 : Hid (Bq d j t m u x Zn w0 C M N (fun g => (Value.slice a6 (k + mo) c6).ownBlock = some g) w6) := Lib.hid (hq5.rowAt hr6 hg6 hat6 (fun g hg => .inl hg) (fun g hg => .inr hg))
          have HR6 : Hid (w6.ownsRow w3.heap.size 9 1 (.slice a6 (k + mo) c6) (k + mo) ((heldK (keyD C) old (n + 1)).map sv)) := Lib.hid (by rw [heldK_succL, List.map_map]; exact hr6)
          have HL6 : Hid (k + mo = (heldK (keyD C) old (n + 1)).length) := Lib.hid (by rw [heldK_succ, List.length_append, List.length_map, ← hkl.out, ← HMO.out])
          have hs6 : w3.heap.size ≤ w6.heap.size := Nat.le_trans hs5 hg6.size
          clear hq5 hr5 hr6 hg6 hat6 hvr5 hkb5 hrr
          go_wp2_with fail
          go_roundw
          case rel => exact ⟨n + 1, k + mo, Zn, by omega, by go_num, hz5, HQ6.out, HL6.out, by omega, HR6.out, hs6⟩
          case measure => simp [intOf]; omega
    · obtain rfl : n = 6 := by omega
      obtain ⟨ah, ch, rfl⟩ := row_form hrow
      have hst := strs_row hrow
      have hkk := hkl.out
      have hkc : k ≤ ch := by
        rcases hrow.2 with ⟨e, h0⟩ | ⟨g, cap, cur, e, _, _, hnc, _⟩
        · injection e with _ e2 e3; omega
        · injection e with _ _ e3; omega
      have hgC := (hq.bz).good
      have cs := bzsweep ah k ch (heldK (keyD C) old 6) hq.bz HX.out hM hN (by rw [hkk] at hst ⊢; exact hst) hkc (by omega) (fun p hp => by
        obtain ⟨jj, dd, j1, j6, hd, rfl⟩ := heldK_mem hp
        have hh := (HK.out jj j1 j6).there dd hd
        obtain ⟨y, hy, _, e, _⟩ := of8_mem hh
        rw [e]
        have := keyO_size hgC (by omega) hy
        omega)
      have HZN := Lib.hid hzn
      have HKK := Lib.hid hkk
      clear hq hrow hst hkc hgC hzn hkk hkl
      go_wp2_with fail
      go_at_call 45
      refine cs.mono ?_
      rintro e w5 ⟨rfl, hb5⟩
      have HB5 := Lib.hid hb5
      clear cs hb5
      go_wp2_with fail
      go_ret
      exact ⟨rfl, Zn, HZN.out, by rw [← HKK.out]; exact HB5.out⟩
end Go.Proofs.YtdkgkomjbpggeaaGreatDoor.Az

namespace Go.Proofs.YtdkgkomjbpggeaaGreatDoor.Az
open Go.RowKit Tx Pm Dk Wm Wr Wl Pl Tb Bl Fm
open Fr hiding sv Texts cnt cnt_snoc
open En (Et tcheck)
open Ac (Ar upd upd_same upd_other files saveA turnA backA forgetA calm loadA)
set_option linter.unusedVariables false
set_option linter.unusedSimpArgs false
set_option linter.unnecessarySimpa false
theorem tot_mono {f g : Nat → List ByteArray} {d : ByteArray} (h : ∀ j, j ≤ 6 → cnt (f j) d ≤ cnt (g j) d) : tot f d ≤ tot g d := by
  have e : List.range 7 = [0, 1, 2, 3, 4, 5, 6] := rfl
  unfold tot
  rw [e]
  simp only [List.map_cons, List.map_nil, List.sum_cons, List.sum_nil]
  have := h 0 (by omega)
  have := h 1 (by omega)
  have := h 2 (by omega)
  have := h 3 (by omega)
  have := h 4 (by omega)
  have := h 5 (by omega)
  have := h 6 (by omega)
  omega
theorem files_sum : ∀ l : List Et, ((files l).map fun d => d.size + 74).sum ≤ Ac.bk l + 74 * l.length
  | [] => Nat.le_refl _
  | x :: l => by
    have ih := files_sum l
    rw [Ac.bk_cons, List.length_cons]
    unfold files at ih ⊢
    by_cases hk : x.node.kind = 2
    · rw [List.filter_cons_of_pos (by simpa using hk), List.map_cons, List.map_cons, List.sum_cons]
      omega
    · rw [List.filter_cons_of_neg (by simpa using hk)]
      omega
section
variable {A : Ar} {k i M N : Nat} {C : List On} {vals : Nat → Option ByteArray}
theorem Hv.mono {k' : Nat} (h : Hv A k C vals M N) (hk : k ≤ k') : Hv A k' C vals M N :=
  ⟨h.good, by have := h.mB; omega, by have := h.nB; omega, by have := h.czB; omega, h.ga, fun i t ht => by have := h.bk i t ht; omega, h.slot, fun i v hv => by have := h.out i v hv; omega, h.ge, h.eq, h.jj⟩
theorem rdl_hold (A : Ar) (i : Nat) (d : ByteArray) : cnt (rdl A i) d ≤ cnt (hold A i) d := by
  unfold rdl hold
  cases A.tr i with
  | none => exact Nat.le_refl _
  | some t =>
    cases A.tu i with
    | none => exact Nat.le_refl _
    | some b => exact Nat.zero_le _
theorem rdl_eq {A : Ar} {i : Nat} (h : A.tu i = none) : rdl A i = hold A i := by
  unfold rdl hold
  rw [h]
  rfl
theorem Hv.there (h : Hv A k C vals M N) {i : Nat} (hi : i ≤ 6) {d : ByteArray} (hd : d ∈ hold A i) : (of8 C d).isSome = true := by
  rw [has_ref h.good]
  have h1 := h.ge d
  have h2 := tot_le (hold A) hi d
  have h3 := cnt_pos.2 hd
  omega
theorem hv_vk (h : Hv A k C vals M N) (hk : k ≤ 10000000) (h1 : 1 ≤ i) (h6 : i ≤ 6) : Vk C (vals i) (rdl A i) (loadA A i).2 := by
  have hs := h.slot i h1 h6
  unfold rdl loadA
  cases ht : A.tr i with
  | none =>
    rw [ht] at hs
    have hs : vals i = none := hs
    rw [hs]
    exact .none
  | some t =>
    rw [ht] at hs
    obtain ⟨x, hx, hx0, hx1, hx2⟩ := hs
    rw [hx]
    cases hu : A.tu i with
    | none =>
      rw [hx1 hu]
      refine .ok (h.ga.trees i t ht).1 (by have := h.bk i t ht; omega) (fun e he => h.there h6 ?_)
      unfold hold
      rw [ht, hu]
      exact he
    | some b => exact .bad (hx2 b hu).1 hx0 (by have := (h.out i x hx).2.2; omega)
theorem rdl_len (h : Hv A k C vals M N) (hk : k ≤ 10000000) (j : Nat) : (rdl A j).length ≤ 200 := by
  unfold rdl
  cases ht : A.tr j with
  | none => exact Nat.zero_le _
  | some t =>
    have h1 := (ok_all (h.ga.trees j t ht).1 (by have := h.bk j t ht; omega)).1
    have h2 := Ac.files_len t
    simp only
    split
    · omega
    · exact Nat.zero_le _
theorem slot_keep {κ κ' : ByteArray → ByteArray} {wh wh' : Bool} {o : Option (List Et)} {b : Option Int} {v : Option ByteArray} (h : Slot κ wh o b v) (hw : wh' = true → wh = true) (hκ : ∀ t, o = some t → (b = none ∨ wh' = true) → ∀ d ∈ files t, κ' d = κ d) : Slot κ' wh' o b v := by
  unfold Slot at h ⊢
  cases o with
  | none => exact h
  | some t =>
    obtain ⟨x, h1, h2, h3, h4⟩ := h
    refine ⟨x, h1, h2, fun hb => ?_, fun c hc => ⟨(h4 c hc).1, fun hw2 => ?_⟩⟩
    · rw [h3 hb]
      exact (val16_congr (fun y hy hyk => (hκ t rfl (.inl hb) _ (mem_files.2 ⟨y, hy, hyk, rfl⟩)).symm)).2
    · rw [(h4 c hc).2 (hw hw2)]
      congr 1
      exact (val16_congr (fun y hy hyk => (hκ t rfl (.inr hw2) _ (mem_files.2 ⟨y, hy, hyk, rfl⟩)).symm)).2
theorem hv_save {l : List Et} (h : Hv A k C vals M N) (h1 : 1 ≤ i) (h6 : i ≤ 6) (ht : tcheck l = 0) (hbk : Ac.bk l ≤ 10000000) (hk : k ≤ 10000000) :
    Hv (saveA A i l) (k + 10000 + Ac.bk l) (relsC (putsC C (files l)) (rdl A i)) (upd vals i (some (val16 (keyD (putsC C (files l))) l))) (M + (files l).length) (N + (files l).length) := by
  obtain ⟨hlen, hok⟩ := ok_all ht hbk
  have hfl := Ac.files_len l
  have hsz : ∀ e ∈ files l, e.size ≤ 140737488351232 := fun e he => by
    obtain ⟨z, hz, _, rfl⟩ := mem_files.1 he
    have := (hok z hz).data
    omega
  have hg := h.good
  have hg1 := putsC_good hg (files l) hsz
  have hr1 := fun d => putsC_ref hg (files l) hsz d
  have hrl : ∀ d, cnt (rdl A i) d ≤ refD C d := fun d => by
    have := rdl_hold A i d
    have := tot_le (hold A) h6 d
    have := h.ge d
    omega
  have hol : ∀ d, cnt (rdl A i) d ≤ refD (putsC C (files l)) d := fun d => by rw [(hr1 d).1]; have := hrl d; omega
  have hg2 := relsC_good hg1 (rdl A i)
  have hr2 := fun d => relsC_ref hg1 (rdl A i) hol d
  have htot := fun d => tot_upd (hold A) h6 (files l) d
  have href : ∀ d, refD (relsC (putsC C (files l)) (rdl A i)) d = refD C d + cnt (files l) d - cnt (rdl A i) d := fun d => by rw [(hr2 d).1, (hr1 d).1]
  have hge : ∀ d, tot (hold (saveA A i l)) d ≤ refD (relsC (putsC C (files l)) (rdl A i)) d := fun d => by
    rw [hold_save, href]
    have := htot d
    have := h.ge d
    have := rdl_hold A i d
    have := hrl d
    have := tot_le (hold A) h6 d
    omega
  have hkey : ∀ d, 1 ≤ tot (hold (saveA A i l)) d → keyD (relsC (putsC C (files l)) (rdl A i)) d = keyD (putsC C (files l)) d := fun d hd => (hr2 d).2 (by rw [has_ref hg2]; have := hge d; omega)
  have hκ1 : ∀ y ∈ l, y.node.kind = 2 → (keyD (putsC C (files l)) y.node.data).size ≤ 14 := fun y hy hyk => by
    have hh : (of8 (putsC C (files l)) y.node.data).isSome = true := by
      rw [has_ref hg1, (hr1 y.node.data).1]
      have := cnt_pos.2 (mem_files.2 ⟨y, hy, hyk, rfl⟩)
      omega
    obtain ⟨q, hq, _, e, _⟩ := of8_mem hh
    rw [e]
    exact keyO_size hg1 (by have := h.mB; omega) hq
  obtain ⟨v1, v2, v3⟩ := val16_size (κ := keyD (putsC C (files l))) ht hbk hκ1
  have hts : ∀ j t, (saveA A i l).tr j = some t → Ac.bk t ≤ k + 10000 + Ac.bk l := fun j t hj => by
    by_cases e : j = i
    · subst e
      have : some l = some t := by rw [← hj]; exact (upd_same _ _ _).symm
      injection this with this
      subst this
      omega
    · have := h.bk j t (by rw [← hj]; exact (upd_other A.tr _ e).symm)
      omega
  refine ⟨hg2, by have := h.mB; omega, by have := h.nB; omega, ?_, Ac.good_save h.ga h1 h6 ht, hts, fun j j1 j6 => ?_, fun j v hj => ?_, hge, fun hc hw d => ?_, fun hc hw => ?_⟩
  · have a1 := cz_rels (putsC C (files l)) (rdl A i)
    have a2 := cz_puts C (files l)
    have a3 := files_sum l
    have a4 := h.czB
    omega
  · by_cases e : j = i
    · subst e
      have e1 : (saveA A j l).tr j = some l := upd_same _ _ _
      have e2 : (saveA A j l).tu j = none := upd_same _ _ _
      rw [e1, e2, upd_same]
      refine ⟨_, rfl, v3, fun _ => ?_, fun c hc => by cases hc⟩
      refine (val16_congr (fun y hy hyk => (hkey _ ?_).symm)).2
      rw [hold_save]
      have a1 := htot y.node.data
      have a2 := cnt_pos.2 (mem_files.2 ⟨y, hy, hyk, rfl⟩)
      have a3 := tot_le (hold A) h6 y.node.data
      omega
    · have e1 : (saveA A i l).tr j = A.tr j := upd_other _ _ e
      have e2 : (saveA A i l).tu j = A.tu j := upd_other _ _ e
      rw [e1, e2, upd_other _ _ e]
      refine slot_keep (h.slot j j1 j6) (fun hw => hw) (fun t htj hb d hd => ?_)
      have hdj : d ∈ hold A j := by
        unfold hold
        rw [htj]
        rcases hb with hb | hb
        · rw [hb]; exact hd
        · have hb : A.wh = true := hb
          simp only [hb, Bool.or_true, if_true]
          exact hd
      rw [hkey d ?_, (hr1 d).2 (h.there j6 hdj)]
      have a1 := tot_le (hold (saveA A i l)) j6 d
      rw [hold_save, upd_other _ _ e] at a1
      have := cnt_pos.2 hdj
      rw [hold_save]
      omega
  · by_cases e : j = i
    · subst e
      rw [upd_same] at hj
      injection hj with hj
      subst hj
      exact ⟨h1, h6, by omega⟩
    · rw [upd_other _ _ e] at hj
      have := h.out j v hj
      omega
  · have hc : (A.cl && (A.tu i).isNone) = true := hc
    rw [Bool.and_eq_true] at hc
    have hu : A.tu i = none := Option.isNone_iff_eq_none.1 hc.2
    have a1 := h.eq hc.1 hw d
    have a2 := htot d
    rw [hold_save, href, rdl_eq hu]
    have a3 := tot_le (hold A) h6 d
    omega
  · have hc : (A.cl && (A.tu i).isNone) = true := hc
    rw [Bool.and_eq_true] at hc
    obtain ⟨j, hj⟩ := h.jj hc.1 hw
    have hu : A.tu i = none := Option.isNone_iff_eq_none.1 hc.2
    refine ⟨j, ?_⟩
    have e : j ≠ i := fun e => hj (by rw [e]; exact hu)
    rw [show (saveA A i l).tu j = A.tu j from upd_other _ _ e]
    exact hj
theorem hv_turn {b : Int} {t : List Et} (h : Hv A k C vals M N) (h1 : 1 ≤ i) (h6 : i ≤ 6) (ht : A.tr i = some t) (hu : A.tu i = none) (hk : k ≤ 10000000) : ∃ v, vals i = some v ∧ 0 < v.size ∧ v.size ≤ 100000000 ∧ Bad (inv (tn v b)) ∧ Hv (turnA A i b) (k + 10000) C (upd vals i (some (tn v b))) M N := by
  have hs := h.slot i h1 h6
  rw [ht] at hs
  obtain ⟨x, hx, hx0, hx1, hx2⟩ := hs
  have hxo := h.out i x hx
  have hxe := hx1 hu
  have hbt := h.bk i t ht
  have htc := (h.ga.trees i t ht).1
  have hκ1 : ∀ y ∈ t, y.node.kind = 2 → (keyD C y.node.data).size ≤ 14 := fun y hy hyk => by
    have hh := h.there h6 (d := y.node.data) (by unfold hold; rw [ht, hu]; exact mem_files.2 ⟨y, hy, hyk, rfl⟩)
    obtain ⟨q, hq, _, e, _⟩ := of8_mem hh
    rw [e]
    exact keyO_size h.good (by have := h.mB; omega) hq
  obtain ⟨v1, v2, v3⟩ := val16_size (κ := keyD C) htc (by omega) hκ1
  have hbd : Bad (tn x b) := by rw [hxe]; exact tn_bad _ b (by omega)
  have hts := tn_size x b
  refine ⟨x, hx, hx0, by omega, inv_bad (by omega) (by rw [hxe]; exact tn_last _ b), ⟨h.good, by have := h.mB; omega, by have := h.nB; omega, by have := h.czB; omega, Ac.good_turn h.ga (by rw [ht]; rfl), fun j u hj => by have := h.bk j u hj; omega, fun j j1 j6 => ?_, fun j v hj => ?_, fun d => ?_, fun hc hw d => ?_, fun hc hw => ⟨i, by rw [show (turnA A i b).tu i = some b from upd_same _ _ _]; exact fun e => by cases e⟩⟩⟩
  · by_cases e : j = i
    · subst e
      rw [show (turnA A j b).tr j = some t from ht, show (turnA A j b).tu j = some b from upd_same _ _ _, upd_same]
      refine ⟨_, rfl, by omega, (fun hn => by cases hn), fun c hc => ⟨hbd, fun _ => ?_⟩⟩
      injection hc with hc
      subst hc
      rw [hxe]
    · rw [show (turnA A i b).tr j = A.tr j from rfl, show (turnA A i b).tu j = A.tu j from upd_other _ _ e, upd_other _ _ e]
      exact h.slot j j1 j6
  · by_cases e : j = i
    · subst e
      rw [upd_same] at hj
      injection hj with hj
      subst hj
      exact ⟨h1, h6, by omega⟩
    · rw [upd_other _ _ e] at hj
      have := h.out j v hj
      omega
  · refine Nat.le_trans (tot_mono (fun j j6 => ?_)) (h.ge d)
    by_cases e : j = i
    · subst e
      exact (hold_turn A j b d).resolve_right (fun hn => hn hu)
    · rw [hold_turn_other A b e]
      exact Nat.le_refl _
  · have hw : A.wh = true := hw
    rw [hold_turn_wh hw]
    exact h.eq hc hw d
theorem hv_back {b : Int} {t : List Et} (h : Hv A k C vals M N) (h1 : 1 ≤ i) (h6 : i ≤ 6) (ht : A.tr i = some t) (hu : A.tu i = some b) (hw : A.wh = true) (hk : k ≤ 10000000) : ∃ v, vals i = some v ∧ 0 < v.size ∧ v.size ≤ 100000000 ∧ Bad (inv (tn v b)) ∧ Hv (backA A i) (k + 10000) C (upd vals i (some (tn v b))) M N := by
  have hs := h.slot i h1 h6
  rw [ht] at hs
  obtain ⟨x, hx, hx0, hx1, hx2⟩ := hs
  have hxo := h.out i x hx
  have hxe := (hx2 b hu).2 hw
  have hvz : 0 < (val16 (keyD C) t).size := by unfold val16; rw [vz_size]; omega
  have htt : tn x b = val16 (keyD C) t := by rw [hxe]; exact tn_tn _ b hvz
  have hts := tn_size x b
  refine ⟨x, hx, hx0, by omega, ?_, ⟨h.good, by have := h.mB; omega, by have := h.nB; omega, by have := h.czB; omega, ⟨h.ga.trees, fun j hj => ?_⟩, fun j u hj => by have := h.bk j u hj; omega, fun j j1 j6 => ?_, fun j v hj => ?_, fun d => ?_, fun hc hw2 d => ?_, fun hc hw2 => ?_⟩⟩
  · rw [htt]
    refine inv_bad hvz ?_
    unfold val16
    rw [vz_last]
    decide
  · by_cases e : j = i
    · subst e; exact upd_same _ _ _
    · exact (upd_other A.tu _ e).trans (h.ga.there j hj)
  · by_cases e : j = i
    · subst e
      rw [show (backA A j).tr j = some t from ht, show (backA A j).tu j = none from upd_same _ _ _, upd_same]
      exact ⟨_, rfl, by omega, fun _ => htt, fun c hc => by cases hc⟩
    · rw [show (backA A i).tr j = A.tr j from rfl, show (backA A i).tu j = A.tu j from upd_other _ _ e, upd_other _ _ e]
      exact h.slot j j1 j6
  · by_cases e : j = i
    · subst e
      rw [upd_same] at hj
      injection hj with hj
      subst hj
      exact ⟨h1, h6, by omega⟩
    · rw [upd_other _ _ e] at hj
      have := h.out j v hj
      omega
  · rw [hold_back hw]
    exact h.ge d
  · rw [hold_back hw]
    exact h.eq hc hw d
  · rw [show (backA A i).wh = A.wh from rfl, hw] at hw2
    cases hw2
def dropA (A : Ar) (i : Nat) : Ar := ⟨upd A.tr i none, upd A.tu i none, A.cl, A.wh⟩
theorem rdl_drop (A : Ar) (i j : Nat) : rdl (dropA A i) j = upd (rdl A) i [] j := by
  unfold rdl dropA upd
  by_cases h : j = i
  · subst h; simp
  · simp [h]
theorem vk_drop (h : Hv A k C vals M N) (hk : k ≤ 10000000) {n : Nat} (n1 : 1 ≤ n) (n6 : n ≤ 6) : Vk C (upd vals i none n) (rdl (dropA A i) n) (loadA (dropA A i) n).2 := by
  by_cases e : n = i
  · subst e
    rw [upd_same, rdl_drop, upd_same]
    have : (loadA (dropA A n) n).2 = 11 := by
      unfold loadA
      rw [show (dropA A n).tr n = none from upd_same _ _ _]
    rw [this]
    exact .none
  · rw [upd_other _ _ e, rdl_drop, upd_other _ _ e]
    have : (loadA (dropA A i) n).2 = (loadA A n).2 := by
      unfold loadA
      rw [show (dropA A i).tr n = A.tr n from upd_other _ _ e, show (dropA A i).tu n = A.tu n from upd_other _ _ e]
    rw [this]
    exact hv_vk h hk n1 n6
theorem drop_len (h : Hv A k C vals M N) (hk : k ≤ 10000000) (n : Nat) : (rdl (dropA A i) n).length ≤ 200 := by
  rw [rdl_drop]
  by_cases e : n = i
  · subst e; rw [upd_same]; exact Nat.zero_le _
  · rw [upd_other _ _ e]; exact rdl_len h hk n
theorem hv_forget (h : Hv A k C vals M N) (h1 : 1 ≤ i) (h6 : i ≤ 6) (hk : k ≤ 10000000) {M' : Nat} (hg' : Good8 (swC C (heldK (keyD C) (rdl (dropA A i)) 6)) M') (hM' : M' ≤ M + 1200) :
    Hv (forgetA A i) (k + 10000) (swC C (heldK (keyD C) (rdl (dropA A i)) 6)) (uncV (upd vals i none) (fun n => (loadA (dropA A i) n).2) 6) M' N := by
  have hg := h.good
  have hdh : ∀ d j, cnt (rdl (dropA A i) j) d ≤ cnt (hold A j) d := fun d j => by
    rw [rdl_drop]
    by_cases e : j = i
    · subst e; rw [upd_same]; exact Nat.zero_le _
    · rw [upd_other _ _ e]; exact rdl_hold A j d
  have h00 : rdl (dropA A i) 0 = [] := by
    rw [rdl_drop, upd_other _ _ (by omega)]
    unfold rdl
    cases ht : A.tr 0 with
    | none => rfl
    | some t => exact absurd (h.ga.trees 0 t ht).2.1 (by omega)
  have hall : ∀ j, j ≤ 6 → ∀ e ∈ rdl (dropA A i) j, (of8 C e).isSome = true := fun j hj e he => h.there hj (cnt_pos.1 (by have := hdh e j; have := cnt_pos.2 he; omega))
  have hle : ∀ d, tot (rdl (dropA A i)) d ≤ refD C d := fun d => Nat.le_trans (tot_mono (fun j _ => hdh d j)) (h.ge d)
  have href : ∀ d, refD (swC C (heldK (keyD C) (rdl (dropA A i)) 6)) d = tot (rdl (dropA A i)) d := fun d => by
    rw [(swC_ref hg _ d).1]
    cases hh : (of8 C d).isSome with
    | true => rw [if_pos rfl]; exact heldK_cnt hg hh h00 hall
    | false =>
      rw [if_neg (by simp)]
      have h2 := hle d
      have h3 : refD C d = 0 := by
        rcases Nat.eq_zero_or_pos (refD C d) with h0 | h0
        · exact h0
        · have := (has_ref hg).2 h0
          rw [hh] at this
          cases this
      omega
  have hhold : ∀ d, tot (hold (forgetA A i)) d = tot (rdl (dropA A i)) d := fun d => tot_congr (fun j hj => by rw [hold_forget A i hj, rdl_drop]) d
  have hval : ∀ n, n ≠ i → upd vals i none n = vals n := fun n e => upd_other _ _ e
  refine ⟨hg', by have := h.mB; omega, by have := h.nB; omega, ?_, Ac.good_forget h.ga, fun j t hj => ?_, fun j j1 j6 => ?_, fun j v hj => ?_, fun d => by rw [hhold, href]; exact Nat.le_refl _, fun _ _ d => by rw [hhold, href], fun _ hw => ?_⟩
  · have := cz_sw C (heldK (keyD C) (rdl (dropA A i)) 6)
    have := h.czB
    omega
  · by_cases e : j = i
    · subst e
      have : none = some t := by rw [← hj]; exact (upd_same A.tr _ _).symm
      cases this
    · have := h.bk j t (by rw [← hj]; exact (upd_other A.tr _ e).symm)
      omega
  · by_cases e : j = i
    · subst e
      rw [show (forgetA A j).tr j = none from upd_same _ _ _]
      show uncV _ _ 6 j = none
      unfold uncV
      rw [upd_same]
      split <;> rfl
    · have e1 : (forgetA A i).tr j = A.tr j := upd_other _ _ e
      have e2 : (forgetA A i).tu j = A.tu j := upd_other _ _ e
      have e3 : (loadA (dropA A i) j).2 = (loadA A j).2 := by
        unfold loadA
        rw [show (dropA A i).tr j = A.tr j from upd_other _ _ e, show (dropA A i).tu j = A.tu j from upd_other _ _ e]
      have hs := h.slot j j1 j6
      rw [e1, e2]
      have e4 : uncV (upd vals i none) (fun n => (loadA (dropA A i) n).2) 6 j = if (loadA A j).2 = 6 then (vals j).map unc else vals j := by
        unfold uncV
        rw [hval j e]
        simp only [e3]
        by_cases h6 : (loadA A j).2 = 6
        · rw [if_pos ⟨j1, j6, h6⟩, if_pos h6]
        · rw [if_neg (fun hh => h6 hh.2.2), if_neg h6]
      rw [e4]
      cases ht : A.tr j with
      | none =>
        rw [ht] at hs
        have hs : vals j = none := hs
        rw [hs]
        show (if _ then _ else _) = none
        split <;> rfl
      | some t =>
        rw [ht] at hs
        obtain ⟨x, hx, hx0, hx1, hx2⟩ := hs
        rw [hx]
        cases hu : A.tu j with
        | none =>
          have hl : (loadA A j).2 = 0 := by unfold loadA; rw [ht, hu]; rfl
          rw [hl, if_neg (by decide)]
          refine ⟨x, rfl, hx0, fun _ => ?_, fun c hc => by cases hc⟩
          rw [hx1 hu]
          refine (val16_congr (fun y hy hyk => ((swC_ref hg _ _).2 ?_).symm)).2
          rw [has_ref hg', href]
          have a1 := tot_le (rdl (dropA A i)) j6 y.node.data
          rw [rdl_drop, upd_other _ _ e] at a1
          have a2 : y.node.data ∈ rdl A j := by unfold rdl; rw [ht, hu]; exact mem_files.2 ⟨y, hy, hyk, rfl⟩
          have a3 := cnt_pos.2 a2
          omega
        | some b =>
          have hl : (loadA A j).2 = 6 := by unfold loadA; rw [ht, hu]; rfl
          rw [hl, if_pos rfl]
          refine ⟨unc x, rfl, by rw [unc_size hx0]; exact hx0, (fun hn => by cases hn), fun c hc => ⟨unc_bad (hx2 b hu).1 hx0, fun hw => ?_⟩⟩
          have hcalm : calm (upd A.tu i none) = true := hw
          unfold calm at hcalm
          have := List.all_eq_true.1 hcalm j (List.mem_range.2 (by omega))
          rw [upd_other _ _ e, hu] at this
          cases this
  · have hj2 : ∃ y, vals j = some y ∧ v.size = y.size ∧ j ≠ i := by
      unfold uncV at hj
      by_cases e : j = i
      · subst e
        rw [upd_same] at hj
        split at hj <;> cases hj
      · rw [hval j e] at hj
        cases hv : vals j with
        | none => rw [hv] at hj; split at hj <;> cases hj
        | some y =>
          rw [hv] at hj
          refine ⟨y, rfl, ?_, e⟩
          split at hj
          · injection hj with hj
            subst hj
            by_cases h0 : 0 < y.size
            · exact unc_size h0
            · have hs := h.slot j (h.out j y hv).1 (h.out j y hv).2.1
              unfold Slot at hs
              split at hs
              · rw [hv] at hs; cases hs
              · obtain ⟨x, hx, hx0, _⟩ := hs
                rw [hv] at hx
                injection hx with hx
                subst hx
                exact absurd hx0 h0
          · injection hj with hj
            subst hj
            rfl
    obtain ⟨y, hy, hs, _⟩ := hj2
    have := h.out j y hy
    omega
  · have hcalm : calm (upd A.tu i none) = false := hw
    unfold calm at hcalm
    rw [List.all_eq_false] at hcalm
    obtain ⟨j, _, hj⟩ := hcalm
    refine ⟨j, fun hn => ?_⟩
    have hn : upd A.tu i none j = none := hn
    rw [hn] at hj
    exact hj rfl
theorem hv_kept (h : Hv A k C vals M N) (hw : Ac.well A) : C.length = Ac.kept A := by
  have hwh : A.wh = true := by
    cases hh : A.wh with
    | true => rfl
    | false =>
      obtain ⟨j, hj⟩ := h.jj hw.1 hh
      exact absurd (hw.2 j) hj
  have hmem : ∀ d, d ∈ C.map On.data ↔ d ∈ Ac.uniq (Ac.allC A) := fun d => by
    rw [Ac.mem_uniq]
    have h1 : d ∈ C.map On.data ↔ 1 ≤ refD C d := by
      rw [← has_ref h.good]
      constructor
      · intro hd
        obtain ⟨y, hy, rfl⟩ := List.mem_map.1 hd
        rw [h.good.of hy]
        rfl
      · intro hd
        obtain ⟨y, hy, e, _⟩ := of8_mem hd
        exact List.mem_map.2 ⟨y, hy, e⟩
    rw [h1, h.eq hw.1 hwh d]
    unfold Ac.allC
    rw [List.mem_flatMap]
    constructor
    · intro hd
      refine Classical.byContradiction (fun hno => ?_)
      have hz : tot (hold A) d ≤ tot (fun _ => []) d := tot_mono (fun j hj => by
        rcases Nat.eq_zero_or_pos (cnt (hold A j) d) with h0 | h0
        · rw [h0]; exact Nat.zero_le _
        · refine absurd ⟨j, List.mem_range.2 (by omega), ?_⟩ hno
          have hd2 := cnt_pos.1 h0
          unfold hold at hd2
          cases ht : A.tr j with
          | none => rw [ht] at hd2; cases hd2
          | some t =>
            rw [ht, hw.2 j] at hd2
            exact hd2)
      have : tot (fun _ => []) d = 0 := rfl
      omega
    · rintro ⟨j, hj, hd⟩
      have hj7 := List.mem_range.1 hj
      have a1 := tot_le (hold A) (show j ≤ 6 by omega) d
      have a2 : d ∈ hold A j := by
        unfold hold
        cases ht : A.tr j with
        | none => rw [ht] at hd; cases hd
        | some t =>
          rw [ht] at hd
          rw [hw.2 j]
          exact hd
      have := cnt_pos.2 a2
      omega
  have hn1 : (C.map On.data).Nodup := List.pairwise_map.2 h.good.datas
  have l1 := Ac.nodup_len hn1 (fun d hd => (hmem d).1 hd)
  have l2 := Ac.nodup_len (Ac.nodup_uniq (Ac.allC A)) (fun d hd => (hmem d).2 hd)
  unfold Ac.kept
  rw [List.length_map] at l1 l2
  omega
end
end Go.Proofs.YtdkgkomjbpggeaaGreatDoor.Az

namespace Go.Proofs.YtdkgkomjbpggeaaGreatDoor.Az
open Go.RowKit Go.ChangeShapes Go.WideShapes Tx Pm Dk Wm Wr Wl Pl Tb Bl Fm
open Fr hiding sv Texts cnt cnt_snoc
open En (Et tcheck Ents)
open Ac (Ar upd upd_same upd_other files saveA turnA backA forgetA calm loadA loadI saveI saveE forgetI forgetE may Lf)
set_option linter.unusedVariables false
set_option linter.unusedSimpArgs false
set_option linter.unnecessarySimpa false
def i64 (k : Int) : Prop := -9223372036854775808 ≤ k ∧ k ≤ 9223372036854775807
set_option maxRecDepth 100000 in
set_option maxHeartbeats 1000000 in
theorem save_no {u : Nat} {i : Int} {W : World} (a : Option Addr) (n c : Nat) (hi : i64 i) (hm : may i = false) : Calls Tryz.prog 11 #[.pointer (some ⟨u, 0, none⟩), .int .i64 i, .slice a n c] W fun e w' => e = .returned (.int .i64 1) ∧ Below W.heap.size W w' := by
  have hsp := isSpoke_any i W hi
  rw [hm] at hsp
  clear hm hi
  go_enter Tryz.func11, Tryz.ntmps11
  go_wp2_with fail
  go_at_call 29
  refine hsp.mono ?_
  rintro e w1 ⟨rfl, rfl⟩
  go_wp2_with fail
  go_ret
  exact ⟨rfl, Below.refl _ _⟩
set_option maxRecDepth 100000 in
set_option maxHeartbeats 1000000 in
theorem save_err {u : Nat} {i : Int} {W : World} (a : Option Addr) (n c : Nat) (l : List Et) (hi : i64 i) (hm : may i = true) (hl : Ents W a n l) (hnc : n ≤ c) (hcm : c ≤ 9223372036854775807) (hn : n ≤ 1000000000) (hs : En.Small l) (ht : tcheck l ≠ 0) : Calls Tryz.prog 11 #[.pointer (some ⟨u, 0, none⟩), .int .i64 i, .slice a n c] W fun e w' => e = .returned (.int .i64 (tcheck l : Nat)) ∧ Below W.heap.size W w' := by
  have hsp := isSpoke_any i W hi
  rw [hm] at hsp
  have hck := En.tCheck_any a n c l W hl hnc hcm hn hs
  generalize tcheck l = q at *
  have hne : ((q : Int) == 0) = false := neZ ht
  clear hm hi hl ht
  go_enter Tryz.func11, Tryz.ntmps11
  go_wp2_with fail
  go_at_call 29
  refine hsp.mono ?_
  rintro e w1 ⟨rfl, rfl⟩
  clear hsp
  go_wp2_with fail
  go_at_call 30
  refine hck.mono ?_
  rintro e w2 ⟨rfl, hb2⟩
  have HB2 := Lib.hid hb2
  clear hb2 hck
  go_wp2_with fail
  go_ret
  exact ⟨rfl, HB2.out⟩
set_option maxRecDepth 100000 in
set_option maxHeartbeats 1000000 in
theorem loads_no {u : Nat} {i : Int} {W : World} (hi : i64 i) (hm : may i = false) : Calls Tryz.prog 22 #[.pointer (some ⟨u, 0, none⟩), .int .i64 i] W fun e w' => e = .returned (.tuple #[.slice none 0 0, .int .i64 1]) ∧ Below W.heap.size W w' := by
  have hsp := isSpoke_any i W hi
  rw [hm] at hsp
  clear hm hi
  go_enter Tryz.func22, Tryz.ntmps22
  go_wp2_with fail
  go_at_call 29
  refine hsp.mono ?_
  rintro e w1 ⟨rfl, rfl⟩
  go_wp2_with fail
  go_ret2
  exact ⟨rfl, Below.refl _ _⟩
set_option maxRecDepth 100000 in
set_option maxHeartbeats 2000000 in
theorem loads_any {u : Nat} {i : Int} {W : World} {tr : List Et} {c : Int} (hi : i64 i) (hm : may i = true)
    (hld : Calls Tryz.prog 31 #[.pointer (some ⟨u, 0, none⟩), .int .i64 i] W fun e w' => ∃ v vk, e = .returned (.tuple #[.agg #[v, vk], .int .i64 c]) ∧ En.Own w' W.heap.size v tr ∧ (∃ a n k, vk = .slice a n k) ∧ Below W.heap.size W w') :
    Calls Tryz.prog 22 #[.pointer (some ⟨u, 0, none⟩), .int .i64 i] W fun e w' => ∃ v, e = .returned (.tuple #[v, .int .i64 c]) ∧ En.Own w' W.heap.size v tr ∧ Below W.heap.size W w' := by
  have hsp := isSpoke_any i W hi
  rw [hm] at hsp
  clear hm hi
  go_enter Tryz.func22, Tryz.ntmps22
  go_wp2_with fail
  go_at_call 29
  refine hsp.mono ?_
  rintro e w1 ⟨rfl, rfl⟩
  clear hsp
  go_wp2_with fail
  go_at_call 31
  refine hld.mono ?_
  rintro e w2 ⟨v, vk, rfl, ho, ⟨ak, nk, ck, rfl⟩, hb⟩
  obtain ⟨a, cc, rfl, _⟩ := ho.form
  have hbK := (Below.refl w2.heap.size w2).alloc (Nat.le_refl _) (kO (.slice a tr.length cc) (.slice ak nk ck))
  have HO := Lib.hid (ho.below hbK)
  have HB := Lib.hid (Tx.below_call hb hbK)
  clear hld hb ho hbK
  go_wp2_with fail
  go_ret2
  exact ⟨_, rfl, HO.out, HB.out⟩
set_option maxRecDepth 100000 in
set_option maxHeartbeats 1000000 in
theorem turn_no {u : Nat} {i b : Int} {W : World} (hi : i64 i) (hm : may i = false) : Calls Tryz.prog 15 #[.pointer (some ⟨u, 0, none⟩), .int .i64 i, .int .i64 b] W fun e w' => e = .returned (.int .i64 1) ∧ Below W.heap.size W w' := by
  have hsp := isSpoke_any i W hi
  rw [hm] at hsp
  clear hm hi
  go_enter Tryz.func15, Tryz.ntmps15
  go_wp2_with fail
  go_at_call 29
  refine hsp.mono ?_
  rintro e w1 ⟨rfl, rfl⟩
  go_wp2_with fail
  go_ret
  exact ⟨rfl, Below.refl _ _⟩
set_option maxRecDepth 100000 in
set_option maxHeartbeats 1000000 in
theorem turn_none {u i : Nat} {b : Int} {W : World} {s : ByteArray} (h1 : 1 ≤ i) (h6 : i ≤ 6) (hT : Tab W)
    (hg : ∀ V, Below W.heap.size W V → Calls Tryz.prog 38 #[.pointer (some ⟨u, 0, none⟩), .string (keyA i)] V fun e w' => e = .returned (.tuple #[.string s, .bool false]) ∧ Below V.heap.size V w') :
    Calls Tryz.prog 15 #[.pointer (some ⟨u, 0, none⟩), .int .i64 (i : Int), .int .i64 b] W fun e w' => e = .returned (.int .i64 11) ∧ Below W.heap.size W w' := by
  have hsp := isSpoke_any (i : Int) W (by omega)
  rw [Ac.may_yes (by omega) (by omega)] at hsp
  have ck := keyOf_any i W h6 hT
  go_enter Tryz.func15, Tryz.ntmps15
  go_wp2_with fail
  go_at_call 29
  refine hsp.mono ?_
  rintro e w1 ⟨rfl, rfl⟩
  clear hsp
  go_wp2_with fail
  go_at_call 33
  refine ck.mono ?_
  rintro e w2 ⟨rfl, b2⟩
  have cg := hg _ b2
  have HB2 := Lib.hid b2
  clear hg ck b2
  go_wp2_with fail
  go_at_call 38
  refine cg.mono ?_
  rintro e w3 ⟨rfl, b3⟩
  have HB3 := Lib.hid (Tx.below_call HB2.out b3)
  clear cg b3
  go_wp2_with fail
  go_ret
  exact ⟨rfl, HB3.out⟩
set_option maxRecDepth 100000 in
set_option maxHeartbeats 1000000 in
theorem forget_no {u : Nat} {i : Int} {W : World} (hi : i64 i) (hm : may i = false) : Calls Tryz.prog 16 #[.pointer (some ⟨u, 0, none⟩), .int .i64 i] W fun e w' => e = .returned (.int .i64 1) ∧ Below W.heap.size W w' := by
  have hsp := isSpoke_any i W hi
  rw [hm] at hsp
  clear hm hi
  go_enter Tryz.func16, Tryz.ntmps16
  go_wp2_with fail
  go_at_call 29
  refine hsp.mono ?_
  rintro e w1 ⟨rfl, rfl⟩
  go_wp2_with fail
  go_ret
  exact ⟨rfl, Below.refl _ _⟩
section
variable {d u k : Nat} {W : World} {F : Nat → Prop} {A : Ar}
theorem oz_mono {k' : Nat} (h : OZ d u W F (A, k)) (hk : k ≤ k') : OZ d u W F (A, k') := by
  obtain ⟨j, t, m, x, l, C, Z, vals, M, N, h1, h2, h3, h4, h5⟩ := h
  exact ⟨j, t, m, x, l, C, Z, vals, M, N, h1, h2, h3, h4.mono hk, h5.mono hk⟩
theorem oz_lf {w' : World} {k' : Nat} (h : OZ d u W F (A, k)) (hb : Below W.heap.size W w') (hk : k ≤ k') : Lf (OZ d u) W F (A, k') w' := ⟨F, Ac.lf_below (kd_oz d u) (oz_mono h hk) hb, Chg.of_below hb, fun g hg => .inl hg⟩
theorem i_save (i : Int) (a : Option Addr) (n c : Nat) (l : List Et) (hT : Tab W) (h : OZ d u W F (A, k)) (hk : k + Ac.bk l ≤ 10000000) (hi : i64 i) (hl : Ents W a n l) (hnc : n ≤ c) (hcm : c ≤ 9223372036854775807) (hoff : n = 0 ∨ ∀ x, a = some x → ¬ F x.block) :
    Calls Tryz.prog 11 #[.pointer (some ⟨u, 0, none⟩), .int .i64 i, .slice a n c] W fun e w' => e = .returned (.int .i64 (saveE i l : Nat)) ∧ Lf (OZ d u) W F (saveI A i l, k + 10000 + Ac.bk l) w' := by
  cases hm : may i with
  | false =>
    have e1 : saveE i l = 1 := by unfold saveE; rw [hm]; rfl
    have e2 : saveI A i l = A := by unfold saveI; rw [e1, if_neg (by decide)]
    rw [e1, e2]
    exact (save_no a n c hi hm).mono fun e w' ⟨h1, h2⟩ => ⟨h1, oz_lf h h2 (by omega)⟩
  | true =>
    have e1 : saveE i l = tcheck l := by unfold saveE; rw [hm]; rfl
    by_cases ht : tcheck l = 0
    · obtain ⟨q, rfl, q1, q6⟩ := Ac.may_nat hm
      have e2 : saveI A (q : Int) l = saveA A q l := by unfold saveI; rw [e1, if_pos ht]; rfl
      rw [e1, ht, e2]
      obtain ⟨j, t, m, x, C, Z, vals, M, N, ⟨hb, hz, hv, htk⟩, hTZ, hFl, hF0⟩ := oz_out h hT
      have hvk := hv_vk hv (by omega) q1 q6
      have hrl : ∀ e, cnt (rdl A q) e ≤ refD C e := fun e => by
        have := rdl_hold A q e
        have := tot_le (hold A) q6 e
        have := hv.ge e
        omega
      have hE : ∀ V, Chg F W V → Ents V a n l := fun V hc => by
        rcases hl.2 with h0 | ⟨b, off, ha, hbl, hcells⟩
        · exact ⟨hl.1, .inl h0⟩
        · rcases hoff with h0 | hoff
          · exact ⟨hl.1, .inl h0⟩
          · have hnF := hoff _ ha
            have hkeep := hc.block b hbl hnF
            refine ⟨hl.1, .inr ⟨b, off, ha, Nat.lt_of_lt_of_le hbl hc.size, fun p y hy => ?_⟩⟩
            obtain ⟨c0, c1, c2⟩ := hcells p y hy
            have hcell : ∀ o, V.cell? ⟨b, o, none⟩ = W.cell? ⟨b, o, none⟩ := fun o => by unfold World.cell?; rw [hkeep]
            exact ⟨(hcell _).trans c0, (hcell _).trans c1, (hcell _).trans c2⟩
      have hm8 := hv.mB
      have hn8 := hv.nB
      refine (save_any a n c l (rdl A q) hb htk.xk hTZ (by omega) (by omega) q1 q6 hE hnc hcm ht (by omega) hrl (rdl_len hv (by omega) q) (fun V hV => ?_)).mono fun e w' ⟨he, hw⟩ => ⟨he, oz_in hw (zr_put hz _ q1 q6) (hv_save hv q1 q6 ht (by omega) (by omega)) (htk.mono (by omega)) hT hF0⟩
      refine (load_vk (hb.below hV) hz (fun V2 hc => hTZ V2 hc) (by omega) q1 q6 hvk).mono fun e w' ⟨v, vk, he, hvf, htx, hbb⟩ => ⟨v, vk, _, he, hvf, htx, hbb⟩
    · have e2 : saveI A i l = A := by unfold saveI; rw [e1, if_neg ht]
      rw [e1, e2]
      have hbl := Ac.bk_len l
      have hln := hl.1
      exact (save_err a n c l hi hm hl hnc hcm (by omega) (Ac.bk_small (by omega)) ht).mono fun e w' ⟨h1, h2⟩ => ⟨h1, oz_lf h h2 (by omega)⟩
theorem i_load (i : Int) (hT : Tab W) (h : OZ d u W F (A, k)) (hk : k ≤ 10000000) (hi : i64 i) :
    Calls Tryz.prog 22 #[.pointer (some ⟨u, 0, none⟩), .int .i64 i] W fun e w' => ∃ v, e = .returned (.tuple #[v, .int .i64 ((loadI A i).2 : Nat)]) ∧ En.Own w' W.heap.size v (loadI A i).1 ∧ Below W.heap.size W w' := by
  cases hm : may i with
  | false =>
    have e1 : loadI A i = ([], 1) := by unfold loadI; rw [hm]; rfl
    rw [e1]
    exact (loads_no hi hm).mono fun e w' ⟨h1, h2⟩ => ⟨_, h1, World.ownsRow_nil _ _ _ _, h2⟩
  | true =>
    obtain ⟨q, rfl, q1, q6⟩ := Ac.may_nat hm
    have e1 : loadI A (q : Int) = loadA A q := by unfold loadI; rw [if_pos hm]; rfl
    rw [e1]
    obtain ⟨j, t, m, x, C, Z, vals, M, N, ⟨hb, hz, hv, htk⟩, hTZ, hFl, hF0⟩ := oz_out h hT
    refine loads_any hi hm ?_
    obtain ⟨s, hs, cg⟩ := bzgetA hb hz q1 q6
    have hsl := hv.slot q q1 q6
    unfold loadA
    have hm8 := hv.mB
    cases ht : A.tr q with
    | none =>
      rw [ht] at hsl
      have hsl : vals q = none := hsl
      rw [hsl] at cg
      exact (load_none q6 hT cg).mono fun e w' ⟨he, hbb⟩ => ⟨_, _, he, World.ownsRow_nil _ _ _ _, ⟨_, _, _, rfl⟩, hbb⟩
    | some l =>
      rw [ht] at hsl
      obtain ⟨y, hy, hy0, hy1, hy2⟩ := hsl
      obtain rfl := hs y hy
      rw [hy] at cg
      cases hu : A.tu q with
      | some b =>
        simp only [Option.isSome_some, if_true]
        have := hv.out q s hy
        exact (load_bad q6 hT (hy2 b hu).1 (by omega) cg).mono fun e w' ⟨he, hbb⟩ => ⟨_, _, he, World.ownsRow_nil _ _ _ _, ⟨_, _, _, rfl⟩, hbb⟩
      | none =>
        simp only [Option.isSome_none, Bool.false_eq_true, if_false]
        have hye := hy1 hu
        rw [hye] at cg
        have hg := hv.good
        have hat : ∀ y ∈ l, y.node.kind = 2 → ∃ q, at8 C (keyD C y.node.data) = some q ∧ q.data = y.node.data ∧ (keyD C y.node.data).size ≤ 14 := fun y hy hyk => by
          have hh := hv.there q6 (d := y.node.data) (by unfold hold; rw [ht, hu]; exact mem_files.2 ⟨y, hy, hyk, rfl⟩)
          obtain ⟨q, e1, _, e3⟩ := at8_data hg hh
          obtain ⟨r, hr, _, e5, _⟩ := of8_mem hh
          exact ⟨q, e1, e3, by rw [e5]; exact keyO_size hg (by omega) hr⟩
        refine (load_ok q6 hT (hv.ga.trees q l ht).1 (fun y hy hyk => by obtain ⟨_, _, _, e⟩ := hat y hy hyk; exact e) (by have := hv.bk q l ht; omega) (fun y hy hyk V hV => ?_) cg).mono fun e w' ⟨v, vk, he, ho, htx, hbb⟩ => ?_
        · obtain ⟨q, e1, e2, e3⟩ := hat y hy hyk
          have c := bzget (key := keyD C y.node.data) (hb.below hV) (by omega) (by omega)
          rw [e1] at c
          simp only [e2] at c
          exact c
        · obtain ⟨a, c, rfl, _⟩ := htx.form
          exact ⟨v, _, he, ho, ⟨_, _, _, rfl⟩, hbb⟩
theorem i_turn (i : Nat) (b : Int) (l : List Et) (hT : Tab W) (h : OZ d u W F (A, k)) (hk : k ≤ 10000000) (h1 : 1 ≤ i) (h6 : i ≤ 6) (hl : A.tr i = some l) (hu : A.tu i = none) (hb : i64 b) :
    Calls Tryz.prog 15 #[.pointer (some ⟨u, 0, none⟩), .int .i64 (i : Int), .int .i64 b] W fun e w' => e = .returned (.int .i64 0) ∧ Lf (OZ d u) W F (turnA A i b, k + 10000) w' := by
  obtain ⟨j, t, m, x, C, Z, vals, M, N, ⟨hbz, hz, hv, htk⟩, hTZ, hFl, hF0⟩ := oz_out h hT
  obtain ⟨v, v1, v2, v3, v4, v5⟩ := hv_turn (b := b) hv h1 h6 hl hu hk
  have hn8 := hv.nB
  exact (turn_any b hbz hz hTZ (by omega) h1 h6 v1 v2 v3 hb.1 hb.2 v4).mono fun e w' ⟨he, hw⟩ => ⟨he, oz_in hw (zr_put hz _ h1 h6) v5 (htk.mono (by omega)) hT hF0⟩
theorem i_back (i : Nat) (b : Int) (l : List Et) (hT : Tab W) (h : OZ d u W F (A, k)) (hk : k ≤ 10000000) (h1 : 1 ≤ i) (h6 : i ≤ 6) (hl : A.tr i = some l) (hu : A.tu i = some b) (hw : A.wh = true) (hb : i64 b) :
    Calls Tryz.prog 15 #[.pointer (some ⟨u, 0, none⟩), .int .i64 (i : Int), .int .i64 b] W fun e w' => e = .returned (.int .i64 0) ∧ Lf (OZ d u) W F (backA A i, k + 10000) w' := by
  obtain ⟨j, t, m, x, C, Z, vals, M, N, ⟨hbz, hz, hv, htk⟩, hTZ, hFl, hF0⟩ := oz_out h hT
  obtain ⟨v, v1, v2, v3, v4, v5⟩ := hv_back (b := b) hv h1 h6 hl hu hw hk
  have hn8 := hv.nB
  exact (turn_any b hbz hz hTZ (by omega) h1 h6 v1 v2 v3 hb.1 hb.2 v4).mono fun e w' ⟨he, hw⟩ => ⟨he, oz_in hw (zr_put hz _ h1 h6) v5 (htk.mono (by omega)) hT hF0⟩
theorem i_turnE (i b : Int) (hT : Tab W) (h : OZ d u W F (A, k)) (hk : k ≤ 10000000) (hi : i64 i) (he : (loadI A i).2 = 1 ∨ (loadI A i).2 = 11) :
    Calls Tryz.prog 15 #[.pointer (some ⟨u, 0, none⟩), .int .i64 i, .int .i64 b] W fun e w' => e = .returned (.int .i64 ((loadI A i).2 : Nat)) ∧ Lf (OZ d u) W F (A, k + 10000) w' := by
  cases hm : may i with
  | false =>
    have e1 : loadI A i = ([], 1) := by unfold loadI; rw [hm]; rfl
    rw [e1]
    exact (turn_no hi hm).mono fun e w' ⟨h1, h2⟩ => ⟨h1, oz_lf h h2 (by omega)⟩
  | true =>
    obtain ⟨q, rfl, q1, q6⟩ := Ac.may_nat hm
    have e1 : loadI A (q : Int) = loadA A q := by unfold loadI; rw [if_pos hm]; rfl
    rw [e1] at he ⊢
    have hn : A.tr q = none := by
      cases ht : A.tr q with
      | none => rfl
      | some l =>
        unfold loadA at he
        rw [ht] at he
        simp only at he
        split at he <;> simp at he
    have e2 : loadA A q = ([], 11) := by unfold loadA; rw [hn]
    rw [e2]
    obtain ⟨j, t, m, x, C, Z, vals, M, N, ⟨hb, hz, hv, htk⟩, hTZ, hFl, hF0⟩ := oz_out h hT
    obtain ⟨s, hs, cg⟩ := bzgetA hb hz q1 q6
    have hsl := hv.slot q q1 q6
    rw [hn] at hsl
    have hsl : vals q = none := hsl
    rw [hsl] at cg
    exact (turn_none q1 q6 hT cg).mono fun e w' ⟨h1, h2⟩ => ⟨h1, oz_lf h h2 (by omega)⟩
theorem i_forget (i : Int) (hT : Tab W) (h : OZ d u W F (A, k)) (hk : k ≤ 2000000) (hi : i64 i) :
    Calls Tryz.prog 16 #[.pointer (some ⟨u, 0, none⟩), .int .i64 i] W fun e w' => e = .returned (.int .i64 (forgetE i : Nat)) ∧ Lf (OZ d u) W F (forgetI A i, k + 10000) w' := by
  cases hm : may i with
  | false =>
    have e1 : forgetE i = 1 := by unfold forgetE; rw [hm]; rfl
    have e2 : forgetI A i = A := by unfold forgetI; rw [hm]; rfl
    rw [e1, e2]
    exact (forget_no hi hm).mono fun e w' ⟨h1, h2⟩ => ⟨h1, oz_lf h h2 (by omega)⟩
  | true =>
    obtain ⟨q, rfl, q1, q6⟩ := Ac.may_nat hm
    have e1 : forgetE (q : Int) = 0 := by unfold forgetE; rw [if_pos hm]
    have e2 : forgetI A (q : Int) = forgetA A q := by unfold forgetI; rw [if_pos hm]; rfl
    rw [e1, e2]
    obtain ⟨j, t, m, x, C, Z, vals, M, N, ⟨hb, hz, hv, htk⟩, hTZ, hFl, hF0⟩ := oz_out h hT
    have hm8 := hv.mB
    have hn8 := hv.nB
    have hlen := heldK_len (κ := keyD C) (f := rdl (dropA A q)) (N := 200) (drop_len hv (by omega)) 6
    refine (forget_any hb htk.xk hz hTZ (by omega) (by omega) q1 q6 (fun n n1 n6 => vk_drop hv (by omega) n1 n6) (drop_len hv (by omega))).mono fun e w' ⟨he, Z', hz', hw⟩ => ⟨he, oz_in hw hz' (hv_forget hv q1 q6 (by omega) hw.good (by omega)) (htk.mono (by omega)) hT hF0⟩
end
end Go.Proofs.YtdkgkomjbpggeaaGreatDoor.Az

namespace Go.Proofs.YtdkgkomjbpggeaaGreatDoor.Az
open Go.RowKit Go.ChangeShapes Go.WideShapes Tx Pm Dk Wm Wr Wl Pl Tb Bl Fm
open Fr hiding sv Texts cnt cnt_snoc
open En (Et tcheck Ents)
open Ac (Ar upd upd_same upd_other files saveA turnA backA forgetA calm loadA loadI saveI saveE forgetI forgetE may Lf)
set_option linter.unusedVariables false
set_option linter.unusedSimpArgs false
set_option linter.unnecessarySimpa false
def noV : Nat → Option ByteArray := fun _ => none
theorem ks0 : Ks [] [] 6 := ⟨[keyA 1, keyA 2, keyA 3, keyA 4, keyA 5, keyA 6], Nat.le_refl _, (fun c h => by cases h), (fun y h => by cases h), fun i h1 h6 => by
    obtain rfl | rfl | rfl | rfl | rfl | rfl : i = 1 ∨ i = 2 ∨ i = 3 ∨ i = 4 ∨ i = 5 ∨ i = 6 := by omega
    all_goals simp, fun p hp => by
    simp only [List.mem_cons, List.not_mem_nil, or_false] at hp
    rcases hp with rfl | rfl | rfl | rfl | rfl | rfl <;> exact keyA_size (by omega)⟩
theorem rw0 : Rw [] [] [] [] noV 6 := ⟨⟨List.Pairwise.nil, fun p _ => rfl⟩, fun p _ => rfl, ⟨fun i _ _ => rfl, fun p _ _ => rfl⟩, ks0⟩
theorem hv0 : Hv Ac.a0 0 [] noV 0 6 := ⟨good_nil, by omega, by omega, by show 0 ≤ _; omega, Ac.good0, (fun i t h => by cases h), fun i _ _ => rfl, (fun i v h => by cases h), fun d => by
    have e : tot (hold Ac.a0) d = 0 := rfl
    rw [e]
    exact Nat.zero_le _, fun _ _ d => rfl, fun _ h => by cases h⟩
theorem tk00 : Tk x0 0 := ⟨0, ht_new, by omega, by show ws [] ≤ _; unfold ws; simp [x0], fun z h => by cases h⟩
section
variable {d t u k : Nat} {W : World} {F : Nat → Prop} {A : Ar}
theorem i_new (hT : Tab W) : Calls Tryz.prog 6 #[] W fun e w' => ∃ d F, e = .returned (.pointer (some ⟨d, 0, none⟩)) ∧ CZ d w' F (Ac.a0, 0) ∧ (∀ i, F i → W.heap.size ≤ i) ∧ Below W.heap.size W w' := by
  refine (w_new W (Below.refl _ W)).mono fun e w' ⟨b, he, F, h1, h2, h3⟩ => ⟨b, F, he, ⟨newS, x0, [], [], noV, 0, 6, h1, fun hf => ?_, new_ok7, new_open7, rw0, hv0, tk00⟩, h2, h3⟩
  have := h2 0 hf
  have := tab_pos hT
  omega
theorem i_open (hT : Tab W) (h : CZ d W F (A, k)) : Calls Tryz.prog 7 #[.pointer (some ⟨d, 0, none⟩), .string ⟨#[115, 121, 115]⟩] W fun e w' => ∃ t, e = .returned (.tuple #[.pointer (some ⟨t, 0, none⟩), .int .i64 0]) ∧ Lf (PZ d t) W F (A, k) w' := by
  obtain ⟨s, x, C, Z, vals, M, N, h1, h0, o1, o2, h3, h4, h5⟩ := h
  have c := open_any d pS pB pG W h1 sys_base sys_log o1
  rw [o2] at c
  refine c.mono fun e w' hh => ?_
  rcases hh with ⟨_, t, j, m, he, F', q1, q2, q3⟩ | ⟨hn, _⟩
  · exact ⟨t, he, F', ⟨j, m, x, C, Z, vals, M, N, q1, fun hf => (q3 0 hf).elim h0 (fun hh => by have := tab_pos hT; omega), h3, h4, h5⟩, q2, q3⟩
  · exact absurd rfl hn
theorem i_begin (hT : Tab W) (h : PZ d t W F (A, k)) : Calls Tryz.prog 9 #[.pointer (some ⟨t, 0, none⟩)] W fun e w' => ∃ u, e = .returned (.pointer (some ⟨u, 0, none⟩)) ∧ Lf (OZ d u) W F (A, k) w' := by
  obtain ⟨j, m, x, C, Z, vals, M, N, ⟨Fj, h1⟩, h0, h3, h4, h5⟩ := h
  refine (begin_any (some ⟨t, 0, none⟩) W).mono fun e w' ⟨u, he, G, hB, hG, hb⟩ => ?_
  have hpos := tab_pos hT
  refine ⟨u, he, fun i => F i ∨ G i, ⟨j, t, m, x, [], C, Z, vals, M, N, ⟨F, G, ⟨Fj, h1.below hb⟩, hB, fun i hi hg => by have := h1.lt i hi; have := hG i hg; omega, fun i => Iff.rfl⟩, fun hf => hf.elim h0 (fun hg => by have := hG 0 hg; omega), h3, h4, h5⟩, Chg.of_below hb, fun g hg => hg.elim .inl (fun hh => .inr (hG g hh))⟩
set_option maxRecDepth 100000 in
theorem i_commit (hT : Tab W) (h : OZ d u W F (A, k)) (hk : k ≤ 2000000) : Calls Tryz.prog 18 #[.pointer (some ⟨u, 0, none⟩)] W fun e w' => e = .returned (.int .i64 0) ∧ Lf (CZ d) W F (A, k + 10000) w' := by
  obtain ⟨j, t, m, x, l, C, Z, vals, M, N, h1, h0, ⟨r1, r2, r3, r4⟩, hv, K, g1, g2, g3, g4⟩ := h
  have hv : Hv A k C vals M N := hv
  have g2 : 10000 * K ≤ k := g2
  have hf := f_facts (⟨F, h1, Chg.refl F W, fun g hg => .inl hg⟩ : OwF (Tu d j t m u) (W, F) (x, l) W)
  have hm8 := hv.mB
  have hn8 := hv.nB
  have hcz := hv.czB
  have hws := ws_state r1 hv.good (by omega) r2 r3 (b := k + 5810) (fun i v hi => (hv.out i v hi).2.2)
  have hwt := wt_rows (L := x.L) hf.1 hf.2 r4
  have hxl := ws_len x.L
  have g5 : 10000 * (K + 1) ≤ k + 10000 := by omega
  have g6 : k ≤ k + 10000 := Nat.le_add_right _ _
  have g7 : K ≤ 1000 := by omega
  have g8 : K + 1 ≤ 1000 := by omega
  obtain ⟨k1, y, k2, k3, k4⟩ := ht_commit (l := l) g1 g7 (by omega) (by omega) (by omega)
  have c := commit_any d j t m u pB pG W h1 k1
  rw [k2] at c
  obtain ⟨o1, o2⟩ := ht_open k3 g8
  refine c.mono fun e w' ⟨he, ⟨F', ⟨Fj, q1⟩, q2, q3⟩, _⟩ => ⟨he, ?_⟩
  obtain ⟨v, Fd, hj⟩ := q1.jn
  have hsub : ∀ i, Fd i → F' i := fun i hi => (q1.foot i).2 (.inl ((hj.foot i).2 (.inl hi)))
  obtain ⟨S, s1, s2, s3, s4, s5⟩ := r4
  refine ⟨Fd, ⟨y.j.s, y, C, Z, vals, M, N, hj.dsk, fun hf0 => (q3 0 (hsub 0 hf0)).elim h0 (fun hh => by have := tab_pos hT; omega), o1, o2, ?_, hv.mono g6, ⟨K + 1, k3, g5, by rw [k4]; omega, fun z hz => ?_⟩⟩, q2, fun g hg => q3 g (hsub g hg)⟩
  · rw [k4]
    exact ⟨r1, r2, r3, S, s1, (fun c h => by cases h), s3, s4, s5⟩
  · rw [k4] at hz
    rcases mem_all hz with ⟨c, hc, rfl⟩ | hz
    · have := s5 _ (s2 c hc).1
      show c.key.size ≤ 1000
      omega
    · exact g4 z hz
theorem i_keysB (hT : Tab W) (h : OZ d u W F (A, k)) (hk : k ≤ 10000000) : Calls Tryz.prog 20 #[.pointer (some ⟨u, 0, none⟩), .string ⟨#[98, 47]⟩] W (Ac.KeysTo W (Ac.kept A) (Ac.well A)) := by
  obtain ⟨j, t, m, x, C, Z, vals, M, N, ⟨hb, hz, hv, htk⟩, hTZ, hFl, hF0⟩ := oz_out h hT
  have hn8 := hv.nB
  obtain ⟨K, hK, c⟩ := bzkeys hb htk.xk (by omega)
  refine c.mono fun e w' ⟨v, he, ht, hbb⟩ => ⟨v, K, he, ht, fun hw => ?_, hbb⟩
  rw [hK.length_eq, List.length_map]
  exact hv_kept hv hw
theorem i_keysA (hT : Tab W) (h : OZ d u W F (A, k)) (hk : k ≤ 10000000) : Calls Tryz.prog 20 #[.pointer (some ⟨u, 0, none⟩), .string ⟨#[97, 47]⟩] W (Ac.KeysTo W 0 (∀ j, A.tr j = none)) := by
  obtain ⟨j, t, m, x, C, Z, vals, M, N, ⟨hb, hz, hv, htk⟩, hTZ, hFl, hF0⟩ := oz_out h hT
  have hn8 := hv.nB
  obtain ⟨l, o1, o2, o3, o4, o5⟩ := hb
  have hf := f_facts o1
  have hll := o5.len hf.2
  have c := f_bkeys (p := ⟨#[97, 47]⟩) o1 htk.xk (by omega) o5.short (by decide)
  refine c.mono fun e w' ⟨v, he, ht, hbb⟩ => ⟨v, _, he, ht, fun hn => ?_, hbb⟩
  have hnil : held (pre7 ⟨#[97, 47]⟩) (all7 x.L l) = [] := List.eq_nil_iff_forall_not_mem.2 (fun a ha => by
    obtain ⟨e1, e2⟩ := (mem_held o2.rises).1 ha
    have hnb : beg pB2 a = false := by
      cases hbg : beg pB2 a with
      | false => rfl
      | true =>
        obtain ⟨r1, hr1⟩ := (beg_iff _ _).1 hbg
        obtain ⟨r2, hr2⟩ := (beg_iff _ _).1 e2
        rw [hr1] at hr2
        have : (98 : UInt8) = 97 := (List.cons.inj hr2).1
        exact absurd this (by decide)
    rw [o4 a hnb] at e1
    by_cases hex : ∃ i, 1 ≤ i ∧ i ≤ 6 ∧ a = keyA i
    · obtain ⟨i, i1, i6, rfl⟩ := hex
      rw [hz.1 i i1 i6] at e1
      have hsl := hv.slot i i1 i6
      rw [hn i] at hsl
      have hsl : vals i = none := hsl
      rw [hsl] at e1
      cases e1
    · rw [hz.2 a hnb (fun i i1 i6 e => hex ⟨i, i1, i6, e⟩)] at e1
      cases e1)
  rw [hnil]
  rfl
end
theorem impl : Ac.Impl Tab OZ CZ PZ where
  kO := kd_oz
  kC := kd_cz
  kP := kd_pz
  tk := fun hT hb => hT.below hb
  new := fun hT => i_new hT
  open_ := fun hT h _ => i_open hT h
  begin := fun hT h _ => i_begin hT h
  save := fun i a n c l hT h hk hi hl hnc hcm hoff => i_save i a n c l hT h hk hi hl hnc hcm hoff
  load := fun i hT h hk hi => i_load i hT h hk hi
  turn := fun i b t hT h hk h1 h6 hl hu hb => i_turn i b t hT h hk h1 h6 hl hu hb
  back := fun i b t hT h hk h1 h6 hl hu hw hb => i_back i b t hT h hk h1 h6 hl hu hw hb
  turnE := fun i b hT h hk hi hb he => i_turnE i b hT h hk hi he
  forget := fun i hT h hk hi => i_forget i hT h hk hi
  commit := fun hT h hk => i_commit hT h hk
  keysB := fun hT h hk => i_keysB hT h hk
  keysA := fun hT h hk => i_keysA hT h hk
end Go.Proofs.YtdkgkomjbpggeaaGreatDoor.Az
