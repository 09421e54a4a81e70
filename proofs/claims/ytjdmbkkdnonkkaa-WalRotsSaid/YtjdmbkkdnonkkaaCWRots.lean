/-
  WalRots: of a journal in which one bit behind a record's length has turned, the records ahead of that one are told, and that there is damage: the law returns true, and writes nothing that was there. No condition beside the sizes that every first form has.
-/
import Derived.Test.YtjdmbkkdnonkkaaU2
import Derived.SliceStrings
import Derived.SizedLaws
import Derived.ChangeOld
namespace Go.Proofs.Ytjdmbkkdnonkkaa.Dk
open Go.RowKit Tx Pm Pl Pr
set_option linter.unusedVariables false
set_option maxRecDepth 100000 in
set_option maxHeartbeats 2000000 in
theorem iRot_w (b bi bl : Nat) (l : Int) (s : St) (p : ByteArray) (bit : Int) (w : World) (h : Ia b bi bl l w s) (ok : Ok s) (hp : p.size ≤ 8000000000000) (hbit : -9223372036854775808 ≤ bit ∧ bit ≤ 9223372036854775807)
    (hsz : (old s.L p).data.size ≤ 1000000000000000000 ∧ (old s.L p).kept.size ≤ 1000000000000000000) :
    Calls Try.prog 10 #[.pointer (some ⟨b, 0, none⟩), .string p, .int .i64 bit] w fun e w' => e = .returned (.int .i64 ((rotS s p bit).1 : Nat)) ∧ Ip b bi bl w (rotS s p bit).2 w' := by
  have c1 := iMaySync_any b bi bl l s p w h hp
  have hself : ∀ w', Below w.heap.size w w' → Ip b bi bl w s w' := fun w' hb => Ip.of (h.below hb) hb
  unfold rotS
  by_cases h1 : there s p ≠ 0
  · rw [if_pos h1]
    have HS := Lib.hid hself
    have e1 := ne_eq h1
    generalize there s p = E at c1 e1 ⊢
    clear h hself h1
    go_enter Try.func10, Try.ntmps10
    go_wp2_with (go_at_call 23; refine c1.mono ?_; rintro e w1 ⟨rfl, hb1⟩)
    go_ret
    exact ⟨rfl, HS.out _ hb1⟩
  · rw [if_neg h1]
    have h0 : there s p = 0 := by omega
    rw [h0] at c1
    have hk := (there_kind h0).2
    have hod : (old s.L p).dir = false := (old_file h0).1
    have ct1 := fun W => Fr.fTurn_w (old s.L p).data bit W hsz.1 hbit.1 hbit.2
    have ct2 := fun W => Fr.fTurn_w (old s.L p).kept bit W hsz.2 hbit.1 hbit.2
    have cs := fun W (hW : Ia b bi bl l W s) => iSet_any b bi bl l s { old s.L p with data := Fr.tn (old s.L p).data bit, kept := Fr.tn (old s.L p).kept bit } (old s.L p).stamp p W hW (old_path _ _) hp ok.fit.1 ok.stamps
    rw [show kOf { old s.L p with data := Fr.tn (old s.L p).data bit, kept := Fr.tn (old s.L p).kept bit } = 2 from kOf_file hod, show stOf { old s.L p with data := Fr.tn (old s.L p).data bit, kept := Fr.tn (old s.L p).kept bit } = stOf (old s.L p) from rfl] at cs
    simp only at cs
    have hlk := fun W (hW : Below w.heap.size w W) => (h.below hW).look (p := p) (maxLen_of hp)
    rw [hk] at hlk
    have HLK := Lib.hid hlk
    have HC := Lib.hid (fun W (hW : Below w.heap.size w W) => (h.below hW).cell.1)
    have HI := Lib.hid (fun W (hW : Below w.heap.size w W) => h.below hW)
    have hft := h.lt
    have HF := Lib.hid hft
    generalize putS s { old s.L p with data := Fr.tn (old s.L p).data bit, kept := Fr.tn (old s.L p).kept bit } = s2 at cs ⊢
    generalize Fr.tn (old s.L p).data bit = TX at ct1 cs
    generalize Fr.tn (old s.L p).kept bit = TY at ct2 cs
    generalize (old s.L p).data = X at ct1 HLK
    generalize (old s.L p).kept = Y at ct2 HLK
    generalize stOf (old s.L p) = T at HLK cs
    generalize ((old s.L p).stamp : Int) = M at HLK cs
    clear h hself h1 h0 hk hod hlk hft hsz ok
    go_enter Try.func10, Try.ntmps10
    go_wp2_with (go_at_call 23; refine c1.mono ?_; rintro e w1 ⟨rfl, hb1⟩; have g0 := HC.out _ hb1; have l0 := HLK.out _ hb1; have l1 := fun o => HLK.out _ (below_call hb1 ((Below.refl _ w1).alloc (Nat.le_refl _) o)))
    have hbx : Box5 (w1.alloc (.cells #[.int .i64 2, .string X, .string Y, .int .i64 T, .int .i64 M] 43)) w1.heap.size 2 X Y T M := box5_of (new_at w1 _ rfl)
    have hblk := new_at w1 (.cells #[.int .i64 2, .string X, .string Y, .int .i64 T, .int .i64 M] 43) rfl
    have hwm : ∀ W, Below (w1.alloc (.cells #[.int .i64 2, .string X, .string Y, .int .i64 T, .int .i64 M] 43)).heap.size (w1.alloc (.cells #[.int .i64 2, .string X, .string Y, .int .i64 T, .int .i64 M] 43)) W → ∀ k, W.frozen? ⟨w1.heap.size, k, none⟩ = false := by
      intro W hW k
      unfold World.frozen?
      rw [hW.block _ (by simp), hblk]
      simp
    refine Rg.wp_only ?_ (regRot _ (by kernel_rfl) _ w1.heap.size X Y TX TY 2 T M bit _ hbx hwm ct1 ct2)
    rintro _ w9 ⟨rfl, w4, hb4, rfl⟩
    have hbox4 := hbx.below hb4
    have hI4 := HI.out _ (below_call (below_call hb1 ((Below.refl _ w1).alloc (Nat.le_refl _) _)) hb4)
    have hnf : ∀ i, Ft b bi bl i → i ≠ w1.heap.size := fun i hi => by have := HF.out i hi; have := hb1.size; omega
    have hI5 := (hI4.chg (F := (· = w1.heap.size)) (chg_set (b := w1.heap.size) (k := 1) (.string TX)) (fun i hi => hnf i hi)).chg (F := (· = w1.heap.size)) (chg_set (b := w1.heap.size) (k := 2) (.string TY)) (fun i hi => hnf i hi)
    have hcg : Chg (Ft b bi bl) w ((w4.setCell ⟨w1.heap.size, 1, none⟩ (.string TX)).setCell ⟨w1.heap.size, 2, none⟩ (.string TY)) := by
      have hb5 := below_call (below_call hb1 ((Below.refl _ w1).alloc (Nat.le_refl _) (.cells #[.int .i64 2, .string X, .string Y, .int .i64 T, .int .i64 M] 43))) hb4
      have hz := hb1.size
      exact Chg.of_below ((hb5.setCell (by exact hz) _).setCell (by exact hz) _)
    have HCG := Lib.hid hcg
    have cs5 := cs _ hI5
    obtain ⟨hlt4, m0, m1, m2, m3, m4⟩ := hbox4
    have hw4 := fun k => hwm _ hb4 k
    clear hI4 hI5 hcg cs hbx hblk hwm l1
    go_wp2_with fail
    refine cs5.mono ?_
    rintro e w6 ⟨rfl, l6, hI6, hC6⟩
    go_wp2_with fail
    go_ret
    exact ⟨rfl, l6, hI6, HCG.out.then hC6⟩
end Go.Proofs.Ytjdmbkkdnonkkaa.Dk

namespace Go.Proofs.Ytjdmbkkdnonkkaa.Wl
open Go.RowKit Tx Pm Pl Pr Dk Fr
set_option linter.unusedVariables false
theorem w_rot {w0 W : World} {b k : Nat} {s s' : St} {p : ByteArray} {bit : Int} (h : Own (ImpAt b) w0 s W) (ok : Ok s) (hp : p.size ≤ 8000000000000) (hb : -9223372036854775808 ≤ bit ∧ bit ≤ 9223372036854775807) (hz : (old s.L p).data.size ≤ 1000000000000000000 ∧ (old s.L p).kept.size ≤ 1000000000000000000) (he : rotS s p bit = (k, s')) :
    Calls Try.prog 10 #[.pointer (some ⟨b, 0, none⟩), .string p, .int .i64 bit] W fun e w' => e = .returned (.int .i64 (k : Nat)) ∧ Own (ImpAt b) w0 s' w' :=
  h.call (fun F hh => by
    obtain ⟨bi, bl, l, hI, hg, hF⟩ := hh
    have c := iRot_w b bi bl l s p bit W hI ok hp hb hz
    have hg' := good_rot (p := p) (bit := bit) hg
    rw [he] at c hg'
    exact c.mono fun e w' ht => ⟨ht.1, ht.2.left hg' hF⟩)
theorem j_rot (t : ByteArray) (sn st sm : Nat) (bit : Int) : rotS (J t sn st sm (-1)) pL bit = (0, J (tn t bit) (sm + 1) st (sm + 1) (-1)) := by
  have h1 : there (J t sn st sm (-1)) pL = 0 := by kernel_rfl
  have h2 : old (J t sn st sm (-1)).L pL = syn pL t sn := by kernel_rfl
  unfold rotS
  rw [if_neg (by rw [h1]; decide), h2]
  unfold syn
  simp only
  generalize tn t bit = u
  change (_ : Nat × St) = _
  kernel_rfl
theorem scan_pre : ∀ (T : List ByteArray) (pre X : List UInt8), (∀ t ∈ T, t.size ≤ 9223372036854775807) →
    Fm.sc ⟨(pre ++ (PKl T ++ X)).toArray⟩ pre.length = (T ++ (Fm.sc ⟨(pre ++ (PKl T ++ X)).toArray⟩ (pre.length + (PKl T).length)).1, (Fm.sc ⟨(pre ++ (PKl T ++ X)).toArray⟩ (pre.length + (PKl T).length)).2.1, (Fm.sc ⟨(pre ++ (PKl T ++ X)).toArray⟩ (pre.length + (PKl T).length)).2.2)
  | [], pre, X, _ => by
    have e : (PKl []).length = 0 := rfl
    rw [e, Nat.add_zero]
    rfl
  | t :: T, pre, X, ht => by
    have h0 := ht t (by simp)
    have hk : 0 < (Fm.pk t).size := by rw [Fm.pk_size]; omega
    have e : pre ++ (PKl (t :: T) ++ X) = pre ++ ((Fm.pk t).data.toList ++ (PKl T ++ X)) := by rw [PKl_cons, List.append_assoc]
    have e2 : pre ++ ((Fm.pk t).data.toList ++ (PKl T ++ X)) = (pre ++ (Fm.pk t).data.toList) ++ (PKl T ++ X) := by rw [List.append_assoc]
    have ih := scan_pre T (pre ++ (Fm.pk t).data.toList) X (fun s hs => ht s (by simp [hs]))
    have hl : (PKl (t :: T)).length = (Fm.pk t).size + (PKl T).length := by rw [PKl_cons, List.length_append, Wm.len_l]
    rw [e, Fm.sc_one (n := (Fm.pk t).size) (t := t) (by rw [Fr.mk_len, List.length_append, List.length_append, Wm.len_l]; omega) (by rw [from_at, fr_pk t _ h0]), e2, hl]
    rw [List.length_append, Wm.len_l] at ih
    rw [ih, Nat.add_assoc]
    rfl
theorem set_mid {α : Type} (P M Q : List α) (i : Nat) (v : α) (h : i < M.length) : (P ++ (M ++ Q)).set (P.length + i) v = P ++ (M.set i v ++ Q) := by
  rw [List.set_append_right _ _ (by omega), Nat.add_sub_cancel_left, List.set_append_left _ _ h]
theorem getD_mid {α : Type} (P M Q : List α) (i : Nat) (d : α) (h : i < M.length) : (P ++ (M ++ Q)).getD (P.length + i) d = M.getD i d := by
  rw [List.getD_eq_getElem?_getD, List.getElem?_append_right (by omega), Nat.add_sub_cancel_left, List.getElem?_append_left h, ← List.getD_eq_getElem?_getD]
theorem scan_rot (l : List ByteArray) (k : Nat) (r : ByteArray) (B : Nat) (hr : l[k]? = some r) (hw : ∀ x ∈ l, x.size ≤ 140737488351232) (h1 : 8 * (Wm.vb r.size).length ≤ B) (h2 : B < 8 * (Fm.pk r).size) :
    ∃ u : ByteArray, tn (PK l) ((8 * (PKl (l.take k)).length + B : Nat) : Int) = u ∧ u.size = (PK l).size ∧ Fm.sc u 0 = (l.take k, (PKl (l.take k)).length, 6) := by
  have hkl := (List.getElem?_eq_some_iff.1 hr).1
  have hrw : r.size ≤ 140737488351232 := hw r (List.mem_of_getElem? hr)
  obtain ⟨Q, hQ⟩ : ∃ Q, Q = PKl (l.drop (k + 1)) := ⟨_, rfl⟩
  obtain ⟨P, hP⟩ : ∃ P, P = PKl (l.take k) := ⟨_, rfl⟩
  have e : PKl l = P ++ ((Fm.pk r).data.toList ++ Q) := by
    have e1 : l = l.take k ++ (r :: l.drop (k + 1)) := by
      rw [List.getElem?_eq_getElem hkl] at hr
      injection hr with hr
      rw [← hr, ← List.drop_eq_getElem_cons hkl, List.take_append_drop]
    conv => lhs; rw [e1]
    unfold PKl at *
    rw [List.map_append, List.flatten_append, List.map_cons, List.flatten_cons, ← hP, ← hQ]
  have hM : (Fm.pk r).data.toList.length = (Fm.pk r).size := Wm.len_l _
  have hsz : (PK l).size = P.length + ((Fm.pk r).size + Q.length) := by rw [PK_size, e, List.length_append, List.length_append, hM]
  have hB8 : (8 * P.length + B) / 8 = P.length + B / 8 := by omega
  have hBm : (8 * P.length + B) % 8 = B % 8 := by omega
  have hlt : (8 * P.length + B) / 8 < (PK l).size := by omega
  have hlB : B / 8 < (Fm.pk r).data.toList.length := by rw [hM]; omega
  have hp0 : 0 < (Fm.pk r).size := by rw [Fm.pk_size]; omega
  rw [← hP]
  have et : tn (PK l) ((8 * P.length + B : Nat) : Int) = trn (PK l) (8 * P.length + B) := by
    unfold tn
    rw [if_neg (by omega), ← Int.natCast_emod, Nat.mod_eq_of_lt (by omega), Int.toNat_natCast]
  refine ⟨_, rfl, ?_, ?_⟩
  · rw [et, trn_size _ _ hlt]
  · have e3 : trn (PK l) (8 * P.length + B) = ⟨([] ++ (P ++ ((trn (Fm.pk r) B).data.toList ++ Q))).toArray⟩ := by
      apply ByteArray.ext
      apply Array.toList_inj.1
      rw [trn_list _ _ hlt, hB8, hBm, trn_list (Fm.pk r) B (by rw [← hM]; exact hlB)]
      show (PKl l).set _ (UInt8.ofNat (flip ((PKl l).getD _ 0).toNat _)) = _
      rw [e, getD_mid _ _ _ _ _ hlB, set_mid _ _ _ _ _ hlB]
      rfl
    have hs := scan_pre (l.take k) [] ((trn (Fm.pk r) B).data.toList ++ Q) (fun t ht => by have := hw t (List.mem_of_mem_take ht); omega)
    rw [← hP] at hs
    rw [et, e3]
    simp only [List.length_nil, Nat.zero_add] at hs
    have hb : Fm.sc ⟨([] ++ (P ++ ((trn (Fm.pk r) B).data.toList ++ Q))).toArray⟩ P.length = ([], P.length, 6) := by
      have hf := fr_turned r Q B (by omega) h1 h2
      have hfrom := from_at P ((trn (Fm.pk r) B).data.toList ++ Q)
      have htl : (trn (Fm.pk r) B).data.toList.length = (Fm.pk r).size := by rw [Wm.len_l, trn_size _ _ (by rw [← hM]; exact hlB)]
      rw [List.nil_append]
      exact Fm.sc_bad (t := ⟨#[]⟩) (n := 0) (e := 6) (by rw [Fr.mk_len, List.length_append, List.length_append, htl]; omega) (by rw [hfrom, hf]) (by decide)
    rw [hb] at hs
    rw [hs, List.append_nil]
end Go.Proofs.Ytjdmbkkdnonkkaa.Wl

namespace Go.Proofs.Ytjdmbkkdnonkkaa.Rg
open Go.RowKit
set_option linter.unusedVariables false
section
variable {P : Program} {S : World → Prop}
theorem y_slice {o : Oper} {a : Act} {T : TypeId} {x h : Operand} {vx vh v : Value} (ho : o.op = .slice T x none (some h) none) (hx : a.eval x = vx) (hh : a.eval h = vh)
    (hv : ∀ w, S w → (Instr.sliceAt T vx none (some vh) none).run P w = .ok v w) : ∀ w, S w → (execOp a.eval o).run P w = .ok (.value v) w := by
  intro w hw
  obtain ⟨dst, op, ty, pos, after, guard⟩ := o
  simp only at ho
  subst ho
  have := hv w hw
  simp only [execOp, hx, hh, Option.map_some, Option.map_none, Sem.run_bind]
  rw [this]
  rfl
end
section
variable {P : Program} {ops : Array Oper} {R : Act → World → Prop} {S : World → Prop}
end
end Go.Proofs.Ytjdmbkkdnonkkaa.Rg

namespace Go.Proofs.Ytjdmbkkdnonkkaa.Wl
open Go.RowKit Tx
set_option linter.unusedVariables false
set_option maxRecDepth 100000 in
set_option maxHeartbeats 2000000 in
theorem regRots (ops : Array Oper) (hops : ops = (Rg.opsOf Try.f3 22)) (id : Nat) (A : Option Addr) (n c k0 j : Nat) {u2 u3 u4 u5 u6 u7 u8 u9 u10 u11 u12 u13 u16 u17 u18 u19 u20 u21 u22 u23 u24 u25 u26 u27 u28 u29 u30 u31 u32 u33 u34 u35 u36 u37 u38 u39 u40 u41 u42 u43 u44 u45 u46 u47 u48 u49 u50 u51 u52 u53 u54 u55 u56 u57 u58 u59 u60 u61 u62 u63 u64 u65 u66 u67 u68 u69 u70 u71 u72 u73 u74 u75 u76 u77 u78 u79 u80 u81 u82 u83 u84 u85 u86 u87 u88 u89 u90 u91 u92 u93 u94 u95 u96 u97 u98 u99 u100 u101 u102 u103 u104 u105 u106 u107 u108 u109 u110 u111 u112 u113 u114 u115 u116 u117 u118 u119 u120 u121 u122 u123 u124 u125 u126 u127 u128 u129 u130 u131 : Value} (w : World) (B1 B3 : World → Prop) (B2 : Option Addr → Nat → World → Prop) (hk : (k0 : Int) < (n : Int)) (hkc : (k0 : Int) ≤ (c : Int))
    (cd : Calls Try.prog 11 #[.pointer (some ⟨j, 0, none⟩)] w.drew fun e w' => e = .returned (.bool true) ∧ B1 w')
    (cr : ∀ W, B1 W → Calls Try.prog 13 #[.pointer (some ⟨j, 0, none⟩)] W fun e w' => ∃ a9 c9, e = .returned (.slice a9 k0 c9) ∧ B2 a9 c9 w')
    (cs : ∀ a9 c9 W, B2 a9 c9 W → Calls Try.prog 12 #[.slice a9 k0 c9, .slice A k0 c] W fun e w' => e = .returned (.bool true) ∧ B3 w') :
    (Code.region id ops true).wp Try.prog (Rg.Only fun a' w' => ∃ a9 c9, a' = ⟨#[(.slice A n c), (.int .i64 (k0 : Nat)), u2, u3, u4, u5, (.bool true), u7, u8, u9, u10, u11, u12, u13, (.pointer (some ⟨j, 0, none⟩)), (.int .i64 0), u16, u17, u18, u19, u20, u21, u22, u23, u24, u25, u26, u27, u28, u29, u30, u31, u32, u33, u34, u35, u36, u37, u38, u39, u40, u41, u42, u43, u44, u45, u46, u47, u48, u49, u50, u51, u52, u53, u54, u55, u56, u57, u58, u59, u60, u61, u62, u63, u64, u65, u66, u67, u68, u69, u70, u71, u72, u73, u74, u75, u76, u77, u78, u79, u80, u81, u82, u83, u84, u85, u86, u87, u88, u89, u90, u91, u92, u93, u94, u95, u96, u97, u98, u99, u100, u101, u102, u103, u104, u105, u106, u107, u108, u109, u110, u111, u112, u113, (.pointer (some ⟨j, 0, none⟩)), (.bool true), (.bool true), (.int .i64 0), (.bool true), (.bool true), (.bool true), (.pointer (some ⟨j, 0, none⟩)), (.bool true), (.bool true), (.bool true), (.pointer (some ⟨j, 0, none⟩)), (.slice a9 k0 c9), (.slice A n c), (.int .i64 (k0 : Nat)), (.slice A k0 c), (.bool true), (.bool true)], []⟩ ∧ B3 w') ⟨#[(.slice A n c), (.int .i64 (k0 : Nat)), u2, u3, u4, u5, u6, u7, u8, u9, u10, u11, u12, u13, (.pointer (some ⟨j, 0, none⟩)), (.int .i64 0), u16, u17, u18, u19, u20, u21, u22, u23, u24, u25, u26, u27, u28, u29, u30, u31, u32, u33, u34, u35, u36, u37, u38, u39, u40, u41, u42, u43, u44, u45, u46, u47, u48, u49, u50, u51, u52, u53, u54, u55, u56, u57, u58, u59, u60, u61, u62, u63, u64, u65, u66, u67, u68, u69, u70, u71, u72, u73, u74, u75, u76, u77, u78, u79, u80, u81, u82, u83, u84, u85, u86, u87, u88, u89, u90, u91, u92, u93, u94, u95, u96, u97, u98, u99, u100, u101, u102, u103, u104, u105, u106, u107, u108, u109, u110, u111, u112, u113, u114, u115, u116, u117, u118, u119, u120, u121, u122, u123, u124, u125, u126, u127, u128, u129, u130, u131], []⟩ w := by
  subst hops
  have hNS : Region.noSelect (Rg.opsOf Try.f3 22) = true := by kernel_rfl
  refine wp_region_held_drew (S := fun _ => True) (by kernel_rfl) trivial (fun hHeld => ?_)
  rw [show (Rg.opsOf Try.f3 22).size = 19 by kernel_rfl]
  refine Rg.take (ops := (Rg.opsOf Try.f3 22)) 0 (some 114) ((.pointer (some ⟨j, 0, none⟩))) hNS (by kernel_rfl) (by kernel_rfl) (by kernel_rfl) (by kernel_rfl) (by kernel_rfl) hHeld (Rg.y_move (x := (Operand.tmp 14)) (Or.inl (by kernel_rfl)) (by kernel_rfl)) ?_
  refine Rg.take (ops := (Rg.opsOf Try.f3 22)) 1 (some 115) ((.bool true)) hNS (by kernel_rfl) (by kernel_rfl) (by kernel_rfl) (by kernel_rfl) (by kernel_rfl) hHeld (Rg.y_bin (b := BinOp.neq) (T := 26) (R' := 26) (x := (Operand.tmp 114)) (y := (Operand.const (Value.pointer none))) (vx := (.pointer (some ⟨j, 0, none⟩))) (vy := (Value.pointer none)) (by kernel_rfl) (by kernel_rfl) (by kernel_rfl) ?_) ?_
  · (intro w hSw; go_simp)
  refine Rg.take (ops := (Rg.opsOf Try.f3 22)) 2 (some 116) ((.bool true)) hNS (by kernel_rfl) (by kernel_rfl) (by kernel_rfl) (by kernel_rfl) (by kernel_rfl) hHeld (Rg.y_move (x := (Operand.tmp 115)) (Or.inl (by kernel_rfl)) (by kernel_rfl)) ?_
  refine Rg.take (ops := (Rg.opsOf Try.f3 22)) 3 (some 117) ((.int .i64 0)) hNS (by kernel_rfl) (by kernel_rfl) (by kernel_rfl) (by kernel_rfl) (by kernel_rfl) hHeld (Rg.y_move (x := (Operand.tmp 15)) (Or.inl (by kernel_rfl)) (by kernel_rfl)) ?_
  refine Rg.take (ops := (Rg.opsOf Try.f3 22)) 4 (some 118) ((.bool true)) hNS (by kernel_rfl) (by kernel_rfl) (by kernel_rfl) (by kernel_rfl) (by kernel_rfl) hHeld (Rg.y_bin (b := BinOp.eql) (T := 27) (R' := 27) (x := (Operand.tmp 117)) (y := (Operand.const (Value.int IntKind.i64 0))) (vx := (.int .i64 0)) (vy := (Value.int IntKind.i64 0)) (by kernel_rfl) (by kernel_rfl) (by kernel_rfl) ?_) ?_
  · (intro w hSw; go_simp)
  refine Rg.take (ops := (Rg.opsOf Try.f3 22)) 5 (some 119) ((.bool true)) hNS (by kernel_rfl) (by kernel_rfl) (by kernel_rfl) (by kernel_rfl) (by kernel_rfl) hHeld (Rg.y_pick (c := (Operand.tmp 116)) (x := (Operand.tmp 118)) (y := (Operand.const (Value.bool false))) (b := true) (by kernel_rfl) (by kernel_rfl) (by kernel_rfl)) ?_
  refine Rg.take (ops := (Rg.opsOf Try.f3 22)) 6 (some 120) ((.bool true)) hNS (by kernel_rfl) (by kernel_rfl) (by kernel_rfl) (by kernel_rfl) (by kernel_rfl) hHeld (Rg.y_move (x := (Operand.tmp 119)) (Or.inl (by kernel_rfl)) (by kernel_rfl)) ?_
  refine Rg.take (ops := (Rg.opsOf Try.f3 22)) 7 (some 121) ((.pointer (some ⟨j, 0, none⟩))) hNS (by kernel_rfl) (by kernel_rfl) (by kernel_rfl) (by kernel_rfl) (by kernel_rfl) hHeld (Rg.y_move (x := (Operand.tmp 14)) (Or.inl (by kernel_rfl)) (by kernel_rfl)) ?_
  refine Rg.call (ops := (Rg.opsOf Try.f3 22)) (fn := Try.f11) (xs := #[Operand.tmp 121]) (ats := #[26]) 8 (some 122) 11 #[(.pointer (some ⟨j, 0, none⟩))] (by kernel_rfl) (by kernel_rfl) (by kernel_rfl) (by kernel_rfl) (by kernel_rfl) Try.func11 (by kernel_rfl) (by kernel_rfl) (by kernel_rfl) ?_
  refine cd.mono ?_
  rintro e w5 ⟨rfl, hB1⟩
  refine ⟨_, rfl, trivial, fun hHeld => ?_⟩
  refine Rg.take (ops := (Rg.opsOf Try.f3 22)) 9 (some 123) ((.bool true)) hNS (by kernel_rfl) (by kernel_rfl) (by kernel_rfl) (by kernel_rfl) (by kernel_rfl) hHeld (Rg.y_pick (c := (Operand.tmp 120)) (x := (Operand.tmp 122)) (y := (Operand.const (Value.bool false))) (b := true) (by kernel_rfl) (by kernel_rfl) (by kernel_rfl)) ?_
  refine Rg.take (ops := (Rg.opsOf Try.f3 22)) 10 (some 124) ((.bool true)) hNS (by kernel_rfl) (by kernel_rfl) (by kernel_rfl) (by kernel_rfl) (by kernel_rfl) hHeld (Rg.y_move (x := (Operand.tmp 123)) (Or.inl (by kernel_rfl)) (by kernel_rfl)) ?_
  refine Rg.take (ops := (Rg.opsOf Try.f3 22)) 11 (some 125) ((.pointer (some ⟨j, 0, none⟩))) hNS (by kernel_rfl) (by kernel_rfl) (by kernel_rfl) (by kernel_rfl) (by kernel_rfl) hHeld (Rg.y_move (x := (Operand.tmp 14)) (Or.inl (by kernel_rfl)) (by kernel_rfl)) ?_
  refine Rg.take (ops := (Rg.opsOf Try.f3 22)) 13 (some 127) ((.slice A n c)) hNS (by kernel_rfl) (by kernel_rfl) (by kernel_rfl) (by kernel_rfl) (by kernel_rfl) hHeld (Rg.y_move (x := (Operand.tmp 0)) (Or.inl (by kernel_rfl)) (by kernel_rfl)) ?_
  refine Rg.take (ops := (Rg.opsOf Try.f3 22)) 14 (some 128) ((.int .i64 (k0 : Nat))) hNS (by kernel_rfl) (by kernel_rfl) (by kernel_rfl) (by kernel_rfl) (by kernel_rfl) hHeld (Rg.y_move (x := (Operand.tmp 1)) (Or.inl (by kernel_rfl)) (by kernel_rfl)) ?_
  refine Rg.take (ops := (Rg.opsOf Try.f3 22)) 15 (some 129) ((.slice A k0 c)) hNS (by kernel_rfl) (by kernel_rfl) (by kernel_rfl) (by kernel_rfl) (by kernel_rfl) hHeld (Rg.y_slice (T := 22) (x := (Operand.tmp 127)) (h := (Operand.tmp 128)) (vx := (.slice A n c)) (vh := (.int .i64 (k0 : Nat))) (by kernel_rfl) (by kernel_rfl) (by kernel_rfl) ?_) ?_
  · (intro w hSw; have hb := hkc; have hkn := hk; clear hSw hkc hk; go_simp)
  refine Rg.call (ops := (Rg.opsOf Try.f3 22)) (fn := Try.f13) (xs := #[Operand.tmp 125]) (ats := #[26]) 12 (some 126) 13 #[(.pointer (some ⟨j, 0, none⟩))] (by kernel_rfl) (by kernel_rfl) (by kernel_rfl) (by kernel_rfl) (by kernel_rfl) Try.func13 (by kernel_rfl) (by kernel_rfl) (by kernel_rfl) ?_
  refine (cr _ hB1).mono ?_
  rintro e w6 ⟨a9, c9, rfl, hB2⟩
  refine ⟨_, rfl, trivial, fun hHeld => ?_⟩
  refine Rg.call (ops := (Rg.opsOf Try.f3 22)) (fn := Try.f12) (xs := #[Operand.tmp 126, Operand.tmp 129]) (ats := #[22, 22]) 16 (some 130) 12 #[(.slice a9 k0 c9), (.slice A k0 c)] (by kernel_rfl) (by kernel_rfl) (by kernel_rfl) (by kernel_rfl) (by kernel_rfl) Try.func12 (by kernel_rfl) (by kernel_rfl) (by kernel_rfl) ?_
  refine (cs _ _ _ hB2).mono ?_
  rintro e w7 ⟨rfl, hB3⟩
  refine ⟨_, rfl, trivial, fun hHeld => ?_⟩
  refine Rg.take (ops := (Rg.opsOf Try.f3 22)) 17 (some 131) ((.bool true)) hNS (by kernel_rfl) (by kernel_rfl) (by kernel_rfl) (by kernel_rfl) (by kernel_rfl) hHeld (Rg.y_pick (c := (Operand.tmp 124)) (x := (Operand.tmp 130)) (y := (Operand.const (Value.bool false))) (b := true) (by kernel_rfl) (by kernel_rfl) (by kernel_rfl)) ?_
  refine Rg.take (ops := (Rg.opsOf Try.f3 22)) 18 (some 6) ((.bool true)) hNS (by kernel_rfl) (by kernel_rfl) (by kernel_rfl) (by kernel_rfl) (by kernel_rfl) hHeld (Rg.y_move (x := (Operand.tmp 131)) (Or.inr (by kernel_rfl)) (by kernel_rfl)) ?_
  refine Rg.done (ops := (Rg.opsOf Try.f3 22)) (by kernel_rfl) ?_
  exact ⟨a9, c9, by kernel_rfl, hB3⟩
end Go.Proofs.Ytjdmbkkdnonkkaa.Wl

namespace Go.Proofs.Ytjdmbkkdnonkkaa.Dk
open Go.ChangeShapes Go.WideShapes Go.ChangeAt Go.RowKit Tx
set_option linter.unusedVariables false
theorem bulk_strs {H : Type} (l : List ByteArray) : Rows.uptoBulkAll (strs (H := H) l) = (l.map (·.size)).sum + l.length := by
  induction l with
  | nil => rfl
  | cons s l ih =>
    have e : Rows.uptoBulkAll (strs (H := H) (s :: l)) = (s.data.toList.length + 1) + Rows.uptoBulkAll (strs (H := H) l) := rfl
    rw [e, ih, len_l, List.map_cons, List.sum_cons, List.length_cons]
    omega
theorem str_weights {H : Type} (s : ByteArray) : DataW.weights Try.prog 9 (.lit (.string s.data.toList) : DataW H) = [s.data.toList.length] := by
  rw [DataW.weights]
theorem strs_weights {H : Type} {x : ByteArray} {n : Nat} : ∀ {l : List ByteArray}, x ∈ l → n ∈ DataW.weights Try.prog 9 (.lit (.string x.data.toList) : DataW H) → n ∈ DataW.weightsAll Try.prog 9 (strs (H := H) l)
  | y :: l, hx, hn => by
    have e : strs (H := H) (y :: l) = .lit (.string y.data.toList) :: strs l := rfl
    rw [e, DataW.weightsAll, List.mem_append]
    rcases List.mem_cons.1 hx with rfl | hx
    · exact .inl hn
    · exact .inr (strs_weights hx hn)
def Wide1 (l : List ByteArray) : Prop := ∀ x ∈ l, x.size ≤ 140737488351232
theorem wide_strs {H : Type} {ts : List TypeId} {ds : List (DataW H)} (h : (DataW.weightsEach Try.prog ts ds).all (· ≤ reachBytes) = true) {j : Nat} {l : List ByteArray} {rest : List (DataW H)} (ht : ts[j]? = some 22) (hd : ds[j]? = some (.slice (strs l) rest)) : Wide1 l := by
  intro x hx
  have hall := List.all_eq_true.1 h
  have hm := DataW.weights_mem_each (P := Try.prog) ht hd x.data.toList.length (by
    rw [DataW.weights, Try.underlying22]
    exact List.mem_cons_of_mem _ (List.mem_append_left _ (strs_weights hx (by rw [str_weights]; simp))))
  have := of_decide_eq_true (hall _ hm)
  rw [len_l] at this
  exact this
theorem arg_texts {H : Type} {enc : TypeId × Value → H} {w : World} {base : Nat} {spare : Nat → Bool} {held : Bool} {a : Option Addr} {n c : Nat} {d : DataW H} {p : List MemPlace} (h : DataW.Trod enc Try.prog w base spare held 22 (.slice a n c) d p) :
    ∃ l : List ByteArray, Strs w a n l ∧ (l.map (·.size)).sum ≤ Rows.uptoBulk d ∧ l.length ≤ Rows.uptoBulk d ∧ n ≤ c ∧ c ≤ 9223372036854775807 ∧ ∀ {ts : List TypeId} {ds : List (DataW H)} {j : Nat}, (DataW.weightsEach Try.prog ts ds).all (· ≤ reachBytes) = true → ts[j]? = some 22 → ds[j]? = some d → Wide1 l := by
  obtain ⟨fuel, hf⟩ := h
  rcases open_strings Try.underlying22 Try.underlying9 (by kernel_rfl) hf with ⟨hcs, _⟩ | ⟨x, len, cap, ss, hcs, _, hl, hm, hz, hx, hcell, _⟩
  · simp [Value.cells] at hcs
    obtain ⟨rfl, rfl, rfl⟩ := hcs
    exact ⟨[], ⟨rfl, .inl rfl⟩, Nat.zero_le _, Nat.zero_le _, by omega, by omega, fun _ _ _ x hx => by cases hx⟩
  · simp [Value.cells] at hcs
    obtain ⟨rfl, rfl, rfl⟩ := hcs
    unfold maxLen at hm
    have hz' : n ≤ ss.length := by rw [hz]; split <;> omega
    have hd : d = .slice (strs (ss.take n)) (strs (ss.drop n)) := congrArg Prod.fst hx
    have e : Rows.uptoBulk d = Rows.uptoBulkAll (strs (H := H) (ss.take n)) + Rows.uptoBulkAll (strs (H := H) (ss.drop n)) + 1 := by rw [hd]; rfl
    rw [bulk_strs] at e
    have hlen : (ss.take n).length = n := by rw [List.length_take]; omega
    refine ⟨ss.take n, ⟨hlen, ?_⟩, by omega, by omega, hl, by omega, fun h1 h2 h3 => wide_strs h1 h2 (by rw [h3, hd])⟩
    by_cases h0 : n = 0
    · exact .inl h0
    · right
      obtain ⟨b, off, spot⟩ := x
      have hc0 := hcell 0 (by omega)
      have hspot : spot = none := by simpa [Addr.add] using World.cell?_spot hc0
      subst hspot
      refine ⟨b, off, rfl, ?_, fun k y hk => ?_⟩
      · have := World.block_lt_of_cell? w _ hc0
        rwa [WideShapes.add_plain] at this
      · have hk2 := (List.getElem?_eq_some_iff.1 hk).1
        rw [hlen] at hk2
        have hk3 := hcell k (by omega)
        rw [WideShapes.add_plain] at hk3
        rw [hk3]
        rw [List.getElem?_take_of_lt hk2] at hk
        rw [List.getD_eq_getElem?_getD, hk]
        rfl
end Go.Proofs.Ytjdmbkkdnonkkaa.Dk

namespace Go.Proofs.Ytjdmbkkdnonkkaa.walRots
open Go.ChangeMaps (open_string shut_string)
open Go.ChangeShapes Go.WideShapes Go.ChangeAt Go.RowKit Tx Pm Dk Wl
set_option linter.unusedVariables false
theorem strs_take {w : World} {a : Option Addr} {n m : Nat} {l : List ByteArray} (h : Tx.Strs w a n l) (hm : m ≤ n) : Tx.Strs w a m (l.take m) := Fr.Strs.take h hm
theorem take_wide {l : List ByteArray} (h : ∀ r ∈ l, r.size ≤ 140737488351232) (k : Nat) : ∀ r ∈ l.take k, r.size ≤ 140737488351232 := fun r hr => h r (List.mem_of_mem_take hr)
def fr0 (l : List ByteArray) (at' k : Nat) : Nat := (Fr.PKl (l.take (min k at'))).length
theorem fr0_more {l : List ByteArray} {at' k : Nat} {r : ByteArray} (hr : l[k]? = some r) (h : k < at') : fr0 l at' (k + 1) = fr0 l at' k + (Fm.pk r).size := by
  have hk := (List.getElem?_eq_some_iff.1 hr).1
  rw [List.getElem?_eq_getElem hk] at hr
  injection hr with hr
  unfold fr0
  rw [Nat.min_eq_left (by omega), Nat.min_eq_left (by omega), List.take_succ_eq_append_getElem hk, Fr.PKl_snoc, List.length_append, Wm.len_l, hr]
theorem fr0_same {l : List ByteArray} {at' k : Nat} (h : ¬ k < at') : fr0 l at' (k + 1) = fr0 l at' k := by
  unfold fr0
  rw [Nat.min_eq_right (by omega), Nat.min_eq_right (by omega)]
theorem fr0_le {l : List ByteArray} (h : ∀ r ∈ l, r.size ≤ 140737488351232) (at' k : Nat) (hk : k ≤ 60) : fr0 l at' k ≤ 14073748835124600 := by
  have := PK_le (l := l.take (min k at')) (take_wide h _) (by rw [List.length_take]; omega) (show 60 ≤ 100 by omega)
  rw [PK_size] at this
  exact this
set_option maxRecDepth 100000 in
set_option maxHeartbeats 4000000 in
theorem walk (A : Option Addr) (n c : Nat) (l : List ByteArray) (at' bit : Int) (w : World) (hSt : Strs w A n l) (hc : n ≤ c ∧ c ≤ 9223372036854775807) (hB : ∀ x ∈ l, x.size ≤ 140737488351232) (ha : -9223372036854775808 ≤ at' ∧ at' ≤ 9223372036854775807) (hbit : -9223372036854775808 ≤ bit ∧ bit ≤ 9223372036854775807) :
    Calls Try.prog 3 #[.slice A n c, .int .i64 at', .int .i64 bit] w fun e w' => e = .returned (.bool true) ∧ Below w.heap.size w w' := by
  have HST := Lib.hid (fun W (hW : Below w.heap.size w W) => hSt.below hW)
  have HB := Lib.hid hB
  have HL := Lib.hid hSt.1
  have cm := made_any w w (Below.refl _ _)
  clear hB hSt
  by_cases h0 : at' < 0
  · go_enter Try.func3, Try.ntmps3
    go_wp2_with fail
    go_at_call 5
    refine (cm).mono ?_
    rintro e w1 ⟨b, rfl, o1⟩
    go_wp2_with fail
    go_at_call 6
    refine (awake_any6 w1 w1 (Below.refl _ _)).mono ?_
    rintro e w2 ⟨rfl, hb2⟩
    have o2 := o1.belowD hb2
    clear cm
    go_wp2_with fail
    go_at_call 6
    refine (awake_any6 w w2 o2.bel).mono ?_
    rintro e w3 ⟨rfl, hb3⟩
    go_wp2_with fail
    go_ret
    exact ⟨rfl, hb3⟩
  by_cases h1 : (n : Int) ≤ at'
  · go_enter Try.func3, Try.ntmps3
    go_wp2_with fail
    go_at_call 5
    refine (cm).mono ?_
    rintro e w1 ⟨b, rfl, o1⟩
    go_wp2_with fail
    go_at_call 6
    refine (awake_any6 w1 w1 (Below.refl _ _)).mono ?_
    rintro e w2 ⟨rfl, hb2⟩
    have o2 := o1.belowD hb2
    clear cm
    go_wp2_with fail
    go_at_call 6
    refine (awake_any6 w w2 o2.bel).mono ?_
    rintro e w3 ⟨rfl, hb3⟩
    go_wp2_with fail
    go_ret
    exact ⟨rfl, hb3⟩
  by_cases h2 : (40 : Int) < n
  · go_enter Try.func3, Try.ntmps3
    go_wp2_with fail
    go_at_call 5
    refine (cm).mono ?_
    rintro e w1 ⟨b, rfl, o1⟩
    go_wp2_with fail
    go_at_call 6
    refine (awake_any6 w1 w1 (Below.refl _ _)).mono ?_
    rintro e w2 ⟨rfl, hb2⟩
    have o2 := o1.belowD hb2
    clear cm
    go_wp2_with fail
    go_at_call 6
    refine (awake_any6 w w2 o2.bel).mono ?_
    rintro e w3 ⟨rfl, hb3⟩
    go_wp2_with fail
    go_ret
    exact ⟨rfl, hb3⟩
  obtain ⟨k0, rfl⟩ : ∃ k0 : Nat, at' = k0 := ⟨at'.toNat, by omega⟩
  have hk0 : k0 < n := by omega
  have hk0' : (k0 : Int) < (n : Int) := by omega
  have hn40 : n ≤ 40 := by omega
  have hn40' : (n : Int) ≤ 40 := by omega
  have HH := Lib.hid (And.intro h0 (And.intro h1 h2))
  have h00 : (0 : Int) ≤ (k0 : Int) := by omega
  clear h0 h1 h2
  go_enter Try.func3, Try.ntmps3
  go_wp2_with fail
  go_at_call 5
  refine (cm).mono ?_
  rintro e w1 ⟨b, rfl, o1⟩
  go_wp2_with fail
  go_at_call 6
  refine (awake_any6 w1 w1 (Below.refl _ _)).mono ?_
  rintro e w2 ⟨rfl, hb2⟩
  have o2 := o1.belowD hb2
  go_wp2_with fail
  go_at_call 7
  refine (w_open o2 openok_new new_open).mono ?_
  rintro e w3 ⟨j, rfl, o3⟩
  have o3' : Own (Jb b j) w ⟨J (PK (l.take 0)) 2 4 2 (-1), l.take 0, false⟩ w3 := o3
  clear o1 o2 o3 cm hb2
  go_wp2_with fail
  go_loopw [10, 11] (fun fv iv wr => ∃ (k sn st sm F : Nat), k ≤ n ∧ iv = .int .i64 k ∧ fv = .int .i64 F ∧ Hid (F = fr0 l k0 k) ∧ st ≤ 4 + 2 * k ∧ sm ≤ 2 + k ∧ Own (Jb b j) w ⟨J (PK (l.take k)) sn st sm (-1), l.take k, false⟩ wr) (fun _ i _ => n - (intOf i).toNat)
  case atStart => exact ⟨0, 2, 4, 2, 0, Nat.zero_le _, rfl, rfl, (by show 0 = fr0 l k0 0; rfl), by omega, by omega, o3'⟩
  case round =>
    obtain ⟨k, sn, st, sm, F, hkn, rfl, rfl, hF, hst, hsm, hO⟩ := hrel
    have hFl : F ≤ 14073748835124600 := by rw [hF.out]; exact fr0_le HB.out _ _ (by omega)
    by_cases hlt : k < n
    · obtain ⟨r, hx⟩ : ∃ r, l[k]? = some r := ⟨_, List.getElem?_eq_getElem (by rw [HL.out]; exact hlt)⟩
      have hr := HB.out r (List.mem_of_getElem? hx)
      obtain ⟨ba, off, rfl, hltb, hcc⟩ := (HST.out _ hO.bel).2.resolve_left (by omega)
      have g0 := hcc k r hx
      have HG : Hid (∀ W, Below w.heap.size w W → W.cell? ⟨ba, off + k, none⟩ = some (.string r)) := Lib.hid (fun W hW => by
        obtain ⟨b2, f2, e2, _, g⟩ := (HST.out W hW).2.resolve_left (by omega)
        cases e2
        exact g k r hx)
      have hlen : (l.take k).length = k := by rw [List.length_take, HL.out]; omega
      have hak := addok_J (t := PK (l.take k)) (r := r) (sn := sn) (st := st) (sm := sm) (a := -1) (R := l.take k) (dm := false) (PK_le (take_wide HB.out k) (by rw [hlen]; exact Nat.le_trans hkn hn40) (by omega)) hr (by omega) (by omega) (by omega) (by rw [hlen]; omega)
      have hzk : (k : Int) < (n : Int) := by omega
      have HX := Lib.hid hx
      have htk : l.take (k + 1) = l.take k ++ [r] := by
        have hkn2 : k < l.length := by rw [HL.out]; exact hlt
        rw [List.take_succ_eq_append_getElem hkn2]
        rw [List.getElem?_eq_getElem hkn2] at hx
        injection hx with hx
        rw [hx]
      have ca := w_add (r := r) hO hak add_PK
      rw [← htk] at ca
      have hpk := pk_le hr
      have cp := fun W => Fr.fPack_any r W (by omega)
      have hFm := fun h => fr0_more (l := l) (at' := k0) (k := k) (r := r) hx h
      have hFs := fr0_same (l := l) (at' := k0) (k := k)
      have HFM := Lib.hid hFm
      have HFS := Lib.hid hFs
      clear hx hcc hltb htk hlen hO hak hFm hFs
      by_cases hka : k < k0
      · have hka' : (k : Int) < (k0 : Int) := by omega
        have hF2 : Hid (F + (Fm.pk r).size = fr0 l k0 (k + 1)) := Lib.hid (by rw [HFM.out hka, hF.out])
        generalize Fm.pk r = K at cp hpk hF2
        go_wp2_with fail
        go_at_call 8
        refine ca.mono ?_
        rintro e w5 ⟨rfl, o5⟩
        have g5 := HG.out _ o5.bel
        go_wp2_with fail
        go_at_call 9
        refine (cp _).mono ?_
        rintro e w6 ⟨rfl, hb6⟩
        have o6 := o5.belowJ hb6
        clear o5
        go_wp2_with fail
        go_roundw
        case rel => exact ⟨k + 1, _, _, _, F + K.size, by omega, by go_num, by go_num, hF2, by omega, by omega, o6⟩
        case measure => simp [intOf]; omega
      · have hka' : ¬ (k : Int) < (k0 : Int) := by omega
        have hF2 : Hid (F = fr0 l k0 (k + 1)) := Lib.hid (by rw [HFS.out hka]; exact hF.out)
        go_wp2_with fail
        go_at_call 8
        refine ca.mono ?_
        rintro e w5 ⟨rfl, o5⟩
        go_wp2_with fail
        go_roundw
        case rel => exact ⟨k + 1, _, _, _, F, by omega, by go_num, rfl, hF2, by omega, by omega, o5⟩
        case measure => simp [intOf]; omega
    · obtain rfl : k = n := by omega
      obtain ⟨r, hx⟩ : ∃ r, l[k0]? = some r := ⟨_, List.getElem?_eq_getElem (by rw [HL.out]; exact hk0)⟩
      have hr := HB.out r (List.mem_of_getElem? hx)
      obtain ⟨ba, off, rfl, hltb, hcc⟩ := (HST.out _ hO.bel).2.resolve_left (by omega)
      have g0 := hcc k0 r hx
      have HG : Hid (∀ W, Below w.heap.size w W → W.cell? ⟨ba, off + k0, none⟩ = some (.string r)) := Lib.hid (fun W hW => by
        obtain ⟨b2, f2, e2, _, g⟩ := (HST.out W hW).2.resolve_left (by omega)
        cases e2
        exact g k0 r hx)
      have hall : l.take k = l := by rw [← HL.out]; exact List.take_length
      rw [hall] at hO
      have hFe : F = (Fr.PKl (l.take k0)).length := by rw [hF.out]; unfold fr0; rw [Nat.min_eq_right (by omega)]
      have hpk := pk_le hr
      have hps := Fm.pk_size r
      have hv1 : 1 ≤ (Wm.vb r.size).length := by
        have := Wm.vb_pos r.size
        omega
      have hv2 := Wm.vb_len (x := r.size) (by omega)
      have cp := fun W => Fr.fPack_any r W (by omega)
      have hts : (PK l).size ≤ 14073748835124600 := PK_le HB.out (n := 40) (by rw [HL.out]; exact hn40) (by omega)
      have hlast : F + (Fm.pk r).size ≤ 14073748835124600 := by
        have h7 := fr0_le HB.out (k0 + 1) (k0 + 1) (by omega)
        have h8 := fr0_more (l := l) (at' := k0 + 1) (k := k0) (r := r) hx (by omega)
        have h9 : fr0 l (k0 + 1) k0 = F := by rw [hFe]; unfold fr0; rw [Nat.min_eq_left (by omega)]
        omega
      have HROT := Lib.hid (fun (B : Nat) h1 h2 => scan_rot l k0 r B hx HB.out h1 h2)
      have HFE := Lib.hid hFe
      have HO := Lib.hid hO
      clear hx hcc hltb hall hF hFe hO
      generalize hV : (Wm.vb r.size).length = V at hps hv1 hv2 HROT
      generalize Fm.pk r = K at cp hpk hps hlast HROT
      have hks : (K.size : Int) = (V : Int) + r.size + 4 := by omega
      have hhead : (V : Int) + r.size + 4 - 4 - r.size = (V : Int) := by omega
      clear hV
      by_cases hb1 : bit < 8 * (V : Int)
      · go_wp2_with fail
        go_at_call 9
        refine (cp _).mono ?_
        rintro e w6 ⟨rfl, hb6⟩
        have o6 := HO.out.belowJ hb6
        have g6 := HG.out _ o6.bel
        go_wp2_with fail
        go_ret
        exact ⟨rfl, o6.bel⟩
      · by_cases hb2 : 8 * (K.size : Int) ≤ bit
        · go_wp2_with fail
          go_at_call 9
          refine (cp _).mono ?_
          rintro e w6 ⟨rfl, hb6⟩
          have o6 := HO.out.belowJ hb6
          have g6 := HG.out _ o6.bel
          go_wp2_with fail
          go_ret
          exact ⟨rfl, o6.bel⟩
        · obtain ⟨B, rfl⟩ : ∃ B : Nat, bit = B := ⟨bit.toNat, by omega⟩
          obtain ⟨u, hu1, hu2, hu3⟩ := HROT.out B (by omega) (by omega)
          rw [← HFE.out] at hu1 hu3
          have hN : ((8 * F + B : Nat) : Int) = 8 * (F : Int) + (B : Int) := by omega
          rw [hN] at hu1
          have hlenT : (l.take k0).length = k0 := by rw [List.length_take, HL.out]; omega
          have hoo := openok_J (t := u) (sn := sm + 1) (st := st) (sm := sm + 1) (a := -1) (by omega) (by omega) (by omega) (by omega) (by rw [hu3, hlenT]; omega)
          have hop := open_cut (sn := sm + 1) (st := st) (sm := sm + 1) hu3 (by decide)
          have hrj := j_rot (PK l) sn st sm (8 * (F : Int) + (B : Int))
          rw [hu1] at hrj
          have hokJ : Ok (J (PK l) sn st sm (-1)) := ok_J (by omega) (by omega) (by omega) (by omega)
          have hzz : (old (J (PK l) sn st sm (-1)).L pL).data.size ≤ 1000000000000000000 ∧ (old (J (PK l) sn st sm (-1)).L pL).kept.size ≤ 1000000000000000000 := by
            rw [show old (J (PK l) sn st sm (-1)).L pL = syn pL (PK l) sn by kernel_rfl]
            exact ⟨by show (PK l).size ≤ _; omega, by show (PK l).size ≤ _; omega⟩
          have crt := fun W (hW : Own (ImpAt b) w (J (PK l) sn st sm (-1)) W) => w_rot (p := pL) (bit := 8 * (F : Int) + (B : Int)) hW hokJ (by decide) (by omega) hzz hrj
          have HRT := Lib.hid crt
          have HOO := Lib.hid hoo
          have HOP := Lib.hid hop
          have HLT := Lib.hid hlenT
          clear hoo hop hrj hokJ hzz crt hu1 hu2 hu3 hN hlenT
          go_wp2_with fail
          go_at_call 9
          refine (cp _).mono ?_
          rintro e w6 ⟨rfl, hb6⟩
          have o6 := HO.out.belowJ hb6
          have g6 := HG.out _ o6.bel
          go_wp2_with fail
          go_at_call 10
          refine (HRT.out _ o6.disk).mono ?_
          rintro e w7 ⟨rfl, o7⟩
          go_wp2_with fail
          go_at_call 7
          refine (w_open o7 HOO.out HOP.out).mono ?_
          rintro e w8 ⟨j2, rfl, o8⟩
          have o9 := o8.belowJ (Below.refl _ w8).drew
          have cd := w_damaged o9
          have cr := w_records o9 (by show (l.take k0).length ≤ _; rw [HLT.out]; omega)
          rw [show (⟨J (u.extract 0 F) (sm + 1 + 1 + 1) (st + 1 + 1 + 1) (sm + 1 + 1 + 1) (-1), l.take k0, bad 6⟩ : Jst).R = l.take k0 from rfl, HLT.out] at cr
          have hkc : (k0 : Int) ≤ (c : Int) := by omega
          have hcs : ∀ (a10 : Option Addr) (c10 : Nat) (w10 : World), Strs w10 a10 k0 (l.take k0) → Below w8.drew.heap.size w8.drew w10 → Calls Try.prog 12 #[.slice a10 k0 c10, .slice (some ⟨ba, off, none⟩) k0 c] w10 fun e w' => e = .returned (.bool true) ∧ Below w10.heap.size w10 w' := fun a10 c10 w10 hs10 hb10 => same_true a10 _ k0 c10 c (l.take k0) w10 (by omega) hs10 (strs_take (HST.out _ (o9.belowJ hb10).bel) (m := k0) (by omega))
          have c1 : Calls Try.prog 11 #[.pointer (some ⟨j2, 0, none⟩)] w8.drew fun e w' => e = .returned (.bool true) ∧ w' = w8.drew := cd
          have c2 : ∀ W, W = w8.drew → Calls Try.prog 13 #[.pointer (some ⟨j2, 0, none⟩)] W fun e w' => ∃ a9 c9, e = .returned (.slice a9 k0 c9) ∧ (Strs w' a9 k0 (l.take k0) ∧ Below w8.drew.heap.size w8.drew w') := fun W hW => by
            subst hW
            exact cr
          have c3 : ∀ a9 c9 W, (Strs W a9 k0 (l.take k0) ∧ Below w8.drew.heap.size w8.drew W) → Calls Try.prog 12 #[.slice a9 k0 c9, .slice (some ⟨ba, off, none⟩) k0 c] W fun e w' => e = .returned (.bool true) ∧ Below w.heap.size w w' := fun a9 c9 W hW => (hcs a9 c9 W hW.1 hW.2).mono fun e w' hh => ⟨hh.1, ((o9.belowJ hW.2).belowJ hh.2).bel⟩
          clear cd cr hcs o9
          go_wp2_with fail
          refine Rg.wp_only ?_ (regRots _ (by kernel_rfl) _ (some ⟨ba, off, none⟩) k c k0 j2 _ _ _ _ hk0' hkc c1 c2 c3)
          rintro _ w9 ⟨a9, c9, rfl, hB9⟩
          go_wp2_with fail
          go_ret
          exact ⟨rfl, hB9⟩
theorem own : ownKnob Try.prog.godebug = none := by kernel_rfl
theorem laidOut : laidOutB Try.prog = true := by kernel_rfl
set_option maxRecDepth 100000 in
theorem contract (H : Type) (enc : TypeId × Value → H) (W : World) (base : Nat) (args : Array Value) (ds gs : List (DataW H)) (before : List MemPlace)
    (hval0 : ∀ (j : Nat) t v, Try.f3.params[j]? = some t → args[j]? = some v → Value.okWide Try.prog W .any base t v)
    (hW : DataW.Whole enc Try.prog Try.f3.params.toList Rows.walRotsSpec.vars false W args.toList ds gs before)
    (hsz0 : (DataW.weightsEach Try.prog (Try.f3.params.toList ++ Rows.walRotsSpec.plain.varTypes Try.prog) (ds ++ gs)).all (· ≤ reachBytes) = true) :
    Calls Try.prog 3 args W fun e W' => ∃ v, e = .returned v ∧ Rows.walRotsSpec.post enc Try.prog Try.f3 false true false false W args v W' := by
  have hval : ∀ (j : Nat) t v, Try.f3.params[j]? = some t → args[j]? = some v → Value.okWide Try.prog W .any base t v := hval0
  have hsz := hsz0
  clear hsz0
  have hW' := hW
  obtain ⟨p, q, hA0, hV, rfl, hfz, hnd⟩ := hW
  have hA : DataW.TrodAll enc Try.prog W 0 (fun _ => true) true Try.f3.params.toList args.toList ds p := hA0
  rw [Try.params3] at hA hval hsz
  obtain ⟨v0, vs0, d0, ds0, p0, q0, hargs, rfl, rfl, h0, r0⟩ := trodAll_cons hA
  obtain ⟨v1, vs1, d1, ds1, p1, q1, rfl, rfl, rfl, h1, r1⟩ := trodAll_cons r0
  obtain ⟨v2, vs2, d2, ds2, p2, q2, rfl, rfl, rfl, h2, r2⟩ := trodAll_cons r1
  obtain ⟨rfl, rfl, rfl⟩ := trodAll_nil r2
  obtain rfl : args = #[v0, v1, v2] := by cases args; simp_all
  obtain ⟨rfl, rfl⟩ := trodVars_none hV
  obtain ⟨A0, n0, c0, rfl⟩ := okWide_slice Try.underlying22 (hval 0 22 v0 rfl rfl)
  have k0 := h0
  have lt0 : ∀ x ∈ p0, x.block < W.heap.size := by obtain ⟨m, hm⟩ := k0; exact DataW.trod_lt m _ _ _ hm
  obtain ⟨a1, rfl, rfl, rfl, w1⟩ := open_int Try.underlying3 (hval 1 3 v1 rfl rfl) h1
  have bd1 : -9223372036854775808 ≤ a1 ∧ a1 ≤ 9223372036854775807 := by simpa [Lit.wf, IntKind.min, IntKind.max, IntKind.signed, IntKind.bits] using w1
  obtain ⟨a2, rfl, rfl, rfl, w2⟩ := open_int Try.underlying3 (hval 2 3 v2 rfl rfl) h2
  have bd2 : -9223372036854775808 ≤ a2 ∧ a2 ≤ 9223372036854775807 := by simpa [Lit.wf, IntKind.min, IntKind.max, IntKind.signed, IntKind.bits] using w2
  clear hA0 hval0
  obtain ⟨l0, e0, _, _, hc0, hcc0, hz0⟩ := arg_texts k0
  refine (walk A0 n0 c0 l0 a1 a2 W e0 ⟨hc0, hcc0⟩ (hz0 hsz (j := 0) rfl rfl) bd1 bd2).mono fun e W' ⟨he, bel⟩ => ?_
  subst he
  exact ⟨_, rfl, _, _, _, [], _, [], hW', trodAll_mk1 (shut_bool Try.underlying4 _), (trodAll_cons_mk (Below.trod laidOut (by kernel_rfl) (of_decide_eq_true (by kernel_rfl)) k0 bel lt0) (trodAll_cons_mk (shut_int Try.underlying3 w1) (trodAll_cons_mk (shut_int Try.underlying3 w2) trodAll_mk0))), rfl, bel.frame _, fun h => by cases h⟩
set_option maxRecDepth 100000 in
theorem lifted (os : Os) (started : os.Started) (H : Type) (enc : TypeId × Value → H) :
    ReturnsInHanded {} Try.checked os 3 .any (Rows.walRotsSpec.pre6 enc Try.prog Try.f3 Rows.walRotsRow.domain false) (Rows.walRotsSpec.post enc Try.prog Try.f3 false true false false) := by
  refine returnsInHanded_of_change_sized (C := Try.checked) own started (by kernel_rfl) Try.func3
    (ChangeSpec.witness6 (enc := enc) (C := Try.checked) false ⟨#[], #[.slice none 0 0, .int .i64 0, .int .i64 0], []⟩ 8 (by kernel_rfl) (by kernel_rfl) (by kernel_rfl) (by kernel_rfl)) ?_
  intro W base args ds gs before hval0 hW _ hsz0 _
  exact contract H enc W base args ds gs before hval0 hW hsz0
theorem over : Rows.walRotsRow.holds Try.pinned (OpenSpec.ofChange Rows.walRotsSpec) :=
  OpenClaim.holds_of_wide 3 Try.f3 rfl rfl rfl rfl rfl rfl rfl ⟨rfl, rfl, rfl, rfl, rfl⟩ rfl rfl rfl rfl rfl (by kernel_rfl) Try.func3 (by kernel_rfl)
    (of_decide_eq_true (by kernel_rfl)) (by unfold Func.isWrapper; first | (rw [if_pos (by decide +kernel)]; kernel_rfl) | (rw [if_neg (by decide +kernel)]; exact ⟨rfl, rfl⟩))
    (fun os started H enc _ => lifted os started H enc)
end Go.Proofs.Ytjdmbkkdnonkkaa.walRots
namespace Go.Proofs.Ytjdmbkkdnonkkaa
theorem walRots_holds : Rows.WalRotsSaid := walRots.over
#print axioms walRots_holds
end Go.Proofs.Ytjdmbkkdnonkkaa
