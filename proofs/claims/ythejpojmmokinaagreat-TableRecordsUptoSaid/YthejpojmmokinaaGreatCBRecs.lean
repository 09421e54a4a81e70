/-
  TableRecords, up to the bound: changes (of at most 1048576 values and letters) as bytes are the document's bytes, and bytes are read as the document reads them, or refused alike; what is read is new memory each time: the law returns true, and writes nothing that was there. Condition: the bound of the second form.
-/
import Derived.Test.YthejpojmmokinaaGreatT4
import Derived.Laws.AppendOwnNone
import Derived.Laws.OwnMore
import Derived.JoinedCond
import Derived.SizedLaws
import Derived.ChangeOld
import Derived.Deep.CondSized
namespace Go.Proofs.YthejpojmmokinaaGreat.tableRecords
open Go.ChangeMaps (open_string shut_string)
open Go.ChangeShapes Go.WideShapes Go.ChangeAt Go.RowKit Tx Pm Dk Wm Wr Tb
set_option linter.unusedVariables false
set_option linter.unusedSimpArgs false
set_option linter.unnecessarySimpa false
theorem flat_len3 (C : List Ch) : (C.flatMap cellsC).length = C.length * 3 := by
  induction C with
  | nil => rfl
  | cons x C ih => rw [List.flatMap_cons, List.length_append, ih, List.length_cons]; show 3 + _ = _; omega
theorem flat_all {w : World} {a : Option Addr} {n : Nat} {l : List Ch} (h : Opl w a n l) (hn : 0 < n) : ∃ g off, a = some ⟨g, off, none⟩ ∧ g < w.heap.size ∧ ∀ j u, (l.flatMap cellsC)[j]? = some u → w.cell? ⟨g, off + j, none⟩ = some u := by
  rcases h.2 with h0 | ⟨g, off, ha, hg, hc⟩
  · omega
  · refine ⟨g, off, ha, hg, fun j u hu => ?_⟩
    have hlt : j / 3 < l.length := by
      have := (List.getElem?_eq_some_iff.1 hu).1
      rw [flat_len3] at this
      omega
    obtain ⟨x, hx⟩ : ∃ x, l[j / 3]? = some x := ⟨_, List.getElem?_eq_getElem hlt⟩
    obtain ⟨c0, c1, c2⟩ := hc _ x hx
    have hj : j = j / 3 * 3 + j % 3 := by omega
    have hr : j % 3 < 3 := Nat.mod_lt _ (by decide)
    generalize j / 3 = q at hj hx c0 c1 c2
    generalize j % 3 = r at hj hr
    subst hj
    rw [flat_at cellsC 3 (fun _ => rfl) l q x r hx hr] at hu
    match r, hr with
    | 0, _ =>
      have hu : some (Value.string x.key) = some u := hu
      rw [← hu]; exact c0
    | 1, _ =>
      have hu : some (Value.string x.val) = some u := hu
      rw [← hu]; exact c1
    | 2, _ =>
      have hu : some (Value.bool x.gone) = some u := hu
      rw [← hu]; exact c2
theorem onecells3 (C : List Ch) : ∀ u ∈ C.flatMap cellsC, u.oneCell' = true := by
  intro u hu
  obtain ⟨x, _, hx⟩ := List.mem_flatMap.1 hu
  exact cells_one x u hx
theorem wp_copy3 {w : World} {ops : Array Oper} {rest : List Oper} {o : Oper} {a : Act} {Q : Exit → Act → World → Prop} {vs : Value} {A : Option Addr} {n c : Nat} {l : List Ch} (hgd : o.guard = none) (s x : Operand)
    (ho : o.op = .call { callee := .builtin .append, args := #[s, x], argTypes := #[22, 22] }) (base : Nat) (hs : a.eval s = vs) (hown : w.ownsRow base 24 3 vs 0 []) (hx : a.eval x = .slice A n c) (hO : Opl w A n l) (hC : n ≤ 1000000) (hb : base ≤ w.heap.size) (hnil : n = 0 → A = none ∧ c = 0 ∨ ∃ ad, A = some ad)
    (h : ∀ v' w', w'.ownsRow base 24 3 v' n (l.flatMap cellsC) → Below base w w' → wpList Tryz.prog ops Q rest (a.put o.dst v') w') : wpList Tryz.prog ops Q (o :: rest) a w := by
  obtain ⟨i0, hi, hz0, hz1, hz2⟩ := info_parts infoC
  have hl := hO.1
  have fin : ∀ ad : Addr, A = some ad → (∀ j u, (l.flatMap cellsC)[j]? = some u → w.cell? (ad.add j) = some u) → wpList Tryz.prog ops Q (o :: rest) a w := by
    intro ad hA hcs
    subst hA
    refine wpList_append_own w hgd s x 22 ho base 24 i0 (ov ch0) 3 40 Tryz.underlying22 hi hz0 hz1 hz2 rfl (by decide) vs 0 [] hs hown ad n c (l.flatMap cellsC) hx (by rw [flat_len3, hl]) hcs (onecells3 l) (by unfold maxLen; omega) (by omega) hb ?_
    intro v' w' h1 h2 _
    rw [List.nil_append, Nat.zero_add] at h1
    exact h v' w' h1 ((Below.refl _ _).grown h2 hb (fun k hk => (hown.lt k hk).1))
  by_cases hn : 0 < n
  · obtain ⟨g, off, hA, _, hcs⟩ := flat_all hO hn
    exact fin ⟨g, off, none⟩ hA (fun j u hu => by rw [WideShapes.add_plain]; exact hcs j u hu)
  · have hn0 : n = 0 := by omega
    subst hn0
    have hl0 : l = [] := List.eq_nil_of_length_eq_zero hl
    subst hl0
    rcases hnil rfl with ⟨rfl, rfl⟩ | ⟨ad, rfl⟩
    · exact wpList_append_own_none hgd s x 22 ho base 24 i0 3 Tryz.underlying22 hi vs 0 [] hs hown hx (h vs w hown (Below.refl _ _))
    · exact fin ad rfl (fun j u hu => by simp at hu)
theorem opl_init {w : World} {a : Option Addr} {n : Nat} {l : List Ch} {x : Ch} (h : Opl w a (n + 1) (l ++ [x])) (hl : l.length = n) : Opl w a n l := by
  refine ⟨hl, ?_⟩
  rcases h.2 with h0 | ⟨g, off, ha, hg, hc⟩
  · omega
  · exact .inr ⟨g, off, ha, hg, fun k y hk => hc k y (by rw [List.getElem?_append_left (List.getElem?_eq_some_iff.1 hk).1]; exact hk)⟩
theorem opl_of {w : World} {B c : Nat} {a : Option Addr} {L : List Ch} (h : w.ownsRow B 24 3 (.slice a L.length c) L.length (L.flatMap cellsC)) : Opl w a L.length L := by
  obtain ⟨a', c', e', hs', _⟩ := OwnC.form (show OwnC w B (.slice a L.length c) L from h)
  injection e' with e'
  subst e'
  exact hs'
def spare : Ch := ⟨⟨#[115, 112, 97, 114, 101]⟩, ⟨#[]⟩, false⟩
theorem arg_ops2 {H : Type} {enc : TypeId × Value → H} {w : World} {base : Nat} {sp : Nat → Bool} {held : Bool} {a : Option Addr} {n c : Nat} {d : DataW H} {p : List MemPlace} (h : DataW.Trod enc Tryz.prog w base sp held 22 (.slice a n c) d p) : a = none ∧ c = 0 ∨ ∃ ad, a = some ad := by
  obtain ⟨fuel, hf⟩ := h
  rcases open_ops hf with ⟨hcs, _⟩ | ⟨x, len, cap, l, rest, pl, hcs, hlc, hcm, hx, he⟩
  · simp [Value.cells] at hcs
    exact .inl ⟨hcs.1, hcs.2.2⟩
  · simp [Value.cells] at hcs
    exact .inr ⟨x, hcs.1⟩
set_option maxRecDepth 100000 in
set_option maxHeartbeats 16000000 in
theorem walk (A : Option Addr) (n c : Nat) (s : ByteArray) (l : List Ch) (w : World) (hO : Opl w A n l) (hw : wt l ≤ 20000000) (hs : s.size ≤ 100000000) (hc : n ≤ c) (hnil : A = none ∧ c = 0 ∨ ∃ ad, A = some ad) :
    Calls Tryz.prog 3 #[.slice A n c, .string s] w fun e w' => e = .returned (.bool true) ∧ Below w.heap.size w w' := by
  obtain ⟨i0, hi, hz0, hz1, hz2⟩ := info_parts infoC
  have hn : n ≤ 600000 := by have := wt_len l; have := hO.1; omega
  have hn1 : n ≤ 1000000 := by omega
  have HO := Lib.hid (fun V (hV : Below w.heap.size w V) => hO.below hV)
  have HL := Lib.hid hO.1
  have hO1 : Opl (w.alloc (.cells #[] 24)) A n l := hO.below ((Below.refl _ w).alloc (Nat.le_refl _) _)
  have hE : (w.alloc (.cells #[] 24)).ownsRow w.heap.size 24 3 (.slice (some ⟨w.heap.size, 0, none⟩) 0 0) 0 [] := ⟨rfl, .inr ⟨w.heap.size, 0, #[], rfl, Nat.le_refl _, heap_alloc_new w _, Nat.le_refl _, Nat.zero_le _, rfl, rfl⟩⟩
  have hB1 : Below w.heap.size w (w.alloc (.cells #[] 24)) := (Below.refl _ w).alloc (Nat.le_refl _) _
  have hnil2 : n = 0 → A = none ∧ c = 0 ∨ ∃ ad, A = some ad := fun _ => hnil
  obtain ⟨L, e0, hops⟩ : ∃ L e0, opsS s = (L, e0) := ⟨_, _, rfl⟩
  have co := fun W => ops_any s W (by omega)
  have cf := fun W => refOps_any s W (by omega)
  unfold OpsTo at co cf
  rw [hops] at co cf
  simp only at co cf
  have hLn : L.length ≤ 1000000000 := by
    by_cases h0 : e0 = 0
    · subst h0
      have := (opsS_ok hops).2.2
      omega
    · have : L = [] := by
        unfold opsS at hops
        split at hops
        · injection hops with h1 h2; exact h1.symm
        · split at hops
          · injection hops with h1 h2; exact h1.symm
          · split at hops
            · injection hops with h1 h2; exact h1.symm
            · injection hops with h1 h2; omega
      rw [this]; simp
  clear hops hO hnil
  go_enter Tryz.func3, Tryz.ntmps3
  go_wp2_with (at_builtin; refine wp_copy3 rfl _ _ rfl w.heap.size rfl hE rfl hO1 hn1 hB1.size hnil2 ?_)
  intro v1 w1 hr1 hb1
  have hB2 := hB1.trans hb1
  clear hO1 hE hb1 hB1
  have k1 := new3 w1 spare (z := w1.heap.size) rfl
  have k2 := cells_one spare
  have k3 : n + 1 ≤ maxLen := by unfold maxLen; omega
  have k4 : (n + 1) * 40 ≤ 140737488355328 := by omega
  have k5 : w.heap.size ≤ (w1.alloc (.cells #[.string ⟨#[115, 112, 97, 114, 101]⟩, .string ⟨#[]⟩, .bool false] 24)).heap.size := by have := hB2.size; simp; omega
  go_wp2_with (at_builtin; refine wpList_append_own _ rfl _ _ 22 rfl w.heap.size 24 i0 (ov ch0) 3 40 Tryz.underlying22 hi hz0 hz1 hz2 rfl (by decide) _ _ _ rfl (hr1.alloc (.cells #[.string ⟨#[115, 112, 97, 114, 101]⟩, .string ⟨#[]⟩, .bool false] 24)) ⟨w1.heap.size, 0, none⟩ 1 1 (cellsC spare) rfl rfl k1 k2 k3 k4 k5 ?_)
  intro v2 w2 hr2 hg2 _
  have hB3 : Below w.heap.size w w2 := (hB2.alloc hB2.size _).grown hg2 (by simp; have := hB2.size; omega) (fun q hq => (hr1.lt q hq).1)
  have hr3 : OwnC w2 w.heap.size v2 (l ++ [spare]) := by
    unfold OwnC
    rw [List.flatMap_append, List.length_append, HL.out]
    exact hr2
  obtain ⟨g, cap, rfl, hcap⟩ : ∃ g cap, v2 = .slice (some ⟨g, 0, none⟩) (n + 1) cap ∧ n + 1 ≤ cap := by
    rcases hr2.2 with ⟨_, h0⟩ | ⟨g, cap, cur, hv, _, _, hnc, _⟩
    · omega
    · exact ⟨g, cap, hv, hnc⟩
  have hin : Opl w2 (some ⟨g, 0, none⟩) (n + 1) (l ++ [spare]) := by
    obtain ⟨a', c', e', hs', _⟩ := hr3.form
    rw [List.length_append, HL.out] at e' hs'
    injection e' with e'
    subst e'
    exact hs'
  have HIN := Lib.hid (fun V (hV : Below w2.heap.size w2 V) => hin.below hV)
  have HN := Lib.hid (fun V (hV : Below w2.heap.size w2 V) => opl_init (hin.below hV) HL.out)
  clear hr1 hr2 hg2 k1 k2 k3 k4 k5 hB2 hin hr3
  go_wp2_with fail
  go_at_call 5
  refine (co _).mono ?_
  rintro e w3 ⟨va, rfl, hOa, hb3⟩
  obtain ⟨aa, ca, rfl, hla, hca, _⟩ := hOa.form
  have HLA := Lib.hid (fun V (hV : Below w3.heap.size w3 V) => hla.below hV)
  have HOA := Lib.hid hOa
  clear hla hOa
  go_wp2_with fail
  go_at_call 6
  refine (cf _).mono ?_
  rintro e w4 ⟨vb, rfl, hOb, hb4⟩
  obtain ⟨ab, cb, rfl, hlb, hcb, _⟩ := hOb.form
  have HLB := Lib.hid (fun V (hV : Below w4.heap.size w4 V) => hlb.below hV)
  have HOB := Lib.hid hOb
  clear hlb hOb
  go_wp2_with fail
  go_at_call 5
  refine (co _).mono ?_
  rintro e w5 ⟨vc, rfl, hOc, hb5⟩
  obtain ⟨ac, cc, rfl, hlc, hcc, _⟩ := hOc.form
  have HLC := Lib.hid (fun V (hV : Below w5.heap.size w5 V) => hlc.below hV)
  have HOC := Lib.hid hOc
  have b24 := Tx.below_call hb3 hb4
  have b25 := Tx.below_call b24 hb5
  have cr := record_any (some ⟨g, 0, none⟩) n cap l w5 (HN.out _ b25) (by omega) (by omega)
  clear hlc hOc co cf
  go_wp2_with fail
  go_at_call 7
  refine (cr).mono ?_
  rintro e w6 ⟨rfl, hb6⟩
  have b26 := Tx.below_call b25 hb6
  clear cr
  go_wp2_with fail
  go_at_call 8
  refine (awake_any7 w6 w6 (Below.refl _ _)).mono ?_
  rintro e w7 ⟨rfl, hb7⟩
  have b27 := Tx.below_call b26 hb7
  have cq := refRecord_any A n c l w7 (HO.out _ (Tx.below_call hB3 b27)) (by omega) hc
  go_wp2_with fail
  go_at_call 9
  refine (cq).mono ?_
  rintro e w8 ⟨rfl, hb8⟩
  have b28 := Tx.below_call b27 hb8
  have b38 := Tx.below_call (Tx.below_call (Tx.below_call (Tx.below_call hb4 hb5) hb6) hb7) hb8
  have b48 := Tx.below_call (Tx.below_call (Tx.below_call hb5 hb6) hb7) hb8
  have b58 := Tx.below_call (Tx.below_call hb6 hb7) hb8
  have c1 := same7 aa ab L.length ca cb L w8 (HLA.out _ b38) (HLB.out _ b48) (by omega)
  clear cq
  go_wp2_with fail
  go_at_call 10
  refine (c1).mono ?_
  rintro e w9 ⟨rfl, hb9⟩
  have c2 := same7 ac ab L.length cc cb L w9 (HLC.out _ (Tx.below_call b58 hb9)) (HLB.out _ (Tx.below_call b48 hb9)) (by omega)
  clear c1
  go_wp2_with fail
  go_at_call 10
  refine (c2).mono ?_
  rintro e w10 ⟨rfl, hb10⟩
  have b89 := Tx.below_call hb9 hb10
  have c3 := same7 (some ⟨g, 0, none⟩) A n cap c l w10 (HN.out _ (Tx.below_call b28 b89)) (HO.out _ (Tx.below_call hB3 (Tx.below_call b28 b89))) (by omega)
  clear c2
  go_wp2_with fail
  go_at_call 10
  refine (c3).mono ?_
  rintro e w11 ⟨rfl, hb11⟩
  have b811 := Tx.below_call b89 hb11
  have b211 := Tx.below_call b28 b811
  have hsp : w11.cell? ⟨g, n * 3, none⟩ = some (.string ⟨#[115, 112, 97, 114, 101]⟩) := by
    obtain ⟨g', off, e', _, h0, _⟩ := (HIN.out _ b211).nth (k := n) (x := spare) (by rw [List.getElem?_append_right (by rw [HL.out]; exact Nat.le_refl _), HL.out, Nat.sub_self]; rfl)
    injection e' with e'
    injection e' with e1 e2
    subst e1 e2
    rw [Nat.zero_add] at h0
    exact h0
  have hA11 : w11.ownsRow w2.heap.size 24 3 (.slice aa L.length ca) L.length (L.flatMap cellsC) := own_belowT HOA.out (Tx.below_call b38 b811)
  have hB11 : w11.ownsRow w3.heap.size 24 3 (.slice ab L.length cb) L.length (L.flatMap cellsC) := own_belowT HOB.out (Tx.below_call b48 b811)
  have hC11 : w11.ownsRow w4.heap.size 24 3 (.slice ac L.length cc) L.length (L.flatMap cellsC) := own_belowT HOC.out (Tx.below_call b58 b811)
  have hga : ∀ q, (Value.slice aa L.length ca).ownBlock = some q → w2.heap.size ≤ q ∧ q < w3.heap.size := fun q hq => HOA.out.lt q hq
  have HGA := Lib.hid hga
  have HB11 := Lib.hid hB11
  have HC11 := Lib.hid hC11
  have hs34 : w3.heap.size ≤ w4.heap.size := hb4.size
  clear c3 hB11 hC11 hga hb3 hb4 hb5 hb6 hb7 hb8 hb9 hb10 hb11
  go_wp2_with fail
  go_loopw [13] (fun iv wr => ∃ (i : Nat) (xs : List Value), i ≤ L.length ∧ iv = .int .i64 i ∧ wr.ownsRow w2.heap.size 24 3 (.slice aa L.length ca) L.length xs ∧ Chg (fun q => (Value.slice aa L.length ca).ownBlock = some q) w11 wr) (fun iv _ => L.length - (intOf iv).toNat)
  case atStart => exact ⟨0, _, Nat.zero_le _, rfl, hA11, Chg.refl _ _⟩
  case round =>
    clear hA11
    obtain ⟨i, xs, hi2, rfl, hown, hch⟩ := hrel
    by_cases hlt : i < L.length
    · have hiz : (i : Int) < (L.length : Int) := by omega
      obtain ⟨ga, rfl⟩ : ∃ ga, aa = some ⟨ga, 0, none⟩ := by
        rcases hown.2 with ⟨_, h0⟩ | ⟨ga, cap', cur, hv, _⟩
        · omega
        · injection hv with hv
          exact ⟨ga, hv⟩
      have hxl : xs.length = L.length * 3 := hown.1
      have f0 := World.ownsRow.frozenAt hown (i * 3)
      have s0 := World.ownsRow.stored hown (i * 3) (.string ⟨#[120]⟩)
      have s1 := World.ownsRow.stored s0.1 (i * 3 + 1) (.string ⟨#[]⟩)
      have s2 := World.ownsRow.stored s1.1 (i * 3 + 2) (.bool false)
      have e0 := World.ownsRow.cellAt hown (i * 3) (by omega)
      have e1 := World.ownsRow.cellAt hown (i * 3 + 1) (by omega)
      have e2 := World.ownsRow.cellAt hown (i * 3 + 2) (by omega)
      rw [List.getElem?_eq_getElem (by omega)] at e0 e1 e2
      have f1 := World.ownsRow.frozenAt hown (i * 3 + 1)
      have f2 := World.ownsRow.frozenAt hown (i * 3 + 2)
      have S2 := Lib.hid s2.1
      have hch2 : Chg (fun q => (Value.slice (some ⟨ga, 0, none⟩) L.length ca).ownBlock = some q) w11 (((wr.setCell ⟨ga, i * 3, none⟩ (.string ⟨#[120]⟩)).setCell ⟨ga, i * 3 + 1, none⟩ (.string ⟨#[]⟩)).setCell ⟨ga, i * 3 + 2, none⟩ (.bool false)) :=
        ((hch.trans (chg_grown s0.2) (fun q hq => .inl (by rw [hq]; rfl))).trans (chg_grown s1.2) (fun q hq => .inl (by rw [hq]; rfl))).trans (chg_grown s2.2) (fun q hq => .inl (by rw [hq]; rfl))
      clear s0 s1 s2
      go_wp2_with fail
      go_roundw
      case rel => exact ⟨i + 1, _, by omega, by go_num, S2.out, hch2⟩
      case measure => simp [intOf]; omega
    · obtain rfl : i = L.length := by omega
      have hb3' := own_chg HB11.out hch (fun q hq hF => by have h1 := (HGA.out q hF).2; have h2 := (HB11.out.lt q hq).1; omega)
      have hc3' := own_chg HC11.out hch (fun q hq hF => by have h1 := (HGA.out q hF).2; have h2 := (HC11.out.lt q hq).1; omega)
      have hBw := Tx.below_call hB3 b211
      have hbel := hBw.trans (hch.below hBw.size (fun q hq => Nat.le_trans hB3.size (HGA.out q hq).1))
      have cs := same7 ac ab L.length cc cb L wr (opl_of hc3') (opl_of hb3') (by omega)
      clear hb3' hc3' hown hch
      go_wp2_with fail
      go_at_call 10
      refine cs.mono ?_
      rintro e w12 ⟨rfl, hb12⟩
      have hfin := Tx.below_call hbel hb12
      go_wp2_with fail
      go_ret
      exact ⟨rfl, hfin⟩
theorem own : ownKnob Tryz.prog.godebug = none := by kernel_rfl
theorem laidOut : laidOutB Tryz.prog = true := by kernel_rfl
set_option maxRecDepth 100000 in
theorem contract (H : Type) (enc : TypeId × Value → H) (W : World) (base : Nat) (args : Array Value) (ds gs : List (DataW H)) (before : List MemPlace)
    (hval0 : ∀ (j : Nat) t v, Tryz.f3.params[j]? = some t → args[j]? = some v → Value.okWide Tryz.prog W .any base t v)
    (hW : DataW.Whole enc Tryz.prog Tryz.f3.params.toList Rows.tableRecordsSpec.vars false W args.toList ds gs before)
    (hk : Rows.uptoSmall H (ds ++ gs) = true)
    (hsz0 : (DataW.weightsEach Tryz.prog (Tryz.f3.params.toList ++ Rows.tableRecordsSpec.plain.varTypes Tryz.prog) (ds ++ gs)).all (· ≤ reachBytes) = true) :
    Calls Tryz.prog 3 args W fun e W' => ∃ v, e = .returned v ∧ Rows.tableRecordsSpec.post enc Tryz.prog Tryz.f3 false true false false W args v W' := by
  have hval : ∀ (j : Nat) t v, Tryz.f3.params[j]? = some t → args[j]? = some v → Value.okWide Tryz.prog W .any base t v := hval0
  have hsz := hsz0
  clear hsz0
  have hW' := hW
  obtain ⟨p, q, hA0, hV, rfl, hfz, hnd⟩ := hW
  have hA : DataW.TrodAll enc Tryz.prog W 0 (fun _ => true) true Tryz.f3.params.toList args.toList ds p := hA0
  rw [Tryz.params3] at hA hval hsz
  obtain ⟨v0, vs0, d0, ds0, p0, q0, hargs, rfl, rfl, h0, r0⟩ := trodAll_cons hA
  obtain ⟨v1, vs1, d1, ds1, p1, q1, rfl, rfl, rfl, h1, r1⟩ := trodAll_cons r0
  obtain ⟨rfl, rfl, rfl⟩ := trodAll_nil r1
  obtain rfl : args = #[v0, v1] := by cases args; simp_all
  obtain ⟨rfl, rfl⟩ := trodVars_none hV
  obtain ⟨A0, n0, c0, rfl⟩ := okWide_slice Tryz.underlying22 (hval 0 22 v0 rfl rfl)
  have k0 := h0
  have lt0 : ∀ x ∈ p0, x.block < W.heap.size := by obtain ⟨m, hm⟩ := k0; exact DataW.trod_lt m _ _ _ hm
  obtain ⟨s1, rfl, rfl, rfl, w1⟩ := open_string Tryz.underlying9 (hval 1 9 v1 rfl rfl) h1
  have hreach1 : s1.size ≤ 140737488351232 := by
    have := sized_string hsz (j := 1) (t := 9) rfl rfl
    simpa [reachBytes] using this
  clear hA0 hval0
  obtain ⟨l0, e0, hb0, hc0, hm0⟩ := arg_ops k0
  have hnil0 := arg_ops2 k0
  have hk1 : Rows.uptoBulk d0 + s1.size ≤ 1048576 := by
    have := of_decide_eq_true hk
    simp [Rows.uptoBulkAll, Rows.uptoBulk] at this
    omega
  refine (walk A0 n0 c0 s1 l0 W e0 (by omega) (by omega) hc0 hnil0).mono fun e W' ⟨he, bel⟩ => ?_
  subst he
  exact ⟨_, rfl, _, _, _, [], _, [], hW', trodAll_mk1 (shut_bool Tryz.underlying4 _), (trodAll_cons_mk (Below.trod laidOut (by kernel_rfl) (of_decide_eq_true (by kernel_rfl)) k0 bel lt0) (trodAll_cons_mk (shut_string Tryz.underlying9 w1) trodAll_mk0)), rfl, bel.frame _, fun h => by cases h⟩
set_option maxRecDepth 100000 in
theorem lifted (os : Os) (started : os.Started) (H : Type) (enc : TypeId × Value → H) (F : Stop.Interp) :
    ReturnsInHanded {} Tryz.checked os 3 .any ((Rows.OpenSpec.upto Rows.tableRecordsSpec).pre6 enc Tryz.prog Tryz.f3 Rows.tableRecordsUptoRow.domain false) (((Rows.OpenSpec.upto Rows.tableRecordsSpec).at F).post enc Tryz.prog Tryz.f3 false true false false) := by
  refine returnsInHanded_of_cond_sized (C := Tryz.checked) (s := Rows.OpenSpec.upto Rows.tableRecordsSpec) (k := Rows.uptoSmall) rfl own started (by kernel_rfl) Tryz.func3
    (OpenSpec.witness (enc := enc) (C := Tryz.checked) (s := Rows.OpenSpec.upto Rows.tableRecordsSpec) (k := Rows.uptoSmall) rfl false ⟨#[], #[.slice none 0 0, .string ByteArray.empty], []⟩ 8 (by kernel_rfl) (by kernel_rfl) (by kernel_rfl)
      (x := ([.nil, .lit (.string [])], [], [])) (by kernel_rfl) rfl (by kernel_rfl)) ?_
  intro W base args ds gs before hval hW _ hk hsz0 _
  exact contract H enc W base args ds gs before hval hW hk hsz0
theorem over : Rows.tableRecordsUptoRow.holds Tryz.pinned (Rows.OpenSpec.upto Rows.tableRecordsSpec) :=
  OpenClaim.holds_of_cond 3 Tryz.f3 rfl rfl rfl rfl rfl rfl rfl ⟨rfl, rfl, rfl, rfl, rfl⟩ rfl rfl rfl rfl rfl (by kernel_rfl) Tryz.func3 (by kernel_rfl)
    (of_decide_eq_true (by kernel_rfl)) (by unfold Func.isWrapper; first | (rw [if_pos (by decide +kernel)]; kernel_rfl) | (rw [if_neg (by decide +kernel)]; exact ⟨rfl, rfl⟩))
    (fun os started H enc _ F => lifted os started H enc F)
end Go.Proofs.YthejpojmmokinaaGreat.tableRecords
namespace Go.Proofs.YthejpojmmokinaaGreat
theorem tableRecordsUpto_holds : Rows.TableRecordsUptoSaid := tableRecords.over
#print axioms tableRecordsUpto_holds
end Go.Proofs.YthejpojmmokinaaGreat
