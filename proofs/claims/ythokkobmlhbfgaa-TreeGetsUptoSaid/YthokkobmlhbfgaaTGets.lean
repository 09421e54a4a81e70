/-
  TreeGets, up to the bound: for all trees a, b and every path (which hold together at most 1048576 values and letters): tree.Get, Sub, Size, Same and Diff answer what the document's own answer, the tree that is handed in stays as it was, the room behind it too, and what Sub answers lies apart: the law returns true, and writes nothing that was there. Condition: the bound of the second form.
-/
import Derived.Test.YthokkobmlhbfgaaTKit
import Derived.Test.YthokkobmlhbfgaaTSame
import Derived.JoinedCond
import Derived.SizedLaws
import Derived.ChangeOld
import Derived.Deep.CondSized
namespace Go.Proofs.Ythokkobmlhbfgaa.treeGets
open Go.ChangeMaps (open_string shut_string)
open Go.ChangeShapes Go.WideShapes Go.ChangeAt Go.RowKit Tx Pm Pr En Ea
set_option linter.unusedVariables false

def SubTo2 (S : List Et) (w : World) (e : Ending) (w' : World) : Prop := ∃ v, e = .returned v ∧ Own w' w.heap.size v S ∧ Below w.heap.size w w'
theorem sub_form {S : List Et} {w w' : World} {e : Ending} (h : SubTo2 S w e w') : ∃ a k, e = .returned (.slice a S.length k) ∧ Own w' w.heap.size (.slice a S.length k) S ∧ Ents w' a S.length S ∧ Below w.heap.size w w' := by
  obtain ⟨v, h1, h2, h3⟩ := h
  obtain ⟨a, k, hv, he, _, _⟩ := Own.form h2
  subst hv
  exact ⟨a, k, h1, h2, he, h3⟩
theorem tsize_bulk {H : Type} : ∀ l : List Et, tsize l ≤ Rows.uptoBulkAll (l.map (dE (H := H)))
  | [] => Nat.zero_le _
  | y :: l => by
    have h := tsize_bulk (H := H) l
    have e : Rows.uptoBulkAll ((y :: l).map (dE (H := H))) = Rows.uptoBulk (dE (H := H) y) + Rows.uptoBulkAll (l.map (dE (H := H))) := rfl
    rw [e, bulk_ent, tsize]
    omega
theorem tsize_small : ∀ (l : List Et) (K M : Nat), l.length ≤ M → (∀ x ∈ l, x.node.data.size ≤ K) → tsize l ≤ M * K
  | [], K, M, _, _ => Nat.zero_le _
  | y :: l, K, 0, h, _ => by simp at h
  | y :: l, K, M + 1, h, hs => by
    have h1 := tsize_small l K M (by simpa using h) (fun x hx => hs x (List.mem_cons_of_mem _ hx))
    have h2 := hs y (by simp)
    rw [tsize, Nat.add_mul, Nat.one_mul]
    omega

set_option maxRecDepth 100000 in
set_option maxHeartbeats 4000000 in
theorem walk (a : Option Addr) (n c : Nat) (la : List Et) (b : Option Addr) (m c2 : Nat) (lb : List Et) (p : ByteArray) (w : World) (hla : Ents w a n la) (hlb : Ents w b m lb) (hnil : a = none → c = 0) (hnil2 : b = none → c2 = 0) (hn : n ≤ 1048576) (hm : m ≤ 1048576) (hs : Small la) (hs2 : Small lb) (hts : tsize la ≤ 9223372036854775807) (hp : p.size ≤ 1048576) :
    Calls Try.prog 4 #[.slice a n c, .slice b m c2, .string p] w fun e w' => e = .returned (.bool true) ∧ Below w.heap.size w w' := by
  have hln := hla.1
  have hln2 := hlb.1
  have ccha := fun W (h : Below w.heap.size w W) => refCheckT_any a n c la W (hla.below h) (by omega) hs
  have cchb := fun W (h : Below w.heap.size w W) => refCheckT_any b m c2 lb W (hlb.below h) (by omega) hs2
  by_cases hTa : tcheck la = 0
  rotate_left
  · have e1 : (((tcheck la : Nat) : Int) == 0) = false := beq_eq_false_iff_ne.2 (by omega)
    have e2 : (((tcheck la : Nat) : Int) != 0) = true := by unfold bne; rw [e1]; rfl
    clear hTa
    go_enter Try.func4, Try.ntmps4
    go_wp2_with fail
    go_at_call 9
    refine (awake_any4 _).mono ?_
    rintro e w1 ⟨rfl, hb1⟩
    go_wp2_with fail
    go_at_call 11
    refine (ccha _ hb1).mono ?_
    rintro e w2 ⟨rfl, hb2⟩
    go_wp2_with fail
    go_at_call 9
    refine (awake_any4 _).mono ?_
    rintro e w3 ⟨rfl, hb3⟩
    go_wp2_with fail
    go_ret
    exact ⟨rfl, below_call (below_call hb1 hb2) hb3⟩
  rw [hTa] at ccha
  by_cases hTb : tcheck lb = 0
  rotate_left
  · have e1 : (((tcheck lb : Nat) : Int) == 0) = false := beq_eq_false_iff_ne.2 (by omega)
    have e2 : (((tcheck lb : Nat) : Int) != 0) = true := by unfold bne; rw [e1]; rfl
    clear hTb
    go_enter Try.func4, Try.ntmps4
    go_wp2_with fail
    go_at_call 9
    refine (awake_any4 _).mono ?_
    rintro e w1 ⟨rfl, hb1⟩
    go_wp2_with fail
    go_at_call 11
    refine (ccha _ hb1).mono ?_
    rintro e w2 ⟨rfl, hb2⟩
    go_wp2_with fail
    go_at_call 11
    refine (cchb _ (below_call hb1 hb2)).mono ?_
    rintro e w3 ⟨rfl, hb3⟩
    go_wp2_with fail
    go_at_call 9
    refine (awake_any4 _).mono ?_
    rintro e w4 ⟨rfl, hb4⟩
    go_wp2_with fail
    go_ret
    exact ⟨rfl, below_call (below_call (below_call hb1 hb2) hb3) hb4⟩
  · rw [hTb] at cchb
    have cr := fun W (h : Below w.heap.size w W) => refRoomy_all a n c la W (hla.below h) hnil (by omega)
    have cg := fun W (h : Below w.heap.size w W) => refGet_any a n c la p W (hla.below h) (by omega)
    have cs := fun W (h : Below w.heap.size w W) => refSub_any a n c la p W (hla.below h) (by omega) (fun x hx => by have := (hs x hx).1; omega) (by omega)
    have cz := fun W (h : Below w.heap.size w W) => refSize_any a n c la W (hla.below h) (by omega) hts
    have cm := fun W (h : Below w.heap.size w W) => refSame_any a b n m c c2 la lb W (hla.below h) (hlb.below h) (by omega) (by omega)
    have cd := fun W (h : Below w.heap.size w W) => refDiff_any a n c la b m c2 lb W (hla.below h) (hlb.below h) hnil2 (by omega) (by omega)
    have HL := Lib.hid hla
    have HL2 := Lib.hid hlb
    have hl200 := tcheck_len hTa
    have hl200b := tcheck_len hTb
    have hsl := tsub_len la p
    have hdl := diffs_len la lb (tsort (la ++ lb)) (la.length + lb.length)
    rw [show diffs la lb (tsort (la ++ lb)) (la.length + lb.length) = tdiff la lb from rfl] at hdl
    obtain ⟨S, hS⟩ : ∃ S, S = tsub la p := ⟨_, rfl⟩
    obtain ⟨DL, hDL⟩ : ∃ DL, DL = tdiff la lb := ⟨_, rfl⟩
    obtain ⟨G, hG⟩ : ∃ G, G = tget la p := ⟨_, rfl⟩
    obtain ⟨Z, hZ⟩ : ∃ Z, Z = tsize la := ⟨_, rfl⟩
    rw [← hS] at hsl
    rw [← hDL] at hdl cd
    rw [← hG] at cg
    rw [← hZ] at cz hts
    have HTA := Lib.hid hTa
    have HTB := Lib.hid hTb
    have HS := Lib.hid hS
    have HDL := Lib.hid hDL
    have HG := Lib.hid hG
    have HZ := Lib.hid hZ
    obtain ⟨K, Dt⟩ := G
    have hgN := guardN
    rw [show nv ⟨K, Dt⟩ = .agg #[.int .i64 K, .string Dt] from rfl] at cg
    have hsub : ∀ {W W' : World} {e : Ending}, SubTo la p W e W' → SubTo2 S W e W' := fun h => by
      obtain ⟨v, h1, h2, h3⟩ := h
      exact ⟨v, h1, by rw [HS.out]; exact h2, h3⟩
    clear hla hlb hTa hTb hS hDL hG hZ
    go_enter Try.func4, Try.ntmps4
    go_wp2_with fail
    go_at_call 9
    refine (awake_any4 _).mono ?_
    rintro e w1 ⟨rfl, hb1⟩
    go_wp2_with fail
    go_at_call 11
    refine (ccha _ hb1).mono ?_
    rintro e w2 ⟨rfl, hb2'⟩
    have hb2 := below_call hb1 hb2'
    go_wp2_with fail
    go_at_call 11
    refine (cchb _ hb2).mono ?_
    rintro e w3 ⟨rfl, hb3'⟩
    have hb3 := below_call hb2 hb3'
    clear hb1 hb2' hb2 hb3' ccha cchb
    go_wp2_with fail
    go_at_call 8
    refine (cr _ hb3).mono ?_
    intro e w4 hr
    obtain ⟨g, cap, rfl, hro, he1, he0, hcap, hcm, hg1, hg2, hb4'⟩ := roomy_form hr
    have hb4 := below_call hb3 hb4'
    have hrow := Lib.hid (roomy_row hro hcap)
    rw [hln] at he1 he0 hcap hrow ⊢
    have ch := fun W (h : Below w4.heap.size w4 W) => refHeld_any g cap c n a la W (he1.below h) ((HL.out.below hb4).below h) hcap hcm (by omega)
    have cts := fun W (h : Below w4.heap.size w4 W) => (tSub_any (some ⟨g, 0, none⟩) n cap la p W (he0.below h) HTA.out (by omega)).mono (fun e w' h => hsub h)
    have ctg := fun W (h : Below w4.heap.size w4 W) => tGet_any (some ⟨g, 0, none⟩) n cap la p W (he0.below h) HTA.out (by omega)
    have ctz := fun W (h : Below w4.heap.size w4 W) => tSize_any (some ⟨g, 0, none⟩) n cap la W (he0.below h) HTA.out
    have ctm := fun W (h : Below w4.heap.size w4 W) => tSame_any (some ⟨g, 0, none⟩) b n m cap c2 la lb W (he0.below h) ((HL2.out.below hb4).below h) HTA.out HTB.out
    have ctd := fun W (h : Below w4.heap.size w4 W) => tDiff_any (some ⟨g, 0, none⟩) n cap la b m c2 lb W (he0.below h) ((HL2.out.below hb4).below h) HTA.out HTB.out
    rw [← HG.out] at ctg
    rw [← HZ.out] at ctz
    rw [← HDL.out] at ctd
    rw [show nv ⟨K, Dt⟩ = .agg #[.int .i64 K, .string Dt] from rfl] at ctg
    clear hr he1 he0 cr hb4' hro
    go_wp2_with fail
    go_at_call 15
    refine (cts _ (Below.refl _ _)).mono ?_
    intro e w5 hp5
    obtain ⟨a5, k5, rfl, ho5, he5, hb5⟩ := sub_form hp5
    clear hp5
    go_wp2_with fail
    go_at_call 15
    refine (cts _ hb5).mono ?_
    intro e w6 hp6
    obtain ⟨a6, k6, rfl, ho6, he6, hb6'⟩ := sub_form hp6
    have hb6 := below_call hb5 hb6'
    clear hp6 cts
    go_wp2_with fail
    go_at_call 16
    refine (ctg _ hb6).mono ?_
    rintro e w7 ⟨rfl, hb7'⟩
    have hb7 := below_call hb6 hb7'
    go_wp2_with fail
    go_at_call 17
    refine (cg _ (below_call hb4 hb7)).mono ?_
    rintro e w8 ⟨rfl, hb8'⟩
    have hb8 := below_call hb7 hb8'
    have hb68 := below_call hb7' hb8'
    clear hb7 hb7' hb8' ctg cg
    go_wp2_with fail
    go_at_call 19
    refine ((cs _ (below_call hb4 hb8)).mono (fun e w' h => hsub h)).mono ?_
    intro e w9 hp9
    obtain ⟨a9, k9, rfl, ho9, he9, hb9'⟩ := sub_form hp9
    have hb69 := below_call hb68 hb9'
    have hb9 := below_call hb8 hb9'
    obtain ⟨N, hN⟩ : ∃ N, N = S.length := ⟨_, rfl⟩
    have hNl : N ≤ 200 := by omega
    have cs1 := fun W (h : Below w9.heap.size w9 W) => refSame_any a5 a9 N N k5 k9 S S W (by rw [hN]; exact ((he5.below hb6').below hb69).below h) (by rw [hN]; exact he9.below h) (by omega) (by omega)
    have cs2 := fun W (h : Below w9.heap.size w9 W) => refSame_any a6 a5 N N k6 k5 S S W (by rw [hN]; exact (he6.below hb69).below h) (by rw [hN]; exact ((he5.below hb6').below hb69).below h) (by omega) (by omega)
    have HO5 := Lib.hid ho5
    have HO6 := Lib.hid ho6
    have HN := Lib.hid hN
    have HB56 := Lib.hid hb6'
    have HB69 := Lib.hid hb69
    rw [← hN]
    clear hp9 he5 he6 he9 hb68 hb9' hb6' ho5 ho6 ho9 hN hb8 cs hb69 hsub
    go_wp2_with fail
    go_at_call 18
    refine (cs1 _ (Below.refl _ _)).mono ?_
    rintro e w10 ⟨B1, hB1, rfl, hb10⟩
    obtain rfl := hB1.2 rfl
    clear hB1
    go_wp2_with fail
    go_at_call 18
    refine (cs2 _ hb10).mono ?_
    rintro e w11 ⟨B2, hB2, rfl, hb11'⟩
    obtain rfl := hB2.2 rfl
    have hb11 := below_call hb10 hb11'
    clear hB2 hb11' hb10 cs1 cs2
    go_wp2_with fail
    go_at_call 20
    refine (ctz _ (below_call hb9 hb11)).mono ?_
    rintro e w12 ⟨rfl, hb12'⟩
    have hb12 := below_call hb11 hb12'
    go_wp2_with fail
    go_at_call 21
    refine (cz _ (below_call hb4 (below_call hb9 hb12))).mono ?_
    rintro e w13 ⟨rfl, rfl⟩
    go_wp2_with fail
    go_at_call 22
    refine (ctm _ (below_call hb9 hb12)).mono ?_
    rintro e w14 ⟨B3, hB3, rfl, hb14'⟩
    have hb14 := below_call hb12 hb14'
    go_wp2_with fail
    go_at_call 18
    refine (cm _ (below_call hb4 (below_call hb9 hb14))).mono ?_
    rintro e w15 ⟨B4, hB4, rfl, hb15'⟩
    have hb15 := below_call hb14 hb15'
    obtain rfl : B3 = B4 := Bool.eq_iff_iff.2 (hB3.trans hB4.symm)
    clear hB3 hB4 hb15' hb14' hb14 hb12 hb12' hb11 ctm cm cz ctz
    go_wp2_with fail
    go_at_call 24
    refine (ctd _ (below_call hb9 hb15)).mono ?_
    rintro e w16 ⟨v16, rfl, hx16, hb16'⟩
    have hb16 := below_call hb15 hb16'
    obtain ⟨a16, k16, hv16, hs16, _, _⟩ := Texts.form hx16
    subst hv16
    clear hx16 hb16'
    go_wp2_with fail
    go_at_call 25
    refine (cd _ (below_call hb4 (below_call hb9 hb16))).mono ?_
    rintro e w17 ⟨v17, rfl, hx17, hb17'⟩
    have hb17 := below_call hb16 hb17'
    obtain ⟨a17, k17, hv17, hs17, _, _⟩ := Texts.form hx17
    subst hv17
    have csm := same_true a16 a17 DL.length k16 k17 DL w17 (by omega) (hs16.below hb17') hs17
    obtain ⟨M, hM⟩ : ∃ M, M = DL.length := ⟨_, rfl⟩
    rw [← hM] at csm
    rw [← hM]
    clear hx17 hb17' ctd cd hs16 hs17 hM
    go_wp2_with fail
    go_at_call 23
    refine (csm).mono ?_
    rintro e w18 ⟨rfl, hb18'⟩
    have hb18 := below_call hb17 hb18'
    clear csm hb18' hb17 hb16 hb15
    go_wp2_with fail
    go_at_call 14
    refine (ch _ (below_call hb9 hb18)).mono ?_
    rintro e w19 ⟨rfl, hb19'⟩
    have hb19 := below_call hb18 hb19'
    have hbz := below_call hb9 hb19
    have hs5 := hb5.size
    have hs56 := HB56.out.size
    have hsW := hb4.size
    have s12 : ∀ x, a5 = some x → a6 ≠ some x := fun x h4 h6 => by have := (own_block HO5.out h4).2; have := (own_block HO6.out h6).1; omega
    have s13 : ∀ x, a5 = some x → some (⟨g, 0, none⟩ : Addr) ≠ some x := fun x h4 h => by injection h with h; subst h; have := (own_block HO5.out h4).1; have : w4.heap.size ≤ g := this; omega
    have s23 : ∀ x, a6 = some x → some (⟨g, 0, none⟩ : Addr) ≠ some x := fun x h4 h => by injection h with h; subst h; have := (own_block HO6.out h4).1; have : w5.heap.size ≤ g := this; omega
    have hap := lists_apart [⟨a5, N, k5, S⟩, ⟨a6, N, k6, S⟩, ⟨some ⟨g, 0, none⟩, n, cap, la⟩] w19 w.heap.size (by show 3 ≤ _; omega)
      (by
        intro x hx
        simp only [List.mem_cons, List.not_mem_nil, or_false] at hx
        rcases hx with rfl | rfl | rfl
        · show N ≤ _; omega
        · show N ≤ _; omega
        · show n ≤ _; omega) (below_call hb4 hbz).size
      (by
        intro x hx
        simp only [List.mem_cons, List.not_mem_nil, or_false] at hx
        rcases hx with rfl | rfl | rfl
        · exact row_below (row_base (B := w.heap.size) (C := w4.heap.size) (own_n2 HO5.out HN.out) (by omega)) (below_call HB56.out (below_call HB69.out hb19))
        · exact row_below (row_base (B := w.heap.size) (C := w5.heap.size) (own_n2 HO6.out HN.out) (by omega)) (below_call HB69.out hb19)
        · exact row_below (row_base (B := w.heap.size) (C := w3.heap.size) hrow.out hb3.size) hbz)
      (sep3 s12 s13 s23)
    clear s12 s13 s23 hs5 hs56 hsW ch HO5 HO6 hrow
    go_wp2_with fail
    go_at_call 26
    refine (hap).mono ?_
    rintro e w20 ⟨rfl, hb20⟩
    go_wp2_with fail
    go_ret
    exact ⟨rfl, ((below_call hb4 hbz).alloc (below_call hb4 hbz).size _).trans hb20⟩

theorem own : ownKnob Try.prog.godebug = none := by kernel_rfl
theorem laidOut : laidOutB Try.prog = true := by kernel_rfl

set_option maxRecDepth 100000 in
theorem contract (H : Type) (enc : TypeId × Value → H) (W : World) (base : Nat) (args : Array Value) (ds gs : List (DataW H)) (before : List MemPlace)
    (hval0 : ∀ (j : Nat) t v, Try.f4.params[j]? = some t → args[j]? = some v → Value.okWide Try.prog W .any base t v)
    (hW : DataW.Whole enc Try.prog Try.f4.params.toList Rows.treeGetsSpec.vars false W args.toList ds gs before)
    (hk : Rows.uptoSmall H (ds ++ gs) = true)
    (hsz0 : (DataW.weightsEach Try.prog (Try.f4.params.toList ++ Rows.treeGetsSpec.plain.varTypes Try.prog) (ds ++ gs)).all (· ≤ reachBytes) = true) :
    Calls Try.prog 4 args W fun e W' => ∃ v, e = .returned v ∧ Rows.treeGetsSpec.post enc Try.prog Try.f4 false true false false W args v W' := by
  have hval : ∀ (j : Nat) t v, Try.f4.params[j]? = some t → args[j]? = some v → Value.okWide Try.prog W .any base t v := hval0
  have hsz := hsz0
  clear hsz0
  have hW' := hW
  obtain ⟨p, q, hA0, hV, rfl, hfz, hnd⟩ := hW
  have hA : DataW.TrodAll enc Try.prog W 0 (fun _ => true) true Try.f4.params.toList args.toList ds p := hA0
  rw [Try.params4] at hA hval hsz
  obtain ⟨v0, vs0, d0, ds0, p0, q0, hargs, rfl, rfl, h0, r0⟩ := trodAll_cons hA
  obtain ⟨v1, vs1, d1, ds1, p1, q1, rfl, rfl, rfl, h1, r1⟩ := trodAll_cons r0
  obtain ⟨v2, vs2, d2, ds2, p2, q2, rfl, rfl, rfl, h2, r2⟩ := trodAll_cons r1
  obtain ⟨rfl, rfl, rfl⟩ := trodAll_nil r2
  obtain rfl : args = #[v0, v1, v2] := by cases args; simp_all
  obtain ⟨rfl, rfl⟩ := trodVars_none hV
  obtain ⟨A0, n0, c0, rfl⟩ := okWide_slice Try.underlying22 (hval 0 22 v0 rfl rfl)
  have k0 := h0
  have lt0 : ∀ x ∈ p0, x.block < W.heap.size := by obtain ⟨m, hm⟩ := k0; exact DataW.trod_lt m _ _ _ hm
  obtain ⟨A1, n1, c1, rfl⟩ := okWide_slice Try.underlying22 (hval 1 22 v1 rfl rfl)
  have k1 := h1
  have lt1 : ∀ x ∈ p1, x.block < W.heap.size := by obtain ⟨m, hm⟩ := k1; exact DataW.trod_lt m _ _ _ hm
  obtain ⟨s2, rfl, rfl, rfl, w2⟩ := open_string Try.underlying9 (hval 2 9 v2 rfl rfl) h2
  have hreach2 : s2.size ≤ 140737488351232 := by
    have := sized_string hsz (j := 2) (t := 9) rfl rfl
    simpa [reachBytes] using this
  clear hA0 hval0
  obtain ⟨l0, e0, z0, _, m0, sm0⟩ := arg_ents k0
  obtain ⟨l1, e1, z1, _, m1, sm1⟩ := arg_ents k1
  have hbulk : Rows.uptoBulk d0 ≤ 1048576 ∧ Rows.uptoBulk d1 ≤ 1048576 ∧ s2.size ≤ 1048576 := by
    have h := of_decide_eq_true hk
    rw [List.append_nil] at h
    have x : Rows.uptoBulkAll [d0, d1, DataW.lit (H := H) (.string s2.data.toList)] = Rows.uptoBulk d0 + (Rows.uptoBulk d1 + ((s2.data.toList.length + 1) + 0)) := rfl
    rw [x, len_l] at h
    omega
  refine (walk A0 n0 c0 l0 A1 n1 c1 l1 s2 W e0 e1 z0 z1 (by omega) (by omega) (fun x hx => by have := sm0 x hx; omega) (fun x hx => by have := sm1 x hx; omega) (Nat.le_trans (tsize_small l0 1048576 1048576 (by rw [e0.1]; omega) (fun x hx => by have := sm0 x hx; omega)) (by decide)) (by omega)).mono fun e W' ⟨he, bel⟩ => ?_
  subst he
  exact ⟨_, rfl, _, _, _, [], _, [], hW', trodAll_mk1 (shut_bool Try.underlying4 _), (trodAll_cons_mk (Below.trod laidOut (by kernel_rfl) (of_decide_eq_true (by kernel_rfl)) k0 bel lt0) (trodAll_cons_mk (Below.trod laidOut (by kernel_rfl) (of_decide_eq_true (by kernel_rfl)) k1 bel lt1) (trodAll_cons_mk (shut_string Try.underlying9 w2) trodAll_mk0))), rfl, bel.frame _, fun h => by cases h⟩

set_option maxRecDepth 100000 in
theorem lifted (os : Os) (started : os.Started) (H : Type) (enc : TypeId × Value → H) (F : Stop.Interp) :
    ReturnsInHanded {} Try.checked os 4 .any ((Rows.OpenSpec.upto Rows.treeGetsSpec).pre6 enc Try.prog Try.f4 Rows.treeGetsUptoRow.domain false) (((Rows.OpenSpec.upto Rows.treeGetsSpec).at F).post enc Try.prog Try.f4 false true false false) := by
  refine returnsInHanded_of_cond_sized (C := Try.checked) (s := Rows.OpenSpec.upto Rows.treeGetsSpec) (k := Rows.uptoSmall) rfl own started (by kernel_rfl) Try.func4
    (OpenSpec.witness (enc := enc) (C := Try.checked) (s := Rows.OpenSpec.upto Rows.treeGetsSpec) (k := Rows.uptoSmall) rfl false ⟨#[], #[.slice none 0 0, .slice none 0 0, .string ByteArray.empty], []⟩ 8 (by kernel_rfl) (by kernel_rfl) (by kernel_rfl)
      (x := ([.nil, .nil, .lit (.string [])], [], [])) (by kernel_rfl) rfl (by kernel_rfl)) ?_
  intro W base args ds gs before hval hW _ hk hsz0 _
  exact contract H enc W base args ds gs before hval hW hk hsz0

theorem over : Rows.treeGetsUptoRow.holds Try.pinned (Rows.OpenSpec.upto Rows.treeGetsSpec) :=
  OpenClaim.holds_of_cond 4 Try.f4 rfl rfl rfl rfl rfl rfl rfl ⟨rfl, rfl, rfl, rfl, rfl⟩ rfl rfl rfl rfl rfl (by kernel_rfl) Try.func4 (by kernel_rfl)
    (of_decide_eq_true (by kernel_rfl)) (by unfold Func.isWrapper; first | (rw [if_pos (by decide +kernel)]; kernel_rfl) | (rw [if_neg (by decide +kernel)]; exact ⟨rfl, rfl⟩))
    (fun os started H enc _ F => lifted os started H enc F)

end Go.Proofs.Ythokkobmlhbfgaa.treeGets
namespace Go.Proofs.Ythokkobmlhbfgaa
theorem treeGetsUpto_holds : Rows.TreeGetsUptoSaid := treeGets.over
#print axioms treeGetsUpto_holds
end Go.Proofs.Ythokkobmlhbfgaa
