/- Texts of this seat, one behind the other. -/
import Derived.Test.YtkenmldiojeooaaGreatT2
import Derived.Shelf.Strings.Builder1
import Derived.Shelf.Strings.Builder2
import Derived.Shelf.Strings.OnBuilder
import Derived.Shelf.Small.Bits
import Derived.Shelf.Strconv.Itoa0
import Derived.Shelf.Strings.Search1
import Derived.Shelf.Slices.CompactS
import Derived.Test.YtkenmldiojeooaaGreatProg
import Derived.Lib.SliceRun
namespace Go.Proofs.YtkenmldiojeooaaGreat.Ud
open Go.RowKit Go.ChangeShapes Go.WideShapes Tx Um Aq
set_option linter.unusedVariables false
structure Kp (pa B : Nat) (w w' : World) : Prop where
  os : w'.os = w.os
  tape : w'.tape = w.tape
  output : w'.output = w.output
  size : w.heap.size ≤ w'.heap.size
  block : ∀ i, i < B → i ≠ pa → w'.heap[i]? = w.heap[i]?
theorem Kp.refl (pa B : Nat) (w : World) : Kp pa B w w := ⟨rfl, rfl, rfl, Nat.le_refl _, fun _ _ _ => rfl⟩
theorem Kp.below {pa B B2 : Nat} {a b c : World} (h : Kp pa B a b) (k : Below B2 b c) (hB : B ≤ B2) : Kp pa B a c :=
  ⟨k.os.trans h.os, k.tape.trans h.tape, k.output.trans h.output, Nat.le_trans h.size k.size, fun i hi hne => (k.block i (Nat.lt_of_lt_of_le hi hB)).trans (h.block i hi hne)⟩
theorem Kp.put {pa B o : Nat} {a b : World} (h : Kp pa B a b) (u : Value) : Kp pa B a (b.setCell ⟨pa, o, none⟩ u) :=
  ⟨h.os, h.tape, h.output, by simpa [World.setCell] using h.size, fun i hi hne => (Below.heap_setCell b ⟨pa, o, none⟩ u i hne).trans (h.block i hi hne)⟩
theorem Kp.all {pa B B2 : Nat} {a b : World} (h : Kp pa B a b) (h1 : B2 ≤ B) (h2 : B2 ≤ pa) : Below B2 a b := ⟨h.os, h.tape, h.output, h.size, fun i hi => h.block i (by omega) (by omega)⟩
theorem Kp.drew {pa B : Nat} {a b : World} (h : Kp pa B a b) : Kp pa B a b.drew := ⟨h.os, h.tape, h.output, h.size, h.block⟩
theorem Kp.drewN {pa B : Nat} {a b : World} (h : Kp pa B a b) (n : Nat) : Kp pa B a (b.drewN n) := ⟨h.os, h.tape, h.output, h.size, h.block⟩
def rd (w : World) (a : Addr) : Nat := match w.cell? a with
  | some (.int _ k) => k.toNat
  | _ => 0
theorem rd_eq {w : World} {a : Addr} {k : IntKind} {n : Nat} (h : w.cell? a = some (.int k (n : Int))) : rd w a = n := by
  unfold rd
  rw [h]
  rfl
def Two (w : World) (pa p q : Nat) : Prop := w.heap[pa]? = some (.cells #[.int .i64 (p : Int), .int .i64 (q : Int)] 129 (0, 0))
theorem Two.cell {w : World} {pa p q : Nat} (h : Two w pa p q) : w.cell? ⟨pa, 0, none⟩ = some (.int .i64 (p : Int)) ∧ w.cell? ⟨pa, 1, none⟩ = some (.int .i64 (q : Int)) := by
  unfold World.cell?
  unfold Two at h
  simp [h]
theorem Two.frozen {w : World} {pa p q : Nat} (h : Two w pa p q) (k : Nat) : w.frozen? ⟨pa, k, none⟩ = false := by
  unfold Two at h
  simp [World.frozen?, h]
theorem Two.kept {w w1 : World} {pa p q : Nat} (h : Two w pa p q) (hk : w1.heap[pa]? = w.heap[pa]?) : Two w1 pa p q := hk.trans h
theorem Two.put {w : World} {pa p q : Nat} (h : Two w pa p q) (p' q' : Nat) : Two ((w.setCell ⟨pa, 0, none⟩ (.int .i64 (p' : Int))).setCell ⟨pa, 1, none⟩ (.int .i64 (q' : Int))) pa p' q' := by
  unfold Two at h ⊢
  simp [World.setCell, Array.getElem?_modify, h]
theorem Two.lt {w : World} {pa p q : Nat} (h : Two w pa p q) : pa < w.heap.size := (Array.getElem?_eq_some_iff.1 h).1
theorem runs_le (s : List Nat) : ∀ x, x ∈ runs s → x.1 ∈ s ∧ x.2 ≤ s.length := by
  induction s with
  | nil => intro x hx; cases hx
  | cons y s ih =>
    intro x hx
    rw [runs_cons] at hx
    cases hr : runs s with
    | nil =>
      rw [hr] at hx
      obtain rfl := List.mem_singleton.1 hx
      exact ⟨by simp, by simp⟩
    | cons p r =>
      obtain ⟨z, n⟩ := p
      rw [hr] at hx ih
      have hz := ih (z, n) (by simp)
      simp only at hx hz
      by_cases e : y = z
      · rw [if_pos e] at hx
        rcases List.mem_cons.1 hx with rfl | hx
        · exact ⟨by simp [e], by simp; omega⟩
        · obtain ⟨h1, h2⟩ := ih x (by simp [hx])
          exact ⟨by simp [h1], by simp; omega⟩
      · rw [if_neg e] at hx
        rcases List.mem_cons.1 hx with rfl | hx
        · exact ⟨by simp, by simp⟩
        · obtain ⟨h1, h2⟩ := ih x hx
          exact ⟨by simp [h1], by simp; omega⟩
theorem St.small {a b : List ByteArray} {pre : List Nat} {i j : Nat} (h : St a b pre i j) (ha : a.length ≤ 400) (hb : b.length ≤ 400) : (runs pre).length ≤ 1000 ∧ ∀ x, x ∈ runs pre → x.1 ≤ 2 ∧ x.2 ≤ 1000 := by
  obtain ⟨h1, h2, h3, h4⟩ := h
  have hl := runs_len pre
  refine ⟨by omega, fun x hx => ?_⟩
  obtain ⟨h5, h6⟩ := runs_le pre x hx
  have := (makes a b).le x.1 (by rw [h3]; simp [h5])
  omega
theorem Prs.far {E : TypeId} {w : World} {B pa : Nat} {v : Value} {l : List (Nat × Nat)} (h : Prs E w B v l) (hp : pa < B) (o : Nat) (u : Value) : Prs E (w.setCell ⟨pa, o, none⟩ u) B v l := by
  have hg : w.grownBy (w.setCell ⟨pa, o, none⟩ u) (some pa) := ⟨rfl, rfl, rfl, by simp [World.setCell], fun j _ hj => Below.heap_setCell w ⟨pa, o, none⟩ u j (fun e => hj (by rw [e]))⟩
  exact World.ownsRow.kept h hg (.inr (fun e => by have := (World.ownsRow.lt h pa e).1; omega))
theorem on_more {p q x : Nat} (hx : x = 0 ∨ x = 1 ∨ x = 2) : p + q < onA p x + onB q x := by
  unfold onA onB
  rcases hx with rfl | rfl | rfl <;> simp <;> omega
set_option maxRecDepth 100000 in
set_option maxHeartbeats 2000000 in
theorem script_any (A B : Option Addr) (ca cb : Nat) (a b : List ByteArray) (w : World) (hA : Strs w A a.length a) (hB : Strs w B b.length b) (ha : ∀ x, x ∈ a → x.size ≤ maxLen) (hb : ∀ x, x ∈ b → x.size ≤ maxLen) :
    Calls Tryz.prog 115 #[.slice A a.length ca, .slice B b.length cb] w (PrsTo 150 (scr a b) (err a b) w) := by
  by_cases hm : 400 < a.length
  · have e1 : (400 : Int) < (a.length : Int) := by omega
    have HE : Hid (scr a b = [] ∧ err a b = 4) := by
      show _ ∧ _
      unfold scr err lng
      rw [decide_eq_true hm]
      exact ⟨rfl, rfl⟩
    clear ha hb hA hB
    go_enter Tryz.func115, Tryz.ntmps115
    go_wp2_with fail
    go_ret2
    unfold PrsTo
    rw [HE.out.1, HE.out.2]
    exact ⟨_, rfl, World.ownsRow_nil _ _ _ _, Below.refl _ _⟩
  · have e1 : ¬ (400 : Int) < (a.length : Int) := by omega
    by_cases hn : 400 < b.length
    · have e2 : (400 : Int) < (b.length : Int) := by omega
      have HE : Hid (scr a b = [] ∧ err a b = 4) := by
        show _ ∧ _
        unfold scr err lng
        rw [decide_eq_true hn, Bool.or_true]
        exact ⟨rfl, rfl⟩
      clear ha hb hA hB
      go_enter Tryz.func115, Tryz.ntmps115
      go_wp2_with fail
      go_ret2
      unfold PrsTo
      rw [HE.out.1, HE.out.2]
      exact ⟨_, rfl, World.ownsRow_nil _ _ _ _, Below.refl _ _⟩
    · have e2 : ¬ (400 : Int) < (b.length : Int) := by omega
      have HE : Hid (scr a b = runs (steps a b) ∧ err a b = 0) := by
        show _ ∧ _
        unfold scr err lng
        rw [decide_eq_false hm, decide_eq_false hn]
        exact ⟨rfl, rfl⟩
      have hm4 : a.length ≤ 400 := by omega
      have hn4 : b.length ≤ 400 := by omega
      have cN := numbered_any A B ca cb a b w hA hB ha hb hm4 hn4
      unfold NumbTo at cN
      clear hA hB ha hb hm hn
      obtain ⟨m, hmm⟩ : ∃ m, m = a.length := ⟨_, rfl⟩
      obtain ⟨n, hnn⟩ : ∃ n, n = b.length := ⟨_, rfl⟩
      rw [← hmm] at e1 cN hm4 ⊢
      rw [← hnn] at e2 cN hn4 ⊢
      have HM := Lib.hid hmm
      have HN := Lib.hid hnn
      clear hmm hnn
      go_enter Tryz.func115, Tryz.ntmps115
      go_wp2_with fail
      go_at_call 130
      refine cN.mono ?_
      rintro e w1 ⟨M, va, vb, rfl, hva, hvb, hM, hb1⟩
      obtain ⟨ada, cca, rfl, hca⟩ := ints_cell hva
      obtain ⟨adb, ccb, rfl, hcb⟩ := ints_cell hvb
      have hnA : Nums w1 ada (a.map (num M)) := hca
      have hnB : Nums w1 adb (b.map (num M)) := hcb
      have cL := fun c1 c2 => lengths_any ada adb c1 c2 M a b w1 hM (by rw [← HM.out]; omega) (by rw [← HN.out]; omega) hnA hnB
      unfold TableTo at cL
      rw [List.length_map, ← HM.out]
      rw [List.length_map, ← HN.out]
      rw [← HM.out, ← HN.out] at cL
      have HNA := Lib.hid hnA
      have HNB := Lib.hid hnB
      have HMM := Lib.hid hM
      have HB1 := Lib.hid hb1
      clear hva hvb hM hb1 hca hcb hnA hnB cN
      go_wp2_with fail
      go_at_call 131
      refine (cL _ _).mono ?_
      rintro e w2 ⟨g, r, rfl, hT, hb2⟩
      have HT := Lib.hid hT
      have HB2 := Lib.hid hb2
      clear hT hb2 cL
      have hTw : Two ((w2.alloc (.cells #[.int .i64 0, .int .i64 0] 129)).alloc (.cells #[.int .i64 (m : Int), .int .i64 (n : Int)] 129)) w2.heap.size 0 0 := by
        unfold Two
        rw [Below.heap_alloc _ _ _ (by simp)]
        exact heap_alloc_new _ _
      have hTe : Two ((w2.alloc (.cells #[.int .i64 0, .int .i64 0] 129)).alloc (.cells #[.int .i64 (m : Int), .int .i64 (n : Int)] 129)) (w2.heap.size + 1) m n := heap_new2 _ _ _
      have hb3 : Below w2.heap.size w2 ((w2.alloc (.cells #[.int .i64 0, .int .i64 0] 129)).alloc (.cells #[.int .i64 (m : Int), .int .i64 (n : Int)] 129)) := ((Below.refl _ w2).alloc (Nat.le_refl _) _).alloc (by simp) _
      have hs3 : ((w2.alloc (.cells #[.int .i64 0, .int .i64 0] 129)).alloc (.cells #[.int .i64 (m : Int), .int .i64 (n : Int)] 129)).heap.size = w2.heap.size + 2 := by simp
      go_wp2_with fail
      generalize (w2.alloc (.cells #[.int .i64 0, .int .i64 0] 129)).alloc (.cells #[.int .i64 (m : Int), .int .i64 (n : Int)] 129) = w3 at hTw hTe hb3 hs3 ⊢
      have HNA3 := Lib.hid ((HNA.out.below HB2.out).below hb3)
      have HNB3 := Lib.hid ((HNB.out.below HB2.out).below hb3)
      have HT3 := Lib.hid (HT.out.below hb3)
      have HB3 : Hid (Below w.heap.size w w3) := (HB1.out.trans (HB2.out.mono HB1.out.size)).trans (hb3.mono (Nat.le_trans HB1.out.size HB2.out.size))
      have HAA : Hid (∀ i o, (a.map (num M)).length ≠ 0 → ada = some ⟨i, o, none⟩ → i < w2.heap.size) := fun i o h0 h1 => Nat.lt_of_lt_of_le (HNA.out.lt h0 h1) HB2.out.size
      have HAB : Hid (∀ i o, (b.map (num M)).length ≠ 0 → adb = some ⟨i, o, none⟩ → i < w2.heap.size) := fun i o h0 h1 => Nat.lt_of_lt_of_le (HNB.out.lt h0 h1) HB2.out.size
      have HAT : Hid (g < w2.heap.size ∧ ∀ k, k ≤ a.length → r k < w2.heap.size) := ⟨HT.out.glt.2, fun k hk => (HT.out.apart k (Nat.zero_le _) hk).2⟩
      have hww2 : w.heap.size ≤ w2.heap.size := Nat.le_trans HB1.out.size HB2.out.size
      obtain ⟨pa, hpa⟩ : ∃ pa, pa = w2.heap.size := ⟨_, rfl⟩
      rw [← hpa] at hTw hTe hs3 HAA HAB HAT hww2 ⊢
      have HTE := Lib.hid hTe
      have HTW := Lib.hid hTw
      have HST := Lib.hid (st_start a b)
      clear hb3 HNA HNB HT HB1 HB2 hpa hTe hTw
      go_loopw [9, 12] (fun v _ wr => ∃ (pre : List Nat) (p q : Nat), Hid (St a b pre p q) ∧ Prs 150 wr (pa + 2) v (runs pre) ∧ Hid (Kp pa (pa + 2) w3 wr) ∧ Hid (Two wr pa p q)) (fun _ _ wr => m + n - rd wr ⟨pa, 0, none⟩ - rd wr ⟨pa, 1, none⟩)
      case atStart => exact ⟨[], 0, 0, HST, World.ownsRow_nil _ _ _ _, Kp.refl _ _ _, HTW⟩
      case round =>
        obtain ⟨pre, p, q, HS, hpr, HK, HTWO⟩ := hrel
        clear HST HTW
        have hp := HS.out.1
        have hq := HS.out.2.1
        rw [← HM.out] at hp
        rw [← HN.out] at hq
        obtain ⟨c0, c1⟩ := HTWO.out.cell
        have HRD : Hid (rd wr ⟨pa, 0, none⟩ = p ∧ rd wr ⟨pa, 1, none⟩ = q) := ⟨rd_eq c0, rd_eq c1⟩
        have hTe := HTE.out.kept (HK.out.block (pa + 1) (by omega) (by omega))
        obtain ⟨d0, d1⟩ := hTe.cell
        have hgE := guardPr
        have hQ := run_neq_pair
        have hszr := HK.out.size
        by_cases hend : p = m ∧ q = n
        · obtain ⟨hpe, hqe⟩ := hend
          have e3 : ((p : Int) == (m : Int)) = true := beq_iff_eq.2 (by omega)
          have e4 : ((q : Int) == (n : Int)) = true := beq_iff_eq.2 (by omega)
          have HR : Hid (PrsTo 150 (scr a b) (err a b) w (.returned (.tuple #[u9, .int .i64 0])) wr) := by
            show PrsTo _ _ _ _ _ _
            rw [HE.out.1, HE.out.2, st_end HS.out (by rw [← HM.out]; exact hpe) (by rw [← HN.out]; exact hqe)]
            exact ⟨_, rfl, own_base hpr (by omega), HB3.out.trans (HK.out.all (by omega) hww2)⟩
          clear hTe hpe hqe hpr
          go_wp2_with fail
          go_ret2
          exact HR.out
        · have e5 : (((p : Int) == (m : Int)) && ((q : Int) == (n : Int))) = false := by
            by_cases h1 : p = m
            · have h2 : ((q : Int) == (n : Int)) = false := beq_eq_false_iff_ne.2 (by omega)
              rw [h2, Bool.and_false]
            · have h2 : ((p : Int) == (m : Int)) = false := beq_eq_false_iff_ne.2 (by omega)
              rw [h2, Bool.false_and]
          have hQ2 : (Op.equalIn 10000 129 (.agg #[.int .i64 (p : Int), .int .i64 (q : Int)]) (.agg #[.int .i64 (m : Int), .int .i64 (n : Int)])).run Tryz.prog wr = .ok false wr := by rw [run_eql_pair, e5]
          have hAr := HNA3.out.kept (w1 := wr) (fun i h0 h1 => HK.out.block i (by have := HAA.out i 0 h0 h1; omega) (by have := HAA.out i 0 h0 h1; omega)) hszr
          have hBr := HNB3.out.kept (w1 := wr) (fun i h0 h1 => HK.out.block i (by have := HAB.out i 0 h0 h1; omega) (by have := HAB.out i 0 h0 h1; omega)) hszr
          have hTr := HT3.out.kept (w1 := wr) (HK.out.block g (by have := HAT.out.1; omega) (by have := HAT.out.1; omega)) (fun k _ hk => HK.out.block (r k) (by have := HAT.out.2 k hk; omega) (by have := HAT.out.2 k hk; omega)) hszr
          have cx := fun c1 c2 => next_any ada adb c1 c2 g p q _ r M a b wr HMM.out (by rw [← HM.out]; exact hm4) (by rw [← HN.out]; exact hn4) hAr hBr hTr (by rw [← HM.out]; exact hp) (by rw [← HN.out]; exact hq) (by rw [← HM.out, ← HN.out]; omega)
          rw [← HM.out, ← HN.out] at cx
          have hm5 := hm4
          have hn5 := hn4
          rw [HM.out] at hm5
          rw [HN.out] at hn5
          obtain ⟨hl1, hl2⟩ := HS.out.small hm5 hn5
          have HL1 := Lib.hid hl1
          have HL2 := Lib.hid hl2
          have CX := Lib.hid cx
          clear hQ e5 hAr hBr hTr hl1 hl2 hm5 hn5 hTe cx
          go_wp2_with fail
          go_at_call 132
          refine (CX.out _ _).mono ?_
          rintro e w5 ⟨x, rfl, hd, hb5⟩
          have hx2 := hd.le
          have hpr5 : Prs 150 w5 (pa + 2) u9 (runs pre) := hpr.below hb5
          have HS2 := Lib.hid (HS.out.does hd)
          have HK5 := Lib.hid (HK.out.below hb5 (by omega))
          have HT5 := Lib.hid (HTWO.out.kept (hb5.block pa HTWO.out.lt))
          have hsz5 := HK5.out.size
          have cl := longer_any (pa + 2) u9 (runs pre) x w5 hpr5 (by omega) HL1.out HL2.out (by omega)
          rw [← bump_runs] at cl
          have CL := Lib.hid cl
          clear hpr hpr5 HK HTWO HS hb5 hd cl c0 c1 d0 d1 hQ2 CX HL1 HL2
          go_wp2_with fail
          go_at_call 133
          refine CL.out.mono ?_
          rintro e w6 ⟨v6, rfl, hpr6, hb6⟩
          have HK6 := Lib.hid (HK5.out.below hb6 (Nat.le_refl _))
          have HT6 := Lib.hid (HT5.out.kept (hb6.block pa (by omega)))
          obtain ⟨c0, c1⟩ := HT6.out.cell
          have CB := Lib.hid (behind_any p q x w6 hx2 (by omega) (by omega))
          have HP6 := Lib.hid hpr6
          clear HK5 HT5 hb6 CL hpr6
          go_wp2_with fail
          go_at_call 116
          refine CB.out.mono ?_
          rintro e w7 ⟨rfl, hb7⟩
          have HT7 := Lib.hid (HT6.out.kept (hb7.block pa HT6.out.lt))
          have HK7 := Lib.hid (HK6.out.below hb7 (by have := HK6.out.size; omega))
          have hp7 := HP6.out.below hb7
          obtain ⟨c0, c1⟩ := HT7.out.cell
          have f0 := HT7.out.frozen 0
          have f1 := HT7.out.frozen 1
          have HS7 := HS2.out.1
          have HS8 := HS2.out.2.1
          rw [← HM.out] at HS7
          rw [← HN.out] at HS8
          have hmore := on_more (p := p) (q := q) hx2
          have HP8 := Lib.hid ((hp7.far (by omega : pa < pa + 2) 0 (.int .i64 (onA p x : Nat))).far (by omega : pa < pa + 2) 1 (.int .i64 (onB q x : Nat)))
          have HK8 := Lib.hid ((HK7.out.put (o := 0) (.int .i64 (onA p x : Nat))).put (o := 1) (.int .i64 (onB q x : Nat)))
          have HT8 := Lib.hid (HT7.out.put (onA p x) (onB q x))
          obtain ⟨p', hp'⟩ : ∃ p', p' = onA p x := ⟨_, rfl⟩
          obtain ⟨q', hq'⟩ : ∃ q', q' = onB q x := ⟨_, rfl⟩
          rw [← hp'] at HS2 HS7 hmore HP8 HK8 HT8 ⊢
          rw [← hq'] at HS2 HS8 hmore HP8 HK8 HT8 ⊢
          clear hp7 HT7 HK7 hp' hq' HT6 HK6 HP6 hb7 CB
          go_wp2_with fail
          go_roundw
          case rel => exact ⟨pre ++ [x], p', q', HS2, HP8.out, HK8, HT8⟩
          case measure =>
            obtain ⟨k0, k1⟩ := HT8.out.cell
            rw [rd_eq k0, rd_eq k1, HRD.out.1, HRD.out.2]
            omega
end Go.Proofs.YtkenmldiojeooaaGreat.Ud

namespace Go.Proofs.YtkenmldiojeooaaGreat.Ud
open Go.RowKit Go.ChangeShapes Go.WideShapes Tx Um Aq
set_option linter.unusedVariables false
def RunAt (w : World) (pr x n : Nat) : Prop := w.heap[pr]? = some (.cells #[.int .i64 (x : Int), .int .i64 (n : Int)] 150 (0, 0))
theorem RunAt.cell {w : World} {pr x n : Nat} (h : RunAt w pr x n) : w.cell? ⟨pr, 0, none⟩ = some (.int .i64 (x : Int)) ∧ w.cell? ⟨pr, 1, none⟩ = some (.int .i64 (n : Int)) := by
  unfold World.cell?
  unfold RunAt at h
  simp [h]
theorem RunAt.kept {w w1 : World} {pr x n : Nat} (h : RunAt w pr x n) (hk : w1.heap[pr]? = w.heap[pr]?) : RunAt w1 pr x n := hk.trans h
theorem RunAt.lt {w : World} {pr x n : Nat} (h : RunAt w pr x n) : pr < w.heap.size := (Array.getElem?_eq_some_iff.1 h).1
theorem pk_on {s : List Nat} {k i j x : Nat} {pre : List (Nat × Nat)} (h : PK s k i j pre) (hs : s[k]? = some x) (hx : x = 0 ∨ x = 1 ∨ x = 2) : PK s (k + 1) (onA i x) (onB j x) (if x = 0 then pre ++ [(i, j)] else pre) := by
  rcases hx with rfl | rfl | rfl
  · exact pk_keep h hs
  · exact pk_drop h hs
  · exact pk_add h hs
theorem pos_le (R : List (Nat × Nat)) (k : Nat) : pos R k ≤ (flat R).length := by
  unfold pos
  have : flat R = flat (R.take k) ++ flat (R.drop k) := by unfold flat; rw [← List.flatMap_append, List.take_append_drop]
  rw [this, List.length_append]
  omega
set_option maxRecDepth 100000 in
set_option maxHeartbeats 2000000 in
theorem kept_any (A B : Option Addr) (ca cb : Nat) (a b : List ByteArray) (w : World) (hA : Strs w A a.length a) (hB : Strs w B b.length b) (ha : ∀ x, x ∈ a → x.size ≤ maxLen) (hb : ∀ x, x ∈ b → x.size ≤ maxLen) :
    Calls Tryz.prog 93 #[.slice A a.length ca, .slice B b.length cb] w (PrsTo 129 (kep a b) (err a b) w) := by
  obtain ⟨iE, hI, hI0, hI1, hI2⟩ := info_parts infoPair
  have cS := script_any A B ca cb a b w hA hB ha hb
  unfold PrsTo at cS
  clear hA hB ha hb
  cases hl : lng a b
  case true =>
    rw [scr_yes hl, err_yes hl] at cS
    rw [kep_yes hl, err_yes hl]
    have CS := Lib.hid cS
    clear cS hl
    go_enter Tryz.func93, Tryz.ntmps93
    go_wp2_with fail
    go_at_call 115
    refine CS.out.mono ?_
    rintro e w1 ⟨v, rfl, hv, hb1⟩
    go_wp2_with fail
    go_ret2
    exact ⟨_, rfl, World.ownsRow_nil _ _ _ _, hb1⟩
  case false =>
    obtain ⟨hm4, hn4⟩ := lng_small hl
    have hsl := (makes a b).lens
    have hk := kept a b
    have hkl := lcs_le_left a b
    have hs800 : (steps a b).length ≤ 800 := by omega
    have hle := (makes a b).le
    rw [scr_no hl, err_no hl] at cS
    rw [kep_no hl, err_no hl]
    obtain ⟨s, hs⟩ : ∃ s, s = steps a b := ⟨_, rfl⟩
    rw [← hs] at cS hs800 hle ⊢
    have HLE := Lib.hid hle
    obtain ⟨R, hR⟩ : ∃ R, R = runs s := ⟨_, rfl⟩
    rw [← hR] at cS
    have hfl : flat R = s := by rw [hR, runs_flat]
    have HFL := Lib.hid hfl
    have hRl : R.length ≤ 800 := by rw [hR]; have := runs_len s; omega
    have CS := Lib.hid cS
    clear cS hl hsl hk hkl hle hs hR hfl hm4 hn4
    go_enter Tryz.func93, Tryz.ntmps93
    go_wp2_with fail
    go_at_call 115
    refine CS.out.mono ?_
    rintro e w1 ⟨v, rfl, hv, hb1⟩
    obtain ⟨ad, cc, rfl, hrr⟩ := hv.form
    have HRR := Lib.hid hrr
    obtain ⟨L, hL⟩ : ∃ L, L = R.length := ⟨_, rfl⟩
    rw [← hL] at hRl ⊢
    have HL := Lib.hid hL
    clear hv CS hL hrr
    have hTw : Two (w1.alloc (.cells #[.int .i64 0, .int .i64 0] 129)) w1.heap.size 0 0 := heap_alloc_new _ _
    have hb2 : Below w1.heap.size w1 (w1.alloc (.cells #[.int .i64 0, .int .i64 0] 129)) := (Below.refl _ w1).alloc (Nat.le_refl _) _
    have hs3 : (w1.alloc (.cells #[.int .i64 0, .int .i64 0] 129)).heap.size = w1.heap.size + 1 := by simp
    go_wp2_with fail
    generalize w1.alloc (.cells #[.int .i64 0, .int .i64 0] 129) = w3 at hTw hb2 hs3 ⊢
    have HB3 : Hid (Below w.heap.size w w3) := hb1.trans (hb2.mono hb1.size)
    have HRR3 := Lib.hid (HRR.out.below hb2)
    have HAA : Hid (∀ i o, R.length ≠ 0 → ad = some ⟨i, o, none⟩ → i < w1.heap.size) := fun i o h0 h1 => by
      obtain ⟨b', o', h2, h3, _⟩ := HRR.out.2.resolve_left h0
      rw [h1] at h2
      injection h2 with h2
      injection h2 with h2
      omega
    have hww1 : w.heap.size ≤ w1.heap.size := hb1.size
    obtain ⟨pa, hpa⟩ : ∃ pa, pa = w1.heap.size := ⟨_, rfl⟩
    rw [← hpa] at hTw hs3 HAA hww1 ⊢
    have HTW := Lib.hid hTw
    clear hb1 hb2 hpa hTw HRR
    go_loopw [8, 11, 23] (fun v _ i wr => ∃ (k : Nat) (pre : List (Nat × Nat)) (p q : Nat), i = .int .i64 (k : Int) ∧ k ≤ L ∧ Hid (PK s (pos R k) p q pre) ∧ Prs 129 wr (pa + 1) v pre ∧ Hid (Kp pa (pa + 1) w3 wr) ∧ Hid (Two wr pa p q)) (fun _ _ i _ => L - (intOf i).toNat)
    case atStart => exact ⟨0, [], 0, 0, rfl, Nat.zero_le _, pk_start s, World.ownsRow_nil _ _ _ _, Kp.refl _ _ _, HTW⟩
    case round =>
      obtain ⟨k, pre, p, q, rfl, hk, HPK0, hpr, HK, HTWO⟩ := hrel
      clear HTW
      have hszr := HK.out.size
      by_cases hlt : k < L
      · have e1 : (k : Int) < (L : Int) := by omega
        obtain ⟨⟨x, N⟩, hx⟩ : ∃ y, R[k]? = some y := ⟨_, List.getElem?_eq_getElem (by rw [← HL.out]; exact hlt)⟩
        obtain ⟨ga, oa, rfl, hga, hca⟩ := HRR3.out.2.resolve_left (by rw [← HL.out]; omega)
        obtain ⟨a0, a1⟩ := hca k (x, N) hx
        have hgp := HAA.out ga oa (by rw [← HL.out]; omega) rfl
        have d0 : wr.cell? ⟨ga, oa + k * 2, none⟩ = some (.int .i64 (x : Int)) := cell_keep a0 (HK.out.block ga (by omega) (by omega))
        have d1 : wr.cell? ⟨ga, oa + k * 2 + 1, none⟩ = some (.int .i64 (N : Int)) := cell_keep a1 (HK.out.block ga (by omega) (by omega))
        have hend := HPK0.out
        have hat : Hid (∀ j, j < N → s[pos R k + j]? = some x) := fun j hj => by
          have := flat_at hx hj
          rwa [HFL.out] at this
        have hnx : Hid (pos R (k + 1) = pos R k + N) := pos_next hx
        have hx3 : Hid (0 < N → x = 0 ∨ x = 1 ∨ x = 2) := fun h0 => HLE.out x (List.mem_iff_getElem?.2 ⟨_, hat.out 0 h0⟩)
        have hp8 : pos R k + N ≤ 800 := by
          rw [← hnx.out]
          have h2 := pos_le R (k + 1)
          rw [HFL.out] at h2
          omega
        have hal : Below wr.heap.size wr (wr.alloc (.cells #[.int .i64 (x : Int), .int .i64 (N : Int)] 150)) := (Below.refl _ wr).alloc (Nat.le_refl _) _
        have hr0 : RunAt (wr.alloc (.cells #[.int .i64 (x : Int), .int .i64 (N : Int)] 150)) wr.heap.size x N := heap_alloc_new _ _
        have hneq : u8.ownBlock ≠ some wr.heap.size := fun e => by have := (World.ownsRow.lt hpr _ e).2; omega
        have hK0 := Lib.hid (HK.out.below hal (by omega))
        have hT0 := Lib.hid (HTWO.out.kept (hal.block pa (by omega)))
        have hp0 := hpr.below hal
        clear hca a0 a1 hx hend HK HTWO hpr hal
        go_wp2_with fail
        generalize wr.alloc (.cells #[.int .i64 (x : Int), .int .i64 (N : Int)] 150) = w4 at hr0 hK0 hT0 hp0 ⊢
        obtain ⟨pr, hpr⟩ : ∃ pr, pr = wr.heap.size := ⟨_, rfl⟩
        have hprpa : pa < pr := by omega
        rw [← hpr] at hr0 hneq ⊢
        obtain ⟨t0, ht0⟩ : ∃ t0, t0 = pos R k := ⟨_, rfl⟩
        rw [← ht0] at hp8 hat hnx HPK0
        have hr0 := Lib.hid hr0
        clear hpr d0 d1 hszr ht0
        go_loopw [8, 29] (fun v i wr => ∃ (j : Nat) (pre : List (Nat × Nat)) (p q : Nat), i = .int .i64 (j : Int) ∧ j ≤ N ∧ Hid (PK s (t0 + j) p q pre) ∧ Prs 129 wr (pa + 1) v pre ∧ v.ownBlock ≠ some pr ∧ Hid (Kp pa (pa + 1) w3 wr) ∧ Hid (Two wr pa p q) ∧ Hid (RunAt wr pr x N)) (fun _ i _ => N - (intOf i).toNat)
        case atStart => exact ⟨0, pre, p, q, rfl, Nat.zero_le _, HPK0, hp0, hneq, hK0, hT0, hr0⟩
        case round =>
          clear HPK0 hp0 hneq hK0 hT0 hr0 p q pre
          obtain ⟨j, pre, p, q, rfl, hj, HPK0, hpr, hne, HK, HTWO, HRUN⟩ := hrel
          have hp8b := HPK0.out.2.1
          have hq8 := HPK0.out.2.2.1
          have hpl8 := HPK0.out.2.2.2
          by_cases hjN : j < N
          · have e2 : (j : Int) < (N : Int) := by omega
            have hsx := hat.out j hjN
            have hx3 := hx3.out (by omega)
            have hszr := HK.out.size
            have hK := HK.out
            have hTWO := HTWO.out
            have hrun := HRUN.out
            obtain ⟨c0, c1⟩ := hTWO.cell
            obtain ⟨r0, r1⟩ := hrun.cell
            clear HK HTWO HRUN
            have HPK := Lib.hid (pk_on HPK0.out hsx hx3)
            by_cases hx0 : x = 0
            · have q0 : ((x : Int) == 0) = true := beq_iff_eq.2 (by omega)
              have q1 : (x == 0) = true := beq_iff_eq.2 hx0
              rw [if_pos hx0] at HPK
              clear HPK0 hsx hx0
              have hown : wr.ownsRow (pa + 1) 129 2 u8 pre.length (pre.flatMap Ud.c2) := hpr
              have hszd : pa + 1 ≤ wr.heap.size := by omega
              have hpl : pre.length ≤ 1000 := by omega
              go_wp2_with (at_builtin; refine Ap.wpList_append_two _ rfl _ _ 126 rfl (pa + 1) 129 iE (.agg #[.int .i64 0, .int .i64 0]) 2 16 Tryz.underlying126 hI hI0 hI1 hI2 rfl (by decide) (by decide) _ _ _ rfl (hown.alloc _) ⟨wr.heap.size, 0, none⟩ 1 (Ud.c2 (p, q)) rfl rfl ?c1 ?c2 ?c3 ?c4 ?c5 ?_)
              case c1 => exact cell_two_new _ _ _ _
              case c2 => exact c2_one (p, q)
              case c3 => omega
              case c4 => omega
              case c5 => simp; omega
              intro v' w2 hown' hgr
              have hpr2 : Prs 129 w2 (pa + 1) v' (pre ++ [(p, q)]) := by
                unfold Prs
                rw [List.length_append, List.flatMap_append]
                exact hown'
              have hal : Below wr.heap.size wr (wr.alloc (.cells #[.int .i64 (p : Int), .int .i64 (q : Int)] 129)) := (Below.refl _ wr).alloc (Nat.le_refl _) _
              have hsz1 : (wr.alloc (.cells #[.int .i64 (p : Int), .int .i64 (q : Int)] 129)).heap.size = wr.heap.size + 1 := by simp
              have hprl := hrun.lt
              have hold : ∀ i, i < wr.heap.size → u8.ownBlock ≠ some i → w2.heap[i]? = wr.heap[i]? := fun i hi hne => by
                rcases hgr with ⟨_, h2⟩ | ⟨_, h2⟩
                · exact (h2.block i (by omega) (fun e => hne e.symm)).trans (hal.block i hi)
                · exact (h2.block i (by omega) (by simp)).trans (hal.block i hi)
              have hmx : w2.os = wr.os ∧ w2.tape = wr.tape ∧ w2.output = wr.output ∧ wr.heap.size ≤ w2.heap.size := by
                rcases hgr with ⟨_, h2⟩ | ⟨_, h2⟩
                · exact ⟨h2.os, h2.tape, h2.output, by have := h2.size; omega⟩
                · exact ⟨h2.os, h2.tape, h2.output, by have := h2.size; omega⟩
              have hfar : ∀ i, i < pa + 1 → u8.ownBlock ≠ some i := fun i hi e => by have := (hown.lt i e).1; omega
              have hne2 : v'.ownBlock ≠ some pr := by
                rcases hgr with ⟨h1, _⟩ | ⟨h1, _⟩
                · rw [h1]; exact hne
                · rw [h1]; intro e; injection e with e; omega
              have hTWO2 := hTWO.kept (hold pa (by omega) (hfar pa (by omega)))
              have hrun2 := hrun.kept (hold pr hprl hne)
              have hK2 : Kp pa (pa + 1) w3 w2 := ⟨hmx.1.trans hK.os, hmx.2.1.trans hK.tape, hmx.2.2.1.trans hK.output, Nat.le_trans hK.size hmx.2.2.2, fun i hi hne => (hold i (by omega) (hfar i hi)).trans (hK.block i hi hne)⟩
              clear hgr hal hsz1 hold hfar hown hown' hTWO hrun hK hpr hne c0 c1 r0
              have hTWO := hTWO2
              have hrun := hrun2
              have hK := hK2
              have hne := hne2
              clear hTWO2 hrun2 hK2 hne2
              obtain ⟨c0, c1⟩ := hTWO.cell
              obtain ⟨r0, r1⟩ := hrun.cell
              have hcl := hmx
              have CB := Lib.hid (behind_any p q x w2 hx3 (by omega) (by omega))
              clear hcl
              go_wp2_with fail
              go_at_call 116
              refine CB.out.mono ?_
              rintro e w7 ⟨rfl, hb7⟩
              have HT7 := Lib.hid (hTWO.kept (hb7.block pa hTWO.lt))
              have HK7 := Lib.hid (hK.below hb7 (by have := hK.size; omega))
              have hp7 := hpr2.below hb7
              have hr7 := hrun.kept (hb7.block pr hrun.lt)
              obtain ⟨c0, c1⟩ := HT7.out.cell
              have f0 := HT7.out.frozen 0
              have f1 := HT7.out.frozen 1
              have HP8 := Lib.hid ((hp7.far (by omega : pa < pa + 1) 0 (.int .i64 (onA p x : Nat))).far (by omega : pa < pa + 1) 1 (.int .i64 (onB q x : Nat)))
              have HK8 := Lib.hid ((HK7.out.put (o := 0) (.int .i64 (onA p x : Nat))).put (o := 1) (.int .i64 (onB q x : Nat)))
              have HT8 := Lib.hid (HT7.out.put (onA p x) (onB q x))
              have HR8 : Hid (RunAt ((w7.setCell ⟨pa, 0, none⟩ (.int .i64 (onA p x : Nat))).setCell ⟨pa, 1, none⟩ (.int .i64 (onB q x : Nat))) pr x N) := hr7.kept ((Below.heap_setCell _ ⟨pa, 1, none⟩ _ pr (show pr ≠ pa by omega)).trans (Below.heap_setCell _ ⟨pa, 0, none⟩ _ pr (show pr ≠ pa by omega)))
              clear hp7 HT7 HK7 hb7 CB hTWO hK hpr2 hr7 hrun
              go_wp2_with fail
              go_roundw
              case rel => exact ⟨j + 1, pre ++ [(p, q)], onA p x, onB q x, by go_num, by omega, HPK, HP8.out, hne, HK8, HT8, HR8⟩
              case measure => simp only [intOf]; omega
            · have q0 : ((x : Int) == 0) = false := beq_eq_false_iff_ne.2 (by omega)
              have q1 : (x == 0) = false := beq_eq_false_iff_ne.2 hx0
              rw [if_neg hx0] at HPK
              have hpr2 := hpr
              have hcl := hszr
              clear HPK0 hsx hx0 hpr
              have CB := Lib.hid (behind_any p q x wr hx3 (by omega) (by omega))
              clear hcl
              go_wp2_with fail
              go_at_call 116
              refine CB.out.mono ?_
              rintro e w7 ⟨rfl, hb7⟩
              have HT7 := Lib.hid (hTWO.kept (hb7.block pa hTWO.lt))
              have HK7 := Lib.hid (hK.below hb7 (by have := hK.size; omega))
              have hp7 := hpr2.below hb7
              have hr7 := hrun.kept (hb7.block pr hrun.lt)
              obtain ⟨c0, c1⟩ := HT7.out.cell
              have f0 := HT7.out.frozen 0
              have f1 := HT7.out.frozen 1
              have HP8 := Lib.hid ((hp7.far (by omega : pa < pa + 1) 0 (.int .i64 (onA p x : Nat))).far (by omega : pa < pa + 1) 1 (.int .i64 (onB q x : Nat)))
              have HK8 := Lib.hid ((HK7.out.put (o := 0) (.int .i64 (onA p x : Nat))).put (o := 1) (.int .i64 (onB q x : Nat)))
              have HT8 := Lib.hid (HT7.out.put (onA p x) (onB q x))
              have HR8 : Hid (RunAt ((w7.setCell ⟨pa, 0, none⟩ (.int .i64 (onA p x : Nat))).setCell ⟨pa, 1, none⟩ (.int .i64 (onB q x : Nat))) pr x N) := hr7.kept ((Below.heap_setCell _ ⟨pa, 1, none⟩ _ pr (show pr ≠ pa by omega)).trans (Below.heap_setCell _ ⟨pa, 0, none⟩ _ pr (show pr ≠ pa by omega)))
              clear hp7 HT7 HK7 hb7 CB hTWO hK hpr2 hr7 hrun
              go_wp2_with fail
              go_roundw
              case rel => exact ⟨j + 1, pre, onA p x, onB q x, by go_num, by omega, HPK, HP8.out, hne, HK8, HT8, HR8⟩
              case measure => simp only [intOf]; omega
          · obtain rfl : j = N := by omega
            have e2 : ¬ (j : Int) < (j : Int) := by omega
            have HPK2 : Hid (PK s (pos R (k + 1)) p q pre) := by
              show PK _ _ _ _ _
              rw [hnx.out]
              exact HPK0.out
            clear HPK0 HRUN
            go_wp2_with fail
            go_roundw
            case rel => exact ⟨k + 1, pre, p, q, by go_num, by omega, HPK2, hpr, HK, HTWO⟩
            case measure => simp only [intOf]; omega
      · have e1 : ¬ (k : Int) < (L : Int) := by omega
        obtain rfl : k = L := by omega
        have HR : Hid (PrsTo 129 (pairs 0 0 s) 0 w (.returned (.tuple #[u8, .int .i64 0])) wr) := by
          show PrsTo _ _ _ _ _ _
          rw [pk_end HPK0.out (by rw [pos_end R HL.out, HFL.out])]
          exact ⟨_, rfl, own_base hpr (by omega), HB3.out.trans (HK.out.all (by omega) hww1)⟩
        clear hpr HPK0
        go_wp2_with fail
        go_ret2
        exact HR.out
end Go.Proofs.YtkenmldiojeooaaGreat.Ud

namespace Go.Proofs.YtkenmldiojeooaaGreat.Mg
open Go.RowKit Go.ChangeShapes Go.WideShapes Tx Um Ud Aq Km Kd Lm Ln
set_option linter.unusedVariables false
def slen : Value → Nat
  | .slice _ n _ => n
  | _ => 0
theorem prs_tail {w : World} {A : Option Addr} {c : Nat} {p : Nat × Nat} {l : List (Nat × Nat)} (h : PrsR w A (l.length + 1) (p :: l)) (hc : l.length + 1 ≤ c) :
    ∃ A', sliced A 1 (l.length + 1) c 2 = .slice A' l.length (c - 1) ∧ PrsR w A' l.length l ∧ l.length ≤ c - 1 := by
  obtain ⟨b, off, rfl, hb, hcell⟩ := h.2.resolve_left (by omega)
  unfold sliced
  refine ⟨_, rfl, ⟨rfl, ?_⟩, by omega⟩
  by_cases h0 : l.length = 0
  · exact .inl h0
  · refine .inr ⟨b, off + 2, ?_, hb, fun k x hx => ?_⟩
    · rw [if_neg (by omega)]
      simp [Addr.add]
    · have h1 := hcell (k + 1) x hx
      rw [show off + (k + 1) * 2 = off + 2 + k * 2 by omega] at h1
      exact h1
theorem prs_slice1 (A : Option Addr) (n c : Nat) (h : 1 ≤ n) (W : World) : (Instr.slice 126 (.slice A n c) (some (.int .i64 1)) none none).run Tryz.prog W = .ok (sliced A 1 n c 2) W := by
  rw [run_slice_l W 126 A n c (by kernel_rfl) .i64 1 (by omega) (by omega)]
  have e : (sizeOf (Tryz.prog.elem 126)).run Tryz.prog W = .ok 2 W := by kernel_rfl
  rw [e]
  rfl
theorem prs_room {E : TypeId} {w : World} {B : Nat} {v : Value} {l : List (Nat × Nat)} (h : Prs E w B v l) : ∃ a c, v = .slice a l.length c ∧ l.length ≤ c ∧ PrsR w a l.length l := by
  obtain ⟨a, c, hv, hr⟩ := h.form
  refine ⟨a, c, hv, ?_, hr⟩
  rcases h.2 with ⟨rfl, h0⟩ | ⟨g, cap, cur, rfl, hg, hh2, hn, _⟩
  · omega
  · injection hv with _ _ hc
    omega
structure Lf (o a b : List ByteArray) (F : List (Tr × Tr)) (x y : List (Nat × Nat)) (R : List (Tr × Tr)) : Prop where
  left : ∃ i j, Pth o a x i j
  right : ∃ i k, Pth o b y i k
  same : (trip x y).foldl jn R = F
  few : R.length + x.length ≤ 400
theorem lf_top {o a b : List ByteArray} {F : List (Tr × Tr)} {p q : Nat × Nat} {x y : List (Nat × Nat)} {R : List (Tr × Tr)} (h : Lf o a b F (p :: x) (q :: y) R) (ho : o.length ≤ 400) (ha : a.length ≤ 400) (hb : b.length ≤ 400) : p.1 ≤ 400 ∧ p.2 ≤ 400 ∧ q.1 ≤ 400 ∧ q.2 ≤ 400 := by
  obtain ⟨i, j, hx⟩ := h.left
  obtain ⟨i2, k, hy⟩ := h.right
  obtain ⟨_, _, h1, h2, _⟩ := pth_ge _ hx p (by simp)
  obtain ⟨_, _, h3, h4, _⟩ := pth_ge _ hy q (by simp)
  omega
theorem lf_next {o a b : List ByteArray} {F : List (Tr × Tr)} {p q : Nat × Nat} {x y : List (Nat × Nat)} {R : List (Tr × Tr)} (h : Lf o a b F (p :: x) (q :: y) R) :
    (p.1 = q.1 → Lf o a b F x y (jn R (p.1, p.2, q.2))) ∧ (p.1 < q.1 → Lf o a b F x (q :: y) R) ∧ (q.1 < p.1 → Lf o a b F (p :: x) y R) := by
  obtain ⟨i, j, hx⟩ := h.left
  obtain ⟨i2, k, hy⟩ := h.right
  have hs := h.same
  have hf := h.few
  rw [List.length_cons] at hf
  obtain ⟨s1, s2, s3⟩ := trip_step (pth_less hx (Nat.zero_le i) (Nat.zero_le j)) (pth_less hy (Nat.zero_le i2) (Nat.zero_le k))
  have hxt : ∃ i j, Pth o a x i j := ⟨_, _, hx.2.2.2⟩
  have hyt : ∃ i k, Pth o b y i k := ⟨_, _, hy.2.2.2⟩
  refine ⟨fun e => ?_, fun e => ?_, fun e => ?_⟩
  · rw [s1 e, List.foldl_cons] at hs
    refine ⟨hxt, hyt, hs, ?_⟩
    have := jn_len R (p.1, p.2, q.2)
    omega
  · rw [s2 e] at hs
    exact ⟨hxt, ⟨i2, k, hy⟩, hs, by omega⟩
  · rw [s3 e] at hs
    exact ⟨⟨i, j, hx⟩, hyt, hs, by rw [List.length_cons]; omega⟩
theorem lf_end {o a b : List ByteArray} {F : List (Tr × Tr)} {x y : List (Nat × Nat)} {R : List (Tr × Tr)} (h : Lf o a b F x y R) (h0 : x = [] ∨ y = []) : R = F := by
  have hs := h.same
  rcases h0 with rfl | rfl
  · exact hs
  · rw [trip_none] at hs
    exact hs
def RwTo (F : List (Tr × Tr)) (w : World) (e : Ending) (w' : World) : Prop := ∃ v, e = .returned (.tuple #[v, .int .i64 0]) ∧ Rwo w' w.heap.size v F ∧ Below w.heap.size w w'
set_option maxRecDepth 100000 in
set_option maxHeartbeats 8000000 in
theorem rows_any (A B C : Option Addr) (ca cb cc : Nat) (o a b : List ByteArray) (w : World) (hA : Strs w A o.length o) (hB : Strs w B a.length a) (hC : Strs w C b.length b) (ho : o.length ≤ 400) (ha : a.length ≤ 400) (hb : b.length ≤ 400)
    (so : ∀ x, x ∈ o → x.size ≤ maxLen) (sa : ∀ x, x ∈ a → x.size ≤ maxLen) (sb : ∀ x, x ∈ b → x.size ≤ maxLen) :
    Calls Tryz.prog 64 #[.agg #[.slice A o.length ca, .slice B a.length cb, .slice C b.length cc]] w (RwTo (rws o a b) w) := by
  have l1 := lng_no ho ha
  have l2 := lng_no ho hb
  have k1 := fun w1 (h1 : Below w.heap.size w w1) => kept_any A B ca cb o a w1 (hA.below h1) (hB.below h1) so sa
  have k2 := fun w1 (h1 : Below w.heap.size w w1) => kept_any A C ca cc o b w1 (hA.below h1) (hC.below h1) so sb
  unfold PrsTo at k1 k2
  rw [kep_no l1, err_no l1] at k1
  rw [kep_no l2, err_no l2] at k2
  have hlf : Lf o a b (rws o a b) (pairs 0 0 (steps o a)) (pairs 0 0 (steps o b)) [] := ⟨⟨0, 0, pth_steps o a⟩, ⟨0, 0, pth_steps o b⟩, rfl, by
    have q1 := pairs_len (steps o a) 0 0
    have q2 := kept o a
    have q3 := lcs_le_left o a
    rw [List.length_nil]
    omega⟩
  obtain ⟨X, hX⟩ : ∃ X, X = pairs 0 0 (steps o a) := ⟨_, rfl⟩
  obtain ⟨Y, hY⟩ : ∃ Y, Y = pairs 0 0 (steps o b) := ⟨_, rfl⟩
  obtain ⟨F, hF⟩ : ∃ F, F = rws o a b := ⟨_, rfl⟩
  rw [← hX] at k1 hlf
  rw [← hY] at k2 hlf
  rw [← hF] at hlf ⊢
  have K1 := Lib.hid k1
  have K2 := Lib.hid k2
  have HLF := Lib.hid hlf
  clear hA hB hC k1 k2 hlf l1 l2 hX hY hF so sa sb
  have TOP := fun (p q : Nat × Nat) (x y : List (Nat × Nat)) (R : List (Tr × Tr)) (h : Lf o a b F (p :: x) (q :: y) R) => lf_top h ho ha hb
  have HTOP := Lib.hid TOP
  clear TOP
  obtain ⟨no, hno⟩ : ∃ n, n = o.length := ⟨_, rfl⟩
  obtain ⟨na, hna⟩ : ∃ n, n = a.length := ⟨_, rfl⟩
  obtain ⟨nb, hnb⟩ : ∃ n, n = b.length := ⟨_, rfl⟩
  rw [← hno] at K1 K2 ho ⊢
  rw [← hna] at K1 ha ⊢
  rw [← hnb] at K2 hb ⊢
  clear hno hna hnb
  go_enter Tryz.func64, Tryz.ntmps64
  go_wp2_with fail
  go_at_call 93
  refine (K1.out _ ((Below.refl _ w).alloc (Nat.le_refl _) _)).mono ?_
  rintro e w1 ⟨v1, rfl, hv1, hb1⟩
  obtain ⟨ax, cx, rfl, hcx, hx⟩ := prs_room hv1
  have HB1 : Hid (Below w.heap.size w w1) := ((Below.refl _ w).alloc (Nat.le_refl _) _).trans (hb1.mono (by simp))
  have hl1 : w.heap.size < (w.alloc (.cells #[.slice A no ca, .slice B na cb, .slice C nb cc] 97)).heap.size := by simp
  have c0 : w1.cell? ⟨w.heap.size, 0, none⟩ = some (.slice A no ca) := (hb1.cell (p := ⟨_, 0, none⟩) hl1).trans (by go_simp)
  have c2 : w1.cell? ⟨w.heap.size, 2, none⟩ = some (.slice C nb cc) := (hb1.cell (p := ⟨_, 2, none⟩) hl1).trans (by go_simp)
  have HX := Lib.hid hx
  clear hv1 hb1 hl1 hx K1
  go_wp2_with fail
  go_at_call 93
  refine (K2.out _ HB1.out).mono ?_
  rintro e w2 ⟨v2, rfl, hv2, hb2⟩
  obtain ⟨ay, cy, rfl, hcy, hy⟩ := prs_room hv2
  have HB2 : Hid (Below w.heap.size w w2) := below_call HB1.out hb2
  have HX2 : Hid (PrsR w2 ax X.length X) := HX.out.below hb2
  have HY := Lib.hid hy
  clear hv2 hb2 hy K2 HX HB1 c0 c2
  go_wp2_with fail
  go_loopw [4, 6, 7, 8, 9] (fun xv yv rv _ _ wr => ∃ (x y : List (Nat × Nat)) (R : List (Tr × Tr)) (A' : Option Addr) (cx' : Nat) (B' : Option Addr) (cy' : Nat), xv = .slice A' x.length cx' ∧ yv = .slice B' y.length cy' ∧ x.length ≤ cx' ∧ y.length ≤ cy' ∧ Hid (PrsR w2 A' x.length x) ∧ Hid (PrsR w2 B' y.length y) ∧ Hid (Lf o a b F x y R) ∧ Hid (Rwo wr w2.heap.size rv R) ∧ Hid (Below w2.heap.size w2 wr)) (fun xv yv _ _ _ _ => slen xv + slen yv)
  case atStart => exact ⟨X, Y, [], ax, cx, ay, cy, rfl, rfl, hcx, hcy, HX2, HY, HLF, rwo_nil _ _, Below.refl _ _⟩
  case round =>
    obtain ⟨x, y, R, A', cx', B', cy', rfl, rfl, hcx', hcy', HPX, HPY, HL, HR, HB⟩ := hrel
    clear hcx hcy HX2 HY HLF
    cases x with
    | nil =>
      have hE : R = F := lf_end HL.out (.inl rfl)
      have HE := Lib.hid hE
      clear hE hcx' hcy' HTOP
      go_wp2_with fail
      go_ret2
      exact ⟨_, rfl, own_base (by have h := HR.out; rw [HE.out] at h; exact h) HB2.out.size, HB2.out.trans (HB.out.mono HB2.out.size)⟩
    | cons p x =>
      rw [List.length_cons] at hcx'
      have HPX2 : Hid (PrsR w2 A' (x.length + 1) (p :: x)) := HPX
      clear HPX
      simp only [List.length_cons]
      have hx1 : (0 : Int) < ((x.length + 1 : Nat) : Int) := by omega
      cases y with
      | nil =>
        have hE : R = F := lf_end HL.out (.inr rfl)
        have HE := Lib.hid hE
        clear hE hcx' hcy' HTOP
        go_wp2_with fail
        go_ret2
        exact ⟨_, rfl, own_base (by have h := HR.out; rw [HE.out] at h; exact h) HB2.out.size, HB2.out.trans (HB.out.mono HB2.out.size)⟩
      | cons q y =>
        rw [List.length_cons] at hcy'
        have HPY2 : Hid (PrsR w2 B' (y.length + 1) (q :: y)) := HPY
        clear HPY
        simp only [List.length_cons]
        have hy1 : (0 : Int) < ((y.length + 1 : Nat) : Int) := by omega
        obtain ⟨p1, p2⟩ := p
        obtain ⟨q1, q2⟩ := q
        obtain ⟨hp1, hp2, hq1, hq2⟩ := HTOP.out _ _ _ _ _ HL.out
        simp only at hp1 hp2 hq1 hq2
        obtain ⟨hnE, hnL, hnR⟩ := lf_next HL.out
        simp only at hnE hnL hnR
        obtain ⟨Ax, hslx, hrx, hlx⟩ := prs_tail HPX2.out hcx'
        obtain ⟨Ay, hsly, hry, hly⟩ := prs_tail HPY2.out hcy'
        have S1 := fun W => prs_slice1 A' (x.length + 1) cx' (by omega) W
        have S2 := fun W => prs_slice1 B' (y.length + 1) cy' (by omega) W
        simp only [hslx] at S1
        simp only [hsly] at S2
        obtain ⟨bx, ox, rfl, hbx, hcellx⟩ := HPX2.out.2.resolve_left (by omega)
        obtain ⟨bY, oY, rfl, hbY, hcelly⟩ := HPY2.out.2.resolve_left (by omega)
        have hX : ∀ W, Below wr.heap.size wr W → W.cell? ⟨bx, ox, none⟩ = some (.int .i64 (p1 : Int)) ∧ W.cell? ⟨bx, ox + 1, none⟩ = some (.int .i64 (p2 : Int)) ∧ W.cell? ⟨bY, oY, none⟩ = some (.int .i64 (q1 : Int)) ∧ W.cell? ⟨bY, oY + 1, none⟩ = some (.int .i64 (q2 : Int)) := fun W hW => by
          have h2 : Below w2.heap.size w2 W := HB.out.trans (hW.mono HB.out.size)
          obtain ⟨k1, k2⟩ := hcellx 0 _ rfl
          obtain ⟨k3, k4⟩ := hcelly 0 _ rfl
          rw [Nat.zero_mul, Nat.add_zero] at k1 k2 k3 k4
          exact ⟨(h2.cell (p := ⟨bx, _, none⟩) hbx).trans k1, (h2.cell (p := ⟨bx, _, none⟩) hbx).trans k2, (h2.cell (p := ⟨bY, _, none⟩) hbY).trans k3, (h2.cell (p := ⟨bY, _, none⟩) hbY).trans k4⟩
        have hlen : R.length ≤ 1000000 := by have := HL.out.few; omega
        have HRX := Lib.hid hrx
        have HRY := Lib.hid hry
        have HNE := Lib.hid hnE
        have HNL := Lib.hid hnL
        have HNR := Lib.hid hnR
        have HSX := Lib.hid S1
        have HSY := Lib.hid S2
        clear hrx hry hnE hnL hnR hslx hsly S1 S2 hcellx hcelly HTOP
        go_wp2_with fail
        refine Rg.wp_only ?_ (pairReg _ (by kernel_rfl) _ bx ox (x.length + 1) cx' bY oY (y.length + 1) cy' (p1, p2) (q1, q2) wr hx1 hy1 hX)
        rintro _ w5 ⟨g8, g9, rfl, hg8, hg9, ⟨z0, z1⟩, ⟨z2, z3⟩, hb5⟩
        simp only at z0 z1 z2 z3
        have hR5 : Rwo w5 w2.heap.size u7 R := HR.out.below hb5
        have hne8 : ∀ k, u7.ownBlock = some k → k < g8 ∧ k < g9 := fun k hk => by have := (HR.out.lt k hk).2; omega
        have HB5 : Hid (Below w2.heap.size w2 w5) := HB.out.trans (hb5.mono HB.out.size)
        have S1 := HSX.out
        have S2 := HSY.out
        clear hX hb5 HB HR HSX HSY
        rcases Nat.lt_trichotomy p1 q1 with hpq | hpq | hpq
        · have hnx := HNL.out hpq
          have HN := Lib.hid hnx
          have e1 : ((p1 : Int) == (q1 : Int)) = false := beq_eq_false_iff_ne.2 (by omega)
          have e2 : ¬ (p1 : Int) = (q1 : Int) := by omega
          have e3 : (p1 : Int) ≤ (q1 : Int) := by omega
          have e4 : decide ((q1 : Int) ≤ (p1 : Int)) = false := decide_eq_false (by omega)
          have e5 : ¬ (q1 : Int) ≤ (p1 : Int) := by omega
          have HR5 := Lib.hid hR5
          clear hpq hnx HNE HNL HNR HL hne8 hR5
          go_wp2_with fail
          go_roundw
          case rel => exact ⟨x, (q1, q2) :: y, R, _, _, _, _, rfl, rfl, hlx, hcy', HRX, HPY2, HN, HR5, HB5⟩
          case measure => simp [slen] <;> omega
        · subst hpq
          have hnx := HNE.out rfl
          have HN := Lib.hid hnx
          clear hnx HNE HNL HNR HL
          have cJ := joined_any w2.heap.size u7 R (p1, p2, q2) w5 hR5 hlen ⟨by show p1 ≤ _; omega, by show p2 ≤ _; omega, by show q2 ≤ _; omega⟩ HB5.out.size
          have CJ := Lib.hid cJ
          have HR5 := Lib.hid hR5
          clear cJ hR5
          go_wp2_with fail
          go_at_call 94
          refine CJ.out.mono ?_
          rintro e w6 ⟨v6, rfl, hv6, hg6⟩
          have y0 := hg6.cell z0 (fun e => by have := (hne8 _ e.symm).1; simp only at this; omega)
          have y1 := hg6.cell z1 (fun e => by have := (hne8 _ e.symm).1; simp only at this; omega)
          have y2 := hg6.cell z2 (fun e => by have := (hne8 _ e.symm).2; simp only at this; omega)
          have y3 := hg6.cell z3 (fun e => by have := (hne8 _ e.symm).2; simp only at this; omega)
          have HB6 : Hid (Below w2.heap.size w2 w6) := HB5.out.grown hg6 HB5.out.size (fun k hk => (HR5.out.lt k hk).1)
          have HR6 := Lib.hid hv6
          clear hv6 hg6 z0 z1 z2 z3 hne8 CJ
          go_wp2_with fail
          go_roundw
          case rel => exact ⟨x, y, _, _, _, _, _, rfl, rfl, hlx, hly, HRX, HRY, HN, HR6, HB6⟩
          case measure => simp [slen] <;> omega
        · have hnx := HNR.out hpq
          have HN := Lib.hid hnx
          have e1 : ((p1 : Int) == (q1 : Int)) = false := beq_eq_false_iff_ne.2 (by omega)
          have e2 : ¬ (p1 : Int) = (q1 : Int) := by omega
          have e3 : (q1 : Int) ≤ (p1 : Int) := by omega
          have e4 : decide ((p1 : Int) ≤ (q1 : Int)) = false := decide_eq_false (by omega)
          have e5 : ¬ (p1 : Int) ≤ (q1 : Int) := by omega
          have HR5 := Lib.hid hR5
          clear hpq hnx HNE HNL HNR HL hne8 hR5
          go_wp2_with fail
          go_roundw
          case rel => exact ⟨(p1, p2) :: x, y, R, _, _, _, _, rfl, rfl, hcx', hly, HPX2, HRY, HN, HR5, HB5⟩
          case measure => simp [slen] <;> omega
end Go.Proofs.YtkenmldiojeooaaGreat.Mg

namespace Go.Proofs.YtkenmldiojeooaaGreat.Ln
open Go.RowKit Tx Lm
set_option linter.unusedVariables false
set_option maxRecDepth 100000 in
set_option maxHeartbeats 1000000 in
theorem refJoin_any (a : Option Addr) (n c : Nat) (l : List ByteArray) (w : World) (ha : Strs w a n l) (hn : n ≤ 9223372036854775807) (hsum : (cat l).size ≤ 9223372036854775807) :
    Calls Tryz.prog 50 #[.slice a n c] w fun e w' => e = .returned (.string (cat l)) ∧ w = w' := by
  have hln := ha.1
  have hdone : cat (l.take n) = cat l := by rw [← hln, List.take_length]
  go_enter Tryz.func50, Tryz.ntmps50
  go_wp2_with fail
  go_loop [3, 4] (fun x i => ∃ k : Nat, k ≤ n ∧ i = .int .i64 k ∧ x = .string (cat (l.take k))) (fun _ i => n - (intOf i).toNat)
  case atStart => exact ⟨0, Nat.zero_le _, rfl, rfl⟩
  case round =>
    obtain ⟨k, hk, rfl, rfl⟩ := hrel
    by_cases hlt : k < n
    · obtain ⟨bs, off, rfl, hbs, hc⟩ := ha.2.resolve_left (by omega)
      obtain ⟨S, hS⟩ : ∃ S, S = l[k] := ⟨_, rfl⟩
      have hcell : w.cell? ⟨bs, off + k, none⟩ = some (.string S) := hc k S (by rw [hS]; exact List.getElem?_eq_getElem (by omega))
      have hstep := cat_take l k (by omega)
      rw [← hS] at hstep
      have hle := cat_take_le l (k + 1)
      rw [hstep, ByteArray.size_append] at hle
      obtain ⟨A, hA⟩ : ∃ A, A = cat (l.take k) := ⟨_, rfl⟩
      rw [← hA] at hstep hle ⊢
      have HS := Lib.hid hstep
      have hsz : A.size + S.size ≤ 9223372036854775807 := by omega
      have hlt' : (k : Int) < (n : Int) := by omega
      clear hS hstep hle hA hc hdone hln
      go_wp2_with fail
      go_round
      case rel => exact ⟨k + 1, by omega, by go_num, by rw [HS.out]⟩
      case measure => simp [intOf]; omega
    · obtain rfl : k = n := by omega
      rw [hdone]
      clear hdone hln
      obtain ⟨C, hC⟩ : ∃ C, C = cat l := ⟨_, rfl⟩
      rw [← hC]
      have HD := Lib.hid hC
      clear hC
      go_wp2_with fail
      go_ret
      exact ⟨by rw [← HD.out]; rfl, rfl⟩
def CK (l : List ByteArray) (k : Nat) (pre : List ByteArray) : Prop := pre.length = k ∧ pre = if k = l.length then clt l else l.take k
theorem ck_start (l : List ByteArray) : CK l 0 [] := by
  refine ⟨rfl, ?_⟩
  split
  · rename_i h; rw [List.length_eq_zero_iff.1 h.symm]; rfl
  · rfl
theorem ck_mid {l : List ByteArray} {k : Nat} {pre : List ByteArray} (h : CK l k pre) (hk : k < l.length) (h2 : k + 1 ≠ l.length) : CK l (k + 1) (pre ++ [l[k]]) := by
  obtain ⟨h1, h3⟩ := h
  rw [if_neg (by omega)] at h3
  exact ⟨by simp [h1], by rw [if_neg h2, h3, List.take_succ_eq_append_getElem hk]⟩
theorem ck_last {l : List ByteArray} {k : Nat} {pre : List ByteArray} (h : CK l k pre) (hk : k < l.length) (h2 : k + 1 = l.length) : CK l (k + 1) (pre ++ [clot l[k]]) := by
  obtain ⟨h1, h3⟩ := h
  rw [if_neg (by omega)] at h3
  refine ⟨by simp [h1], ?_⟩
  rw [if_pos h2, h3]
  have e : l = l.take k ++ [l[k]] := by rw [← List.take_succ_eq_append_getElem hk, h2, List.take_length]
  conv => rhs; rw [e]
  rw [clt_snoc]
theorem ck_end {l : List ByteArray} {k : Nat} {pre : List ByteArray} (h : CK l k pre) (hk : k = l.length) : clt l = pre := by
  rw [h.2, if_pos hk]
theorem ends_at (s : ByteArray) (h : 0 < s.size) : ends s.data.toList = decide (s[s.size - 1] = 10) := by
  rw [ends_get _ (by rw [len_l]; exact h)]
  simp only [len_l]
  rfl
set_option maxRecDepth 100000 in
set_option maxHeartbeats 2000000 in
theorem refClosed_any (a : Option Addr) (n c : Nat) (l : List ByteArray) (w : World) (ha : Strs w a n l) (hn : n ≤ 8796093022207) (hsz0 : ∀ (k : Nat) (x : ByteArray), l[k]? = some x → x.size ≤ 140737488355328) :
    Calls Tryz.prog 51 #[.slice a n c] w (ListTo (clt l) w) := by
  obtain ⟨i0, hi, hz0, hz1, hz2⟩ := info_parts info9
  have hln := ha.1
  have HA := Lib.hid ha
  clear ha
  go_enter Tryz.func51, Tryz.ntmps51
  go_wp2_with fail
  go_loopw [3, 4, 5] (fun v i _ wr => ∃ (pre : List ByteArray) (k : Nat), k ≤ n ∧ i = .int .i64 k ∧ Hid (CK l k pre) ∧ Texts wr w.heap.size v pre ∧ Below w.heap.size w wr) (fun _ i _ _ => n - (intOf i).toNat)
  case atStart => exact ⟨[], 0, Nat.zero_le _, rfl, ck_start l, World.ownsRow_nil _ _ _ _, Below.refl _ _⟩
  case round =>
    obtain ⟨pre, k, hk, rfl, HC, htx, hb⟩ := hrel
    have hsz := hb.size
    have hpl := HC.out.1
    by_cases hlt : k < n
    · obtain ⟨bs, off, rfl, hbs, hc⟩ := HA.out.2.resolve_left (by omega)
      obtain ⟨S, hS⟩ : ∃ S, S = l[k] := ⟨_, rfl⟩
      have hcell : wr.cell? ⟨bs, off + k, none⟩ = some (.string S) := (hb.cell (p := ⟨bs, off + k, none⟩) hbs).trans (hc k S (by rw [hS]; exact List.getElem?_eq_getElem (by omega)))
      have hss : S.size ≤ 140737488355328 := hsz0 k S (by rw [hS]; exact List.getElem?_eq_getElem (by omega))
      have hlt' : (k : Int) < (n : Int) := by omega
      have hown := htx
      unfold Texts at hown
      by_cases hlast : k + 1 = n
      · have e5 : ((k : Int) == (n : Int) - 1) = true := beq_iff_eq.2 (by omega)
        have HN := Lib.hid (ck_last HC.out (by omega) (by omega))
        rw [← hS] at HN
        by_cases h0 : S.size = 0
        · have HK : clot S = S ++ ⟨#[10]⟩ := by
            unfold clot
            rw [if_neg]
            rw [List.length_eq_zero_iff.1 (by rw [len_l]; exact h0 : S.data.toList.length = 0)]
            simp [ends]
          rw [HK] at HN
          have h0' : ((S.size : Int) == 0) = true := beq_iff_eq.2 (by omega)
          clear HK
          have hpn : pre.length ≤ 8796093022207 := by omega
          clear hS hc hpl hln htx HC
          go_wp2_with (at_builtin; refine wpList_append_own _ rfl _ _ 59 rfl w.heap.size 9 i0 (.string ⟨#[]⟩) 1 16 Tryz.underlying59 hi hz0 hz1 hz2 rfl (by decide) _ _ _ rfl (hown.alloc _) ⟨wr.heap.size, 0, none⟩ 1 1 [sv (S ++ ⟨#[10]⟩)] rfl rfl ?c1 ?c2 ?c3 ?c4 ?c5 ?_)
          case c1 => exact cell_one_new _ _ _
          case c2 => exact sv_one [S ++ ⟨#[10]⟩]
          case c3 => unfold maxLen; omega
          case c4 => omega
          case c5 => simp; omega
          intro v' w2 hown' hgrow _
          have hb3 := below_step hb hown hgrow
          have htx2 : Texts w2 w.heap.size v' (pre ++ [S ++ ⟨#[10]⟩]) := by
            unfold Texts
            rw [List.length_append, List.map_append]
            exact hown'
          clear hown hown' hgrow hb
          go_wp2_with fail
          go_roundw
          case rel => exact ⟨pre ++ [S ++ ⟨#[10]⟩], k + 1, by omega, by go_num, HN, htx2, hb3⟩
          case measure => simp only [intOf]; omega
        · have hpos : 0 < S.size := by omega
          have h0' : ((S.size : Int) == 0) = false := beq_eq_false_iff_ne.2 (by omega)
          have e6 : ((S.size : Int) - 1).toNat = S.size - 1 := by omega
          have hp' : (0 : Int) < S.size := by omega
          have hE := ends_at S hpos
          by_cases hc10 : S[S.size - 1] = 10
          · have HK : clot S = S := by
              unfold clot
              rw [if_pos (by rw [hE]; exact decide_eq_true hc10)]
            rw [HK] at HN
            have e7 : ((S[S.size - 1].toNat : Int) == 10) = true := by simp [hc10]
            have e8 : (!((S[S.size - 1].toNat : Int) == 10)) = false := by rw [e7]; rfl
            clear HK hE hc10
            have hpn : pre.length ≤ 8796093022207 := by omega
            clear hS hc hpl hln htx HC
            go_wp2_with (at_builtin; refine wpList_append_own _ rfl _ _ 59 rfl w.heap.size 9 i0 (.string ⟨#[]⟩) 1 16 Tryz.underlying59 hi hz0 hz1 hz2 rfl (by decide) _ _ _ rfl (hown.alloc _) ⟨wr.heap.size, 0, none⟩ 1 1 [sv (S)] rfl rfl ?c1 ?c2 ?c3 ?c4 ?c5 ?_)
            case c1 => exact cell_one_new _ _ _
            case c2 => exact sv_one [S]
            case c3 => unfold maxLen; omega
            case c4 => omega
            case c5 => simp; omega
            intro v' w2 hown' hgrow _
            have hb3 := below_step hb hown hgrow
            have htx2 : Texts w2 w.heap.size v' (pre ++ [S]) := by
              unfold Texts
              rw [List.length_append, List.map_append]
              exact hown'
            clear hown hown' hgrow hb
            go_wp2_with fail
            go_roundw
            case rel => exact ⟨pre ++ [S], k + 1, by omega, by go_num, HN, htx2, hb3⟩
            case measure => simp only [intOf]; omega
          · have HK : clot S = S ++ ⟨#[10]⟩ := by
              unfold clot
              rw [if_neg (by rw [hE]; simpa using hc10)]
            rw [HK] at HN
            have e7 : ((S[S.size - 1].toNat : Int) == 10) = false := ne_10 hc10
            have e8 : (!((S[S.size - 1].toNat : Int) == 10)) = true := by rw [e7]; rfl
            clear HK hE hc10
            have hpn : pre.length ≤ 8796093022207 := by omega
            clear hS hc hpl hln htx HC
            go_wp2_with (at_builtin; refine wpList_append_own _ rfl _ _ 59 rfl w.heap.size 9 i0 (.string ⟨#[]⟩) 1 16 Tryz.underlying59 hi hz0 hz1 hz2 rfl (by decide) _ _ _ rfl (hown.alloc _) ⟨wr.heap.size, 0, none⟩ 1 1 [sv (S ++ ⟨#[10]⟩)] rfl rfl ?c1 ?c2 ?c3 ?c4 ?c5 ?_)
            case c1 => exact cell_one_new _ _ _
            case c2 => exact sv_one [S ++ ⟨#[10]⟩]
            case c3 => unfold maxLen; omega
            case c4 => omega
            case c5 => simp; omega
            intro v' w2 hown' hgrow _
            have hb3 := below_step hb hown hgrow
            have htx2 : Texts w2 w.heap.size v' (pre ++ [S ++ ⟨#[10]⟩]) := by
              unfold Texts
              rw [List.length_append, List.map_append]
              exact hown'
            clear hown hown' hgrow hb
            go_wp2_with fail
            go_roundw
            case rel => exact ⟨pre ++ [S ++ ⟨#[10]⟩], k + 1, by omega, by go_num, HN, htx2, hb3⟩
            case measure => simp only [intOf]; omega
      · have e5 : ((k : Int) == (n : Int) - 1) = false := beq_eq_false_iff_ne.2 (by omega)
        have HN := Lib.hid (ck_mid HC.out (by omega) (by omega))
        rw [← hS] at HN
        have hpn : pre.length ≤ 8796093022207 := by omega
        clear hS hc hpl hln htx HC
        go_wp2_with (at_builtin; refine wpList_append_own _ rfl _ _ 59 rfl w.heap.size 9 i0 (.string ⟨#[]⟩) 1 16 Tryz.underlying59 hi hz0 hz1 hz2 rfl (by decide) _ _ _ rfl (hown.alloc _) ⟨wr.heap.size, 0, none⟩ 1 1 [sv S] rfl rfl ?c1 ?c2 ?c3 ?c4 ?c5 ?_)
        case c1 => exact cell_one_new _ _ _
        case c2 => exact sv_one [S]
        case c3 => unfold maxLen; omega
        case c4 => omega
        case c5 => simp; omega
        intro v' w2 hown' hgrow _
        have hb3 := below_step hb hown hgrow
        have htx2 : Texts w2 w.heap.size v' (pre ++ [S]) := by
          unfold Texts
          rw [List.length_append, List.map_append]
          exact hown'
        clear hown hown' hgrow hb
        go_wp2_with fail
        go_roundw
        case rel => exact ⟨pre ++ [S], k + 1, by omega, by go_num, HN, htx2, hb3⟩
        case measure => simp only [intOf]; omega
    · have HE := Lib.hid (ck_end HC.out (by omega))
      have hlt' : ¬ (k : Int) < (n : Int) := by omega
      clear HC hpl hln
      go_wp2_with fail
      go_ret
      unfold ListTo
      rw [HE.out]
      exact ⟨_, rfl, htx, hb⟩
end Go.Proofs.YtkenmldiojeooaaGreat.Ln

namespace Go.Proofs
open Go.Shelf
def Tryz.lays156_ren : Go.Shelf.Ren := ⟨fun | 156 => 96 | 165 => 117 | 166 => 46 | 169 => 47 | 240 => 69 | 241 => 134 | 276 => 98 | 277 => 143 | n => n, fun | 31 => 59 | 9 => 9 | 3 => 3 | 4 => 4 | 0 => 0 | 20 => 20 | 72 => 74 | 76 => 82 | 70 => 71 | 37 => 72 | 75 => 81 | 127 => 108 | 164 => 132 | 5 => 5 | 80 => 84 | n => n, fun | n => n⟩
theorem Tryz.lays156 : Go.Proofs.Lays.n156 Tryz.prog Tryz.lays156_ren := {
  mixed := by kernel_rfl
  f156 := Tryz.func96.trans (congrArg some (by kernel_rfl))
  f165 := Tryz.func117.trans (congrArg some (by kernel_rfl))
  f166 := Tryz.func46.trans (congrArg some (by kernel_rfl))
  f169 := Tryz.func47.trans (congrArg some (by kernel_rfl))
  f240 := Tryz.func69.trans (congrArg some (by kernel_rfl))
  f241 := Tryz.func134.trans (congrArg some (by kernel_rfl))
  f276 := Tryz.func98.trans (congrArg some (by kernel_rfl))
  f277 := Tryz.func143.trans (congrArg some (by kernel_rfl))
  t0 := Tryz.underlying0
  a0 := Tryz.isAgg0
  z0 := Tryz.sizeOf0
  v0 := Tryz.zeroValue0
  t3 := Tryz.underlying3
  a3 := Tryz.isAgg3
  z3 := Tryz.sizeOf3
  v3 := Tryz.zeroValue3
  t4 := Tryz.underlying4
  a4 := Tryz.isAgg4
  z4 := Tryz.sizeOf4
  v4 := Tryz.zeroValue4
  t9 := Tryz.underlying9
  a9 := Tryz.isAgg9
  z9 := Tryz.sizeOf9
  v9 := Tryz.zeroValue9
  t20 := Tryz.underlying20
  a20 := Tryz.isAgg20
  z20 := Tryz.sizeOf20
  v20 := Tryz.zeroValue20
  t31 := Tryz.underlying59
  a31 := Tryz.isAgg59
  z31 := Tryz.sizeOf59
  v31 := Tryz.zeroValue59
  t37 := Tryz.underlying72
  a37 := Tryz.isAgg72
  z37 := Tryz.sizeOf72
  v37 := Tryz.zeroValue72
  t70 := Tryz.underlying71
  a70 := Tryz.isAgg71
  z70 := Tryz.sizeOf71
  v70 := Tryz.zeroValue71
  t72 := Tryz.underlying74
  a72 := Tryz.isAgg74
  z72 := Tryz.sizeOf74
  v72 := Tryz.zeroValue74
  t75 := Tryz.underlying81
  a75 := Tryz.isAgg81
  z75 := Tryz.sizeOf81
  v75 := Tryz.zeroValue81
  t76 := Tryz.underlying82
  a76 := Tryz.isAgg82
  z76 := Tryz.sizeOf82
  v76 := Tryz.zeroValue82
  t127 := Tryz.underlying108
  a127 := Tryz.isAgg108
  z127 := Tryz.sizeOf108
  v127 := Tryz.zeroValue108
  t164 := Tryz.underlying132
  a164 := Tryz.isAgg132
  z164 := Tryz.sizeOf132
  v164 := Tryz.zeroValue132 }
theorem Tryz.Builder_Extra_156 : Builder.Extra Tryz.prog Tryz.lays156_ren := {
  sizeBuilder := by kernel_rfl
  liesBuilder := by kernel_rfl
  t5 := Tryz.underlying5
  a5 := Tryz.isAgg5
  z5 := Tryz.sizeOf5
  v5 := Tryz.zeroValue5
  infoByte := by kernel_rfl
  cellsByte := by kernel_rfl
  sizeByte := by kernel_rfl
  neB5 := by decide }
end Go.Proofs

namespace Go.Proofs.YtkenmldiojeooaaGreat.Ln
open Go.RowKit Tx Lm Aq
set_option linter.unusedVariables false
set_option maxRecDepth 100000 in
theorem ended_any (s : ByteArray) (w : World) (hs : s.size ≤ 562949953421312) :
    Calls Tryz.prog 113 #[.string s] w fun e w' => e = .returned (.bool (ends s.data.toList)) ∧ w = w' := by
  go_enter Tryz.func113, Tryz.ntmps113
  go_wp2_with (go_at_call 129; refine (suffix_any _ _ hs).mono ?_; rintro e w' ⟨rfl, rfl⟩)
  go_ret
  exact ⟨rfl, rfl⟩
theorem nil_yes {s : ByteArray} (h : s = ⟨#[]⟩) : (s.toList == []) = true ∧ s.toList.isEmpty = true := by
  rw [h, ByteArray.toList_eq]; exact ⟨rfl, rfl⟩
theorem nil_no {s : ByteArray} (h : s ≠ ⟨#[]⟩) : (s.toList == []) = false ∧ s.toList.isEmpty = false := by
  rw [ByteArray.toList_eq]
  have h1 : s.data.toList ≠ [] := fun e => h (by rw [← tb_of s, e]; rfl)
  exact ⟨beq_eq_false_iff_ne.2 h1, by rw [List.isEmpty_eq_false_iff]; exact h1⟩
theorem cnt_nil {s : ByteArray} (h : s = ⟨#[]⟩) : (lns s).length = s.data.toList.count 10 := by subst h; rfl
theorem cnt_ends {s : ByteArray} (h : ends s.data.toList = true) : (lns s).length = s.data.toList.count 10 := by
  rw [← lns_cnt, cnt, if_pos (.inr h)]
theorem cnt_more {s : ByteArray} (h0 : s ≠ ⟨#[]⟩) (h : ends s.data.toList = false) : (lns s).length = s.data.toList.count 10 + 1 := by
  rw [← lns_cnt, cnt, if_neg]
  rintro (h1 | h1)
  · exact h0 (by rw [← tb_of s, h1]; rfl)
  · rw [h] at h1; cases h1
set_option maxRecDepth 100000 in
set_option maxHeartbeats 1000000 in
theorem count_lines (s : ByteArray) (w : World) (hs : s.size ≤ 562949953421312) :
    Calls Tryz.prog 91 #[.string s] w fun e w' => e = .returned (.int .i64 ((lns s).length : Nat)) ∧ w = w' := by
  have hle : s.data.toList.count 10 ≤ s.size := by rw [← len_l]; exact List.count_le_length
  by_cases h0 : s = ⟨#[]⟩
  · have HC := Lib.hid (cnt_nil h0)
    obtain ⟨e0, e1⟩ := nil_yes h0
    have HZ := Lib.hid h0
    clear h0
    obtain ⟨K, hK⟩ : ∃ K, K = s.data.toList.count 10 := ⟨_, rfl⟩
    have c2 := fun W => count_any s W
    rw [← hK] at hle HC c2
    clear hK
    go_enter Tryz.func91, Tryz.ntmps91
    go_wp2_with (go_at_call 112; refine (c2 _).mono ?_; rintro e w' ⟨rfl, rfl⟩)
    go_ret
    exact ⟨by rw [HC.out]; rfl, rfl⟩
  · obtain ⟨e0, e1⟩ := nil_no h0
    cases hE : ends s.data.toList with
    | true =>
      have HC := Lib.hid (cnt_ends hE)
      have c := fun W => ended_any s W hs
      rw [hE] at c
      clear hE h0
      obtain ⟨K, hK⟩ : ∃ K, K = s.data.toList.count 10 := ⟨_, rfl⟩
      have c2 := fun W => count_any s W
      rw [← hK] at hle HC c2
      clear hK
      go_enter Tryz.func91, Tryz.ntmps91
      go_wp2_with (first
        | (go_at_call 112; refine (c2 _).mono ?_; rintro e w' ⟨rfl, rfl⟩)
        | (go_at_call 113; refine (c _).mono ?_; rintro e w' ⟨rfl, rfl⟩))
      go_ret
      exact ⟨by rw [HC.out]; rfl, rfl⟩
    | false =>
      have HC := Lib.hid (cnt_more h0 hE)
      have c := fun W => ended_any s W hs
      rw [hE] at c
      clear hE h0
      obtain ⟨K, hK⟩ : ∃ K, K = s.data.toList.count 10 := ⟨_, rfl⟩
      have c2 := fun W => count_any s W
      rw [← hK] at hle HC c2
      clear hK
      go_enter Tryz.func91, Tryz.ntmps91
      go_wp2_with (first
        | (go_at_call 112; refine (c2 _).mono ?_; rintro e w' ⟨rfl, rfl⟩)
        | (go_at_call 113; refine (c _).mono ?_; rintro e w' ⟨rfl, rfl⟩))
      go_ret
      exact ⟨by rw [HC.out]; first | rfl | go_num, rfl⟩
set_option maxRecDepth 100000 in
set_option maxHeartbeats 1000000 in
theorem text_lines (s : ByteArray) (w : World) (hs : s.size ≤ 562949953421312) :
    Calls Tryz.prog 62 #[.string s] w fun e w' => e = .returned (.int .i64 (txt s : Nat)) ∧ w = w' := by
  have c := fun W => contains_zero s W
  have c2 := fun W => count_lines s W hs
  by_cases hz : s.data.toList.contains 0 = true
  · have HT : Hid (txt s = 21) := by show txt s = 21; unfold txt; rw [if_pos hz]
    rw [hz] at c
    clear hz
    go_enter Tryz.func62, Tryz.ntmps62
    go_wp2_with (go_at_call 90; refine (c _).mono ?_; rintro e w' ⟨rfl, rfl⟩)
    go_ret
    exact ⟨by rw [HT.out]; rfl, rfl⟩
  · have HT : Hid (txt s = if 400 < (lns s).length then 4 else 0) := by show txt s = _; unfold txt; rw [if_neg hz]
    rw [Bool.eq_false_iff.2 hz] at c
    clear hz
    obtain ⟨L, hL⟩ : ∃ L, L = (lns s).length := ⟨_, rfl⟩
    rw [← hL] at HT c2
    clear hL
    by_cases hm : 400 < L
    · have hm' : (400 : Int) < (L : Int) := by omega
      go_enter Tryz.func62, Tryz.ntmps62
      go_wp2_with (first
        | (go_at_call 90; refine (c _).mono ?_; rintro e w' ⟨rfl, rfl⟩)
        | (go_at_call 91; refine (c2 _).mono ?_; rintro e w' ⟨rfl, rfl⟩))
      go_ret
      exact ⟨by rw [HT.out, if_pos hm]; rfl, rfl⟩
    · have hm' : ¬ (400 : Int) < (L : Int) := by omega
      go_enter Tryz.func62, Tryz.ntmps62
      go_wp2_with (first
        | (go_at_call 90; refine (c _).mono ?_; rintro e w' ⟨rfl, rfl⟩)
        | (go_at_call 91; refine (c2 _).mono ?_; rintro e w' ⟨rfl, rfl⟩))
      go_ret
      exact ⟨by rw [HT.out, if_neg hm]; rfl, rfl⟩
def ListN (l : List ByteArray) (w : World) (e : Ending) (w' : World) : Prop := ∃ g c, e = .returned (.slice (some ⟨g, 0, none⟩) l.length c) ∧ Texts w' w.heap.size (.slice (some ⟨g, 0, none⟩) l.length c) l ∧ Below w.heap.size w w'
theorem own_some {w : World} {B n : Nat} {e : TypeId} {v : Value} {xs : List Value} (h : w.ownsRow B e 1 v n xs) (hv : v ≠ .slice none 0 0) : ∃ g c, v = .slice (some ⟨g, 0, none⟩) n c := by
  rcases h.2 with ⟨h0, _⟩ | ⟨g, cap, cur, h0, _⟩
  · exact absurd h0 hv
  · exact ⟨g, cap, h0⟩
theorem cut_bytes (r : ByteArray) (h : r ≠ ⟨#[]⟩) : lns r = r.extract 0 (r.size - (tb (cutB r.data.toList)).size) :: lns (tb (cutB r.data.toList)) ∧ (tb (cutB r.data.toList)).size < r.size := by
  have hne : r.data.toList ≠ [] := fun e => h (by rw [← tb_of r, e]; rfl)
  have h1 := cut_len r.data.toList
  have h2 := cutL_pos hne
  rw [len_l] at h1
  refine ⟨?_, by rw [tb_size]; omega⟩
  rw [lns, spl_step _ hne, List.map_cons, lns, tb_list, tb_size]
  congr 1
  apply ByteArray.ext
  apply Array.toList_inj.1
  rw [ByteArray.data_extract, Array.toList_extract, List.extract_eq_take_drop, List.drop_zero, show r.size - (cutB r.data.toList).length - 0 = (cutL r.data.toList).length by omega]
  show cutL r.data.toList = _
  conv => rhs; rw [← cut_join r.data.toList]
  rw [cut_join r.data.toList, ← cut_join r.data.toList]
  simp only [cut_join]
  conv => rhs; arg 2; rw [← cut_join r.data.toList]
  rw [List.take_left]
set_option maxRecDepth 100000 in
set_option maxHeartbeats 2000000 in
theorem split_few (s : ByteArray) (w : World) (hs : s.size ≤ 562949953421312) (hfew : (lns s).length ≤ 8796093022207) :
    Calls Tryz.prog 63 #[.string s] w (ListN (lns s) w) := by
  obtain ⟨i0, hi, hz0, hz1, hz2⟩ := info_parts info9
  have hle := lns_le s
  have c0 := fun W => count_lines s W (by omega)
  obtain ⟨L, hL⟩ : ∃ L, L = lns s := ⟨_, rfl⟩
  rw [← hL] at hle c0 hfew ⊢
  obtain ⟨N, hN⟩ : ∃ N, N = L.length := ⟨_, rfl⟩
  rw [← hN] at hle c0 hfew
  have HL := Lib.hid hL
  clear hL
  have HNN := Lib.hid hN
  clear hN
  go_enter Tryz.func63, Tryz.ntmps63
  go_wp2_with fail
  go_at_call 91
  refine (c0 _).mono ?_
  rintro e w' ⟨rfl, rfl⟩
  go_wp2_with (at_make; refine wpList_make_own _ rfl _ _ _ rfl w.heap.size 9 i0 (.string ⟨#[]⟩) 1 Tryz.underlying59 hi hz0 hz1 _ _ _ N rfl rfl rfl (by rw [hz2]; omega) (by unfold maxLen; omega) (Nat.le_refl _) ?_)
  intro w2 hown2 hgrow2
  have hB2 : Below w.heap.size w w2 := (Below.refl _ w).grown hgrow2 (Nat.le_refl _) (fun k hk => by cases hk)
  clear hgrow2
  go_wp2_with fail
  go_loopw [0, 3, 4, 5, 6] (fun x v _ _ _ wr => ∃ (pre : List ByteArray) (r : ByteArray), x = .string r ∧ r.size + pre.length ≤ s.size ∧ Hid (L = pre ++ lns r) ∧ Texts wr w.heap.size v pre ∧ v ≠ .slice none 0 0 ∧ Below w.heap.size w wr) (fun x _ _ _ _ _ => match x with | .string r => r.size | _ => 0)
  case atStart => exact ⟨[], s, rfl, by simp, HL.out, hown2, by simp, hB2⟩
  case round =>
    obtain ⟨pre, r, rfl, hrs, HP, htx, hv, hb⟩ := hrel
    have hsz := hb.size
    clear HL
    by_cases h0 : r = ⟨#[]⟩
    · obtain ⟨e0, e1⟩ := nil_yes h0
      have HE : Hid (L = pre) := by
        have h := HP.out
        rw [h0] at h
        exact h.trans (List.append_nil _)
      clear HP h0
      obtain ⟨g, c, rfl⟩ := own_some htx hv
      go_wp2_with fail
      go_ret
      have h := HE.out
      subst h
      exact ⟨g, c, rfl, htx, hb⟩
    · obtain ⟨e0, e1⟩ := nil_no h0
      obtain ⟨hcut, hlt⟩ := cut_bytes r h0
      have c1 := fun W => cut_any r W (by omega)
      unfold CutTo at c1
      obtain ⟨R, hR⟩ : ∃ R, R = tb (cutB r.data.toList) := ⟨_, rfl⟩
      rw [← hR] at hcut hlt c1
      have HP2 : Hid (L = (pre ++ [r.extract 0 (r.size - R.size)]) ++ lns R) := by
        show L = _
        rw [HP.out, hcut, List.append_assoc]
        rfl
      clear hR hcut HP h0
      have k1 : (0 : Int) ≤ (r.size : Int) - R.size := by omega
      have k2 : (r.size : Int) - R.size ≤ r.size := by omega
      have k3 : ((r.size : Int) - R.size).toNat = r.size - R.size := by omega
      have hown := htx
      unfold Texts at hown
      go_wp2_with fail
      go_at_call 92
      refine (c1 _).mono ?_
      rintro e w' ⟨⟨xa, xb, rfl⟩, nn, rfl⟩
      have hbd : Below w.heap.size w (wr.drewN nn) := ⟨hb.os, hb.tape, hb.output, hb.size, hb.block⟩
      have hownd : (wr.drewN nn).ownsRow w.heap.size 9 1 _ pre.length (pre.map sv) := hown
      have hszd : w.heap.size ≤ (wr.drewN nn).heap.size := hsz
      have hpl : pre.length ≤ 8796093022206 := by
        have h := congrArg List.length HP2.out
        rw [List.length_append, List.length_append, List.length_singleton, ← HNN.out] at h
        omega
      generalize wr.drewN nn = wd at hbd hownd hszd ⊢
      clear htx hown hb hsz c1
      go_wp2_with (at_builtin; refine wpList_append_own _ rfl _ _ 59 rfl w.heap.size 9 i0 (.string ⟨#[]⟩) 1 16 Tryz.underlying59 hi hz0 hz1 hz2 rfl (by decide) _ _ _ rfl (hownd.alloc _) ⟨wd.heap.size, 0, none⟩ 1 1 [sv (r.extract 0 (r.size - R.size))] rfl rfl ?c1 ?c2 ?c3 ?c4 ?c5 ?_)
      case c1 => exact cell_one_new _ _ _
      case c2 => exact sv_one [r.extract 0 (r.size - R.size)]
      case c3 => unfold maxLen; omega
      case c4 => omega
      case c5 => simp; omega
      intro v' w2 hown' hgrow hnil
      have hb3 := below_step hbd hownd hgrow
      have htx2 : Texts w2 w.heap.size v' (pre ++ [r.extract 0 (r.size - R.size)]) := by
        unfold Texts
        rw [List.length_append, List.map_append]
        exact hown'
      have hv2 : v' ≠ .slice none 0 0 := hnil
      clear hownd hown' hgrow hbd hnil hv
      go_wp2_with fail
      go_roundw
      case rel => exact ⟨pre ++ [r.extract 0 (r.size - R.size)], R, rfl, by simp; omega, HP2, htx2, hv2, hb3⟩
      case measure => exact hlt
end Go.Proofs.YtkenmldiojeooaaGreat.Ln

namespace Go.Proofs.YtkenmldiojeooaaGreat.Mg
open Go.RowKit Go.ChangeShapes Go.WideShapes Tx Um Ud Aq Km Kd Lm Ln
set_option linter.unusedVariables false
def Kz (x : Nat) (w w1 : World) : Prop := ∀ (g : Nat) (cs : Array Value) (ty : TypeId) (fr : Nat × Nat), ty ≠ 76 → g ≠ x → w.heap[g]? = some (Obj.cells cs ty fr) → w1.heap[g]? = some (Obj.cells cs ty fr)
theorem Kz.refl (x : Nat) (w : World) : Kz x w w := fun _ _ _ _ _ _ h => h
theorem Kz.then {x : Nat} {a b c : World} (h : Kz x a b) (k : Kq b c) : Kz x a c := fun g cs ty fr n m y => k g cs ty fr n (h g cs ty fr n m y)
theorem Kz.set {x : Nat} {a b : World} (h : Kz x a b) (k : Nat) (u : Value) : Kz x a (b.setCell ⟨x, k, none⟩ u) := fun g cs ty fr n m y => by
  refine (Below.heap_setCell _ _ _ _ m).trans (h g cs ty fr n m y)
theorem Kz.bk {x g : Nat} {w w1 : World} {cs : Array Value} {ty : TypeId} (h : Kz x w w1) (hb : Bk w g cs ty) (hne : ty ≠ 76) (hg : g ≠ x) : Bk w1 g cs ty := h g cs ty _ hne hg hb
theorem Kz.kp {x : Nat} {w w1 : World} {cs : Array Value} {ty : TypeId} (h : Kz x w w1) (hb : Bk w x cs ty) (hne : ty ≠ 9) : Kp w w1 := fun g cs2 fr y => by
  refine h g cs2 _ fr (by decide) (fun e => ?_) y
  subst e
  unfold Bk at hb
  rw [hb] at y
  injection y with y
  injection y with _ y _
  exact hne y
def Ks (w w1 : World) : Prop := ∀ (g : Nat) (cs : Array Value) (ty : TypeId) (fr : Nat × Nat), ty = 76 ∨ ty = 9 → w.heap[g]? = some (Obj.cells cs ty fr) → w1.heap[g]? = some (Obj.cells cs ty fr)
theorem Ks.kp {w w1 : World} (h : Ks w w1) : Kp w w1 := fun g cs fr y => h g cs _ fr (.inr rfl) y
theorem Ks.set {w : World} {x : Nat} {cs : Array Value} {ty : TypeId} (hb : Bk w x cs ty) (h1 : ty ≠ 76) (h2 : ty ≠ 9) (k : Nat) (u : Value) : Ks w (w.setCell ⟨x, k, none⟩ u) := fun g cs2 ty2 fr ht y => by
  refine (Below.heap_setCell _ _ _ _ (fun e => ?_)).trans y
  subst e
  unfold Bk at hb
  rw [hb] at y
  injection y with y
  injection y with _ y _
  subst y
  rcases ht with ht | ht
  · exact h1 ht
  · exact h2 ht
theorem Ks.trans {a b c : World} (h : Ks a b) (k : Ks b c) : Ks a c := fun g cs ty fr t y => k g cs ty fr t (h g cs ty fr t y)
theorem Rwc.keep {B : Nat} {w w1 : World} {v : Value} {r : List (Ck ByteArray)} (h : Rwc B w v r) (hk : Ks w w1) : Rwc B w1 v r := by
  obtain ⟨cs, h1, h2, h3⟩ := h
  refine ⟨cs, ⟨h1.1, ?_⟩, h2.keep hk.kp, h3.keep hk.kp⟩
  rcases h1.2 with h0 | ⟨g', cap', cur, hv, hg, hh, q⟩
  · exact .inl h0
  · exact .inr ⟨g', cap', cur, hv, hg, hk g' cur _ (0, 0) (.inl rfl) hh, q⟩
theorem bk_set {w : World} {g k : Nat} {cs : Array Value} {ty : TypeId} (h : Bk w g cs ty) (u : Value) : Bk (w.setCell ⟨g, k, none⟩ u) g (cs.setIfInBounds k u) ty := by
  unfold Bk at h ⊢
  simp only [World.setCell, Array.getElem?_modify, if_true, h, Option.map_some]
  rfl
theorem bk_new (w : World) (cs : Array Value) (ty : TypeId) : Bk (w.alloc (.cells cs ty)) w.heap.size cs ty := heap_alloc_new w _
def cl3 (t : Tr) : Array Value := #[.int .i64 (t.1 : Int), .int .i64 (t.2.1 : Int), .int .i64 (t.2.2 : Int)]
theorem bk_set3 {w : World} {g : Nat} {d e : Tr} {ty : TypeId} (h : Bk w g (cl3 d) ty) : Bk (((w.setCell ⟨g, 0, none⟩ (.int .i64 (e.1 : Int))).setCell ⟨g, 1, none⟩ (.int .i64 (e.2.1 : Int))).setCell ⟨g, 2, none⟩ (.int .i64 (e.2.2 : Int))) g (cl3 e) ty :=
  bk_set (bk_set (bk_set h _) _) _
def Rb (w : World) (g : Nat) (R : List (Tr × Tr)) : Prop := ∃ cur, Bk w g cur 106 ∧ ∀ (k : Nat) x, R[k]? = some x → ∀ (j : Nat) u, (h6 x)[j]? = some u → cur[k * 6 + j]? = some u
theorem rb_of {w : World} {B n : Nat} {v : Value} {R : List (Tr × Tr)} (h : w.ownsRow B 106 6 v n (R.flatMap h6)) (hn : n = R.length) (h0 : 0 < n) : ∃ g c, v = .slice (some ⟨g, 0, none⟩) n c ∧ B ≤ g ∧ Rb w g R := by
  rcases h.2 with ⟨rfl, h1⟩ | ⟨g, cap, cur, rfl, hg, hh, h2, h3, h4, h5⟩
  · omega
  · refine ⟨g, cap, rfl, hg, cur, hh, fun k x hx j u hj => ?_⟩
    have e := flat6_get R k x hx j u hj
    rw [← h5, List.getElem?_take] at e
    split at e
    · rw [Array.getElem?_toList] at e
      exact e
    · cases e
theorem Rb.six {w : World} {g : Nat} {R : List (Tr × Tr)} (h : Rb w g R) {k : Nat} {x : Tr × Tr} (hx : R[k]? = some x) : Six g k x w := by
  obtain ⟨cur, h1, h2⟩ := h
  exact ⟨h1.cell _ (h2 k x hx 0 _ rfl), h1.cell _ (h2 k x hx 1 _ rfl), h1.cell _ (h2 k x hx 2 _ rfl), h1.cell _ (h2 k x hx 3 _ rfl), h1.cell _ (h2 k x hx 4 _ rfl), h1.cell _ (h2 k x hx 5 _ rfl)⟩
theorem Rb.kz {w w1 : World} {g x : Nat} {R : List (Tr × Tr)} (h : Rb w g R) (hk : Kz x w w1) (hne : g ≠ x) : Rb w1 g R := by
  obtain ⟨cur, h1, h2⟩ := h
  exact ⟨cur, hk.bk h1 (by decide) hne, h2⟩
theorem line_size {s x : ByteArray} (h : x ∈ lns s) : x.size ≤ s.size := by
  have e := congrArg ByteArray.size (lns_cat s)
  have key : ∀ (l : List ByteArray), x ∈ l → x.size ≤ (cat l).size := by
    intro l
    induction l with
    | nil => intro h; cases h
    | cons y l ih =>
      intro h
      have e : cat (y :: l) = y ++ cat l := by
        apply ByteArray.ext
        simp [cat, tb]
      rw [e, ByteArray.size_append]
      rcases List.mem_cons.1 h with rfl | h
      · omega
      · have := ih h
        omega
  have := key _ h
  omega
theorem own_kept {w w1 : World} {B sz n : Nat} {e : TypeId} {v : Value} {xs : List Value} (h : w.ownsRow B e sz v n xs) (hg : w.grownBy w1 v.ownBlock) : ∀ (g : Nat) (cs : Array Value) (ty : TypeId) (fr : Nat × Nat), ty ≠ e → w.heap[g]? = some (Obj.cells cs ty fr) → w1.heap[g]? = some (Obj.cells cs ty fr) := by
  intro g cs ty fr hne x
  refine (hg.block g (Array.getElem?_eq_some_iff.1 x).1 fun e2 => ?_).trans x
  rcases h.2 with ⟨rfl, _⟩ | ⟨g1, cap, cur1, rfl, _, hh, _⟩
  · cases e2
  · obtain rfl : g = g1 := by simpa [Value.ownBlock] using e2
    rw [hh] at x
    injection x with x
    injection x with _ x _
    exact hne x.symm
theorem bk_ne {w : World} {g h : Nat} {c1 c2 : Array Value} {t1 t2 : TypeId} (h1 : Bk w g c1 t1) (h2 : Bk w h c2 t2) (hne : t1 ≠ t2) : g ≠ h := by
  rintro rfl
  unfold Bk at h1 h2
  rw [h1] at h2
  injection h2 with h2
  injection h2 with _ h2 _
  exact hne h2
theorem st1_eq (o a b : List ByteArray) (d f t : Tr) (r : List (Ck ByteArray)) : st1 o a b (d, r) (f, t) = (t, lg o a b true f t (lg o a b false d f r)) := rfl
def cl6 (f t : Tr) : Array Value := #[.int .i64 (f.1 : Int), .int .i64 (f.2.1 : Int), .int .i64 (f.2.2 : Int), .int .i64 (t.1 : Int), .int .i64 (t.2.1 : Int), .int .i64 (t.2.2 : Int)]
theorem ks_set3 {w : World} {g : Nat} {d : Tr} (hb : Bk w g (cl3 d) 104) (x y z : Value) : Ks w (((w.setCell ⟨g, 0, none⟩ x).setCell ⟨g, 1, none⟩ y).setCell ⟨g, 2, none⟩ z) :=
  (Ks.set hb (by decide) (by decide) _ _).trans ((Ks.set (bk_set hb _) (by decide) (by decide) _ _).trans (Ks.set (bk_set (bk_set hb _) _) (by decide) (by decide) _ _))
theorem lg_len (o a b : List ByteArray) (s : Bool) (f t : Tr) (r : List (Ck ByteArray)) : (lg o a b s f t r).length ≤ r.length + 1 := by
  unfold lg
  split
  · exact Nat.le_succ _
  · exact Nat.le_refl _
end Go.Proofs.YtkenmldiojeooaaGreat.Mg

namespace Go.Proofs.YtkenmldiojeooaaGreat.Mg
open Go.RowKit Go.ChangeShapes Go.WideShapes Tx Um Ud Aq Km Kd Lm Ln
set_option linter.unusedVariables false
def P1 (g : Nat) (o : List ByteArray) (W : World) : Prop := ∃ A ca, Bk W g #[.slice A o.length ca, .slice none 0 0, .slice none 0 0] 97 ∧ Src W A ca o
def P2 (g : Nat) (o a : List ByteArray) (W : World) : Prop := ∃ A ca C cc, Bk W g #[.slice A o.length ca, .slice C a.length cc, .slice none 0 0] 97 ∧ Src W A ca o ∧ Src W C cc a
def P3 (g : Nat) (o a b : List ByteArray) (W : World) : Prop := ∃ A ca C cc D cd, Bk W g #[.slice A o.length ca, .slice C a.length cc, .slice D b.length cd] 97 ∧ Src W A ca o ∧ Src W C cc a ∧ Src W D cd b
theorem src_list {w w' : World} {l : List ByteArray} {g c : Nat} (h : Texts w' w.heap.size (.slice (some ⟨g, 0, none⟩) l.length c) l) : Src w' (some ⟨g, 0, none⟩) c l := by
  obtain ⟨A, c', e, h1⟩ := src_of (show Lo w' w.heap.size (.slice (some ⟨g, 0, none⟩) l.length c) l from h)
  injection e with e1 _ e3
  subst e1
  subst e3
  exact h1
theorem txt_few {s : ByteArray} (h : txt s = 0) : (lns s).length ≤ 400 := by
  unfold txt at h
  split at h
  · cases h
  · split at h
    · cases h
    · omega
set_option maxRecDepth 100000 in
set_option maxHeartbeats 8000000 in
theorem chunks_any (s t u : ByteArray) (w : World) (hs : s.size ≤ 140737488355328) (ht : t.size ≤ 140737488355328) (hu : u.size ≤ 140737488355328) :
    Calls Tryz.prog 43 #[.string s, .string t, .string u] w (ChTo (chs s t u) (err3 s t u) w) := by
  obtain ⟨o, ho⟩ : ∃ o, o = lns s := ⟨_, rfl⟩
  obtain ⟨a, ha⟩ : ∃ a, a = lns t := ⟨_, rfl⟩
  obtain ⟨b, hb⟩ : ∃ b, b = lns u := ⟨_, rfl⟩
  have HO := Lib.hid ho
  have HA := Lib.hid ha
  have HBB := Lib.hid hb
  clear ho ha hb
  have HS := Lib.hid hs
  have HT := Lib.hid ht
  have HU := Lib.hid hu
  clear hs ht hu
  go_enter Tryz.func43, Tryz.ntmps43
  go_wp2_with fail
  have HB0 : Hid (Below w.heap.size w (w.alloc (.cells #[.slice none 0 0, .slice none 0 0, .slice none 0 0] 97))) := (Below.refl _ w).alloc (Nat.le_refl _) _
  have HK0 : Hid (Bk (w.alloc (.cells #[.slice none 0 0, .slice none 0 0, .slice none 0 0] 97)) w.heap.size #[.slice none 0 0, .slice none 0 0, .slice none 0 0] 97) := bk_new _ _ _
  obtain ⟨w0, hw0⟩ : ∃ w0, w0 = w.alloc (.cells #[.slice none 0 0, .slice none 0 0, .slice none 0 0] 97) := ⟨_, rfl⟩
  rw [← hw0] at HB0 HK0 ⊢
  clear hw0
  obtain ⟨G, hG⟩ : ∃ G, G = w.heap.size := ⟨_, rfl⟩
  have HG := Lib.hid hG
  rw [← hG] at HK0 ⊢
  clear hG
  go_loopw [9, 10, 11, 23] (fun _ _ _ i wr => Hid (Below w.heap.size w wr) ∧ ((i = .int .i64 0 ∧ Hid (Bk wr G #[.slice none 0 0, .slice none 0 0, .slice none 0 0] 97)) ∨ (i = .int .i64 1 ∧ Hid (P1 G o wr ∧ txt s = 0)) ∨ (i = .int .i64 2 ∧ Hid (P2 G o a wr ∧ txt s = 0 ∧ txt t = 0)) ∨ (i = .int .i64 3 ∧ Hid (P3 G o a b wr ∧ txt s = 0 ∧ txt t = 0 ∧ txt u = 0)))) (fun _ _ _ i _ => 3 - (intOf i).toNat)
  case atStart => exact ⟨HB0, .inl ⟨rfl, HK0⟩⟩
  case round =>
    clear HB0 HK0
    obtain ⟨HB, hrel⟩ := hrel
    rcases hrel with ⟨rfl, HP⟩ | ⟨rfl, HP⟩ | ⟨rfl, HP⟩ | ⟨rfl, HP⟩
    · have HK := Lib.hid HP.out
      clear HP
      have hx1 : s.size ≤ 562949953421312 := by have := HS.out; omega
      have hI : ∀ W : World, (Instr.index 98 (.agg #[.string s, .string t, .string u]) (.int .i64 0)).run Tryz.prog W = .ok (.string s) W := fun W => by kernel_rfl
      go_wp2_with fail
      clear hI
      go_at_call 62
      refine (text_lines s _ hx1).mono ?_
      rintro e w1' ⟨rfl, rfl⟩
      by_cases hz : txt s = 0
      · have HZ := Lib.hid hz
        have few := txt_few hz
        rw [hz]
        have cS := split_few s wr hx1 (by omega)
        rw [← HO.out] at cS few
        have CS := Lib.hid cS
        clear cS hz
        go_wp2_with fail
        go_at_call 63
        refine CS.out.mono ?_
        rintro e w2 ⟨gl, cl, rfl, hl, hb2⟩
        have hS := src_list hl
        have HK2 := Lib.hid (HK.out.below hb2 HK.out.lt)
        have m0 := HK2.out.cell 0 rfl
        have m1 := HK2.out.cell 1 rfl
        have m2 := HK2.out.cell 2 rfl
        have f0 := HK2.out.warm 0
        have f1 := HK2.out.warm 1
        have f2 := HK2.out.warm 2
        have HSet := Lib.hid (bk_set (k := 0) HK2.out (.slice (some ⟨gl, 0, none⟩) o.length cl))
        have HKp : Hid (Kp w2 (w2.setCell ⟨G, 0, none⟩ (.slice (some ⟨gl, 0, none⟩) o.length cl))) := (Ks.set HK2.out (by decide) (by decide) _ _).kp
        have HBk : Hid (Below w.heap.size w (w2.setCell ⟨G, 0, none⟩ (.slice (some ⟨gl, 0, none⟩) o.length cl))) := (HB.out.trans (hb2.mono HB.out.size)).setCell (p := ⟨G, _, none⟩) (by show w.heap.size ≤ G; rw [HG.out]; exact Nat.le_refl _) _
        have HNew := Lib.hid (hS.keep HKp.out)
        clear hl hb2 hS HK HK2 CS
        go_wp2_with fail
        go_roundw
        case rel => exact ⟨HBk, .inr (.inl ⟨by go_num, ⟨_, _, HSet.out, HNew.out⟩, HZ.out⟩)⟩
        case measure => simp only [intOf]; omega
      · have hE : err3 s t u = txt s := by unfold err3; rw [if_pos hz]
        have hz2 : ¬ ((txt s : Nat) : Int) = 0 := by omega
        have HE := Lib.hid hE
        have HNZ := Lib.hid hz
        clear hE hz HK
        go_wp2_with fail
        go_ret2
        have hc : chs s t u = [] := by
          unfold chs
          rw [HE.out, if_neg HNZ.out]
        rw [hc, HE.out]
        exact ⟨_, [], rfl, cs_nil _ _, trivial, OwnC.nil _ _, HB.out⟩
    · obtain ⟨⟨A, ca, hK, hA⟩, z1⟩ := HP.out
      have HK := Lib.hid hK
      have HSA := Lib.hid hA
      have HZ1 := Lib.hid z1
      clear hK hA z1
      clear HP
      have hx1 : t.size ≤ 562949953421312 := by have := HT.out; omega
      have hI : ∀ W : World, (Instr.index 98 (.agg #[.string s, .string t, .string u]) (.int .i64 1)).run Tryz.prog W = .ok (.string t) W := fun W => by kernel_rfl
      go_wp2_with fail
      clear hI
      go_at_call 62
      refine (text_lines t _ hx1).mono ?_
      rintro e w1' ⟨rfl, rfl⟩
      by_cases hz : txt t = 0
      · have HZ := Lib.hid hz
        have few := txt_few hz
        rw [hz]
        have cS := split_few t wr hx1 (by omega)
        rw [← HA.out] at cS few
        have CS := Lib.hid cS
        clear cS hz
        go_wp2_with fail
        go_at_call 63
        refine CS.out.mono ?_
        rintro e w2 ⟨gl, cl, rfl, hl, hb2⟩
        have hS := src_list hl
        have HK2 := Lib.hid (HK.out.below hb2 HK.out.lt)
        have m0 := HK2.out.cell 0 rfl
        have m1 := HK2.out.cell 1 rfl
        have m2 := HK2.out.cell 2 rfl
        have f0 := HK2.out.warm 0
        have f1 := HK2.out.warm 1
        have f2 := HK2.out.warm 2
        have HSet := Lib.hid (bk_set (k := 1) HK2.out (.slice (some ⟨gl, 0, none⟩) a.length cl))
        have HKp : Hid (Kp w2 (w2.setCell ⟨G, 1, none⟩ (.slice (some ⟨gl, 0, none⟩) a.length cl))) := (Ks.set HK2.out (by decide) (by decide) _ _).kp
        have HBk : Hid (Below w.heap.size w (w2.setCell ⟨G, 1, none⟩ (.slice (some ⟨gl, 0, none⟩) a.length cl))) := (HB.out.trans (hb2.mono HB.out.size)).setCell (p := ⟨G, _, none⟩) (by show w.heap.size ≤ G; rw [HG.out]; exact Nat.le_refl _) _
        have HNew := Lib.hid (hS.keep HKp.out)
        have HQA := Lib.hid ((HSA.out.keep (.of_below hb2)).keep HKp.out)
        clear hl hb2 hS HK HK2 CS
        go_wp2_with fail
        go_roundw
        case rel => exact ⟨HBk, .inr (.inr (.inl ⟨by go_num, ⟨_, _, _, _, HSet.out, HQA.out, HNew.out⟩, HZ1.out, HZ.out⟩))⟩
        case measure => simp only [intOf]; omega
      · have hE : err3 s t u = txt t := by unfold err3; rw [if_neg (fun e => e HZ1.out), if_pos hz]
        have hz2 : ¬ ((txt t : Nat) : Int) = 0 := by omega
        have HE := Lib.hid hE
        have HNZ := Lib.hid hz
        clear hE hz HK
        go_wp2_with fail
        go_ret2
        have hc : chs s t u = [] := by
          unfold chs
          rw [HE.out, if_neg HNZ.out]
        rw [hc, HE.out]
        exact ⟨_, [], rfl, cs_nil _ _, trivial, OwnC.nil _ _, HB.out⟩
    · obtain ⟨⟨A, ca, C, cc, hK, hA, hC⟩, z1, z2⟩ := HP.out
      have HK := Lib.hid hK
      have HSA := Lib.hid hA
      have HSC := Lib.hid hC
      have HZ1 := Lib.hid z1
      have HZ2 := Lib.hid z2
      clear hK hA hC z1 z2
      clear HP
      have hx1 : u.size ≤ 562949953421312 := by have := HU.out; omega
      have hI : ∀ W : World, (Instr.index 98 (.agg #[.string s, .string t, .string u]) (.int .i64 2)).run Tryz.prog W = .ok (.string u) W := fun W => by kernel_rfl
      go_wp2_with fail
      clear hI
      go_at_call 62
      refine (text_lines u _ hx1).mono ?_
      rintro e w1' ⟨rfl, rfl⟩
      by_cases hz : txt u = 0
      · have HZ := Lib.hid hz
        have few := txt_few hz
        rw [hz]
        have cS := split_few u wr hx1 (by omega)
        rw [← HBB.out] at cS few
        have CS := Lib.hid cS
        clear cS hz
        go_wp2_with fail
        go_at_call 63
        refine CS.out.mono ?_
        rintro e w2 ⟨gl, cl, rfl, hl, hb2⟩
        have hS := src_list hl
        have HK2 := Lib.hid (HK.out.below hb2 HK.out.lt)
        have m0 := HK2.out.cell 0 rfl
        have m1 := HK2.out.cell 1 rfl
        have m2 := HK2.out.cell 2 rfl
        have f0 := HK2.out.warm 0
        have f1 := HK2.out.warm 1
        have f2 := HK2.out.warm 2
        have HSet := Lib.hid (bk_set (k := 2) HK2.out (.slice (some ⟨gl, 0, none⟩) b.length cl))
        have HKp : Hid (Kp w2 (w2.setCell ⟨G, 2, none⟩ (.slice (some ⟨gl, 0, none⟩) b.length cl))) := (Ks.set HK2.out (by decide) (by decide) _ _).kp
        have HBk : Hid (Below w.heap.size w (w2.setCell ⟨G, 2, none⟩ (.slice (some ⟨gl, 0, none⟩) b.length cl))) := (HB.out.trans (hb2.mono HB.out.size)).setCell (p := ⟨G, _, none⟩) (by show w.heap.size ≤ G; rw [HG.out]; exact Nat.le_refl _) _
        have HNew := Lib.hid (hS.keep HKp.out)
        have HQA := Lib.hid ((HSA.out.keep (.of_below hb2)).keep HKp.out)
        have HQC := Lib.hid ((HSC.out.keep (.of_below hb2)).keep HKp.out)
        clear hl hb2 hS HK HK2 CS
        go_wp2_with fail
        go_roundw
        case rel => exact ⟨HBk, .inr (.inr (.inr ⟨by go_num, ⟨_, _, _, _, _, _, HSet.out, HQA.out, HQC.out, HNew.out⟩, HZ1.out, HZ2.out, HZ.out⟩))⟩
        case measure => simp only [intOf]; omega
      · have hE : err3 s t u = txt u := by unfold err3; rw [if_neg (fun e => e HZ1.out), if_neg (fun e => e HZ2.out)]
        have hz2 : ¬ ((txt u : Nat) : Int) = 0 := by omega
        have HE := Lib.hid hE
        have HNZ := Lib.hid hz
        clear hE hz HK
        go_wp2_with fail
        go_ret2
        have hc : chs s t u = [] := by
          unfold chs
          rw [HE.out, if_neg HNZ.out]
        rw [hc, HE.out]
        exact ⟨_, [], rfl, cs_nil _ _, trivial, OwnC.nil _ _, HB.out⟩
    · obtain ⟨⟨A, ca, C, cc, D, cd, hK, hA, hC, hD⟩, z1, z2, z3⟩ := HP.out
      have HK := Lib.hid hK
      have HSA := Lib.hid hA
      have HSC := Lib.hid hC
      have HSD := Lib.hid hD
      have hE : err3 s t u = 0 := by unfold err3; rw [if_neg (fun e => e z1), if_neg (fun e => e z2)]; exact z3
      have hch : chs s t u = (pie o a b).reverse := by unfold chs; rw [if_pos hE, HO.out, HA.out, HBB.out]; rfl
      have HE := Lib.hid hE
      have HCH := Lib.hid hch
      have lo : o.length ≤ 400 := by rw [HO.out]; exact txt_few z1
      have la : a.length ≤ 400 := by rw [HA.out]; exact txt_few z2
      have lb : b.length ≤ 400 := by rw [HBB.out]; exact txt_few z3
      have so : ∀ x, x ∈ o → x.size ≤ maxLen := fun x h => by rw [HO.out] at h; have := line_size h; have := HS.out; unfold maxLen; omega
      have sa : ∀ x, x ∈ a → x.size ≤ maxLen := fun x h => by rw [HA.out] at h; have := line_size h; have := HT.out; unfold maxLen; omega
      have sb : ∀ x, x ∈ b → x.size ≤ maxLen := fun x h => by rw [HBB.out] at h; have := line_size h; have := HU.out; unfold maxLen; omega
      have CR := Lib.hid (rows_any A C D ca cc cd o a b wr hA.strs hC.strs hD.strs lo la lb so sa sb)
      have m0 := hK.cell 0 rfl
      have m1 := hK.cell 1 rfl
      have m2 := hK.cell 2 rfl
      clear hK hA hC hD HP hE hch z1 z2 z3 so sa sb
      go_wp2_with fail
      go_at_call 64
      refine CR.out.mono ?_
      rintro e w2 ⟨v2, rfl, hv2, hb2⟩
      have HB2 : Hid (Below w.heap.size w w2) := HB.out.trans (hb2.mono HB.out.size)
      have HK2 := Lib.hid (HK.out.below hb2 HK.out.lt)
      have HA2 := Lib.hid (HSA.out.keep (.of_below hb2))
      have HC2 := Lib.hid (HSC.out.keep (.of_below hb2))
      have HD2 := Lib.hid (HSD.out.keep (.of_below hb2))
      have n0 := HK2.out.cell 0 rfl
      have n1 := HK2.out.cell 1 rfl
      have n2 := HK2.out.cell 2 rfl
      obtain ⟨R, hR⟩ : ∃ R, R = rws o a b := ⟨_, rfl⟩
      have hRl : R.length ≤ 160000 := by
        have q0 := foldl_jn_len (trip (pairs 0 0 (steps o a)) (pairs 0 0 (steps o b))) []
        have q1 := trip_len (pairs 0 0 (steps o a)) (pairs 0 0 (steps o b))
        have p1 := pairs_len (steps o a) 0 0
        have p2 := kept o a
        have p3 := lcs_le_left o a
        have p4 := pairs_len (steps o b) 0 0
        have p5 := kept o b
        have p6 := lcs_le_left o b
        have q2 : (pairs 0 0 (steps o a)).length * (pairs 0 0 (steps o b)).length ≤ 400 * 400 := Nat.mul_le_mul (by omega) (by omega)
        rw [hR]
        show (List.foldl jn [] _).length ≤ _
        rw [List.length_nil] at q0
        omega
      have hAll := rws_all o a b
      rw [← hR] at hAll hv2
      have HALL := Lib.hid hAll
      have HROW := Lib.hid hv2
      have hszd := hb2.size
      clear hAll hR hv2 hb2 HK HSA HSC HSD CR m0 m1 m2
      obtain ⟨iP, hP, hP0, hP1, hP2⟩ := info_parts infoP
      obtain ⟨av, cv, hvf, _⟩ := HROW.out.form
      have hown2 : w2.ownsRow wr.heap.size 106 6 (.slice av R.length cv) R.length (R.flatMap h6) := by rw [← hvf]; exact HROW.out
      subst hvf
      obtain ⟨NR, hNR⟩ : ∃ NR, NR = R.length := ⟨_, rfl⟩
      rw [← hNR] at hRl hown2 ⊢
      have HNR := Lib.hid hNR
      obtain ⟨W3, hW3⟩ : ∃ W3, W3 = (w2.alloc (.cells #[.int .i64 (o.length : Int), .int .i64 (a.length : Int), .int .i64 (b.length : Int)] 104)).alloc (.cells #[.int .i64 0, .int .i64 0, .int .i64 0] 104) := ⟨_, rfl⟩
      have hs3 : W3.heap.size = w2.heap.size + 1 + 1 := by rw [hW3]; go_simp
      have hown3 : W3.ownsRow wr.heap.size 106 6 (.slice av NR cv) NR (R.flatMap h6) := by rw [hW3]; exact (hown2.alloc _).alloc _
      have hb3 : Below w2.heap.size w2 W3 := by rw [hW3]; exact ((Below.refl _ w2).alloc (Nat.le_refl _) _).alloc (by simp) _
      have hD3 : Bk W3 (w2.heap.size + 1) (cl3 (0, 0, 0)) 104 := by
        rw [hW3]
        have h := bk_new (w2.alloc (.cells #[.int .i64 (o.length : Int), .int .i64 (a.length : Int), .int .i64 (b.length : Int)] 104)) #[.int .i64 0, .int .i64 0, .int .i64 0] 104
        rw [show (w2.alloc (.cells #[.int .i64 (o.length : Int), .int .i64 (a.length : Int), .int .i64 (b.length : Int)] 104)).heap.size = w2.heap.size + 1 by simp] at h
        exact h
      have HD3 := Lib.hid hD3
      have HOW3 := Lib.hid hown3
      have HBW3 : Hid (Below w.heap.size w W3) := HB2.out.trans (hb3.mono HB2.out.size)
      have HK3 := Lib.hid (HK2.out.below hb3 HK2.out.lt)
      have HA3 := Lib.hid (HA2.out.keep (.of_below hb3))
      have HC3 := Lib.hid (HC2.out.keep (.of_below hb3))
      have HD3' := Lib.hid (HD2.out.keep (.of_below hb3))
      clear hNR hown2 hown3 hb3 hD3 HROW
      have hbase : wr.heap.size ≤ W3.heap.size := by omega
      have hown4 := HOW3.out
      rw [hW3] at hown4
      go_wp2_with (at_builtin; refine wpList_append_own _ rfl _ _ 100 rfl wr.heap.size 106 iP (.agg #[.int .i64 0, .int .i64 0, .int .i64 0, .int .i64 0, .int .i64 0, .int .i64 0]) 6 48 Tryz.underlying100 hP hP0 hP1 hP2 rfl (by decide) _ _ _ rfl (hown4.alloc _) ⟨_, 0, none⟩ 1 1 [iv o.length, iv a.length, iv b.length, iv o.length, iv a.length, iv b.length] rfl rfl ?c1 ?c2 ?c3 ?c4 ?c5 ?_)
      case c1 =>
        have h := cell_six2 W3 (iv o.length) (iv a.length) (iv b.length) (iv o.length) (iv a.length) (iv b.length) 106
        rw [hs3, hW3] at h
        exact h
      case c2 =>
        intro u hu
        simp only [List.mem_cons, List.not_mem_nil, or_false] at hu
        rcases hu with rfl | rfl | rfl | rfl | rfl | rfl <;> rfl
      case c3 => unfold maxLen; omega
      case c4 => omega
      case c5 => rw [hW3] at hbase; exact Nat.le_trans hbase (by simp)
      intro v7 w7 hown7 hgrow _
      rw [← hW3] at hgrow
      clear hown4 hW3 hbase
      have hal : Below W3.heap.size W3 (W3.alloc (.cells (cl6 (o.length, a.length, b.length) (o.length, a.length, b.length)) 106)) := (Below.refl _ W3).alloc (Nat.le_refl _) _
      have hgrow2 : (W3.alloc (.cells (cl6 (o.length, a.length, b.length) (o.length, a.length, b.length)) 106)).grownBy w7 (Value.slice av NR cv).ownBlock := hgrow
      have hkr := own_kept (World.ownsRow.alloc HOW3.out (.cells (cl6 (o.length, a.length, b.length) (o.length, a.length, b.length)) 106)) hgrow2
      have hkp : Kp W3 w7 := (Kp.of_below hal).trans (fun g cs fr x => hkr g cs _ fr (by decide) x)
      have HB7 : Hid (Below w.heap.size w w7) := (HBW3.out.alloc HBW3.out.size _).grown hgrow2 (Nat.le_trans HBW3.out.size hal.size) (fun k hk => Nat.le_trans HB.out.size ((World.ownsRow.lt HOW3.out k hk).1))
      have HK7 : Hid (Bk w7 G #[.slice A o.length ca, .slice C a.length cc, .slice D b.length cd] 97) := hkr G _ _ _ (by decide) (HK3.out.below hal HK3.out.lt)
      have HD7 : Hid (Bk w7 (w2.heap.size + 1) (cl3 (0, 0, 0)) 104) := hkr _ _ _ _ (by decide) (HD3.out.below hal HD3.out.lt)
      have HA7 := Lib.hid (HA3.out.keep hkp)
      have HC7 := Lib.hid (HC3.out.keep hkp)
      have HDD7 := Lib.hid (HD3'.out.keep hkp)
      obtain ⟨E, hEE⟩ : ∃ E, E = R ++ [ends3 o a b] := ⟨_, rfl⟩
      have hEl : E.length = NR + 1 := by rw [hEE, List.length_append, List.length_singleton, HNR.out]
      have hfm : E.flatMap h6 = R.flatMap h6 ++ [iv o.length, iv a.length, iv b.length, iv o.length, iv a.length, iv b.length] := by
        rw [hEE, List.flatMap_append]
        rfl
      rw [← hfm] at hown7
      obtain ⟨gr, cr, rfl, hgr, hrb⟩ := rb_of hown7 hEl.symm (by omega)
      have HRB := Lib.hid hrb
      have HALL2 := HALL.out
      rw [← hEE] at HALL2
      have HAL2 := Lib.hid HALL2
      have HEL := Lib.hid hEl
      have hgD : w.heap.size ≤ w2.heap.size + 1 := by have := HB2.out.size; omega
      obtain ⟨gD, hgDe⟩ : ∃ gD, gD = w2.heap.size + 1 := ⟨_, rfl⟩
      rw [← hgDe] at HD7 hgD ⊢
      clear hgDe HALL HALL2 hEl hEE hfm hown7 hgrow hgrow2 hkr hkp hal hrb HOW3 HD3 HBW3 HK3 HA3 HC3 HD3' HA2 HC2 HD2 HK2 HB2 HB hP hP0 hP1 hP2 HNR hs3 hgr n0 n1 n2 hszd
      go_wp2_with fail
      go_loopw [15, 18, 62] (fun v _ i wx => ∃ n : Nat, i = .int .i64 (n : Int) ∧ n ≤ NR + 1 ∧ Hid (Rwc w.heap.size wx v (stR o a b (E.take n)).2) ∧ Hid (Bk wx gD (cl3 (stR o a b (E.take n)).1) 104) ∧ Hid (Kz gD w7 wx) ∧ Hid (Below w.heap.size w wx)) (fun _ _ i _ => NR + 1 - (intOf i).toNat)
      case atStart => exact ⟨0, rfl, Nat.zero_le _, Rwc.nil _ _, HD7, Kz.refl _ _, HB7⟩
      case round =>
        obtain ⟨n, rfl, hn, HRW, HDX, HKZ, HBX⟩ := hrel
        by_cases hlt : n < NR + 1
        · have e1 : (n : Int) < ((NR + 1 : Nat) : Int) := by omega
          have hlE : n < E.length := by rw [HEL.out]; exact hlt
          obtain ⟨⟨f, t'⟩, hx⟩ : ∃ x, E[n]? = some x := ⟨_, List.getElem?_eq_getElem hlE⟩
          obtain ⟨z1, z2, z3, z4, z5, z6, z7, z8, z9⟩ := rz_at (o := o) (a := a) (b := b) HAL2.out.1 n (f, t') hx []
          have hst := stR_take (o := o) (a := a) (b := b) hx
          have hrl := stR_len o a b (E.take n)
          rw [List.length_take, Nat.min_eq_left (by omega)] at hrl
          obtain ⟨⟨d, r⟩, hS⟩ : ∃ S, S = stR o a b (E.take n) := ⟨_, rfl⟩
          change (stR o a b (E.take n)).1.1 ≤ _ at z1
          change (stR o a b (E.take n)).1.2.1 ≤ _ at z2
          change (stR o a b (E.take n)).1.2.2 ≤ _ at z3
          rw [← hS] at z1 z2 z3 hst hrl HRW HDX
          rw [st1_eq] at hst
          simp only at z1 z2 z3 z4 z5 z6 z7 z8 z9 hrl HRW HDX
          have HST := Lib.hid hst
          have hgrD : gr ≠ gD := by
            obtain ⟨cur, h1, _⟩ := HRB.out
            exact bk_ne h1 HD7.out (by decide)
          have s6 := (HRB.out.kz HKZ.out hgrD).six hx
          obtain ⟨c0, c1, c2, c3, c4, c5⟩ := s6
          unfold iv at c0 c1 c2 c3 c4 c5
          simp only at c0 c1 c2 c3 c4 c5
          have hlr1 := lg_len o a b false d f r
          have hgGD : G ≠ gD := bk_ne HK7.out HD7.out (by decide)
          have hkz1 : Kp w7 wr := HKZ.out.kp HD7.out (by decide)
          have hal1 : Below wr.heap.size wr (wr.alloc (.cells (cl6 f t') 106)) := (Below.refl _ wr).alloc (Nat.le_refl _) _
          have k1 := HKZ.out.bk HK7.out (by decide) hgGD
          have HKA : Hid (Bk (wr.alloc (.cells (cl6 f t') 106)) G #[.slice A o.length ca, .slice C a.length cc, .slice D b.length cd] 97) := k1.below hal1 k1.lt
          have HDA : Hid (Bk (wr.alloc (.cells (cl6 f t') 106)) gD (cl3 d) 104) := HDX.out.below hal1 HDX.out.lt
          have HEA : Hid (Bk (wr.alloc (.cells (cl6 f t') 106)) wr.heap.size (cl6 f t') 106) := bk_new _ _ _
          have HRA := Lib.hid (HRW.out.call hal1)
          have HQA := Lib.hid ((HA7.out.keep hkz1).keep (.of_below hal1))
          have HQC := Lib.hid ((HC7.out.keep hkz1).keep (.of_below hal1))
          have HQD := Lib.hid ((HDD7.out.keep hkz1).keep (.of_below hal1))
          have hsB : w.heap.size ≤ (wr.alloc (.cells (cl6 f t') 106)).heap.size := Nat.le_trans HBX.out.size hal1.size
          have CL1 := Lib.hid (longer_any w.heap.size u15 r A C D ca cc cd o a b false d f _ HRA.out hsB (by omega) HQA.out HQC.out HQD.out lo la lb z1 z2 z3 (by omega) (by omega) (by omega))
          have y0 := HKA.out.cell 0 rfl
          have y1 := HKA.out.cell 1 rfl
          have y2 := HKA.out.cell 2 rfl
          have x0 : (wr.alloc (.cells (cl6 f t') 106)).cell? ⟨gD, 0, none⟩ = some (.int .i64 (d.1 : Int)) := HDA.out.cell 0 rfl
          have x1 : (wr.alloc (.cells (cl6 f t') 106)).cell? ⟨gD, 1, none⟩ = some (.int .i64 (d.2.1 : Int)) := HDA.out.cell 1 rfl
          have x2 : (wr.alloc (.cells (cl6 f t') 106)).cell? ⟨gD, 2, none⟩ = some (.int .i64 (d.2.2 : Int)) := HDA.out.cell 2 rfl
          have HBA : Hid (Below w.heap.size w (wr.alloc (.cells (cl6 f t') 106))) := HBX.out.trans (hal1.mono HBX.out.size)
          have HKZA : Hid (Kz gD w7 (wr.alloc (.cells (cl6 f t') 106))) := HKZ.out.then (.of_below hal1)
          clear hx hS hst hkz1 hal1 k1 HRW HDX HKZ HBX hlE
          unfold cl6 at y0 y1 y2 x0 x1 x2
          unfold ag3 at CL1
          go_wp2_with fail
          go_at_call 65
          refine CL1.out.mono ?_
          rintro e w3 ⟨v3, rfl, hv3, hg3⟩
          have hk3 := HRA.out.kq hg3
          have HK3 := Lib.hid (HKA.out.keep hk3 (by decide))
          have HD3 := Lib.hid (HDA.out.keep hk3 (by decide))
          have HE3 := Lib.hid (HEA.out.keep hk3 (by decide))
          have HA3 := Lib.hid (HQA.out.keep hk3.kp)
          have HC3 := Lib.hid (HQC.out.keep hk3.kp)
          have HDD3 := Lib.hid (HQD.out.keep hk3.kp)
          have HZ3 := Lib.hid (HKZA.out.then hk3)
          have HR3 := Lib.hid hv3
          have hs3 := hg3.size
          have HB3 : Hid (Below w.heap.size w w3) := HBA.out.grown hg3 HBA.out.size (fun k hk => (HRA.out.lt k hk).1)
          have CL2 := Lib.hid (longer_any w.heap.size v3 _ A C D ca cc cd o a b true f t' _ HR3.out HB3.out.size (by omega) HA3.out HC3.out HDD3.out lo la lb z4 z5 z6 z7 z8 z9)
          have y0 := HK3.out.cell 0 rfl
          have y1 := HK3.out.cell 1 rfl
          have y2 := HK3.out.cell 2 rfl
          have x0 : w3.cell? ⟨wr.heap.size, 0, none⟩ = some (.int .i64 (f.1 : Int)) := HE3.out.cell 0 rfl
          have x1 : w3.cell? ⟨wr.heap.size, 1, none⟩ = some (.int .i64 (f.2.1 : Int)) := HE3.out.cell 1 rfl
          have x2 : w3.cell? ⟨wr.heap.size, 2, none⟩ = some (.int .i64 (f.2.2 : Int)) := HE3.out.cell 2 rfl
          have x3 : w3.cell? ⟨wr.heap.size, 3, none⟩ = some (.int .i64 (t'.1 : Int)) := HE3.out.cell 3 rfl
          have x4 : w3.cell? ⟨wr.heap.size, 4, none⟩ = some (.int .i64 (t'.2.1 : Int)) := HE3.out.cell 4 rfl
          have x5 : w3.cell? ⟨wr.heap.size, 5, none⟩ = some (.int .i64 (t'.2.2 : Int)) := HE3.out.cell 5 rfl
          clear hv3 hg3 hk3 HKA HDA HEA HRA HQA HQC HQD HKZA HBA CL1 c0 c1 c2 c3 c4 c5 hsB
          unfold ag3 at CL2
          go_wp2_with fail
          go_at_call 65
          refine CL2.out.mono ?_
          rintro e w4 ⟨v4, rfl, hv4, hg4⟩
          have hk4 := HR3.out.kq hg4
          have HD4 := Lib.hid (HD3.out.keep hk4 (by decide))
          have HE4 := Lib.hid (HE3.out.keep hk4 (by decide))
          have HZ4 := Lib.hid (HZ3.out.then hk4)
          have HR4 := Lib.hid hv4
          have HB4 : Hid (Below w.heap.size w w4) := HB3.out.grown hg4 HB3.out.size (fun k hk => (HR3.out.lt k hk).1)
          have x3 : w4.cell? ⟨wr.heap.size, 3, none⟩ = some (.int .i64 (t'.1 : Int)) := HE4.out.cell 3 rfl
          have x4 : w4.cell? ⟨wr.heap.size, 4, none⟩ = some (.int .i64 (t'.2.1 : Int)) := HE4.out.cell 4 rfl
          have x5 : w4.cell? ⟨wr.heap.size, 5, none⟩ = some (.int .i64 (t'.2.2 : Int)) := HE4.out.cell 5 rfl
          have x0 : w4.cell? ⟨gD, 0, none⟩ = some (.int .i64 (d.1 : Int)) := HD4.out.cell 0 rfl
          have x1 : w4.cell? ⟨gD, 1, none⟩ = some (.int .i64 (d.2.1 : Int)) := HD4.out.cell 1 rfl
          have x2 : w4.cell? ⟨gD, 2, none⟩ = some (.int .i64 (d.2.2 : Int)) := HD4.out.cell 2 rfl
          have m0 := HD4.out.warm 0
          have m1 := HD4.out.warm 1
          have m2 := HD4.out.warm 2
          clear hv4 hg4 hk4 HK3 HD3 HE3 HA3 HC3 HDD3 HZ3 HR3 HB3 CL2 y0 y1 y2 HE4
          go_wp2_with fail
          go_roundw
          case rel =>
            refine ⟨n + 1, by go_num, by omega, ?_, ?_, ((HZ4.out.set _ _).set _ _).set _ _, ((HB4.out.setCell (p := ⟨gD, _, none⟩) hgD _).setCell (p := ⟨gD, _, none⟩) hgD _).setCell (p := ⟨gD, _, none⟩) hgD _⟩
            · rw [HST.out]
              exact HR4.out.keep (ks_set3 HD4.out _ _ _)
            · rw [HST.out]
              exact bk_set3 (e := t') HD4.out
          case measure => simp only [intOf]; omega
        · have hnN : n = NR + 1 := by omega
          have hfull : (stR o a b (E.take n)).2 = pie o a b := by rw [List.take_of_length_le (by rw [HEL.out]; omega)]; exact HAL2.out.2
          have HF := Lib.hid hfull
          have e2 : ¬ (n : Int) < ((NR + 1 : Nat) : Int) := by omega
          clear hfull hnN
          go_wp2_with fail
          go_ret2
          have hrow := HRW.out
          rw [HF.out] at hrow
          obtain ⟨cs, q1, q2, q3⟩ := hrow
          rw [HCH.out, HE.out]
          exact ⟨_, cs, rfl, q1, q2.isC, q3, HBX.out⟩
end Go.Proofs.YtkenmldiojeooaaGreat.Mg

namespace Go.Proofs.YtkenmldiojeooaaGreat.Ln
open Go.RowKit Tx Lm Aq
set_option linter.unusedVariables false
theorem join_empty (l : List (List UInt8)) : Lib.join l (ByteArray.mk #[]).data.toList = l.flatten := by
  cases l with
  | nil => rfl
  | cons x l =>
    rw [Lib.join_cons, Lib.joinTail]
    simp
set_option maxRecDepth 100000 in
theorem join_lines (bk o n c : Nat) (xs : List ByteArray) (w : World) (hn : xs.length = n)
    (hcells : ∀ (j : Nat) x, xs[j]? = some x → w.cell? ⟨bk, o + j, none⟩ = some (.string x))
    (hbk : bk < w.heap.size) (hN : n ≤ 140737488355328) (hcap : n ≤ c) (hlen : (cat xs).size ≤ 140737488355328) :
    Calls Tryz.prog 67 #[.slice (some ⟨bk, o, none⟩) n c] w fun e w' => e = .returned (.string (cat xs)) ∧ Below w.heap.size w w' := by
  subst hn
  have e : (cat xs) = ⟨(Lib.join (xs.map (·.data.toList)) (ByteArray.mk #[]).data.toList).toArray⟩ := by
    rw [cat, join_empty]; rfl
  have hl : (Lib.join (xs.map (·.data.toList)) (ByteArray.mk #[]).data.toList).length ≤ 140737488355328 := by
    rw [join_empty]
    rw [cat, tb_size] at hlen
    exact hlen
  have c1 := fun W (h : ∀ (j : Nat) x, xs[j]? = some x → W.cell? ⟨bk, o + j, none⟩ = some (.string x)) (h2 : bk < W.heap.size) => Any.strings_Join Tryz.lays156 Tryz.Builder_Extra_156 bk o c xs ⟨#[]⟩ W h h2 hN hcap hl
  rw [← e] at c1
  have HC := Lib.hid hcells
  have HB := Lib.hid hbk
  clear hcells e hl hlen hbk
  go_enter Tryz.func67, Tryz.ntmps67
  go_wp2_with (go_at_call 96; refine (c1 _ HC.out HB.out).mono ?_; rintro e w1 ⟨rfl, hb⟩)
  go_ret
  exact ⟨rfl, hb⟩
theorem made0 (w : World) : (w.alloc (.cells #[] 9)).ownsRow w.heap.size 9 1 (.slice (some ⟨w.heap.size, 0, none⟩) 0 0) 0 [] :=
  World.ownsRow_made w #[] 0 (Nat.le_refl _) (Nat.zero_le _) rfl
theorem below_first {w w1 : World} {o : Obj} (h : (w.alloc o).grownBy w1 (Value.slice (some ⟨w.heap.size, 0, none⟩) 0 0).ownBlock) : Below w.heap.size w w1 :=
  ((Below.refl _ w).alloc (Nat.le_refl _) o).grown h (by simp) (fun k hk => by simp [Value.ownBlock] at hk; omega)
set_option maxRecDepth 100000 in
set_option maxHeartbeats 1000000 in
theorem clone_any (b off n c : Nat) (l : List ByteArray) (w : World) (hs : Strs w (some ⟨b, off, none⟩) n l) (hn : n ≤ 8796093022207) :
    Calls Tryz.prog 95 #[.slice (some ⟨b, off, none⟩) n c] w (ListN l w) := by
  obtain ⟨i0, hi, hz0, hz1, hz2⟩ := info_parts info9
  have hln := hs.1
  have q22 : ∀ (w : World) (a : Option Addr) (n c n' c' : Nat), (binOp .eql 59 (.slice a n c) (.slice none n' c')).run Tryz.prog w = .ok (.bool a.isNone) w := fun w a n c n' c' => Lib.run_eql_slice_nil w _ _ a n c n' c' Tryz.underlying59
  go_enter Tryz.func95, Tryz.ntmps95
  go_wp2_with (at_builtin; refine wpList_append_own _ rfl _ _ 59 rfl w.heap.size 9 i0 (.string ⟨#[]⟩) 1 16 Tryz.underlying59 hi hz0 hz1 hz2 rfl (by decide) _ _ _ rfl (made0 w) ⟨b, off, none⟩ n c (l.map sv) rfl ?c0 ?c1 ?c2 ?c3 ?c4 ?c5 ?_)
  case c0 => rw [List.length_map, hln, Nat.mul_one]
  case c1 =>
    intro j u hu
    rw [List.getElem?_map] at hu
    obtain ⟨x, hx, rfl⟩ := Option.map_eq_some_iff.1 hu
    have hj := (List.getElem?_eq_some_iff.1 hx).1
    obtain ⟨b', off', ha, hbl, hc⟩ := hs.2.resolve_left (by omega)
    injection ha with ha
    injection ha with h1 h2
    subst h1
    subst h2
    rw [WideShapes.add_plain]
    exact (World.cell?_alloc_lt w _ _ hbl).trans (hc j x hx)
  case c2 => exact sv_one l
  case c3 => unfold maxLen; omega
  case c4 => omega
  case c5 => simp
  intro v1 w1 hown1 hg1 hnil
  have hown : w1.ownsRow w.heap.size 9 1 v1 n (l.map sv) := by simpa using hown1
  have hb1 := below_first hg1
  obtain ⟨g, cp, hv⟩ := own_some hown hnil
  subst hv
  clear hown1 hg1 hnil hs
  subst hln
  go_wp2_with fail
  go_ret
  exact ⟨g, cp, rfl, hown, hb1⟩
theorem clt_set (l : List ByteArray) (n : Nat) (hn : l.length = n + 1) : clt l = l.set n (clot (l[n]'(by omega))) := by
  have e : l = l.take n ++ [l[n]'(by omega)] := by rw [← List.take_succ_eq_append_getElem (by omega), ← hn, List.take_length]
  have h1 : clt l = l.take n ++ [clot (l[n]'(by omega))] := by
    conv => lhs; rw [e]
    rw [clt_snoc]
  rw [h1]
  apply List.ext_getElem?
  intro k
  by_cases hk : k = n
  · subst hk
    rw [List.getElem?_set_self (by omega), List.getElem?_append_right (by simp; omega), List.length_take, Nat.min_eq_left (by omega), Nat.sub_self]
    rfl
  · rw [List.getElem?_set_ne (fun e => hk e.symm)]
    by_cases hk2 : k < n
    · rw [List.getElem?_append_left (by simp; omega), List.getElem?_take, if_pos hk2]
    · rw [List.getElem?_eq_none (by simp; omega), List.getElem?_eq_none (by omega)]
theorem clot_yes {s : ByteArray} (h : ends s.data.toList = true) : clot s = s := by unfold clot; rw [if_pos h]
theorem clot_no {s : ByteArray} (h : ends s.data.toList = false) : clot s = s ++ ⟨#[10]⟩ := by unfold clot; rw [if_neg (by rw [h]; simp)]
set_option maxRecDepth 100000 in
set_option maxHeartbeats 2000000 in
theorem closed_lines (b off n c : Nat) (l : List ByteArray) (w : World) (hs : Strs w (some ⟨b, off, none⟩) n l) (hn : n ≤ 8796093022207) (hsz0 : ∀ (k : Nat) (x : ByteArray), l[k]? = some x → x.size ≤ 140737488355328) :
    Calls Tryz.prog 97 #[.slice (some ⟨b, off, none⟩) n c] w (ListN (clt l) w) := by
  have hln := hs.1
  have c1 := fun W h => clone_any b off n c l W h hn
  have HS := Lib.hid hs
  clear hs
  unfold ListN at c1
  rw [hln] at c1
  by_cases h0 : n = 0
  · subst h0
    have hl0 : l = [] := List.length_eq_zero_iff.1 hln
    have HE : Hid (clt l = l) := by show clt l = l; rw [hl0]; rfl
    clear hl0
    go_enter Tryz.func97, Tryz.ntmps97
    go_wp2_with fail
    go_at_call 95
    refine (c1 _ HS.out).mono ?_
    rintro e w1 ⟨g, cp, rfl, htx, hb1⟩
    go_wp2_with fail
    go_ret
    unfold ListN
    rw [HE.out, hln]
    exact ⟨g, cp, rfl, htx, hb1⟩
  · obtain ⟨m, rfl⟩ : ∃ m, n = m + 1 := ⟨n - 1, by omega⟩
    have HL := Lib.hid (clt_set l m hln)
    have HLEN : Hid ((clt l).length = m + 1) := by show (clt l).length = m + 1; rw [clt_len, hln]
    obtain ⟨S, hS⟩ : ∃ S, S = l[m]'(by omega) := ⟨_, rfl⟩
    have hss : S.size ≤ 140737488355328 := hsz0 m S (by rw [hS]; exact List.getElem?_eq_getElem (by omega))
    have HSET := HL.out
    rw [← hS] at HSET
    have HX : Hid (l[m]? = some S) := by show l[m]? = some S; rw [hS]; exact List.getElem?_eq_getElem (by omega)
    have HN := Lib.hid HSET
    have em : IntKind.i64.wrap ((m : Int) + 1 - 1) = (m : Int) := by rw [show (m : Int) + 1 - 1 = m by omega]; exact IntWalk.i64_in _ (by omega)
    have em2 : (m : Int) + 1 - 1 = (m : Int) := by omega
    have c2 := fun W => ended_any S W (by omega)
    have HLN := Lib.hid hln
    clear HSET hS HL h0 hsz0 hln
    cases hE : ends S.data.toList with
    | true =>
      have HC := Lib.hid (clot_yes hE)
      rw [hE] at c2
      have HEND : Hid (clt l = l) := by
        show clt l = l
        rw [HN.out, HC.out]
        have h := HX.out
        obtain ⟨h1, h2⟩ := List.getElem?_eq_some_iff.1 h
        rw [← h2, List.set_getElem_self]
      clear hE
      go_enter Tryz.func97, Tryz.ntmps97
      go_wp2_with fail
      go_at_call 95
      refine (c1 _ HS.out).mono ?_
      rintro e w1 ⟨g, cp, rfl, htx, hb1⟩
      have htx' := htx
      unfold Texts at htx'
      rw [HLN.out] at htx'
      have hcell : w1.cell? ⟨g, m, none⟩ = some (.string S) := own_cell htx' (by rw [List.getElem?_map, HX.out]; rfl)
      clear htx'
      have HTX := Lib.hid htx
      clear htx
      go_wp2_with (go_at_call 113; refine (c2 _).mono ?_; rintro e w' ⟨rfl, rfl⟩)
      go_ret
      unfold ListN
      rw [HEND.out, HLN.out]
      exact ⟨g, cp, rfl, HTX.out, hb1⟩
    | false =>
      have HC := Lib.hid (clot_no hE)
      rw [hE] at c2
      clear hE
      go_enter Tryz.func97, Tryz.ntmps97
      go_wp2_with fail
      go_at_call 95
      refine (c1 _ HS.out).mono ?_
      rintro e w1 ⟨g, cp, rfl, htx, hb1⟩
      have htx' := htx
      unfold Texts at htx'
      rw [HLN.out] at htx'
      have hcell : w1.cell? ⟨g, m, none⟩ = some (.string S) := own_cell htx' (by rw [List.getElem?_map, HX.out]; rfl)
      have hfz := own_frozen htx' m
      have HST := Lib.hid (own_store htx' (show m < m + 1 by omega) (sv (S ++ ⟨#[10]⟩)))
      have hg : w.heap.size ≤ g := (htx'.lt g rfl).1
      clear htx' htx
      go_wp2_with (go_at_call 113; refine (c2 _).mono ?_; rintro e w' ⟨rfl, rfl⟩)
      go_ret
      have hT : Texts (w1.setCell ⟨g, m, none⟩ (.string (S ++ ⟨#[10]⟩))) w.heap.size (.slice (some ⟨g, 0, none⟩) (m + 1) cp) (clt l) := by
        unfold Texts
        rw [HLEN.out, HN.out, HC.out, List.map_set]
        exact HST.out
      unfold ListN
      rw [HLEN.out]
      exact ⟨g, cp, rfl, hT, hb1.setCell (p := ⟨g, m, none⟩) hg _⟩
end Go.Proofs.YtkenmldiojeooaaGreat.Ln

namespace Go.Proofs.YtkenmldiojeooaaGreat.Mg
open Go.RowKit Go.ChangeShapes Go.WideShapes Tx Um Ud Aq Km Kd Lm Ln
set_option linter.unusedVariables false
theorem join_lo {w : World} {B : Nat} {v : Value} {l : List ByteArray} (h : Lo w B v l) (hsz : (cat l).size ≤ 140737488355328) (hln : l.length ≤ 140737488355328) :
    Calls Tryz.prog 67 #[v] w fun e w' => e = .returned (.string (cat l)) ∧ Below w.heap.size w w' := by
  rcases h.2 with ⟨rfl, h0⟩ | ⟨g, cap, cur, rfl, hg, hh, hn, hc, hs, ht⟩
  · obtain rfl : l = [] := List.length_eq_zero_iff.1 h0
    clear h hsz hln
    go_enter Tryz.func67, Tryz.ntmps67
    go_wp2_with (go_at_call 96; refine (Any.strings_Join_none Tryz.lays156 Tryz.Builder_Extra_156 none 0 ⟨#[]⟩ w).mono ?_; rintro e w1 ⟨rfl, rfl⟩)
    go_ret
    exact ⟨rfl, Below.refl _ _⟩
  · refine join_lines g 0 l.length cap l w rfl (fun j x hx => ?_) (Array.getElem?_eq_some_iff.1 hh).1 hln hn hsz
    have e1 := World.ownsRow.cells (g := g) h rfl j (.string x) (by rw [List.getElem?_map, hx]; rfl)
    rw [WideShapes.add_plain] at e1
    exact e1
theorem lo_strs {w : World} {B : Nat} {A : Option Addr} {n c : Nat} {l : List ByteArray} (h : Lo w B (.slice A n c) l) : n = l.length ∧ Strs w A l.length l ∧ l.length ≤ c ∧ (A = none → c = 0) := by
  rcases h.2 with ⟨h0, h1⟩ | ⟨g, cap, cur, hv, hg, hh, hn, hc, hs, ht⟩
  · injection h0 with h2 h3 h4
    subst h2 h3 h4
    refine ⟨by omega, ⟨rfl, .inl (by omega)⟩, by omega, fun _ => rfl⟩
  · injection hv with h2 h3 h4
    subst h2 h3 h4
    refine ⟨rfl, ⟨rfl, .inr ⟨g, 0, rfl, (Array.getElem?_eq_some_iff.1 hh).1, fun k x hx => ?_⟩⟩, hn, fun h => by cases h⟩
    rw [Nat.zero_add]
    exact own_cell h (by rw [List.getElem?_map, hx]; rfl)
structure Pt (s t u : ByteArray) (L : List (Ck ByteArray)) : Prop where
  base : (L.map (·.b)).flatten = lns s
  left : (L.map (·.l)).flatten = lns t
  right : (L.map (·.r)).flatten = lns u
  full : ∀ c, c ∈ L → 0 < c.b.length + c.l.length + c.r.length ∧ (c.st = true → c.b = c.l ∧ c.b = c.r)
  turns : ∀ (n : Nat) c d, L[n]? = some c → L[n + 1]? = some d → c.st ≠ d.st
theorem pt_pcs3 (s t u : ByteArray) : Pt s t u (pcs3 s t u) := by
  have hp := pie_pcs (lns s) (lns t) (lns u)
  unfold pcs3
  refine ⟨pie_base _ _ _, pie_left _ _ _, pie_right _ _ _, fun c hc => hp.full c (List.mem_reverse.1 hc), fun n c d hc hd => ?_⟩
  have hn := (List.getElem?_eq_some_iff.1 hd).1
  rw [List.length_reverse] at hn
  rw [List.getElem?_reverse (by omega)] at hc hd
  have e : (pie (lns s) (lns t) (lns u)).length - 1 - n = ((pie (lns s) (lns t) (lns u)).length - 1 - (n + 1)) + 1 := by omega
  rw [e] at hc
  exact fun h => hp.turns _ d c hd hc h.symm
end Go.Proofs.YtkenmldiojeooaaGreat.Mg

namespace Go.Proofs.YtkenmldiojeooaaGreat.Mg
open Go.RowKit Go.ChangeShapes Go.WideShapes Tx Um Ud Aq Km Kd Lm Ln
set_option linter.unusedVariables false
set_option maxRecDepth 100000 in
theorem kequal_ne (A B : Option Addr) (ca cb n m : Nat) (w : World) (h : n ≠ m) (hn : n ≤ 4611686018427387903) (hm : m ≤ 4611686018427387903) :
    Calls Tryz.prog 66 #[.slice A n ca, .slice B m cb] w fun e w' => e = .returned (.bool false) ∧ Below w.heap.size w w' := by
  have e0 : ((n : Int) == (m : Int)) = false := beq_eq_false_iff_ne.2 (by omega)
  have e1 : (n == m) = false := beq_eq_false_iff_ne.2 h
  have e2 : ¬ (n : Int) = (m : Int) := by omega
  go_enter Tryz.func66, Tryz.ntmps66
  go_wp2_with fail
  go_ret
  exact ⟨rfl, Below.refl _ _⟩
theorem keq (A B : Option Addr) (ca cb : Nat) (a l : List ByteArray) (w : World) (hA : Strs w A a.length a) (hB : Strs w B l.length l) (ha : a.length ≤ 4611686018427387903) (hl : l.length ≤ 4611686018427387903) :
    Calls Tryz.prog 66 #[.slice A a.length ca, .slice B l.length cb] w fun e w' => e = .returned (.bool (decide (a = l))) ∧ Below w.heap.size w w' := by
  by_cases h : a.length = l.length
  · have c := kequal_any A B ca cb a.length a l w hA (by rw [h]; exact hB) ha
    rw [h] at c ⊢
    exact c
  · rw [decide_eq_false (fun e => h (by rw [e]))]
    exact kequal_ne A B ca cb _ _ w h ha hl
set_option maxRecDepth 100000 in
theorem closed_nil (w : World) : Calls Tryz.prog 97 #[.slice none 0 0] w (LoTo [] w) := by
  have c := kclone_any none 0 0 [] w ⟨rfl, .inl rfl⟩ (fun _ => rfl) (by omega)
  unfold LoTo at c
  go_enter Tryz.func97, Tryz.ntmps97
  go_wp2_with fail
  go_at_call 95
  refine c.mono ?_
  rintro e w1 ⟨v, rfl, h1, hb⟩
  have HL := Lib.hid h1
  obtain ⟨A, n, hv⟩ := h1.form
  subst hv
  clear c h1
  go_wp2_with fail
  go_ret
  exact ⟨_, rfl, HL.out, hb⟩
theorem closed_lo {w : World} {B : Nat} {v : Value} {l : List ByteArray} (h : Lo w B v l) (hn : l.length ≤ 400) (hs : ∀ (k : Nat) (x : ByteArray), l[k]? = some x → x.size ≤ 140737488355328) :
    Calls Tryz.prog 97 #[v] w (LoTo (clt l) w) := by
  rcases h.2 with ⟨rfl, h0⟩ | ⟨g, cap, cur, rfl, hg, hh, hn2, hc, _⟩
  · obtain rfl : l = [] := List.length_eq_zero_iff.1 h0
    rw [clt_nil]
    exact closed_nil w
  · obtain ⟨_, h1, _, _⟩ := lo_strs h
    refine (closed_lines g 0 l.length cap l w h1 (by omega) hs).mono ?_
    rintro e w1 ⟨g1, c1, rfl, h2, h3⟩
    exact ⟨_, rfl, h2, h3⟩
theorem cat_get {l : List ByteArray} {k : Nat} {x : ByteArray} (h : l[k]? = some x) : x.size ≤ (cat l).size := by
  have hm := List.mem_iff_getElem?.2 ⟨k, h⟩
  clear h
  induction l with
  | nil => cases hm
  | cons y l ih =>
    have e : cat (y :: l) = y ++ cat l := by
      apply ByteArray.ext
      simp [cat, tb]
    rw [e, ByteArray.size_append]
    rcases List.mem_cons.1 hm with rfl | h
    · omega
    · have := ih h
      omega
theorem clot_size2 (s : ByteArray) : (clot s).size ≤ s.size + 1 := by
  unfold clot
  split
  · omega
  · rw [ByteArray.size_append]
    exact Nat.le_refl _
theorem clt_size2 (l : List ByteArray) : (cat (clt l)).size ≤ (cat l).size + 1 := by
  rcases List.eq_nil_or_concat l with rfl | ⟨k, y, rfl⟩
  · rw [clt_nil]; omega
  · rw [List.concat_eq_append, clt_snoc, cat_app, cat_app, ByteArray.size_append, ByteArray.size_append]
    have e : ∀ z, cat [z] = z := fun z => by
      apply ByteArray.ext
      simp [cat, tb]
    rw [e, e]
    have := clot_size2 y
    omega
set_option maxRecDepth 100000 in
theorem mclosed_any {w : World} {B : Nat} {v : Value} {l : List ByteArray} (h : Lo w B v l) (hn : l.length ≤ 400) (hs : (cat l).size ≤ 8388608) :
    Calls Tryz.prog 68 #[v] w fun e w' => e = .returned (.string (cat (clt l))) ∧ Below w.heap.size w w' := by
  have c1 := closed_lo h hn (fun k x hx => by have := cat_get hx; omega)
  have hcl := clt_len l
  have hcs := clt_size2 l
  have C1 := Lib.hid c1
  clear c1
  obtain ⟨A, n, hv⟩ := h.form
  subst hv
  clear h
  go_enter Tryz.func68, Tryz.ntmps68
  go_wp2_with fail
  go_at_call 97
  refine C1.out.mono ?_
  rintro e w1 ⟨v1, rfl, h1, hb1⟩
  have C2 := Lib.hid (join_lo h1 (by omega) (by omega))
  clear h1 C1
  go_wp2_with fail
  go_at_call 67
  refine C2.out.mono ?_
  rintro e w2 ⟨rfl, hb2⟩
  have hb3 := below_call hb1 hb2
  clear C2 hb1 hb2
  go_wp2_with fail
  go_ret
  exact ⟨rfl, hb3⟩
def MdTo (c : Ck ByteArray) (w : World) (e : Ending) (w' : World) : Prop := e = .returned (.tuple #[.string (match pick c with | some l => cat l | none => ⟨#[]⟩), .bool (pick c).isSome]) ∧ Below w.heap.size w w'
theorem pick_one {c : Ck ByteArray} (h : c.l = c.r ∨ c.r = c.b) : pick c = some c.l := by unfold pick; rw [if_pos (.inr h)]
theorem pick_two {c : Ck ByteArray} (hs : Same3 c) (h1 : ¬ c.l = c.r) (h2 : ¬ c.r = c.b) : pick c = if c.l = c.b then some c.r else none := by
  unfold pick
  rw [if_neg]
  rintro (h | h | h)
  · obtain ⟨k1, k2⟩ := hs h
    exact h1 (k1.symm.trans k2)
  · exact h1 h
  · exact h2 h
set_option maxRecDepth 100000 in
set_option maxHeartbeats 2000000 in
theorem merged_any {w : World} {B : Nat} {vb vl vr : Value} (c : Ck ByteArray) (hB : Lo w B vb c.b) (hL : Lo w B vl c.l) (hR : Lo w B vr c.r) (hs : Same3 c) (nb : c.b.length ≤ 400) (nl : c.l.length ≤ 400) (nr : c.r.length ≤ 400) (zl : (cat c.l).size ≤ 8388608) (zr : (cat c.r).size ≤ 8388608) :
    Calls Tryz.prog 44 #[.agg #[.bool c.st, vb, vl, vr]] w (MdTo c w) := by
  obtain ⟨Ab, kb, rfl, sB, _⟩ := lo_all hB
  obtain ⟨Al, kl, rfl, sL, _⟩ := lo_all hL
  obtain ⟨Ar, kr, rfl, sR, _⟩ := lo_all hR
  obtain ⟨W1, hW1⟩ : ∃ W1, W1 = w.alloc (.cells #[.bool c.st, .slice Ab c.b.length kb, .slice Al c.l.length kl, .slice Ar c.r.length kr] 76) := ⟨_, rfl⟩
  have hb0 : Below w.heap.size w W1 := by rw [hW1]; exact (Below.refl _ w).alloc (Nat.le_refl _) _
  have hk0 : Bk W1 w.heap.size #[.bool c.st, .slice Ab c.b.length kb, .slice Al c.l.length kl, .slice Ar c.r.length kr] 76 := by rw [hW1]; exact bk_new _ _ _
  have hlt := hk0.lt
  have CE1 := fun W (h : Below W1.heap.size W1 W) => keq Al Ar kl kr c.l c.r W ((sL.below hb0).below h) ((sR.below hb0).below h) (by omega) (by omega)
  have CE2 := fun W (h : Below W1.heap.size W1 W) => keq Ar Ab kr kb c.r c.b W ((sR.below hb0).below h) ((sB.below hb0).below h) (by omega) (by omega)
  have CE3 := fun W (h : Below W1.heap.size W1 W) => keq Al Ab kl kb c.l c.b W ((sL.below hb0).below h) ((sB.below hb0).below h) (by omega) (by omega)
  have CJ1 := fun W (h : Below W1.heap.size W1 W) => join_lo ((hL.below hb0).below h) (by omega) (by omega)
  have CJ2 := fun W (h : Below W1.heap.size W1 W) => join_lo ((hR.below hb0).below h) (by omega) (by omega)
  have HCL : Hid (∀ W, Below W1.heap.size W1 W → W.cell? ⟨w.heap.size, 1, none⟩ = some (.slice Ab c.b.length kb) ∧ W.cell? ⟨w.heap.size, 2, none⟩ = some (.slice Al c.l.length kl) ∧ W.cell? ⟨w.heap.size, 3, none⟩ = some (.slice Ar c.r.length kr)) := fun W h =>
    ⟨(hk0.below h hlt).cell 1 rfl, (hk0.below h hlt).cell 2 rfl, (hk0.below h hlt).cell 3 rfl⟩
  have HB0 := Lib.hid hb0
  have H1 := Lib.hid CE1
  have H2 := Lib.hid CE2
  have H3 := Lib.hid CE3
  have HJ1 := Lib.hid CJ1
  have HJ2 := Lib.hid CJ2
  clear hB hL hR sB sL sR hb0 hk0 hlt CE1 CE2 CE3 CJ1 CJ2
  by_cases d1 : c.l = c.r
  · have e1 := decide_eq_true d1
    have HP := Lib.hid (pick_one (.inl d1))
    clear d1
    go_enter Tryz.func44, Tryz.ntmps44
    go_wp2_with fail
    rw [← hW1]
    clear hW1
    have hbA : Below W1.heap.size W1 W1 := Below.refl _ _
    go_at_call 66
    refine (H1.out _ hbA).mono ?_
    rintro e w2 ⟨rfl, kw2⟩
    rw [e1]
    have hw2 := below_call hbA kw2
    obtain ⟨x1, x2, x3⟩ := HCL.out _ hw2
    clear kw2
    go_wp2_with fail
    go_at_call 67
    refine (HJ1.out _ hw2).mono ?_
    rintro e w9 ⟨rfl, k9⟩
    have h9 := below_call hw2 k9
    clear x1 x2 x3 k9
    go_wp2_with fail
    go_ret2
    unfold MdTo
    rw [HP.out]
    exact ⟨rfl, HB0.out.trans (h9.mono HB0.out.size)⟩
  · have e1 := decide_eq_false d1
    by_cases d2 : c.r = c.b
    · have e2 := decide_eq_true d2
      have HP := Lib.hid (pick_one (.inr d2))
      clear d1 d2
      go_enter Tryz.func44, Tryz.ntmps44
      go_wp2_with fail
      rw [← hW1]
      clear hW1
      have hbA : Below W1.heap.size W1 W1 := Below.refl _ _
      go_at_call 66
      refine (H1.out _ hbA).mono ?_
      rintro e w2 ⟨rfl, kw2⟩
      rw [e1]
      have hw2 := below_call hbA kw2
      obtain ⟨x1, x2, x3⟩ := HCL.out _ hw2
      clear kw2
      go_wp2_with fail
      go_at_call 66
      refine (H2.out _ hw2).mono ?_
      rintro e w3 ⟨rfl, kw3⟩
      rw [e2]
      have hw3 := below_call hw2 kw3
      obtain ⟨x1, x2, x3⟩ := HCL.out _ hw3
      clear kw3
      go_wp2_with fail
      go_at_call 67
      refine (HJ1.out _ hw3).mono ?_
      rintro e w9 ⟨rfl, k9⟩
      have h9 := below_call hw3 k9
      clear x1 x2 x3 k9
      go_wp2_with fail
      go_ret2
      unfold MdTo
      rw [HP.out]
      exact ⟨rfl, HB0.out.trans (h9.mono HB0.out.size)⟩
    · have e2 := decide_eq_false d2
      have hp := pick_two hs d1 d2
      by_cases d3 : c.l = c.b
      · have e3 := decide_eq_true d3
        rw [if_pos d3] at hp
        have HP := Lib.hid hp
        clear d1 d2 d3 hp
        go_enter Tryz.func44, Tryz.ntmps44
        go_wp2_with fail
        rw [← hW1]
        clear hW1
        have hbA : Below W1.heap.size W1 W1 := Below.refl _ _
        go_at_call 66
        refine (H1.out _ hbA).mono ?_
        rintro e w2 ⟨rfl, kw2⟩
        rw [e1]
        have hw2 := below_call hbA kw2
        obtain ⟨x1, x2, x3⟩ := HCL.out _ hw2
        clear kw2
        go_wp2_with fail
        go_at_call 66
        refine (H2.out _ hw2).mono ?_
        rintro e w3 ⟨rfl, kw3⟩
        rw [e2]
        have hw3 := below_call hw2 kw3
        obtain ⟨x1, x2, x3⟩ := HCL.out _ hw3
        clear kw3
        go_wp2_with fail
        go_at_call 66
        refine (H3.out _ hw3).mono ?_
        rintro e w4 ⟨rfl, kw4⟩
        rw [e3]
        have hw4 := below_call hw3 kw4
        obtain ⟨x1, x2, x3⟩ := HCL.out _ hw4
        clear kw4
        go_wp2_with fail
        go_at_call 67
        refine (HJ2.out _ hw4).mono ?_
        rintro e w9 ⟨rfl, k9⟩
        have h9 := below_call hw4 k9
        clear x1 x2 x3 k9
        go_wp2_with fail
        go_ret2
        unfold MdTo
        rw [HP.out]
        exact ⟨rfl, HB0.out.trans (h9.mono HB0.out.size)⟩
      · have e3 := decide_eq_false d3
        rw [if_neg d3] at hp
        have HP := Lib.hid hp
        clear d1 d2 d3 hp
        go_enter Tryz.func44, Tryz.ntmps44
        go_wp2_with fail
        rw [← hW1]
        clear hW1
        have hbA : Below W1.heap.size W1 W1 := Below.refl _ _
        go_at_call 66
        refine (H1.out _ hbA).mono ?_
        rintro e w2 ⟨rfl, kw2⟩
        rw [e1]
        have hw2 := below_call hbA kw2
        obtain ⟨x1, x2, x3⟩ := HCL.out _ hw2
        clear kw2
        go_wp2_with fail
        go_at_call 66
        refine (H2.out _ hw2).mono ?_
        rintro e w3 ⟨rfl, kw3⟩
        rw [e2]
        have hw3 := below_call hw2 kw3
        obtain ⟨x1, x2, x3⟩ := HCL.out _ hw3
        clear kw3
        go_wp2_with fail
        go_at_call 66
        refine (H3.out _ hw3).mono ?_
        rintro e w4 ⟨rfl, kw4⟩
        rw [e3]
        have hw4 := below_call hw3 kw4
        obtain ⟨x1, x2, x3⟩ := HCL.out _ hw4
        clear kw4
        go_wp2_with fail
        go_ret2
        unfold MdTo
        rw [HP.out]
        exact ⟨rfl, HB0.out.trans (hw4.mono HB0.out.size)⟩
end Go.Proofs.YtkenmldiojeooaaGreat.Mg

namespace Go.Proofs.YtkenmldiojeooaaGreat.Mg
open Go.RowKit Go.ChangeShapes Go.WideShapes Tx Um Ud Aq Km Kd Lm Ln
set_option linter.unusedVariables false
set_option maxRecDepth 100000 in
set_option maxHeartbeats 4000000 in
theorem markReg (ops : Array Oper) (hops : ops = (Rg.opsOf Tryz.f45 1)) (id : Nat) (pc : Nat) (vl vr : Value) (x y s1 s2 s3 s4 : ByteArray) {u0 u2 u3 u4 u5 u6 u7 u8 u9 u10 u11 u12 : Value} (w : World) (X : World → Prop)
    (hX : ∀ W, X W → W.cell? ⟨pc, 2, none⟩ = some vl ∧ W.cell? ⟨pc, 3, none⟩ = some vr) (hw : X w.drew)
    (S1 : ∀ W : World, (binOp .add 9 (.string AH) (.string x)).run Tryz.prog W = .ok (.string s1) W)
    (S2 : ∀ W : World, (binOp .add 9 (.string s1) (.string MI)).run Tryz.prog W = .ok (.string s2) W)
    (S3 : ∀ W : World, (binOp .add 9 (.string s2) (.string y)).run Tryz.prog W = .ok (.string s3) W)
    (S4 : ∀ W : World, (binOp .add 9 (.string s3) (.string BH)).run Tryz.prog W = .ok (.string s4) W)
    (hA : ∀ W, X W → Calls Tryz.prog 68 #[vl] W fun e w' => e = .returned (.string x) ∧ X w')
    (hB : ∀ W, X W → Calls Tryz.prog 68 #[vr] W fun e w' => e = .returned (.string y) ∧ X w') :
    (Code.region id ops true).wp Tryz.prog (Rg.Only fun a' w' => a' = ⟨#[u0, (.pointer (some ⟨pc, 0, none⟩)), (.string s4), (.pointer (some ⟨pc, 2, none⟩)), vl, (.string x), (.string s1), (.string s2), (.pointer (some ⟨pc, 3, none⟩)), vr, (.string y), (.string s3), (.string s4)], []⟩ ∧ X w') ⟨#[u0, (.pointer (some ⟨pc, 0, none⟩)), u2, u3, u4, u5, u6, u7, u8, u9, u10, u11, u12], []⟩ w := by
  subst hops
  have hNS : Region.noSelect (Rg.opsOf Tryz.f45 1) = true := by kernel_rfl
  refine wp_region_held_drew (S := X) (by kernel_rfl) hw (fun hHeld => ?_)
  rw [show (Rg.opsOf Tryz.f45 1).size = 11 by kernel_rfl]
  refine Rg.take (ops := (Rg.opsOf Tryz.f45 1)) 0 (some 3) ((.pointer (some ⟨pc, 2, none⟩))) hNS (by kernel_rfl) (by kernel_rfl) (by kernel_rfl) (by kernel_rfl) (by kernel_rfl) hHeld (Rg.y_field (T := 76) (k := 2) (x := (Operand.tmp 1)) (vx := (.pointer (some ⟨pc, 0, none⟩))) (by kernel_rfl) (by kernel_rfl) ?_) ?_
  · (intro W hSw; clear hSw hHeld; go_simp)
  refine Rg.take (ops := (Rg.opsOf Tryz.f45 1)) 1 (some 4) (vl) hNS (by kernel_rfl) (by kernel_rfl) (by kernel_rfl) (by kernel_rfl) (by kernel_rfl) hHeld (Rg.y_load (T := 59) (x := (Operand.tmp 3)) (vx := (.pointer (some ⟨pc, 2, none⟩))) (by kernel_rfl) (by kernel_rfl) ?_) ?_
  · (intro W hSw; obtain ⟨s0, s1⟩ := hX _ hSw; clear hSw hHeld; go_simp)
  refine Rg.take (ops := (Rg.opsOf Tryz.f45 1)) 5 (some 8) ((.pointer (some ⟨pc, 3, none⟩))) hNS (by kernel_rfl) (by kernel_rfl) (by kernel_rfl) (by kernel_rfl) (by kernel_rfl) hHeld (Rg.y_field (T := 76) (k := 3) (x := (Operand.tmp 1)) (vx := (.pointer (some ⟨pc, 0, none⟩))) (by kernel_rfl) (by kernel_rfl) ?_) ?_
  · (intro W hSw; clear hSw hHeld; go_simp)
  refine Rg.take (ops := (Rg.opsOf Tryz.f45 1)) 6 (some 9) (vr) hNS (by kernel_rfl) (by kernel_rfl) (by kernel_rfl) (by kernel_rfl) (by kernel_rfl) hHeld (Rg.y_load (T := 59) (x := (Operand.tmp 8)) (vx := (.pointer (some ⟨pc, 3, none⟩))) (by kernel_rfl) (by kernel_rfl) ?_) ?_
  · (intro W hSw; obtain ⟨s0, s1⟩ := hX _ hSw; clear hSw hHeld; go_simp)
  refine Rg.call (ops := (Rg.opsOf Tryz.f45 1)) (fn := Tryz.f68) (xs := #[Operand.tmp 4]) (ats := #[59]) 2 (some 5) 68 #[vl] (by kernel_rfl) (by kernel_rfl) (by kernel_rfl) (by kernel_rfl) (by kernel_rfl) Tryz.func68 (by kernel_rfl) (by kernel_rfl) (by kernel_rfl) ?_
  refine (hA _ hHeld).mono ?_
  rintro e w5 ⟨rfl, k5⟩
  refine ⟨_, rfl, k5, fun hHeld => ?_⟩
  refine Rg.take (ops := (Rg.opsOf Tryz.f45 1)) 3 (some 6) ((.string s1)) hNS (by kernel_rfl) (by kernel_rfl) (by kernel_rfl) (by kernel_rfl) (by kernel_rfl) hHeld (Rg.y_bin (b := BinOp.add) (T := 9) (R' := 9) (x := (Operand.const (Value.string { data := #[60, 60, 60, 60, 60, 60, 60, 10] }))) (y := (Operand.tmp 5)) (vx := (Value.string { data := #[60, 60, 60, 60, 60, 60, 60, 10] })) (vy := (.string x)) (by kernel_rfl) (by kernel_rfl) (by kernel_rfl) ?_) ?_
  · (intro W hSw; clear hSw hHeld; exact S1 W)
  refine Rg.take (ops := (Rg.opsOf Tryz.f45 1)) 4 (some 7) ((.string s2)) hNS (by kernel_rfl) (by kernel_rfl) (by kernel_rfl) (by kernel_rfl) (by kernel_rfl) hHeld (Rg.y_bin (b := BinOp.add) (T := 9) (R' := 9) (x := (Operand.tmp 6)) (y := (Operand.const (Value.string { data := #[61, 61, 61, 61, 61, 61, 61, 10] }))) (vx := (.string s1)) (vy := (Value.string { data := #[61, 61, 61, 61, 61, 61, 61, 10] })) (by kernel_rfl) (by kernel_rfl) (by kernel_rfl) ?_) ?_
  · (intro W hSw; clear hSw hHeld; exact S2 W)
  refine Rg.call (ops := (Rg.opsOf Tryz.f45 1)) (fn := Tryz.f68) (xs := #[Operand.tmp 9]) (ats := #[59]) 7 (some 10) 68 #[vr] (by kernel_rfl) (by kernel_rfl) (by kernel_rfl) (by kernel_rfl) (by kernel_rfl) Tryz.func68 (by kernel_rfl) (by kernel_rfl) (by kernel_rfl) ?_
  refine (hB _ hHeld).mono ?_
  rintro e w6 ⟨rfl, k6⟩
  refine ⟨_, rfl, k6, fun hHeld => ?_⟩
  refine Rg.take (ops := (Rg.opsOf Tryz.f45 1)) 8 (some 11) ((.string s3)) hNS (by kernel_rfl) (by kernel_rfl) (by kernel_rfl) (by kernel_rfl) (by kernel_rfl) hHeld (Rg.y_bin (b := BinOp.add) (T := 9) (R' := 9) (x := (Operand.tmp 7)) (y := (Operand.tmp 10)) (vx := (.string s2)) (vy := (.string y)) (by kernel_rfl) (by kernel_rfl) (by kernel_rfl) ?_) ?_
  · (intro W hSw; clear hSw hHeld; exact S3 W)
  refine Rg.take (ops := (Rg.opsOf Tryz.f45 1)) 9 (some 12) ((.string s4)) hNS (by kernel_rfl) (by kernel_rfl) (by kernel_rfl) (by kernel_rfl) (by kernel_rfl) hHeld (Rg.y_bin (b := BinOp.add) (T := 9) (R' := 9) (x := (Operand.tmp 11)) (y := (Operand.const (Value.string { data := #[62, 62, 62, 62, 62, 62, 62, 10] }))) (vx := (.string s3)) (vy := (Value.string { data := #[62, 62, 62, 62, 62, 62, 62, 10] })) (by kernel_rfl) (by kernel_rfl) (by kernel_rfl) ?_) ?_
  · (intro W hSw; clear hSw hHeld; exact S4 W)
  refine Rg.take (ops := (Rg.opsOf Tryz.f45 1)) 10 (some 2) ((.string s4)) hNS (by kernel_rfl) (by kernel_rfl) (by kernel_rfl) (by kernel_rfl) (by kernel_rfl) hHeld (Rg.y_move (x := (Operand.tmp 12)) (Or.inr (by kernel_rfl)) (by kernel_rfl)) ?_
  refine Rg.done (ops := (Rg.opsOf Tryz.f45 1)) (by kernel_rfl) ?_
  exact ⟨by kernel_rfl, hHeld⟩
end Go.Proofs.YtkenmldiojeooaaGreat.Mg

namespace Go.Proofs.YtkenmldiojeooaaGreat.Mg
open Go.RowKit Go.ChangeShapes Go.WideShapes Tx Um Ud Aq Km Kd Lm Ln
set_option linter.unusedVariables false
theorem run_plus (a b : ByteArray) (h : a.size + b.size ≤ 9223372036854775807) (W : World) : (binOp .add 9 (.string a) (.string b)).run Tryz.prog W = .ok (.string (a ++ b)) W := by
  have h1 := run_string_add_sum (P := Tryz.prog) (w := W) a b h
  have h2 : ¬ ((9223372036854775807 : Int) < (a.size : Int) + (b.size : Int)) := by omega
  simpa [binOp] using h1
set_option maxRecDepth 100000 in
set_option maxHeartbeats 2000000 in
theorem marked_any {w : World} {B : Nat} {vb vl vr : Value} (c : Ck ByteArray) (hB : Lo w B vb c.b) (hL : Lo w B vl c.l) (hR : Lo w B vr c.r) (nl : c.l.length ≤ 400) (nr : c.r.length ≤ 400) (zl : (cat c.l).size ≤ 8388608) (zr : (cat c.r).size ≤ 8388608) :
    Calls Tryz.prog 45 #[.agg #[.bool c.st, vb, vl, vr]] w fun e w' => e = .returned (.string (AH ++ cat (clt c.l) ++ MI ++ cat (clt c.r) ++ BH)) ∧ Below w.heap.size w w' := by
  obtain ⟨Ab, kb, rfl⟩ := hB.form
  obtain ⟨Al, kl, rfl⟩ := hL.form
  obtain ⟨Ar, kr, rfl⟩ := hR.form
  obtain ⟨W1, hW1⟩ : ∃ W1, W1 = w.alloc (.cells #[.bool c.st, .slice Ab c.b.length kb, .slice Al c.l.length kl, .slice Ar c.r.length kr] 76) := ⟨_, rfl⟩
  have hb0 : Below w.heap.size w W1 := by rw [hW1]; exact (Below.refl _ w).alloc (Nat.le_refl _) _
  have hk0 : Bk W1 w.heap.size #[.bool c.st, .slice Ab c.b.length kb, .slice Al c.l.length kl, .slice Ar c.r.length kr] 76 := by rw [hW1]; exact bk_new _ _ _
  have hlt := hk0.lt
  have z1 := clt_size c.l
  have z2 := clt_size c.r
  have CE1 := fun W (h : Below W1.heap.size W1 W) => mclosed_any ((hL.below hb0).below h) nl zl
  have CE2 := fun W (h : Below W1.heap.size W1 W) => mclosed_any ((hR.below hb0).below h) nr zr
  have hX : ∀ W, Below W1.heap.size W1 W → W.cell? ⟨w.heap.size, 2, none⟩ = some (.slice Al c.l.length kl) ∧ W.cell? ⟨w.heap.size, 3, none⟩ = some (.slice Ar c.r.length kr) := fun W h =>
    ⟨(hk0.below h hlt).cell 2 rfl, (hk0.below h hlt).cell 3 rfl⟩
  obtain ⟨x, hx⟩ : ∃ x, x = cat (clt c.l) := ⟨_, rfl⟩
  obtain ⟨y, hy⟩ : ∃ y, y = cat (clt c.r) := ⟨_, rfl⟩
  rw [← hx] at z1 CE1 ⊢
  rw [← hy] at z2 CE2 ⊢
  have a1 : AH.size = 8 := rfl
  have a2 : MI.size = 8 := rfl
  have a3 : BH.size = 8 := rfl
  have e1 : (AH ++ x).size = 8 + x.size := by rw [ByteArray.size_append, a1]
  have e2 : (AH ++ x ++ MI).size = 16 + x.size := by rw [ByteArray.size_append, e1, a2]; omega
  have e3 : (AH ++ x ++ MI ++ y).size = 16 + x.size + y.size := by rw [ByteArray.size_append, e2]
  have S1 := run_plus AH x (by omega)
  have S2 := run_plus (AH ++ x) MI (by omega)
  have S3 := run_plus (AH ++ x ++ MI) y (by omega)
  have S4 := run_plus (AH ++ x ++ MI ++ y) BH (by omega)
  obtain ⟨s1, hs1⟩ : ∃ s1, s1 = AH ++ x := ⟨_, rfl⟩
  rw [← hs1] at S1 S2 S3 S4 ⊢
  obtain ⟨s2, hs2⟩ : ∃ s2, s2 = s1 ++ MI := ⟨_, rfl⟩
  rw [← hs2] at S2 S3 S4 ⊢
  obtain ⟨s3, hs3⟩ : ∃ s3, s3 = s2 ++ y := ⟨_, rfl⟩
  rw [← hs3] at S3 S4 ⊢
  obtain ⟨s4, hs4⟩ : ∃ s4, s4 = s3 ++ BH := ⟨_, rfl⟩
  rw [← hs4] at S4 ⊢
  have HB0 := Lib.hid hb0
  have HX := Lib.hid hX
  have H1 := Lib.hid CE1
  have H2 := Lib.hid CE2
  have T1 := Lib.hid S1
  have T2 := Lib.hid S2
  have T3 := Lib.hid S3
  have T4 := Lib.hid S4
  clear hB hL hR hb0 hk0 hlt CE1 CE2 hX hx hy hs1 hs2 hs3 hs4 e1 e2 e3 a1 a2 a3 S1 S2 S3 S4 z1 z2
  go_enter Tryz.func45, Tryz.ntmps45
  go_wp2_with fail
  rw [← hW1]
  clear hW1
  refine Rg.wp_only ?_ (markReg _ (by kernel_rfl) _ w.heap.size _ _ x y s1 s2 s3 s4 W1 (Below W1.heap.size W1) HX.out (Below.refl _ _).drew T1.out T2.out T3.out T4.out
    (fun W h => (H1.out W h).mono (by rintro e w5 ⟨rfl, k⟩; exact ⟨rfl, below_call h k⟩)) (fun W h => (H2.out W h).mono (by rintro e w5 ⟨rfl, k⟩; exact ⟨rfl, below_call h k⟩)))
  rintro _ w8 ⟨rfl, h8⟩
  have H8 := Lib.hid h8
  clear h8
  go_wp2_with fail
  go_ret
  exact ⟨rfl, HB0.out.trans (H8.out.mono HB0.out.size)⟩
end Go.Proofs.YtkenmldiojeooaaGreat.Mg

namespace Go.Proofs.YtkenmldiojeooaaGreat.Mg
open Go.RowKit Go.ChangeShapes Go.WideShapes Tx Um Ud Aq Km Kd Lm Ln
set_option linter.unusedVariables false
theorem lays166 : Go.Proofs.Lays.n166 Tryz.prog Tryz.lays156_ren := { mixed := Tryz.lays156.mixed, f166 := Tryz.lays156.f166, f240 := Tryz.lays156.f240, f276 := Tryz.lays156.f276, t0 := Tryz.lays156.t0, a0 := Tryz.lays156.a0, z0 := Tryz.lays156.z0, v0 := Tryz.lays156.v0, t3 := Tryz.lays156.t3, a3 := Tryz.lays156.a3, z3 := Tryz.lays156.z3, v3 := Tryz.lays156.v3, t4 := Tryz.lays156.t4, a4 := Tryz.lays156.a4, z4 := Tryz.lays156.z4, v4 := Tryz.lays156.v4, t9 := Tryz.lays156.t9, a9 := Tryz.lays156.a9, z9 := Tryz.lays156.z9, v9 := Tryz.lays156.v9, t20 := Tryz.lays156.t20, a20 := Tryz.lays156.a20, z20 := Tryz.lays156.z20, v20 := Tryz.lays156.v20, t37 := Tryz.lays156.t37, a37 := Tryz.lays156.a37, z37 := Tryz.lays156.z37, v37 := Tryz.lays156.v37, t70 := Tryz.lays156.t70, a70 := Tryz.lays156.a70, z70 := Tryz.lays156.z70, v70 := Tryz.lays156.v70, t72 := Tryz.lays156.t72, a72 := Tryz.lays156.a72, z72 := Tryz.lays156.z72, v72 := Tryz.lays156.v72, t75 := Tryz.lays156.t75, a75 := Tryz.lays156.a75, z75 := Tryz.lays156.z75, v75 := Tryz.lays156.v75, t164 := Tryz.lays156.t164, a164 := Tryz.lays156.a164, z164 := Tryz.lays156.z164, v164 := Tryz.lays156.v164 }
theorem lays169 : Go.Proofs.Lays.n169 Tryz.prog Tryz.lays156_ren := { mixed := Tryz.lays156.mixed, f169 := Tryz.lays156.f169, t0 := Tryz.lays156.t0, a0 := Tryz.lays156.a0, z0 := Tryz.lays156.z0, v0 := Tryz.lays156.v0, t3 := Tryz.lays156.t3, a3 := Tryz.lays156.a3, z3 := Tryz.lays156.z3, v3 := Tryz.lays156.v3, t9 := Tryz.lays156.t9, a9 := Tryz.lays156.a9, z9 := Tryz.lays156.z9, v9 := Tryz.lays156.v9, t37 := Tryz.lays156.t37, a37 := Tryz.lays156.a37, z37 := Tryz.lays156.z37, v37 := Tryz.lays156.v37, t70 := Tryz.lays156.t70, a70 := Tryz.lays156.a70, z70 := Tryz.lays156.z70, v70 := Tryz.lays156.v70, t72 := Tryz.lays156.t72, a72 := Tryz.lays156.a72, z72 := Tryz.lays156.z72, v72 := Tryz.lays156.v72, t127 := Tryz.lays156.t127, a127 := Tryz.lays156.a127, z127 := Tryz.lays156.z127, v127 := Tryz.lays156.v127 }
theorem write_any (B b : Nat) (bs : List Value) (s : ByteArray) (w : World) (h : Lib.IsBuilder 74 5 B b bs w) (hlen : bs.length + s.size ≤ 140737488355328) (hBw : B ≤ w.heap.size) :
    Calls Tryz.prog 46 #[.pointer (some ⟨b, 0, none⟩), .string s] w fun e w' => e = .returned (.tuple #[.int .i64 s.size, .nilIface]) ∧ (Lib.BuilderAt 74 5 B b (.pointer (some ⟨b, 0, none⟩)) (bs ++ Lib.strCells s) w' ∧ Below B w w') :=
  Any.Builder_WriteString lays166 Tryz.Builder_Extra_156 B b bs s w h hlen hBw
theorem string_any (B b : Nat) (l : List UInt8) (w : World) (h : Lib.IsBuilder 74 5 B b (Lib.byteCells l) w) (hBw : B ≤ w.heap.size) :
    Calls Tryz.prog 47 #[.pointer (some ⟨b, 0, none⟩)] w fun e w' => e = .returned (.string ⟨l.toArray⟩) ∧ Below B w w' :=
  Any.Builder_String_any lays169 Tryz.Builder_Extra_156 B b l w h hBw
end Go.Proofs.YtkenmldiojeooaaGreat.Mg

namespace Go.Proofs.YtkenmldiojeooaaGreat.Mg
open Go.RowKit Go.ChangeShapes Go.WideShapes Tx Um Ud Aq Km Kd Lm Ln
set_option linter.unusedVariables false
theorem Row.last {w7 w : World} {v : Value} {r : List (Ck ByteArray)} {g : Ck ByteArray} (h : Row w7 w v (g :: r)) : ∃ gc cc u1, v = .slice (some ⟨gc, 0, none⟩) (r.length + 1) cc ∧ w7.heap.size ≤ gc ∧ gc < w.heap.size ∧ (∀ k, w.frozen? ⟨gc, k, none⟩ = false) ∧
    w.cell? ⟨gc, r.length * 4, none⟩ = some (.bool g.st) ∧ w.cell? ⟨gc, r.length * 4 + 1, none⟩ = some u1 ∧ Rd w u1 g.b ∧ Ty w u1 := by
  obtain ⟨cs, h1, h2, h3⟩ := h
  have hn := h2.len
  rw [List.reverse_cons] at h2
  obtain ⟨cs', c, rfl, k1, k2, k3, _⟩ := h2.unsnoc
  have hl := k1.len
  rw [List.length_reverse] at hl
  have hh := h1
  rcases h1.2 with ⟨rfl, h0⟩ | ⟨gc, cap, cur, rfl, hg, hh2, hn2, hc, _⟩
  · simp at h0
  · refine ⟨gc, cap, c.2.1, by rw [List.length_append, hl]; rfl, hg, (Array.getElem?_eq_some_iff.1 hh2).1, fun k => by simp [World.frozen?, hh2], ?_⟩
    obtain ⟨e1, e2, _⟩ := flat5_get (cs' ++ [c]) r.length c (by rw [List.getElem?_append_right (by omega), hl, Nat.sub_self]; rfl)
    have f1 := World.ownsRow.cells (g := gc) hh rfl _ _ e1
    have f2 := World.ownsRow.cells (g := gc) hh rfl _ _ e2
    rw [WideShapes.add_plain, Nat.zero_add] at f1 f2
    rw [k2] at f1
    exact ⟨f1, f2, k3⟩
theorem Row.four {w7 w : World} {gc cc R m : Nat} {r : List (Ck ByteArray)} {g : Ck ByteArray} (h : Row w7 w (.slice (some ⟨gc, 0, none⟩) m cc) (g :: r)) (hR : R = r.length) : ∃ m0 m1 m2 m3, w.cell? ⟨gc, R * 4, none⟩ = some m0 ∧ w.cell? ⟨gc, R * 4 + 1, none⟩ = some m1 ∧ w.cell? ⟨gc, R * 4 + 2, none⟩ = some m2 ∧ w.cell? ⟨gc, R * 4 + 3, none⟩ = some m3 := by
  obtain ⟨cs, h1, h2, h3⟩ := h
  rw [List.reverse_cons] at h2
  obtain ⟨cs', c, rfl, k1, _⟩ := h2.unsnoc
  have hl := k1.len
  rw [List.length_reverse, ← hR] at hl
  obtain ⟨e0, e1, e2, e3⟩ := flat5_get (cs' ++ [c]) R c (by rw [List.getElem?_append_right (by omega), hl, Nat.sub_self]; rfl)
  have f0 := World.ownsRow.cells (g := gc) h1 rfl _ _ e0
  have f1 := World.ownsRow.cells (g := gc) h1 rfl _ _ e1
  have f2 := World.ownsRow.cells (g := gc) h1 rfl _ _ e2
  have f3 := World.ownsRow.cells (g := gc) h1 rfl _ _ e3
  rw [WideShapes.add_plain, Nat.zero_add] at f0 f1 f2 f3
  exact ⟨_, _, _, _, f0, f1, f2, f3⟩
theorem flat5_set (cs : List Cc) (x y : Cc) : (((((cs ++ [x]).flatMap h4).set (cs.length * 4) (.bool y.1)).set (cs.length * 4 + 1) y.2.1).set (cs.length * 4 + 2) y.2.2.1).set (cs.length * 4 + 3) y.2.2.2 = (cs ++ [y]).flatMap h4 := by
  have e := flat5_len cs
  rw [List.flatMap_append, List.flatMap_append]
  rw [← e, List.set_append_right _ _ (by omega), List.set_append_right _ _ (by omega), List.set_append_right _ _ (by omega), List.set_append_right _ _ (by omega)]
  simp [h4]
theorem cs_set {w : World} {B gc c : Nat} {cs : List Cc} {x : Cc} (h : Cs w B (.slice (some ⟨gc, 0, none⟩) (cs.length + 1) c) (cs ++ [x])) (y : Cc) :
    Cs ((((w.setCell ⟨gc, cs.length * 4, none⟩ (.bool y.1)).setCell ⟨gc, cs.length * 4 + 1, none⟩ y.2.1).setCell ⟨gc, cs.length * 4 + 2, none⟩ y.2.2.1).setCell ⟨gc, cs.length * 4 + 3, none⟩ y.2.2.2) B (.slice (some ⟨gc, 0, none⟩) (cs.length + 1) c) (cs ++ [y]) ∧
    Kp w ((((w.setCell ⟨gc, cs.length * 4, none⟩ (.bool y.1)).setCell ⟨gc, cs.length * 4 + 1, none⟩ y.2.1).setCell ⟨gc, cs.length * 4 + 2, none⟩ y.2.2.1).setCell ⟨gc, cs.length * 4 + 3, none⟩ y.2.2.2) := by
  have l1 : (cs ++ [x]).length = cs.length + 1 := by simp
  have l2 : (cs ++ [y]).length = cs.length + 1 := by simp
  have h0 := h
  unfold Cs at h ⊢
  rw [l1] at h
  rw [l2, ← flat5_set cs x y]
  have a1 := own_put4 h (cs.length * 4) (.bool y.1)
  have a2 := own_put4 a1 (cs.length * 4 + 1) y.2.1
  have a3 := own_put4 a2 (cs.length * 4 + 2) y.2.2.1
  have a4 := own_put4 a3 (cs.length * 4 + 3) y.2.2.2
  refine ⟨a4, ?_⟩
  have kk : ∀ {W : World} {xs : List Value}, W.ownsRow B 76 4 (.slice (some ⟨gc, 0, none⟩) (cs.length + 1) c) (cs.length + 1) xs → ∀ k u, Kp W (W.setCell ⟨gc, k, none⟩ u) := by
    intro W xs hW k u g cur fr hx
    have hne : gc ≠ g := by
      rintro rfl
      rcases hW.2 with ⟨q0, _⟩ | ⟨g1, cap, cur1, e, _, hh, _⟩
      · cases q0
      · injection e with e
        injection e with e
        injection e with e
        subst e
        rw [hh] at hx
        injection hx with hx
        injection hx with _ hx _
        exact absurd hx (by decide)
    simp only [World.setCell]
    rw [Array.getElem?_modify, if_neg hne]
    exact hx
  exact ((kk h _ _).trans (kk a1 _ _)).trans ((kk a2 _ _).trans (kk a3 _ _))
theorem Row.set {w7 w : World} {gc cc : Nat} {r : List (Ck ByteArray)} {g g' : Ck ByteArray} (h : Row w7 w (.slice (some ⟨gc, 0, none⟩) (r.length + 1) cc) (g :: r)) (hB : w7.heap.size ≤ gc) (y : Cc) (hc : Reads w y g') :
    Row w7 ((((w.setCell ⟨gc, r.length * 4, none⟩ (.bool y.1)).setCell ⟨gc, r.length * 4 + 1, none⟩ y.2.1).setCell ⟨gc, r.length * 4 + 2, none⟩ y.2.2.1).setCell ⟨gc, r.length * 4 + 3, none⟩ y.2.2.2) (.slice (some ⟨gc, 0, none⟩) (r.length + 1) cc) (g' :: r) := by
  obtain ⟨cs, h1, h2, h3⟩ := h
  rw [List.reverse_cons] at h2
  obtain ⟨cs', c, rfl, k1, _⟩ := h2.unsnoc
  have hl := k1.len
  rw [List.length_reverse] at hl
  rw [← hl] at h1 ⊢
  obtain ⟨q1, q2⟩ := cs_set h1 y
  refine ⟨cs' ++ [y], q1, ?_, (((h3.setCell (p := ⟨gc, _, none⟩) hB _).setCell (p := ⟨gc, _, none⟩) hB _).setCell (p := ⟨gc, _, none⟩) hB _).setCell (p := ⟨gc, _, none⟩) hB _⟩
  rw [List.reverse_cons]
  exact IsS.snoc (hc.keep q2) (k1.keep q2)
end Go.Proofs.YtkenmldiojeooaaGreat.Mg

namespace Go.Proofs.YtkenmldiojeooaaGreat.Mg
open Go.RowKit Go.ChangeShapes Go.WideShapes Tx Um Ud Aq Km Kd Lm Ln
set_option linter.unusedVariables false
def CkTo (hs : List (Ck ByteArray)) (er : Nat) (w : World) (e : Ending) (w' : World) : Prop := ∃ v cs, e = .returned (.tuple #[v, .int .i64 (er : Int)]) ∧ Cs w' w.heap.size v cs ∧ IsC w' cs hs ∧ Below w.heap.size w w'
theorem lns_some {s t u x : ByteArray} {n : Nat} (h : [s, t, u][n]? = some x) : n = 0 ∧ x = s ∨ n = 1 ∧ x = t ∨ n = 2 ∧ x = u := by
  match n, h with
  | 0, h => injection h with h; exact .inl ⟨rfl, h.symm⟩
  | 1, h => injection h with h; exact .inr (.inl ⟨rfl, h.symm⟩)
  | 2, h => injection h with h; exact .inr (.inr ⟨rfl, h.symm⟩)
theorem err_at {s t u x : ByteArray} {n : Nat} (h : [s, t, u][n]? = some x) (hb : ∀ m y, m < n → [s, t, u][m]? = some y → txt y = 0) (hx : txt x ≠ 0) : err3 s t u = txt x := by
  unfold err3
  rcases lns_some h with ⟨rfl, rfl⟩ | ⟨rfl, rfl⟩ | ⟨rfl, rfl⟩
  · rw [if_pos hx]
  · rw [if_neg (fun e => e (hb 0 s (by omega) rfl)), if_pos hx]
  · rw [if_neg (fun e => e (hb 0 s (by omega) rfl)), if_neg (fun e => e (hb 1 t (by omega) rfl))]
theorem err_none {s t u : ByteArray} (hb : ∀ m y, m < 3 → [s, t, u][m]? = some y → txt y = 0) : err3 s t u = 0 := by
  unfold err3
  rw [if_neg (fun e => e (hb 0 s (by omega) rfl)), if_neg (fun e => e (hb 1 t (by omega) rfl))]
  exact hb 2 u (by omega) rfl
theorem cell_texts3 (w : World) (s t u : ByteArray) (e : TypeId) : ∀ (n : Nat) x, [s, t, u][n]? = some x → (w.alloc (.cells #[.string s, .string t, .string u] e)).cell? ⟨w.heap.size, n, none⟩ = some (.string x) := by
  intro n x h
  rcases lns_some h with ⟨rfl, rfl⟩ | ⟨rfl, rfl⟩ | ⟨rfl, rfl⟩ <;> go_simp
set_option maxRecDepth 100000 in
set_option maxHeartbeats 40000000 in
theorem refChunks_any (s t u : ByteArray) (w : World) (hs : s.size ≤ 8796093022207) (ht : t.size ≤ 8796093022207) (hu : u.size ≤ 8796093022207) :
    Calls Tryz.prog 48 #[.string s, .string t, .string u] w (CkTo (chs s t u) (err3 s t u) w) := by
  have hsz : ∀ (n : Nat) x, [s, t, u][n]? = some x → x.size ≤ 8796093022207 := fun n x h => by
    rcases lns_some h with ⟨_, rfl⟩ | ⟨_, rfl⟩ | ⟨_, rfl⟩ <;> assumption
  have HSZ := Lib.hid hsz
  clear hsz
  go_enter Tryz.func48, Tryz.ntmps48
  go_wp2_with fail
  have C0 := Lib.hid (cell_texts3 w s t u 9)
  have HW : Hid (Below w.heap.size w (w.alloc (.cells #[.string s, .string t, .string u] 9))) := (Below.refl _ w).alloc (Nat.le_refl _) _
  obtain ⟨w0, hw0⟩ : ∃ w0, w0 = w.alloc (.cells #[.string s, .string t, .string u] 9) := ⟨_, rfl⟩
  have hsz0 : w.heap.size < w0.heap.size := by rw [hw0]; go_simp <;> omega
  rw [← hw0] at C0 HW ⊢
  clear hw0
  go_loopw [9] (fun i wr => ∃ n : Nat, i = .int .i64 (n : Int) ∧ n ≤ 3 ∧ Hid (∀ m y, m < n → [s, t, u][m]? = some y → txt y = 0) ∧ Hid (Below w0.heap.size w0 wr)) (fun i _ => 3 - (intOf i).toNat)
  case atStart => exact ⟨0, rfl, by omega, fun m y hm => by omega, Below.refl _ _⟩
  case round =>
    obtain ⟨n, rfl, hn, HT, HB⟩ := hrel
    by_cases hlt : n < 3
    · have e1 : (n : Int) < (3 : Int) := by omega
      obtain ⟨x, hx⟩ : ∃ x, [s, t, u][n]? = some x := ⟨_, List.getElem?_eq_getElem (by simpa using hlt)⟩
      have c1 : wr.cell? ⟨w.heap.size, n, none⟩ = some (.string x) := (HB.out.cell (p := ⟨_, n, none⟩) hsz0).trans (C0.out n x hx)
      have k1 := fun W => refText_any x W (HSZ.out n x hx)
      have K1 := Lib.hid k1
      have HX := Lib.hid hx
      clear hx k1
      go_wp2_with fail
      go_at_call 70
      refine (K1.out _).mono ?_
      rintro e w2 ⟨rfl, hb2⟩
      by_cases hz : txt x = 0
      · have hN : ∀ m y, m < n + 1 → [s, t, u][m]? = some y → txt y = 0 := fun m y hm hy => by
          rcases Nat.lt_succ_iff_lt_or_eq.1 hm with h | rfl
          · exact HT.out m y h hy
          · have h1 := HX.out
            rw [hy] at h1
            injection h1 with h1
            rw [h1]
            exact hz
        have HN := Lib.hid hN
        have HB2 : Hid (Below w0.heap.size w0 w2) := below_call HB.out hb2
        rw [hz]
        clear hN hb2 HT HB hz
        go_wp2_with fail
        go_roundw
        case rel => exact ⟨n + 1, by go_num, by omega, HN, HB2⟩
        case measure => simp only [intOf]; omega
      · have hE : err3 s t u = txt x := err_at HX.out HT.out hz
        have hlw : w.heap.size < wr.heap.size := Nat.lt_of_lt_of_le hsz0 HB.out.size
        have c2 : w2.cell? ⟨w.heap.size, n, none⟩ = some (.string x) := (hb2.cell (p := ⟨_, n, none⟩) hlw).trans c1
        have HB2 : Hid (Below w0.heap.size w0 w2) := below_call HB.out hb2
        have hz2 : ¬ ((txt x : Nat) : Int) = 0 := by omega
        have HE := Lib.hid hE
        have HZ := Lib.hid hz
        clear hE HT HB hb2 hz
        go_wp2_with fail
        go_at_call 70
        refine (K1.out _).mono ?_
        rintro e w3 ⟨rfl, hb3⟩
        have HB3 : Hid (Below w0.heap.size w0 w3) := below_call HB2.out hb3
        clear hb3
        go_wp2_with fail
        go_ret2
        have hc : chs s t u = [] := by
          unfold chs
          rw [HE.out, if_neg HZ.out]
        rw [hc, HE.out]
        exact ⟨_, [], rfl, cs_nil _ _, trivial, HW.out.trans (HB3.out.mono HW.out.size)⟩
    · have e1 : ¬ (n : Int) < (3 : Int) := by omega
      have hn3 : n = 3 := by omega
      have hE : err3 s t u = 0 := err_none (fun m y hm => HT.out m y (by omega))
      obtain ⟨_, _, _, l1, l2, l3⟩ := err_lines hE
      have hch : chs s t u = (pie (lns s) (lns t) (lns u)).reverse := by unfold chs; rw [if_pos hE]; rfl
      have k1 := fun W => refSplit_any s W hs
      have k2 := fun W => refSplit_any t W ht
      have k3 := fun W => refSplit_any u W hu
      obtain ⟨o, ho⟩ : ∃ o, o = lns s := ⟨_, rfl⟩
      obtain ⟨a, ha⟩ : ∃ a, a = lns t := ⟨_, rfl⟩
      obtain ⟨b, hb⟩ : ∃ b, b = lns u := ⟨_, rfl⟩
      rw [← ho] at l1 k1 hch
      rw [← ha] at l2 k2 hch
      rw [← hb] at l3 k3 hch
      have HCH := Lib.hid hch
      have HE0 := Lib.hid hE
      have K1 := Lib.hid k1
      have K2 := Lib.hid k2
      have K3 := Lib.hid k3
      have HBr : Hid (Below w.heap.size w wr) := HW.out.trans (HB.out.mono HW.out.size)
      clear ho ha hb hch hE HT HB hn3 C0 HSZ HW k1 k2 k3 hs ht hu hsz0
      go_wp2_with fail
      go_at_call 71
      refine (K1.out _).mono ?_
      rintro e w3 ⟨v3, rfl, hv3, hb3⟩
      obtain ⟨Ao, co, rfl, so, zo, lo_, to⟩ := lo_all hv3
      have HB3 : Hid (Below w.heap.size w w3) := below_call HBr.out hb3
      clear hv3 hb3 HBr K1
      go_wp2_with fail
      go_at_call 71
      refine (K2.out _).mono ?_
      rintro e w4 ⟨v4, rfl, hv4, hb4⟩
      obtain ⟨Aa, ca, rfl, sa, za, la_, ta⟩ := lo_all hv4
      have HB4 : Hid (Below w.heap.size w w4) := below_call HB3.out hb4
      have so4 := so.below hb4
      have to4 := to.keep (Kp.of_below hb4)
      clear hv4 hb4 HB3 K2 so to
      go_wp2_with fail
      go_at_call 71
      refine (K3.out _).mono ?_
      rintro e w5 ⟨v5, rfl, hv5, hb5⟩
      obtain ⟨Ab, cb, rfl, sb, zb, lb_, tb⟩ := lo_all hv5
      have HB5 : Hid (Below w.heap.size w w5) := below_call HB4.out hb5
      have so5 := so4.below hb5
      have to5 := to4.keep (Kp.of_below hb5)
      have sa5 := sa.below hb5
      have ta5 := ta.keep (Kp.of_below hb5)
      clear hv5 hb5 HB4 K3 so4 to4 sa ta
      have CS := Lib.hid (stable_any Ao Aa Ab co ca cb o a b w5 so5 sa5 sb l1 l2 l3)
      obtain ⟨TT, hTT⟩ : ∃ TT, TT = trip (pairs 0 0 (steps o a)) (pairs 0 0 (steps o b)) := ⟨_, rfl⟩
      have hTl : TT.length ≤ 200000 := by
        have q0 := trip_len (pairs 0 0 (steps o a)) (pairs 0 0 (steps o b))
        have q1 := pairs_len (steps o a) 0 0
        have q2 := kept o a
        have q3 := lcs_le_left o a
        have q4 := pairs_len (steps o b) 0 0
        have q5 := kept o b
        have q6 := lcs_le_left o b
        rw [hTT]
        exact Nat.le_trans q0 (Nat.le_trans (Nat.mul_le_mul (show _ ≤ 400 by omega) (show _ ≤ 400 by omega)) (by omega))
      have HPT : Hid (Pt3 o a b TT 0 0 0) := by rw [hTT]; exact pie_pt3 o a b
      have HPI : Hid (pie o a b = cks o a b TT 0 0 0 []) := by rw [hTT]; rfl
      rw [← hTT] at CS
      have HSO := Lib.hid so5
      have HSA := Lib.hid sa5
      have HSB := Lib.hid sb
      have HTO := Lib.hid to5
      have HTA := Lib.hid ta5
      have HTB := Lib.hid tb
      have HZO := Lib.hid zo
      have HZA := Lib.hid za
      have HZB := Lib.hid zb
      clear so5 sa5 sb to5 ta5 tb zo za zb hTT
      go_wp2_with fail
      go_at_call 72
      refine CS.out.mono ?_
      rintro e w6 ⟨v6, rfl, hv6, hb6⟩
      obtain ⟨iT, hI, hI0, hI1, hI2⟩ := info_parts infoT
      have hown := hv6
      unfold T3 at hown
      have hszd := hb6.size
      clear hv6 CS
      go_wp2_with (at_builtin; refine wpList_append_own _ rfl _ _ 109 rfl w5.heap.size 103 iT (.agg #[.int .i64 0, .int .i64 0, .int .i64 0]) 3 24 Tryz.underlying109 hI hI0 hI1 hI2 rfl (by decide) _ _ _ rfl (hown.alloc _) ⟨w6.heap.size, 0, none⟩ 1 1 (c3 (o.length, a.length, b.length)) rfl rfl ?c1 ?c2 ?c3 ?c4 ?c5 ?_)
      case c1 => exact cell_three_new _ _ _ _ _
      case c2 => exact c3_one _
      case c3 => unfold maxLen; omega
      case c4 => omega
      case c5 => simp; omega
      intro v7 w7 hown7 hgrow _
      have hb7 : Below w5.heap.size w5 w7 := (hb6.alloc hszd _).grown hgrow (by simp; omega) (fun k hk => (hown.lt k hk).1)
      have ht7 : T3 w7 w5.heap.size v7 (TT ++ [(o.length, a.length, b.length)]) := by
        unfold T3
        rw [List.length_append, List.flatMap_append]
        simpa using hown7
      obtain ⟨at7, ct, rfl, hc7⟩ := ht7.form
      rw [show (TT ++ [(o.length, a.length, b.length)]).length = TT.length + 1 by simp] at hc7 ⊢
      obtain ⟨gt, rfl, _, hgt, hc7⟩ := hc7.resolve_left (by omega)
      obtain ⟨NT, hNT⟩ : ∃ NT, NT = TT.length := ⟨_, rfl⟩
      rw [← hNT] at hTl ⊢
      have HNT := Lib.hid hNT
      have HC7 := Lib.hid hc7
      have HB7 : Hid (Below w.heap.size w w7) := HB5.out.trans (hb7.mono HB5.out.size)
      have HSO7 : Hid (Strs w7 Ao o.length o) := HSO.out.below hb7
      have HSA7 : Hid (Strs w7 Aa a.length a) := HSA.out.below hb7
      have HSB7 : Hid (Strs w7 Ab b.length b) := HSB.out.below hb7
      have HTO7 : Hid (Ty w7 (.slice Ao o.length co)) := HTO.out.keep (Kp.of_below hb7)
      have HTA7 : Hid (Ty w7 (.slice Aa a.length ca)) := HTA.out.keep (Kp.of_below hb7)
      have HTB7 : Hid (Ty w7 (.slice Ab b.length cb)) := HTB.out.keep (Kp.of_below hb7)
      clear hown hown7 hgrow ht7 hc7 hNT hb7 hb6 hszd HSO HSA HSB HTO HTA HTB HB5 hI hI0 hI1 hI2
      go_wp2_with fail
      go_loopw [14, 15, 16, 17, 18, 19, 20] (fun v iv jv kv nv _ _ wr => ∃ (n i j k : Nat) (r : List (Ck ByteArray)), nv = .int .i64 (n : Int) ∧ iv = .int .i64 (i : Int) ∧ jv = .int .i64 (j : Int) ∧ kv = .int .i64 (k : Int) ∧ Hid (Ct o a b TT n i j k r) ∧ Hid (Row w7 wr v r)) (fun _ _ _ _ n _ _ _ => NT + 1 - (intOf n).toNat)
      case atStart => exact ⟨0, 0, 0, 0, [], rfl, rfl, rfl, rfl, ct_start HPT.out, Row.nil w7⟩
      case round =>
        clear e1
        obtain ⟨n, i, j, k, r, rfl, rfl, rfl, rfl, HCT, HR⟩ := hrel
        have hnl := HCT.out.le
        have hfew := HCT.out.few
        rw [← HNT.out] at hnl
        have e1 : (n : Int) < ((NT + 1 : Nat) : Int) := by omega
        obtain ⟨av, cv, hv⟩ := HR.out.len
        subst hv
        by_cases hlt : n < NT
        · obtain ⟨⟨p, q, y⟩, hx⟩ : ∃ z, TT[n]? = some z := ⟨_, List.getElem?_eq_getElem (by rw [← HNT.out]; exact hlt)⟩
          obtain ⟨d0, d1, d2⟩ := HC7.out n (p, q, y) (by rw [List.getElem?_append_left (by rw [← HNT.out]; exact hlt)]; exact hx)
          obtain ⟨hip, hjq, hky, hqa, hyb, x, hxo, hpo, hct⟩ := ct_at HCT.out hx
          unfold iv at d0 d1 d2
          simp only at hip hjq hky hqa hyb hxo hpo hct d0 d1 d2
          replace hqa : q ≤ a.length := by omega
          replace hyb : y ≤ b.length := by omega
          have hpl := hpo
          replace hpo : p ≤ o.length := by omega
          obtain ⟨go, oo, hAo, hgo, hco⟩ := HSO7.out.2.resolve_left (by omega)
          subst hAo
          have hcx : w7.cell? ⟨go, oo + p, none⟩ = some (.string x) := hco p x hxo
          have HCT2 := Lib.hid hct
          have wk : IntKind.i64.wrap (((NT + 1 : Nat) : Int) - 1) = (NT : Int) := (IntWalk.i64_in _ (by omega)).trans (by omega)
          have e2 : ((n : Int) == (NT : Int)) = false := beq_eq_false_iff_ne.2 (by omega)
          have wp1 : IntKind.i64.wrap ((p : Int) + 1) = (p : Int) + 1 := IntWalk.i64_in _ (by omega)
          have wq1 : IntKind.i64.wrap ((q : Int) + 1) = (q : Int) + 1 := IntWalk.i64_in _ (by omega)
          have wy1 : IntKind.i64.wrap ((y : Int) + 1) = (y : Int) + 1 := IntWalk.i64_in _ (by omega)
          clear hct hco hx hxo
          have hwr : Below w7.heap.size w7 wr := HR.out.elim fun _ x => x.2.2
          have c0 : wr.cell? ⟨gt, n * 3, none⟩ = some (.int .i64 (p : Int)) := (hwr.cell (p := ⟨gt, _, none⟩) hgt).trans d0
          have c1 : wr.cell? ⟨gt, n * 3 + 1, none⟩ = some (.int .i64 (q : Int)) := (hwr.cell (p := ⟨gt, _, none⟩) hgt).trans d1
          have c2 : wr.cell? ⟨gt, n * 3 + 2, none⟩ = some (.int .i64 (y : Int)) := (hwr.cell (p := ⟨gt, _, none⟩) hgt).trans d2
          have HTri : Hid (∀ W, Below w7.heap.size w7 W → Tri gt n p q y W) := fun W hb => ⟨(hb.cell (p := ⟨gt, _, none⟩) hgt).trans d0, (hb.cell (p := ⟨gt, _, none⟩) hgt).trans d1, (hb.cell (p := ⟨gt, _, none⟩) hgt).trans d2⟩
          have hsow := HSO7.out.below hwr
          have hsaw := HSA7.out.below hwr
          have hsbw := HSB7.out.below hwr
          have hkpw : Kp w7 wr := Kp.of_below hwr
          clear d0 d1 d2
          by_cases hgp : i < p ∨ j < q ∨ k < y
          · have HGP : Hid (gapc o a b i j k p q y r = ⟨false, (o.take p).drop i, (a.take q).drop j, (b.take y).drop k⟩ :: r) := gapc_yes hgp
            by_cases gg1 : i < p
            · have g1 : (i : Int) < (p : Int) := by omega
              obtain ⟨Bo, eo⟩ : ∃ Bo, sliced (some ⟨go, oo, none⟩) i p co 1 = .slice Bo (p - i) (co - i) := ⟨_, rfl⟩
              obtain ⟨Ba, ea⟩ : ∃ Ba, sliced Aa j q ca 1 = .slice Ba (q - j) (ca - j) := ⟨_, rfl⟩
              obtain ⟨Bb, eb⟩ : ∃ Bb, sliced Ab k y cb 1 = .slice Bb (y - k) (cb - k) := ⟨_, rfl⟩
              have S1 : ∀ W : World, (Instr.slice 59 (.slice (some ⟨go, oo, none⟩) o.length co) (some (.int .i64 (i : Int))) (some (.int .i64 (p : Int))) none).run Tryz.prog W = .ok (.slice Bo (p - i) (co - i)) W := fun W => by rw [← eo]; exact slice_run14 (some ⟨go, oo, none⟩) o.length co i p hip (by omega) W
              have S2 : ∀ W : World, (Instr.slice 59 (.slice Aa a.length ca) (some (.int .i64 (j : Int))) (some (.int .i64 (q : Int))) none).run Tryz.prog W = .ok (.slice Ba (q - j) (ca - j)) W := fun W => by rw [← ea]; exact slice_run14 Aa a.length ca j q hjq (by omega) W
              have S3 : ∀ W : World, (Instr.slice 59 (.slice Ab b.length cb) (some (.int .i64 (k : Int))) (some (.int .i64 (y : Int))) none).run Tryz.prog W = .ok (.slice Bb (y - k) (cb - k)) W := fun W => by rw [← eb]; exact slice_run14 Ab b.length cb k y hky (by omega) W
              have hrd : Reads wr (false, .slice Bo (p - i) (co - i), .slice Ba (q - j) (ca - j), .slice Bb (y - k) (cb - k)) ⟨false, (o.take p).drop i, (a.take q).drop j, (b.take y).drop k⟩ := by
                refine ⟨rfl, ⟨?_, ?_⟩, ⟨?_, ?_⟩, ⟨?_, ?_⟩⟩
                · show Rd wr (.slice Bo (p - i) (co - i)) _
                  rw [← eo]; exact rd_sub (hsow) hip hpo lo_ HZO.out
                · show Ty wr (.slice Bo (p - i) (co - i))
                  rw [← eo]; exact ty_sub (HTO7.out.keep hkpw)
                · show Rd wr (.slice Ba (q - j) (ca - j)) _
                  rw [← ea]; exact rd_sub (hsaw) hjq hqa la_ HZA.out
                · show Ty wr (.slice Ba (q - j) (ca - j))
                  rw [← ea]; exact ty_sub (HTA7.out.keep hkpw)
                · show Rd wr (.slice Bb (y - k) (cb - k)) _
                  rw [← eb]; exact rd_sub (hsbw) hky hyb lb_ HZB.out
                · show Ty wr (.slice Bb (y - k) (cb - k))
                  rw [← eb]; exact ty_sub (HTB7.out.keep hkpw)
              have HE := Lib.hid (HR.out.put (by omega) _ hrd)
              have hX2 : Below w7.heap.size w7 (wr.drew.alloc (.cells #[.bool false, .slice Bo (p - i) (co - i), .slice Ba (q - j) (ca - j), .slice Bb (y - k) (cb - k)] 76)) := hwr.drew.alloc hwr.size _
              have hwd := hwr.drew
              clear hrd eo ea eb
              go_wp2_with fail
              refine Rg.wp_only ?_ (gapReg _ (by kernel_rfl) _ gt (NT + 1) ct n p q y o.length co a.length ca b.length cb i j k (p - i) (co - i) (q - j) (ca - j) (y - k) (cb - k) wr e1 (Below w7.heap.size w7) HTri.out hwd (some ⟨go, oo, none⟩) Aa Ab Bo Ba Bb _ (fun v8 W => Row w7 W v8 (⟨false, (o.take p).drop i, (a.take q).drop j, (b.take y).drop k⟩ :: r)) S1 S2 S3 hX2 HE.out)
              rintro _ w9 ⟨v9, rfl, h9⟩
              have HR9 := Lib.hid h9
              obtain ⟨av1, cv1, hv1⟩ := h9.len
              rw [List.length_cons] at hv1
              subst hv1
              clear h9 HE S1 S2 S3 hX2 hwd HR c0 c1 c2 g1
              go_wp2_with fail
              refine Rg.wp_only ?_ (triReg _ (by kernel_rfl) _ gt (NT + 1) ct n p q y w9 e1 (fun W => Row w7 W (.slice av1 (r.length + 1) cv1) (⟨false, (o.take p).drop i, (a.take q).drop j, (b.take y).drop k⟩ :: r)) (fun W h => HTri.out W (h.elim fun _ x => x.2.2)) HR9.out.drew)
              rintro _ w10 ⟨rfl, h10⟩
              clear HR9
              obtain ⟨g, hg0⟩ : ∃ g, g = (⟨false, (o.take p).drop i, (a.take q).drop j, (b.take y).drop k⟩ : Ck ByteArray) := ⟨_, rfl⟩
              have hgs : g.st = false := by rw [hg0]
              rw [← hg0] at h10 HGP
              clear hg0
              obtain ⟨gc, cc, u1, hv9, hgcB, hgcl, hfz, k0, _⟩ := h10.last
              rw [hgs] at k0
              injection hv9 with ha9 _ hc9
              subst ha9
              subst hc9
              obtain ⟨R, hR⟩ : ∃ R, R = r.length := ⟨_, rfl⟩
              have HRR := Lib.hid hR
              rw [← hR] at h10 k0 hfew ⊢
              have wl : IntKind.i64.wrap (((R + 1 : Nat) : Int) - 1) = (R : Int) := (IntWalk.i64_in _ (by omega)).trans (by omega)
              have f1 : (0 : Int) ≤ (R : Int) := by omega
              have f2 : (R : Int) < ((R + 1 : Nat) : Int) := by omega
              have f3 : (p : Int) < (o.length : Int) := by omega
              have cx10 : w10.cell? ⟨go, oo + p, none⟩ = some (.string x) := ((h10.elim fun _ x => x.2.2).cell (p := ⟨go, _, none⟩) hgo).trans hcx
              have hgo10 : go < w10.heap.size := Nat.lt_of_lt_of_le hgo (h10.elim fun _ x => x.2.2).size
              have kk0 : (w10.alloc (.cells #[.string x] 9)).cell? ⟨gc, R * 4, none⟩ = some (.bool false) := (((Below.refl w10.heap.size w10).alloc (Nat.le_refl _) _).cell (p := ⟨gc, _, none⟩) hgcl).trans k0
              have HCT3 : Hid (Ct o a b TT (n + 1) (p + 1) (q + 1) (y + 1) (⟨true, [x], [x], [x]⟩ :: g :: r)) := by
                have h := HCT2.out
                rw [HGP.out, stab, if_neg (by rw [hgs]; decide)] at h
                exact h
              clear HCT2 HGP hfz hR
              have hrow11 : Row w7 (w10.alloc (.cells #[.string x] 9)) _ (g :: r) := h10.call ((Below.refl _ _).alloc (Nat.le_refl _) _)
              have hsz10 : w7.heap.size ≤ w10.heap.size := (h10.elim fun _ x => x.2.2).size
              obtain ⟨cs, q1, q2, q3⟩ := hrow11
              have hcl : cs.length = R + 1 := by
                have h := q2.len
                rw [List.length_reverse] at h
                rw [h, List.length_cons, HRR.out]
              have hown := q1
              unfold Cs at hown
              rw [hcl] at hown
              have L1 := one_new w10 w7.heap.size x hsz10
              have hone : Reads (w10.alloc (.cells #[.string x] 9)) (true, .slice (some ⟨w10.heap.size, 0, none⟩) 1 1, .slice (some ⟨w10.heap.size, 0, none⟩) 1 1, .slice (some ⟨w10.heap.size, 0, none⟩) 1 1) ⟨true, [x], [x], [x]⟩ := ⟨rfl, ⟨lo_rd L1, lo_ty L1⟩, ⟨lo_rd L1, lo_ty L1⟩, ⟨lo_rd L1, lo_ty L1⟩⟩
              have HQ1 := Lib.hid q1
              have HQ2 := Lib.hid q2
              have HQ3 := Lib.hid q3
              have HONE := Lib.hid hone
              have HCL := Lib.hid hcl
              obtain ⟨iC, hC, hC0, hC1, hC2⟩ := info_parts infoC
              clear q1 q2 q3 L1 hone hcl h10
              go_wp2_with (at_builtin; refine wpList_append_own _ rfl _ _ 68 rfl w7.heap.size 76 iC (.agg #[.bool false, .slice none 0 0, .slice none 0 0, .slice none 0 0]) 4 80 Tryz.underlying68 hC hC0 hC1 hC2 rfl (by decide) _ _ _ rfl (hown.alloc _) ⟨_, 0, none⟩ 1 1 (h4 (true, .slice (some ⟨w10.heap.size, 0, none⟩) 1 1, .slice (some ⟨w10.heap.size, 0, none⟩) 1 1, .slice (some ⟨w10.heap.size, 0, none⟩) 1 1)) rfl rfl ?c1 ?c2 ?c3 ?c4 ?c5 ?_)
              case c1 =>
                first
                | exact fun _ _ h => h
                | (intro z1 z2 z3
                   have h := cell_four_new (w10.alloc (.cells #[.string x] 9)) (.bool true) (.slice (some ⟨w10.heap.size, 0, none⟩) 1 1) (.slice (some ⟨w10.heap.size, 0, none⟩) 1 1) (.slice (some ⟨w10.heap.size, 0, none⟩) 1 1) 76 z1 z2 z3
                   have e : (w10.alloc (.cells #[.string x] 9)).heap.size = w10.heap.size + 1 := by go_simp
                   rw [e] at h
                   exact h)
              case c2 =>
                intro u hu
                simp only [h4, List.mem_cons, List.not_mem_nil, or_false] at hu
                rcases hu with rfl | rfl | rfl | rfl <;> rfl
              case c3 => unfold maxLen; omega
              case c4 => omega
              case c5 => first | omega | (simp; omega) | exact HQ3.out.size | exact Nat.le_trans HQ3.out.size (by simp)
              intro v12 w12 hown12 hgrow _
              have hrow12 : Hid (Row w7 w12 v12 (⟨true, [x], [x], [x]⟩ :: g :: r)) := Row.grown (World.ownsRow.alloc HQ1.out _) (HQ2.out.keep (kp_alloc _ _)) (HQ3.out.alloc HQ3.out.size _) (HONE.out.keep (kp_alloc _ _)) (by unfold Cs; rw [List.length_append, List.flatMap_append, HCL.out]; simpa using hown12) hgrow
              clear hown hown12 hgrow HQ1 HQ2 HQ3 HONE HCL hC hC0 hC1 hC2
              go_wp2_with fail
              go_roundw
              case rel => exact ⟨n + 1, p + 1, q + 1, y + 1, _, by go_num, by go_num, by go_num, by go_num, HCT3, hrow12⟩
              case measure => simp only [intOf]; omega
            · by_cases gg2 : j < q
              · have g1 : ¬ (i : Int) < (p : Int) := by omega
                have g2 : (j : Int) < (q : Int) := by omega
                obtain ⟨Bo, eo⟩ : ∃ Bo, sliced (some ⟨go, oo, none⟩) i p co 1 = .slice Bo (p - i) (co - i) := ⟨_, rfl⟩
                obtain ⟨Ba, ea⟩ : ∃ Ba, sliced Aa j q ca 1 = .slice Ba (q - j) (ca - j) := ⟨_, rfl⟩
                obtain ⟨Bb, eb⟩ : ∃ Bb, sliced Ab k y cb 1 = .slice Bb (y - k) (cb - k) := ⟨_, rfl⟩
                have S1 : ∀ W : World, (Instr.slice 59 (.slice (some ⟨go, oo, none⟩) o.length co) (some (.int .i64 (i : Int))) (some (.int .i64 (p : Int))) none).run Tryz.prog W = .ok (.slice Bo (p - i) (co - i)) W := fun W => by rw [← eo]; exact slice_run14 (some ⟨go, oo, none⟩) o.length co i p hip (by omega) W
                have S2 : ∀ W : World, (Instr.slice 59 (.slice Aa a.length ca) (some (.int .i64 (j : Int))) (some (.int .i64 (q : Int))) none).run Tryz.prog W = .ok (.slice Ba (q - j) (ca - j)) W := fun W => by rw [← ea]; exact slice_run14 Aa a.length ca j q hjq (by omega) W
                have S3 : ∀ W : World, (Instr.slice 59 (.slice Ab b.length cb) (some (.int .i64 (k : Int))) (some (.int .i64 (y : Int))) none).run Tryz.prog W = .ok (.slice Bb (y - k) (cb - k)) W := fun W => by rw [← eb]; exact slice_run14 Ab b.length cb k y hky (by omega) W
                have hrd : Reads wr (false, .slice Bo (p - i) (co - i), .slice Ba (q - j) (ca - j), .slice Bb (y - k) (cb - k)) ⟨false, (o.take p).drop i, (a.take q).drop j, (b.take y).drop k⟩ := by
                  refine ⟨rfl, ⟨?_, ?_⟩, ⟨?_, ?_⟩, ⟨?_, ?_⟩⟩
                  · show Rd wr (.slice Bo (p - i) (co - i)) _
                    rw [← eo]; exact rd_sub (hsow) hip hpo lo_ HZO.out
                  · show Ty wr (.slice Bo (p - i) (co - i))
                    rw [← eo]; exact ty_sub (HTO7.out.keep hkpw)
                  · show Rd wr (.slice Ba (q - j) (ca - j)) _
                    rw [← ea]; exact rd_sub (hsaw) hjq hqa la_ HZA.out
                  · show Ty wr (.slice Ba (q - j) (ca - j))
                    rw [← ea]; exact ty_sub (HTA7.out.keep hkpw)
                  · show Rd wr (.slice Bb (y - k) (cb - k)) _
                    rw [← eb]; exact rd_sub (hsbw) hky hyb lb_ HZB.out
                  · show Ty wr (.slice Bb (y - k) (cb - k))
                    rw [← eb]; exact ty_sub (HTB7.out.keep hkpw)
                have HE := Lib.hid (HR.out.put (by omega) _ hrd)
                have hX2 : Below w7.heap.size w7 (wr.drew.alloc (.cells #[.bool false, .slice Bo (p - i) (co - i), .slice Ba (q - j) (ca - j), .slice Bb (y - k) (cb - k)] 76)) := hwr.drew.alloc hwr.size _
                have hwd := hwr.drew
                clear hrd eo ea eb
                go_wp2_with fail
                refine Rg.wp_only ?_ (gapReg _ (by kernel_rfl) _ gt (NT + 1) ct n p q y o.length co a.length ca b.length cb i j k (p - i) (co - i) (q - j) (ca - j) (y - k) (cb - k) wr e1 (Below w7.heap.size w7) HTri.out hwd (some ⟨go, oo, none⟩) Aa Ab Bo Ba Bb _ (fun v8 W => Row w7 W v8 (⟨false, (o.take p).drop i, (a.take q).drop j, (b.take y).drop k⟩ :: r)) S1 S2 S3 hX2 HE.out)
                rintro _ w9 ⟨v9, rfl, h9⟩
                have HR9 := Lib.hid h9
                obtain ⟨av1, cv1, hv1⟩ := h9.len
                rw [List.length_cons] at hv1
                subst hv1
                clear h9 HE S1 S2 S3 hX2 hwd HR c0 c1 c2 g1 g2
                go_wp2_with fail
                refine Rg.wp_only ?_ (triReg _ (by kernel_rfl) _ gt (NT + 1) ct n p q y w9 e1 (fun W => Row w7 W (.slice av1 (r.length + 1) cv1) (⟨false, (o.take p).drop i, (a.take q).drop j, (b.take y).drop k⟩ :: r)) (fun W h => HTri.out W (h.elim fun _ x => x.2.2)) HR9.out.drew)
                rintro _ w10 ⟨rfl, h10⟩
                clear HR9
                obtain ⟨g, hg0⟩ : ∃ g, g = (⟨false, (o.take p).drop i, (a.take q).drop j, (b.take y).drop k⟩ : Ck ByteArray) := ⟨_, rfl⟩
                have hgs : g.st = false := by rw [hg0]
                rw [← hg0] at h10 HGP
                clear hg0
                obtain ⟨gc, cc, u1, hv9, hgcB, hgcl, hfz, k0, _⟩ := h10.last
                rw [hgs] at k0
                injection hv9 with ha9 _ hc9
                subst ha9
                subst hc9
                obtain ⟨R, hR⟩ : ∃ R, R = r.length := ⟨_, rfl⟩
                have HRR := Lib.hid hR
                rw [← hR] at h10 k0 hfew ⊢
                have wl : IntKind.i64.wrap (((R + 1 : Nat) : Int) - 1) = (R : Int) := (IntWalk.i64_in _ (by omega)).trans (by omega)
                have f1 : (0 : Int) ≤ (R : Int) := by omega
                have f2 : (R : Int) < ((R + 1 : Nat) : Int) := by omega
                have f3 : (p : Int) < (o.length : Int) := by omega
                have cx10 : w10.cell? ⟨go, oo + p, none⟩ = some (.string x) := ((h10.elim fun _ x => x.2.2).cell (p := ⟨go, _, none⟩) hgo).trans hcx
                have hgo10 : go < w10.heap.size := Nat.lt_of_lt_of_le hgo (h10.elim fun _ x => x.2.2).size
                have kk0 : (w10.alloc (.cells #[.string x] 9)).cell? ⟨gc, R * 4, none⟩ = some (.bool false) := (((Below.refl w10.heap.size w10).alloc (Nat.le_refl _) _).cell (p := ⟨gc, _, none⟩) hgcl).trans k0
                have HCT3 : Hid (Ct o a b TT (n + 1) (p + 1) (q + 1) (y + 1) (⟨true, [x], [x], [x]⟩ :: g :: r)) := by
                  have h := HCT2.out
                  rw [HGP.out, stab, if_neg (by rw [hgs]; decide)] at h
                  exact h
                clear HCT2 HGP hfz hR
                have hrow11 : Row w7 (w10.alloc (.cells #[.string x] 9)) _ (g :: r) := h10.call ((Below.refl _ _).alloc (Nat.le_refl _) _)
                have hsz10 : w7.heap.size ≤ w10.heap.size := (h10.elim fun _ x => x.2.2).size
                obtain ⟨cs, q1, q2, q3⟩ := hrow11
                have hcl : cs.length = R + 1 := by
                  have h := q2.len
                  rw [List.length_reverse] at h
                  rw [h, List.length_cons, HRR.out]
                have hown := q1
                unfold Cs at hown
                rw [hcl] at hown
                have L1 := one_new w10 w7.heap.size x hsz10
                have hone : Reads (w10.alloc (.cells #[.string x] 9)) (true, .slice (some ⟨w10.heap.size, 0, none⟩) 1 1, .slice (some ⟨w10.heap.size, 0, none⟩) 1 1, .slice (some ⟨w10.heap.size, 0, none⟩) 1 1) ⟨true, [x], [x], [x]⟩ := ⟨rfl, ⟨lo_rd L1, lo_ty L1⟩, ⟨lo_rd L1, lo_ty L1⟩, ⟨lo_rd L1, lo_ty L1⟩⟩
                have HQ1 := Lib.hid q1
                have HQ2 := Lib.hid q2
                have HQ3 := Lib.hid q3
                have HONE := Lib.hid hone
                have HCL := Lib.hid hcl
                obtain ⟨iC, hC, hC0, hC1, hC2⟩ := info_parts infoC
                clear q1 q2 q3 L1 hone hcl h10
                go_wp2_with (at_builtin; refine wpList_append_own _ rfl _ _ 68 rfl w7.heap.size 76 iC (.agg #[.bool false, .slice none 0 0, .slice none 0 0, .slice none 0 0]) 4 80 Tryz.underlying68 hC hC0 hC1 hC2 rfl (by decide) _ _ _ rfl (hown.alloc _) ⟨_, 0, none⟩ 1 1 (h4 (true, .slice (some ⟨w10.heap.size, 0, none⟩) 1 1, .slice (some ⟨w10.heap.size, 0, none⟩) 1 1, .slice (some ⟨w10.heap.size, 0, none⟩) 1 1)) rfl rfl ?c1 ?c2 ?c3 ?c4 ?c5 ?_)
                case c1 =>
                  first
                  | exact fun _ _ h => h
                  | (intro z1 z2 z3
                     have h := cell_four_new (w10.alloc (.cells #[.string x] 9)) (.bool true) (.slice (some ⟨w10.heap.size, 0, none⟩) 1 1) (.slice (some ⟨w10.heap.size, 0, none⟩) 1 1) (.slice (some ⟨w10.heap.size, 0, none⟩) 1 1) 76 z1 z2 z3
                     have e : (w10.alloc (.cells #[.string x] 9)).heap.size = w10.heap.size + 1 := by go_simp
                     rw [e] at h
                     exact h)
                case c2 =>
                  intro u hu
                  simp only [h4, List.mem_cons, List.not_mem_nil, or_false] at hu
                  rcases hu with rfl | rfl | rfl | rfl <;> rfl
                case c3 => unfold maxLen; omega
                case c4 => omega
                case c5 => first | omega | (simp; omega) | exact HQ3.out.size | exact Nat.le_trans HQ3.out.size (by simp)
                intro v12 w12 hown12 hgrow _
                have hrow12 : Hid (Row w7 w12 v12 (⟨true, [x], [x], [x]⟩ :: g :: r)) := Row.grown (World.ownsRow.alloc HQ1.out _) (HQ2.out.keep (kp_alloc _ _)) (HQ3.out.alloc HQ3.out.size _) (HONE.out.keep (kp_alloc _ _)) (by unfold Cs; rw [List.length_append, List.flatMap_append, HCL.out]; simpa using hown12) hgrow
                clear hown hown12 hgrow HQ1 HQ2 HQ3 HONE HCL hC hC0 hC1 hC2
                go_wp2_with fail
                go_roundw
                case rel => exact ⟨n + 1, p + 1, q + 1, y + 1, _, by go_num, by go_num, by go_num, by go_num, HCT3, hrow12⟩
                case measure => simp only [intOf]; omega
              · have g1 : ¬ (i : Int) < (p : Int) := by omega
                have g2 : ¬ (j : Int) < (q : Int) := by omega
                have g3 : (k : Int) < (y : Int) := by omega
                obtain ⟨Bo, eo⟩ : ∃ Bo, sliced (some ⟨go, oo, none⟩) i p co 1 = .slice Bo (p - i) (co - i) := ⟨_, rfl⟩
                obtain ⟨Ba, ea⟩ : ∃ Ba, sliced Aa j q ca 1 = .slice Ba (q - j) (ca - j) := ⟨_, rfl⟩
                obtain ⟨Bb, eb⟩ : ∃ Bb, sliced Ab k y cb 1 = .slice Bb (y - k) (cb - k) := ⟨_, rfl⟩
                have S1 : ∀ W : World, (Instr.slice 59 (.slice (some ⟨go, oo, none⟩) o.length co) (some (.int .i64 (i : Int))) (some (.int .i64 (p : Int))) none).run Tryz.prog W = .ok (.slice Bo (p - i) (co - i)) W := fun W => by rw [← eo]; exact slice_run14 (some ⟨go, oo, none⟩) o.length co i p hip (by omega) W
                have S2 : ∀ W : World, (Instr.slice 59 (.slice Aa a.length ca) (some (.int .i64 (j : Int))) (some (.int .i64 (q : Int))) none).run Tryz.prog W = .ok (.slice Ba (q - j) (ca - j)) W := fun W => by rw [← ea]; exact slice_run14 Aa a.length ca j q hjq (by omega) W
                have S3 : ∀ W : World, (Instr.slice 59 (.slice Ab b.length cb) (some (.int .i64 (k : Int))) (some (.int .i64 (y : Int))) none).run Tryz.prog W = .ok (.slice Bb (y - k) (cb - k)) W := fun W => by rw [← eb]; exact slice_run14 Ab b.length cb k y hky (by omega) W
                have hrd : Reads wr (false, .slice Bo (p - i) (co - i), .slice Ba (q - j) (ca - j), .slice Bb (y - k) (cb - k)) ⟨false, (o.take p).drop i, (a.take q).drop j, (b.take y).drop k⟩ := by
                  refine ⟨rfl, ⟨?_, ?_⟩, ⟨?_, ?_⟩, ⟨?_, ?_⟩⟩
                  · show Rd wr (.slice Bo (p - i) (co - i)) _
                    rw [← eo]; exact rd_sub (hsow) hip hpo lo_ HZO.out
                  · show Ty wr (.slice Bo (p - i) (co - i))
                    rw [← eo]; exact ty_sub (HTO7.out.keep hkpw)
                  · show Rd wr (.slice Ba (q - j) (ca - j)) _
                    rw [← ea]; exact rd_sub (hsaw) hjq hqa la_ HZA.out
                  · show Ty wr (.slice Ba (q - j) (ca - j))
                    rw [← ea]; exact ty_sub (HTA7.out.keep hkpw)
                  · show Rd wr (.slice Bb (y - k) (cb - k)) _
                    rw [← eb]; exact rd_sub (hsbw) hky hyb lb_ HZB.out
                  · show Ty wr (.slice Bb (y - k) (cb - k))
                    rw [← eb]; exact ty_sub (HTB7.out.keep hkpw)
                have HE := Lib.hid (HR.out.put (by omega) _ hrd)
                have hX2 : Below w7.heap.size w7 (wr.drew.alloc (.cells #[.bool false, .slice Bo (p - i) (co - i), .slice Ba (q - j) (ca - j), .slice Bb (y - k) (cb - k)] 76)) := hwr.drew.alloc hwr.size _
                have hwd := hwr.drew
                clear hrd eo ea eb
                go_wp2_with fail
                refine Rg.wp_only ?_ (gapReg _ (by kernel_rfl) _ gt (NT + 1) ct n p q y o.length co a.length ca b.length cb i j k (p - i) (co - i) (q - j) (ca - j) (y - k) (cb - k) wr e1 (Below w7.heap.size w7) HTri.out hwd (some ⟨go, oo, none⟩) Aa Ab Bo Ba Bb _ (fun v8 W => Row w7 W v8 (⟨false, (o.take p).drop i, (a.take q).drop j, (b.take y).drop k⟩ :: r)) S1 S2 S3 hX2 HE.out)
                rintro _ w9 ⟨v9, rfl, h9⟩
                have HR9 := Lib.hid h9
                obtain ⟨av1, cv1, hv1⟩ := h9.len
                rw [List.length_cons] at hv1
                subst hv1
                clear h9 HE S1 S2 S3 hX2 hwd HR c0 c1 c2 g1 g2 g3
                go_wp2_with fail
                refine Rg.wp_only ?_ (triReg _ (by kernel_rfl) _ gt (NT + 1) ct n p q y w9 e1 (fun W => Row w7 W (.slice av1 (r.length + 1) cv1) (⟨false, (o.take p).drop i, (a.take q).drop j, (b.take y).drop k⟩ :: r)) (fun W h => HTri.out W (h.elim fun _ x => x.2.2)) HR9.out.drew)
                rintro _ w10 ⟨rfl, h10⟩
                clear HR9
                obtain ⟨g, hg0⟩ : ∃ g, g = (⟨false, (o.take p).drop i, (a.take q).drop j, (b.take y).drop k⟩ : Ck ByteArray) := ⟨_, rfl⟩
                have hgs : g.st = false := by rw [hg0]
                rw [← hg0] at h10 HGP
                clear hg0
                obtain ⟨gc, cc, u1, hv9, hgcB, hgcl, hfz, k0, _⟩ := h10.last
                rw [hgs] at k0
                injection hv9 with ha9 _ hc9
                subst ha9
                subst hc9
                obtain ⟨R, hR⟩ : ∃ R, R = r.length := ⟨_, rfl⟩
                have HRR := Lib.hid hR
                rw [← hR] at h10 k0 hfew ⊢
                have wl : IntKind.i64.wrap (((R + 1 : Nat) : Int) - 1) = (R : Int) := (IntWalk.i64_in _ (by omega)).trans (by omega)
                have f1 : (0 : Int) ≤ (R : Int) := by omega
                have f2 : (R : Int) < ((R + 1 : Nat) : Int) := by omega
                have f3 : (p : Int) < (o.length : Int) := by omega
                have cx10 : w10.cell? ⟨go, oo + p, none⟩ = some (.string x) := ((h10.elim fun _ x => x.2.2).cell (p := ⟨go, _, none⟩) hgo).trans hcx
                have hgo10 : go < w10.heap.size := Nat.lt_of_lt_of_le hgo (h10.elim fun _ x => x.2.2).size
                have kk0 : (w10.alloc (.cells #[.string x] 9)).cell? ⟨gc, R * 4, none⟩ = some (.bool false) := (((Below.refl w10.heap.size w10).alloc (Nat.le_refl _) _).cell (p := ⟨gc, _, none⟩) hgcl).trans k0
                have HCT3 : Hid (Ct o a b TT (n + 1) (p + 1) (q + 1) (y + 1) (⟨true, [x], [x], [x]⟩ :: g :: r)) := by
                  have h := HCT2.out
                  rw [HGP.out, stab, if_neg (by rw [hgs]; decide)] at h
                  exact h
                clear HCT2 HGP hfz hR
                have hrow11 : Row w7 (w10.alloc (.cells #[.string x] 9)) _ (g :: r) := h10.call ((Below.refl _ _).alloc (Nat.le_refl _) _)
                have hsz10 : w7.heap.size ≤ w10.heap.size := (h10.elim fun _ x => x.2.2).size
                obtain ⟨cs, q1, q2, q3⟩ := hrow11
                have hcl : cs.length = R + 1 := by
                  have h := q2.len
                  rw [List.length_reverse] at h
                  rw [h, List.length_cons, HRR.out]
                have hown := q1
                unfold Cs at hown
                rw [hcl] at hown
                have L1 := one_new w10 w7.heap.size x hsz10
                have hone : Reads (w10.alloc (.cells #[.string x] 9)) (true, .slice (some ⟨w10.heap.size, 0, none⟩) 1 1, .slice (some ⟨w10.heap.size, 0, none⟩) 1 1, .slice (some ⟨w10.heap.size, 0, none⟩) 1 1) ⟨true, [x], [x], [x]⟩ := ⟨rfl, ⟨lo_rd L1, lo_ty L1⟩, ⟨lo_rd L1, lo_ty L1⟩, ⟨lo_rd L1, lo_ty L1⟩⟩
                have HQ1 := Lib.hid q1
                have HQ2 := Lib.hid q2
                have HQ3 := Lib.hid q3
                have HONE := Lib.hid hone
                have HCL := Lib.hid hcl
                obtain ⟨iC, hC, hC0, hC1, hC2⟩ := info_parts infoC
                clear q1 q2 q3 L1 hone hcl h10
                go_wp2_with (at_builtin; refine wpList_append_own _ rfl _ _ 68 rfl w7.heap.size 76 iC (.agg #[.bool false, .slice none 0 0, .slice none 0 0, .slice none 0 0]) 4 80 Tryz.underlying68 hC hC0 hC1 hC2 rfl (by decide) _ _ _ rfl (hown.alloc _) ⟨_, 0, none⟩ 1 1 (h4 (true, .slice (some ⟨w10.heap.size, 0, none⟩) 1 1, .slice (some ⟨w10.heap.size, 0, none⟩) 1 1, .slice (some ⟨w10.heap.size, 0, none⟩) 1 1)) rfl rfl ?c1 ?c2 ?c3 ?c4 ?c5 ?_)
                case c1 =>
                  first
                  | exact fun _ _ h => h
                  | (intro z1 z2 z3
                     have h := cell_four_new (w10.alloc (.cells #[.string x] 9)) (.bool true) (.slice (some ⟨w10.heap.size, 0, none⟩) 1 1) (.slice (some ⟨w10.heap.size, 0, none⟩) 1 1) (.slice (some ⟨w10.heap.size, 0, none⟩) 1 1) 76 z1 z2 z3
                     have e : (w10.alloc (.cells #[.string x] 9)).heap.size = w10.heap.size + 1 := by go_simp
                     rw [e] at h
                     exact h)
                case c2 =>
                  intro u hu
                  simp only [h4, List.mem_cons, List.not_mem_nil, or_false] at hu
                  rcases hu with rfl | rfl | rfl | rfl <;> rfl
                case c3 => unfold maxLen; omega
                case c4 => omega
                case c5 => first | omega | (simp; omega) | exact HQ3.out.size | exact Nat.le_trans HQ3.out.size (by simp)
                intro v12 w12 hown12 hgrow _
                have hrow12 : Hid (Row w7 w12 v12 (⟨true, [x], [x], [x]⟩ :: g :: r)) := Row.grown (World.ownsRow.alloc HQ1.out _) (HQ2.out.keep (kp_alloc _ _)) (HQ3.out.alloc HQ3.out.size _) (HONE.out.keep (kp_alloc _ _)) (by unfold Cs; rw [List.length_append, List.flatMap_append, HCL.out]; simpa using hown12) hgrow
                clear hown hown12 hgrow HQ1 HQ2 HQ3 HONE HCL hC hC0 hC1 hC2
                go_wp2_with fail
                go_roundw
                case rel => exact ⟨n + 1, p + 1, q + 1, y + 1, _, by go_num, by go_num, by go_num, by go_num, HCT3, hrow12⟩
                case measure => simp only [intOf]; omega
          · have HGP : Hid (gapc o a b i j k p q y r = r) := gapc_no hgp
            have g1 : ¬ (i : Int) < (p : Int) := by omega
            have g2 : ¬ (j : Int) < (q : Int) := by omega
            have g3 : ¬ (k : Int) < (y : Int) := by omega
            cases r with
            | nil =>
              go_wp2_with fail
              refine Rg.wp_only ?_ (triReg _ (by kernel_rfl) _ gt (NT + 1) ct n p q y wr e1 (fun W => Row w7 W (.slice av 0 cv) []) (fun W h => HTri.out W (h.elim fun _ x => x.2.2)) HR.out.drew)
              rintro _ w10 ⟨rfl, h10⟩
              clear HR c0 c1 c2 g1 g2 g3
              have wl : IntKind.i64.wrap ((0 : Int) - 1) = -1 := rfl
              have f3 : (p : Int) < (o.length : Int) := by omega
              have cx10 : w10.cell? ⟨go, oo + p, none⟩ = some (.string x) := ((h10.elim fun _ x => x.2.2).cell (p := ⟨go, _, none⟩) hgo).trans hcx
              have hgo10 : go < w10.heap.size := Nat.lt_of_lt_of_le hgo (h10.elim fun _ x => x.2.2).size
              have HCT3 : Hid (Ct o a b TT (n + 1) (p + 1) (q + 1) (y + 1) [⟨true, [x], [x], [x]⟩]) := by
                have h := HCT2.out
                rw [HGP.out, stab] at h
                exact h
              clear HCT2 HGP
              have hrow11 : Row w7 (w10.alloc (.cells #[.string x] 9)) _ ([]) := h10.call ((Below.refl _ _).alloc (Nat.le_refl _) _)
              have hsz10 : w7.heap.size ≤ w10.heap.size := (h10.elim fun _ x => x.2.2).size
              obtain ⟨cs, q1, q2, q3⟩ := hrow11
              have hcl : cs.length = 0 := by
                have h := q2.len
                rw [List.length_reverse] at h
                exact h
              have hown := q1
              unfold Cs at hown
              rw [hcl] at hown
              have L1 := one_new w10 w7.heap.size x hsz10
              have hone : Reads (w10.alloc (.cells #[.string x] 9)) (true, .slice (some ⟨w10.heap.size, 0, none⟩) 1 1, .slice (some ⟨w10.heap.size, 0, none⟩) 1 1, .slice (some ⟨w10.heap.size, 0, none⟩) 1 1) ⟨true, [x], [x], [x]⟩ := ⟨rfl, ⟨lo_rd L1, lo_ty L1⟩, ⟨lo_rd L1, lo_ty L1⟩, ⟨lo_rd L1, lo_ty L1⟩⟩
              have HQ1 := Lib.hid q1
              have HQ2 := Lib.hid q2
              have HQ3 := Lib.hid q3
              have HONE := Lib.hid hone
              have HCL := Lib.hid hcl
              obtain ⟨iC, hC, hC0, hC1, hC2⟩ := info_parts infoC
              clear q1 q2 q3 L1 hone hcl h10
              go_wp2_with (at_builtin; refine wpList_append_own _ rfl _ _ 68 rfl w7.heap.size 76 iC (.agg #[.bool false, .slice none 0 0, .slice none 0 0, .slice none 0 0]) 4 80 Tryz.underlying68 hC hC0 hC1 hC2 rfl (by decide) _ _ _ rfl (hown.alloc _) ⟨_, 0, none⟩ 1 1 (h4 (true, .slice (some ⟨w10.heap.size, 0, none⟩) 1 1, .slice (some ⟨w10.heap.size, 0, none⟩) 1 1, .slice (some ⟨w10.heap.size, 0, none⟩) 1 1)) rfl rfl ?c1 ?c2 ?c3 ?c4 ?c5 ?_)
              case c1 =>
                first
                | exact fun _ _ h => h
                | (intro z1 z2 z3
                   have h := cell_four_new (w10.alloc (.cells #[.string x] 9)) (.bool true) (.slice (some ⟨w10.heap.size, 0, none⟩) 1 1) (.slice (some ⟨w10.heap.size, 0, none⟩) 1 1) (.slice (some ⟨w10.heap.size, 0, none⟩) 1 1) 76 z1 z2 z3
                   have e : (w10.alloc (.cells #[.string x] 9)).heap.size = w10.heap.size + 1 := by go_simp
                   rw [e] at h
                   exact h)
              case c2 =>
                intro u hu
                simp only [h4, List.mem_cons, List.not_mem_nil, or_false] at hu
                rcases hu with rfl | rfl | rfl | rfl <;> rfl
              case c3 => unfold maxLen; omega
              case c4 => omega
              case c5 => first | omega | (simp; omega) | exact HQ3.out.size | exact Nat.le_trans HQ3.out.size (by simp)
              intro v12 w12 hown12 hgrow _
              have hrow12 : Hid (Row w7 w12 v12 (⟨true, [x], [x], [x]⟩ :: [])) := Row.grown (World.ownsRow.alloc HQ1.out _) (HQ2.out.keep (kp_alloc _ _)) (HQ3.out.alloc HQ3.out.size _) (HONE.out.keep (kp_alloc _ _)) (by unfold Cs; rw [List.length_append, List.flatMap_append, HCL.out]; simpa using hown12) hgrow
              clear hown hown12 hgrow HQ1 HQ2 HQ3 HONE HCL hC hC0 hC1 hC2
              go_wp2_with fail
              go_roundw
              case rel => exact ⟨n + 1, p + 1, q + 1, y + 1, _, by go_num, by go_num, by go_num, by go_num, HCT3, hrow12⟩
              case measure => simp only [intOf]; omega
            | cons c r =>
              have hst : c.st = true := HCT.out.kept c rfl
              simp only [List.length_cons] at hfew
              go_wp2_with fail
              refine Rg.wp_only ?_ (triReg _ (by kernel_rfl) _ gt (NT + 1) ct n p q y wr e1 (fun W => Row w7 W (.slice av (r.length + 1) cv) (c :: r)) (fun W h => HTri.out W (h.elim fun _ x => x.2.2)) HR.out.drew)
              rintro _ w10 ⟨rfl, h10⟩
              clear HR c0 c1 c2 g1 g2 g3
              obtain ⟨gc, cc, u1, hv9, hgcB, hgcl, hfz, k0, k1, hrd, _⟩ := h10.last
              rw [hst] at k0
              injection hv9 with ha9 _ hc9
              subst ha9
              subst hc9
              obtain ⟨Al, cl, rfl, hsl, _⟩ := hrd
              obtain ⟨hne, hcl4⟩ := pcs_line HCT.out.pcs hst
              have hlp : c.b.length ≠ 0 := fun e => hne (List.length_eq_zero_iff.1 e)
              obtain ⟨gb, ob, rfl, hgbl, hcb⟩ := hsl.2.resolve_left hlp
              obtain ⟨R, hR⟩ : ∃ R, R = r.length := ⟨_, rfl⟩
              have HRR := Lib.hid hR
              rw [← hR] at h10 k0 k1 hfew ⊢
              have wl : IntKind.i64.wrap (((R + 1 : Nat) : Int) - 1) = (R : Int) := (IntWalk.i64_in _ (by omega)).trans (by omega)
              have f1 : (0 : Int) ≤ (R : Int) := by omega
              have f2 : (R : Int) < ((R + 1 : Nat) : Int) := by omega
              have f3 : (p : Int) < (o.length : Int) := by omega
              have cx10 : w10.cell? ⟨go, oo + p, none⟩ = some (.string x) := ((h10.elim fun _ x => x.2.2).cell (p := ⟨go, _, none⟩) hgo).trans hcx
              have hgo10 : go < w10.heap.size := Nat.lt_of_lt_of_le hgo (h10.elim fun _ x => x.2.2).size
              have hba : Below w10.heap.size w10 (w10.alloc (.cells #[.string x] 9)) := (Below.refl _ _).alloc (Nat.le_refl _) _
              have kk0 : (w10.alloc (.cells #[.string x] 9)).cell? ⟨gc, R * 4, none⟩ = some (.bool true) := (hba.cell (p := ⟨gc, _, none⟩) hgcl).trans k0
              have HCT3 : Hid (Ct o a b TT (n + 1) (p + 1) (q + 1) (y + 1) (⟨true, c.b ++ [x], c.b ++ [x], c.b ++ [x]⟩ :: r)) := by
                have h := HCT2.out
                rw [HGP.out, stab, if_pos hst] at h
                exact h
              have hr11 : Hid (Row w7 (w10.alloc (.cells #[.string x] 9)) (.slice (some ⟨gc, 0, none⟩) (R + 1) cv) (c :: r)) := h10.call hba
              have HKX : Hid (∀ W, Below (w10.alloc (.cells #[.string x] 9)).heap.size (w10.alloc (.cells #[.string x] 9)) W → W.cell? ⟨gc, R * 4 + 1, none⟩ = some (.slice (some ⟨gb, ob, none⟩) c.b.length cl) ∧ W.cell? ⟨go, oo + p, none⟩ = some (.string x) ∧ ∀ (k : Nat) z, c.b[k]? = some z → W.cell? ⟨gb, ob + k, none⟩ = some (.string z)) := fun W hb =>
                ⟨(hb.cell (p := ⟨gc, _, none⟩) (Nat.lt_of_lt_of_le hgcl hba.size)).trans ((hba.cell (p := ⟨gc, _, none⟩) hgcl).trans k1),
                 (hb.cell (p := ⟨go, _, none⟩) (Nat.lt_of_lt_of_le hgo10 hba.size)).trans ((hba.cell (p := ⟨go, _, none⟩) hgo10).trans cx10),
                 fun k z hz => (hb.cell (p := ⟨gb, _, none⟩) (Nat.lt_of_lt_of_le hgbl hba.size)).trans ((hba.cell (p := ⟨gb, _, none⟩) hgbl).trans (hcb k z hz))⟩
              have hFZ : Hid (∀ k W, Below (w10.alloc (.cells #[.string x] 9)).heap.size (w10.alloc (.cells #[.string x] 9)) W → W.frozen? ⟨gc, k, none⟩ = false) := fun k W hb =>
                (hb.frozen (p := ⟨gc, _, none⟩) (Nat.lt_of_lt_of_le hgcl hba.size)).trans ((hba.frozen (p := ⟨gc, _, none⟩) hgcl).trans (hfz k))
              have hlb : c.b.length ≤ 400 := by omega
              have hgcl11 := Nat.lt_of_lt_of_le hgcl hba.size
              clear HCT HCT2 HGP hfz hR h10 k1 hcb hne hsl hba
              go_wp2_with fail
              obtain ⟨w11, hw11⟩ : ∃ w11, w11 = w10.alloc (.cells #[.string x] 9) := ⟨_, rfl⟩
              rw [← hw11] at hr11 HKX hFZ hgcl11 kk0 ⊢
              clear hw11
              refine Rg.wp_only ?_ (moreReg _ (by kernel_rfl) _ go oo o.length co gc (R + 1) cv p R gb ob cl w11.heap.size c.b x w11 f3 f2 hlb (Below w11.heap.size w11) HKX.out (Below.refl _ _).drew (fun W o h => h.alloc h.size o) (by go_simp) (by go_simp <;> omega) (fun W W' row h hg hr => h.grown hg h.size hr))
              rintro _ w12 ⟨p0, p1, p2, v12, rfl, hL12, hX12⟩
              obtain ⟨A12, c12, hv12⟩ := hL12.form
              have hr12 : Hid (Row w7 w12 (.slice (some ⟨gc, 0, none⟩) (R + 1) cv) (c :: r)) := hr11.out.call hX12
              obtain ⟨m0, m1, m2, m3, y0, y1, y2, y3⟩ := hr12.out.four HRR.out
              have z0 := hFZ.out (R * 4) w12 hX12
              have z1 := hFZ.out (R * 4 + 1) w12 hX12
              have z2 := hFZ.out (R * 4 + 2) w12 hX12
              have z3 := hFZ.out (R * 4 + 3) w12 hX12
              have hrd12 : Hid (Reads w12 (true, v12, v12, v12) ⟨true, c.b ++ [x], c.b ++ [x], c.b ++ [x]⟩) := ⟨rfl, ⟨lo_rd hL12, lo_ty hL12⟩, ⟨lo_rd hL12, lo_ty hL12⟩, ⟨lo_rd hL12, lo_ty hL12⟩⟩
              subst hv12
              have HX13 : Hid (Row w7 ((((w12.setCell ⟨gc, R * 4, none⟩ (.bool true)).setCell ⟨gc, R * 4 + 1, none⟩ (.slice A12 (c.b ++ [x]).length c12)).setCell ⟨gc, R * 4 + 2, none⟩ (.slice A12 (c.b ++ [x]).length c12)).setCell ⟨gc, R * 4 + 3, none⟩ (.slice A12 (c.b ++ [x]).length c12)) (.slice (some ⟨gc, 0, none⟩) (R + 1) cv) (⟨true, c.b ++ [x], c.b ++ [x], c.b ++ [x]⟩ :: r)) := by
                have h := hr12.out
                rw [HRR.out] at h ⊢
                exact h.set hgcB (true, .slice A12 (c.b ++ [x]).length c12, .slice A12 (c.b ++ [x]).length c12, .slice A12 (c.b ++ [x]).length c12) hrd12.out
              obtain ⟨v13, hv13⟩ : ∃ v13, v13 = (.slice A12 (c.b ++ [x]).length c12 : Value) := ⟨_, rfl⟩
              have hL : (c.b ++ [x]).length = c.b.length + 1 := by simp
              rw [hL] at HX13
              clear hL12 hX12 HKX hFZ hr11 kk0 hv13 hL hr12 hrd12
              go_wp2_with fail
              go_roundw
              case rel => exact ⟨n + 1, p + 1, q + 1, y + 1, _, by go_num, by go_num, by go_num, by go_num, HCT3, HX13⟩
              case measure => simp only [intOf]; omega
        · have hnN : n = NT := by omega
          obtain ⟨p, hp⟩ : ∃ p, p = o.length := ⟨_, rfl⟩
          obtain ⟨q, hq⟩ : ∃ q, q = a.length := ⟨_, rfl⟩
          obtain ⟨y, hy⟩ : ∃ y, y = b.length := ⟨_, rfl⟩
          have hCe := HCT.out
          rw [hnN, HNT.out] at hCe
          obtain ⟨hip, hjq, hky, hend⟩ := ct_end hCe
          rw [← hp, ← hq, ← hy] at hend
          rw [← hp] at hip
          rw [← hq] at hjq
          rw [← hy] at hky
          obtain ⟨d0, d1, d2⟩ := HC7.out n (p, q, y) (by rw [List.getElem?_append_right (by rw [← HNT.out]; omega), hp, hq, hy, hnN, HNT.out, Nat.sub_self]; rfl)
          unfold iv at d0 d1 d2
          simp only at d0 d1 d2
          have hpo : p ≤ o.length := by omega
          have hqa : q ≤ a.length := by omega
          have hyb : y ≤ b.length := by omega
          have wk : IntKind.i64.wrap (((NT + 1 : Nat) : Int) - 1) = (NT : Int) := (IntWalk.i64_in _ (by omega)).trans (by omega)
          have e2 : ((n : Int) == (NT : Int)) = true := beq_iff_eq.2 (by omega)
          have HEND : Hid (pie o a b = gapc o a b i j k p q y r) := HPI.out.trans hend
          clear hCe hend hp hq hy hnN
          have hwr : Below w7.heap.size w7 wr := HR.out.elim fun _ x => x.2.2
          have c0 : wr.cell? ⟨gt, n * 3, none⟩ = some (.int .i64 (p : Int)) := (hwr.cell (p := ⟨gt, _, none⟩) hgt).trans d0
          have c1 : wr.cell? ⟨gt, n * 3 + 1, none⟩ = some (.int .i64 (q : Int)) := (hwr.cell (p := ⟨gt, _, none⟩) hgt).trans d1
          have c2 : wr.cell? ⟨gt, n * 3 + 2, none⟩ = some (.int .i64 (y : Int)) := (hwr.cell (p := ⟨gt, _, none⟩) hgt).trans d2
          have HTri : Hid (∀ W, Below w7.heap.size w7 W → Tri gt n p q y W) := fun W hb => ⟨(hb.cell (p := ⟨gt, _, none⟩) hgt).trans d0, (hb.cell (p := ⟨gt, _, none⟩) hgt).trans d1, (hb.cell (p := ⟨gt, _, none⟩) hgt).trans d2⟩
          have hsow := HSO7.out.below hwr
          have hsaw := HSA7.out.below hwr
          have hsbw := HSB7.out.below hwr
          have hkpw : Kp w7 wr := Kp.of_below hwr
          clear d0 d1 d2
          by_cases hgp : i < p ∨ j < q ∨ k < y
          · have HGP : Hid (gapc o a b i j k p q y r = ⟨false, (o.take p).drop i, (a.take q).drop j, (b.take y).drop k⟩ :: r) := gapc_yes hgp
            by_cases gg1 : i < p
            · have g1 : (i : Int) < (p : Int) := by omega
              obtain ⟨Bo, eo⟩ : ∃ Bo, sliced Ao i p co 1 = .slice Bo (p - i) (co - i) := ⟨_, rfl⟩
              obtain ⟨Ba, ea⟩ : ∃ Ba, sliced Aa j q ca 1 = .slice Ba (q - j) (ca - j) := ⟨_, rfl⟩
              obtain ⟨Bb, eb⟩ : ∃ Bb, sliced Ab k y cb 1 = .slice Bb (y - k) (cb - k) := ⟨_, rfl⟩
              have S1 : ∀ W : World, (Instr.slice 59 (.slice Ao o.length co) (some (.int .i64 (i : Int))) (some (.int .i64 (p : Int))) none).run Tryz.prog W = .ok (.slice Bo (p - i) (co - i)) W := fun W => by rw [← eo]; exact slice_run14 Ao o.length co i p hip (by omega) W
              have S2 : ∀ W : World, (Instr.slice 59 (.slice Aa a.length ca) (some (.int .i64 (j : Int))) (some (.int .i64 (q : Int))) none).run Tryz.prog W = .ok (.slice Ba (q - j) (ca - j)) W := fun W => by rw [← ea]; exact slice_run14 Aa a.length ca j q hjq (by omega) W
              have S3 : ∀ W : World, (Instr.slice 59 (.slice Ab b.length cb) (some (.int .i64 (k : Int))) (some (.int .i64 (y : Int))) none).run Tryz.prog W = .ok (.slice Bb (y - k) (cb - k)) W := fun W => by rw [← eb]; exact slice_run14 Ab b.length cb k y hky (by omega) W
              have hrd : Reads wr (false, .slice Bo (p - i) (co - i), .slice Ba (q - j) (ca - j), .slice Bb (y - k) (cb - k)) ⟨false, (o.take p).drop i, (a.take q).drop j, (b.take y).drop k⟩ := by
                refine ⟨rfl, ⟨?_, ?_⟩, ⟨?_, ?_⟩, ⟨?_, ?_⟩⟩
                · show Rd wr (.slice Bo (p - i) (co - i)) _
                  rw [← eo]; exact rd_sub (hsow) hip hpo lo_ HZO.out
                · show Ty wr (.slice Bo (p - i) (co - i))
                  rw [← eo]; exact ty_sub (HTO7.out.keep hkpw)
                · show Rd wr (.slice Ba (q - j) (ca - j)) _
                  rw [← ea]; exact rd_sub (hsaw) hjq hqa la_ HZA.out
                · show Ty wr (.slice Ba (q - j) (ca - j))
                  rw [← ea]; exact ty_sub (HTA7.out.keep hkpw)
                · show Rd wr (.slice Bb (y - k) (cb - k)) _
                  rw [← eb]; exact rd_sub (hsbw) hky hyb lb_ HZB.out
                · show Ty wr (.slice Bb (y - k) (cb - k))
                  rw [← eb]; exact ty_sub (HTB7.out.keep hkpw)
              have HE := Lib.hid (HR.out.put (by omega) _ hrd)
              have hX2 : Below w7.heap.size w7 (wr.drew.alloc (.cells #[.bool false, .slice Bo (p - i) (co - i), .slice Ba (q - j) (ca - j), .slice Bb (y - k) (cb - k)] 76)) := hwr.drew.alloc hwr.size _
              have hwd := hwr.drew
              clear hrd eo ea eb
              go_wp2_with fail
              refine Rg.wp_only ?_ (gapReg _ (by kernel_rfl) _ gt (NT + 1) ct n p q y o.length co a.length ca b.length cb i j k (p - i) (co - i) (q - j) (ca - j) (y - k) (cb - k) wr e1 (Below w7.heap.size w7) HTri.out hwd Ao Aa Ab Bo Ba Bb _ (fun v8 W => Row w7 W v8 (⟨false, (o.take p).drop i, (a.take q).drop j, (b.take y).drop k⟩ :: r)) S1 S2 S3 hX2 HE.out)
              rintro _ w9 ⟨v9, rfl, h9⟩
              have HR9 := Lib.hid h9
              obtain ⟨av1, cv1, hv1⟩ := h9.len
              rw [List.length_cons] at hv1
              subst hv1
              clear h9 HE S1 S2 S3 hX2 hwd HR c0 c1 c2 g1
              go_wp2_with fail
              refine Rg.wp_only ?_ (triReg _ (by kernel_rfl) _ gt (NT + 1) ct n p q y w9 e1 (fun W => Row w7 W (.slice av1 (r.length + 1) cv1) (⟨false, (o.take p).drop i, (a.take q).drop j, (b.take y).drop k⟩ :: r)) (fun W h => HTri.out W (h.elim fun _ x => x.2.2)) HR9.out.drew)
              rintro _ w10 ⟨rfl, h10⟩
              clear HR9
              obtain ⟨g, hg0⟩ : ∃ g, g = (⟨false, (o.take p).drop i, (a.take q).drop j, (b.take y).drop k⟩ : Ck ByteArray) := ⟨_, rfl⟩
              have hgs : g.st = false := by rw [hg0]
              rw [← hg0] at h10 HGP
              clear hg0
              go_wp2_with fail
              go_ret2
              obtain ⟨cs, q1, q2, q3⟩ := h10
              rw [HCH.out, HE0.out, HEND.out, HGP.out]
              exact ⟨_, cs, rfl, own_base q1 HB7.out.size, q2.isC, HB7.out.trans (q3.mono HB7.out.size)⟩
            · by_cases gg2 : j < q
              · have g1 : ¬ (i : Int) < (p : Int) := by omega
                have g2 : (j : Int) < (q : Int) := by omega
                obtain ⟨Bo, eo⟩ : ∃ Bo, sliced Ao i p co 1 = .slice Bo (p - i) (co - i) := ⟨_, rfl⟩
                obtain ⟨Ba, ea⟩ : ∃ Ba, sliced Aa j q ca 1 = .slice Ba (q - j) (ca - j) := ⟨_, rfl⟩
                obtain ⟨Bb, eb⟩ : ∃ Bb, sliced Ab k y cb 1 = .slice Bb (y - k) (cb - k) := ⟨_, rfl⟩
                have S1 : ∀ W : World, (Instr.slice 59 (.slice Ao o.length co) (some (.int .i64 (i : Int))) (some (.int .i64 (p : Int))) none).run Tryz.prog W = .ok (.slice Bo (p - i) (co - i)) W := fun W => by rw [← eo]; exact slice_run14 Ao o.length co i p hip (by omega) W
                have S2 : ∀ W : World, (Instr.slice 59 (.slice Aa a.length ca) (some (.int .i64 (j : Int))) (some (.int .i64 (q : Int))) none).run Tryz.prog W = .ok (.slice Ba (q - j) (ca - j)) W := fun W => by rw [← ea]; exact slice_run14 Aa a.length ca j q hjq (by omega) W
                have S3 : ∀ W : World, (Instr.slice 59 (.slice Ab b.length cb) (some (.int .i64 (k : Int))) (some (.int .i64 (y : Int))) none).run Tryz.prog W = .ok (.slice Bb (y - k) (cb - k)) W := fun W => by rw [← eb]; exact slice_run14 Ab b.length cb k y hky (by omega) W
                have hrd : Reads wr (false, .slice Bo (p - i) (co - i), .slice Ba (q - j) (ca - j), .slice Bb (y - k) (cb - k)) ⟨false, (o.take p).drop i, (a.take q).drop j, (b.take y).drop k⟩ := by
                  refine ⟨rfl, ⟨?_, ?_⟩, ⟨?_, ?_⟩, ⟨?_, ?_⟩⟩
                  · show Rd wr (.slice Bo (p - i) (co - i)) _
                    rw [← eo]; exact rd_sub (hsow) hip hpo lo_ HZO.out
                  · show Ty wr (.slice Bo (p - i) (co - i))
                    rw [← eo]; exact ty_sub (HTO7.out.keep hkpw)
                  · show Rd wr (.slice Ba (q - j) (ca - j)) _
                    rw [← ea]; exact rd_sub (hsaw) hjq hqa la_ HZA.out
                  · show Ty wr (.slice Ba (q - j) (ca - j))
                    rw [← ea]; exact ty_sub (HTA7.out.keep hkpw)
                  · show Rd wr (.slice Bb (y - k) (cb - k)) _
                    rw [← eb]; exact rd_sub (hsbw) hky hyb lb_ HZB.out
                  · show Ty wr (.slice Bb (y - k) (cb - k))
                    rw [← eb]; exact ty_sub (HTB7.out.keep hkpw)
                have HE := Lib.hid (HR.out.put (by omega) _ hrd)
                have hX2 : Below w7.heap.size w7 (wr.drew.alloc (.cells #[.bool false, .slice Bo (p - i) (co - i), .slice Ba (q - j) (ca - j), .slice Bb (y - k) (cb - k)] 76)) := hwr.drew.alloc hwr.size _
                have hwd := hwr.drew
                clear hrd eo ea eb
                go_wp2_with fail
                refine Rg.wp_only ?_ (gapReg _ (by kernel_rfl) _ gt (NT + 1) ct n p q y o.length co a.length ca b.length cb i j k (p - i) (co - i) (q - j) (ca - j) (y - k) (cb - k) wr e1 (Below w7.heap.size w7) HTri.out hwd Ao Aa Ab Bo Ba Bb _ (fun v8 W => Row w7 W v8 (⟨false, (o.take p).drop i, (a.take q).drop j, (b.take y).drop k⟩ :: r)) S1 S2 S3 hX2 HE.out)
                rintro _ w9 ⟨v9, rfl, h9⟩
                have HR9 := Lib.hid h9
                obtain ⟨av1, cv1, hv1⟩ := h9.len
                rw [List.length_cons] at hv1
                subst hv1
                clear h9 HE S1 S2 S3 hX2 hwd HR c0 c1 c2 g1 g2
                go_wp2_with fail
                refine Rg.wp_only ?_ (triReg _ (by kernel_rfl) _ gt (NT + 1) ct n p q y w9 e1 (fun W => Row w7 W (.slice av1 (r.length + 1) cv1) (⟨false, (o.take p).drop i, (a.take q).drop j, (b.take y).drop k⟩ :: r)) (fun W h => HTri.out W (h.elim fun _ x => x.2.2)) HR9.out.drew)
                rintro _ w10 ⟨rfl, h10⟩
                clear HR9
                obtain ⟨g, hg0⟩ : ∃ g, g = (⟨false, (o.take p).drop i, (a.take q).drop j, (b.take y).drop k⟩ : Ck ByteArray) := ⟨_, rfl⟩
                have hgs : g.st = false := by rw [hg0]
                rw [← hg0] at h10 HGP
                clear hg0
                go_wp2_with fail
                go_ret2
                obtain ⟨cs, q1, q2, q3⟩ := h10
                rw [HCH.out, HE0.out, HEND.out, HGP.out]
                exact ⟨_, cs, rfl, own_base q1 HB7.out.size, q2.isC, HB7.out.trans (q3.mono HB7.out.size)⟩
              · have g1 : ¬ (i : Int) < (p : Int) := by omega
                have g2 : ¬ (j : Int) < (q : Int) := by omega
                have g3 : (k : Int) < (y : Int) := by omega
                obtain ⟨Bo, eo⟩ : ∃ Bo, sliced Ao i p co 1 = .slice Bo (p - i) (co - i) := ⟨_, rfl⟩
                obtain ⟨Ba, ea⟩ : ∃ Ba, sliced Aa j q ca 1 = .slice Ba (q - j) (ca - j) := ⟨_, rfl⟩
                obtain ⟨Bb, eb⟩ : ∃ Bb, sliced Ab k y cb 1 = .slice Bb (y - k) (cb - k) := ⟨_, rfl⟩
                have S1 : ∀ W : World, (Instr.slice 59 (.slice Ao o.length co) (some (.int .i64 (i : Int))) (some (.int .i64 (p : Int))) none).run Tryz.prog W = .ok (.slice Bo (p - i) (co - i)) W := fun W => by rw [← eo]; exact slice_run14 Ao o.length co i p hip (by omega) W
                have S2 : ∀ W : World, (Instr.slice 59 (.slice Aa a.length ca) (some (.int .i64 (j : Int))) (some (.int .i64 (q : Int))) none).run Tryz.prog W = .ok (.slice Ba (q - j) (ca - j)) W := fun W => by rw [← ea]; exact slice_run14 Aa a.length ca j q hjq (by omega) W
                have S3 : ∀ W : World, (Instr.slice 59 (.slice Ab b.length cb) (some (.int .i64 (k : Int))) (some (.int .i64 (y : Int))) none).run Tryz.prog W = .ok (.slice Bb (y - k) (cb - k)) W := fun W => by rw [← eb]; exact slice_run14 Ab b.length cb k y hky (by omega) W
                have hrd : Reads wr (false, .slice Bo (p - i) (co - i), .slice Ba (q - j) (ca - j), .slice Bb (y - k) (cb - k)) ⟨false, (o.take p).drop i, (a.take q).drop j, (b.take y).drop k⟩ := by
                  refine ⟨rfl, ⟨?_, ?_⟩, ⟨?_, ?_⟩, ⟨?_, ?_⟩⟩
                  · show Rd wr (.slice Bo (p - i) (co - i)) _
                    rw [← eo]; exact rd_sub (hsow) hip hpo lo_ HZO.out
                  · show Ty wr (.slice Bo (p - i) (co - i))
                    rw [← eo]; exact ty_sub (HTO7.out.keep hkpw)
                  · show Rd wr (.slice Ba (q - j) (ca - j)) _
                    rw [← ea]; exact rd_sub (hsaw) hjq hqa la_ HZA.out
                  · show Ty wr (.slice Ba (q - j) (ca - j))
                    rw [← ea]; exact ty_sub (HTA7.out.keep hkpw)
                  · show Rd wr (.slice Bb (y - k) (cb - k)) _
                    rw [← eb]; exact rd_sub (hsbw) hky hyb lb_ HZB.out
                  · show Ty wr (.slice Bb (y - k) (cb - k))
                    rw [← eb]; exact ty_sub (HTB7.out.keep hkpw)
                have HE := Lib.hid (HR.out.put (by omega) _ hrd)
                have hX2 : Below w7.heap.size w7 (wr.drew.alloc (.cells #[.bool false, .slice Bo (p - i) (co - i), .slice Ba (q - j) (ca - j), .slice Bb (y - k) (cb - k)] 76)) := hwr.drew.alloc hwr.size _
                have hwd := hwr.drew
                clear hrd eo ea eb
                go_wp2_with fail
                refine Rg.wp_only ?_ (gapReg _ (by kernel_rfl) _ gt (NT + 1) ct n p q y o.length co a.length ca b.length cb i j k (p - i) (co - i) (q - j) (ca - j) (y - k) (cb - k) wr e1 (Below w7.heap.size w7) HTri.out hwd Ao Aa Ab Bo Ba Bb _ (fun v8 W => Row w7 W v8 (⟨false, (o.take p).drop i, (a.take q).drop j, (b.take y).drop k⟩ :: r)) S1 S2 S3 hX2 HE.out)
                rintro _ w9 ⟨v9, rfl, h9⟩
                have HR9 := Lib.hid h9
                obtain ⟨av1, cv1, hv1⟩ := h9.len
                rw [List.length_cons] at hv1
                subst hv1
                clear h9 HE S1 S2 S3 hX2 hwd HR c0 c1 c2 g1 g2 g3
                go_wp2_with fail
                refine Rg.wp_only ?_ (triReg _ (by kernel_rfl) _ gt (NT + 1) ct n p q y w9 e1 (fun W => Row w7 W (.slice av1 (r.length + 1) cv1) (⟨false, (o.take p).drop i, (a.take q).drop j, (b.take y).drop k⟩ :: r)) (fun W h => HTri.out W (h.elim fun _ x => x.2.2)) HR9.out.drew)
                rintro _ w10 ⟨rfl, h10⟩
                clear HR9
                obtain ⟨g, hg0⟩ : ∃ g, g = (⟨false, (o.take p).drop i, (a.take q).drop j, (b.take y).drop k⟩ : Ck ByteArray) := ⟨_, rfl⟩
                have hgs : g.st = false := by rw [hg0]
                rw [← hg0] at h10 HGP
                clear hg0
                go_wp2_with fail
                go_ret2
                obtain ⟨cs, q1, q2, q3⟩ := h10
                rw [HCH.out, HE0.out, HEND.out, HGP.out]
                exact ⟨_, cs, rfl, own_base q1 HB7.out.size, q2.isC, HB7.out.trans (q3.mono HB7.out.size)⟩
          · have HGP : Hid (gapc o a b i j k p q y r = r) := gapc_no hgp
            have g1 : ¬ (i : Int) < (p : Int) := by omega
            have g2 : ¬ (j : Int) < (q : Int) := by omega
            have g3 : ¬ (k : Int) < (y : Int) := by omega
            go_wp2_with fail
            refine Rg.wp_only ?_ (triReg _ (by kernel_rfl) _ gt (NT + 1) ct n p q y wr e1 (fun W => Row w7 W (.slice av r.length cv) r) (fun W h => HTri.out W (h.elim fun _ x => x.2.2)) HR.out.drew)
            rintro _ w10 ⟨rfl, h10⟩
            clear HR c0 c1 c2 g1 g2 g3
            go_wp2_with fail
            go_ret2
            obtain ⟨cs, q1, q2, q3⟩ := h10
            rw [HCH.out, HE0.out, HEND.out, HGP.out]
            exact ⟨_, cs, rfl, own_base q1 HB7.out.size, q2.isC, HB7.out.trans (q3.mono HB7.out.size)⟩
end Go.Proofs.YtkenmldiojeooaaGreat.Mg

namespace Go.Proofs.YtkenmldiojeooaaGreat.Mg
open Go.RowKit Go.ChangeShapes Go.WideShapes Tx Um Ud Aq Km Kd Lm Ln
set_option linter.unusedVariables false
set_option maxRecDepth 100000 in
set_option maxHeartbeats 4000000 in
theorem conflReg (ops : Array Oper) (hops : ops = (Rg.opsOf Tryz.f33 14)) (id : Nat) (gv nl cl nr cr : Nat) (Al Ar : Option Addr) (S x1 x2 : ByteArray) {u0 u1 u2 u3 u4 u5 u6 u7 u8 u9 u10 u12 u13 u15 u16 u17 u18 u19 u20 u21 u22 u23 u24 u25 u26 u27 u28 u29 u30 u31 u32 u33 u34 u35 u36 u37 u38 u39 u40 u41 u42 u43 u44 u45 u46 u47 u48 u49 u50 u51 u52 u53 u54 u55 u56 u57 u58 u59 u60 u61 u62 u63 u64 u65 u66 u67 u68 u69 u70 u71 u72 u73 u74 u75 u76 u77 u78 u79 u80 u81 u82 u83 : Value} (w : World) (X : World → Prop) (Y1 Y2 : World → Value → Prop)
    (hX : ∀ W, X W → W.cell? ⟨gv, 2, none⟩ = some (.slice Al nl cl) ∧ W.cell? ⟨gv, 3, none⟩ = some (.slice Ar nr cr)) (hw : X w.drew)
    (hC1 : ∀ W, X W → Calls Tryz.prog 51 #[.slice Al nl cl] W fun e w' => ∃ v, e = .returned v ∧ X w' ∧ Y1 w' v)
    (hJ1 : ∀ W v, X W → Y1 W v → Calls Tryz.prog 50 #[v] W fun e w' => e = .returned (.string x1) ∧ X w')
    (hC2 : ∀ W, X W → Calls Tryz.prog 51 #[.slice Ar nr cr] W fun e w' => ∃ v, e = .returned v ∧ X w' ∧ Y2 w' v)
    (hJ2 : ∀ W v, X W → Y2 W v → Calls Tryz.prog 50 #[v] W fun e w' => e = .returned (.string x2) ∧ X w')
    (hs : S.size + x1.size + x2.size + 24 ≤ 9223372036854775807) :
    (Code.region id ops true).wp Tryz.prog (Rg.Only fun a' w' => ∃ v1 v2 : Value, a' = ⟨#[u0, u1, u2, u3, u4, u5, u6, u7, u8, u9, u10, (.string (S ++ ⟨#[60, 60, 60, 60, 60, 60, 60, 10]⟩ ++ x1 ++ ⟨#[61, 61, 61, 61, 61, 61, 61, 10]⟩ ++ x2 ++ ⟨#[62, 62, 62, 62, 62, 62, 62, 10]⟩)), u12, u13, (.pointer (some ⟨gv, 0, none⟩)), u15, u16, u17, u18, u19, u20, u21, u22, u23, u24, u25, u26, u27, u28, u29, u30, u31, u32, u33, u34, u35, u36, u37, u38, u39, u40, u41, u42, u43, u44, u45, u46, u47, u48, u49, u50, u51, u52, u53, u54, u55, u56, u57, u58, u59, u60, u61, u62, u63, u64, u65, u66, u67, (.string S), (.string (S ++ ⟨#[60, 60, 60, 60, 60, 60, 60, 10]⟩)), (.pointer (some ⟨gv, 2, none⟩)), (.slice Al nl cl), v1, (.string x1), (.string (S ++ ⟨#[60, 60, 60, 60, 60, 60, 60, 10]⟩ ++ x1)), (.string (S ++ ⟨#[60, 60, 60, 60, 60, 60, 60, 10]⟩ ++ x1 ++ ⟨#[61, 61, 61, 61, 61, 61, 61, 10]⟩)), (.pointer (some ⟨gv, 3, none⟩)), (.slice Ar nr cr), v2, (.string x2), (.string (S ++ ⟨#[60, 60, 60, 60, 60, 60, 60, 10]⟩ ++ x1 ++ ⟨#[61, 61, 61, 61, 61, 61, 61, 10]⟩ ++ x2)), (.string (S ++ ⟨#[60, 60, 60, 60, 60, 60, 60, 10]⟩ ++ x1 ++ ⟨#[61, 61, 61, 61, 61, 61, 61, 10]⟩ ++ x2 ++ ⟨#[62, 62, 62, 62, 62, 62, 62, 10]⟩)), u82, u83], []⟩ ∧ X w') ⟨#[u0, u1, u2, u3, u4, u5, u6, u7, u8, u9, u10, (.string S), u12, u13, (.pointer (some ⟨gv, 0, none⟩)), u15, u16, u17, u18, u19, u20, u21, u22, u23, u24, u25, u26, u27, u28, u29, u30, u31, u32, u33, u34, u35, u36, u37, u38, u39, u40, u41, u42, u43, u44, u45, u46, u47, u48, u49, u50, u51, u52, u53, u54, u55, u56, u57, u58, u59, u60, u61, u62, u63, u64, u65, u66, u67, u68, u69, u70, u71, u72, u73, u74, u75, u76, u77, u78, u79, u80, u81, u82, u83], []⟩ w := by
  subst hops
  have hNS : Region.noSelect (Rg.opsOf Tryz.f33 14) = true := by kernel_rfl
  refine wp_region_held_drew (S := X) (by kernel_rfl) hw (fun hHeld => ?_)
  rw [show (Rg.opsOf Tryz.f33 14).size = 15 by kernel_rfl]
  refine Rg.take (ops := (Rg.opsOf Tryz.f33 14)) 0 (some 68) ((.string S)) hNS (by kernel_rfl) (by kernel_rfl) (by kernel_rfl) (by kernel_rfl) (by kernel_rfl) hHeld (Rg.y_move (x := (Operand.tmp 11)) (Or.inl (by kernel_rfl)) (by kernel_rfl)) ?_
  refine Rg.take (ops := (Rg.opsOf Tryz.f33 14)) 1 (some 69) ((.string (S ++ ⟨#[60, 60, 60, 60, 60, 60, 60, 10]⟩))) hNS (by kernel_rfl) (by kernel_rfl) (by kernel_rfl) (by kernel_rfl) (by kernel_rfl) hHeld (Rg.y_bin (b := BinOp.add) (T := 9) (R' := 9) (x := (Operand.tmp 68)) (y := (Operand.const (Value.string { data := #[60, 60, 60, 60, 60, 60, 60, 10] }))) (vx := (.string S)) (vy := (Value.string { data := #[60, 60, 60, 60, 60, 60, 60, 10] })) (by kernel_rfl) (by kernel_rfl) (by kernel_rfl) ?_) ?_
  · (intro W hSw; clear hSw hHeld; go_simp <;> omega)
  refine Rg.take (ops := (Rg.opsOf Tryz.f33 14)) 2 (some 70) ((.pointer (some ⟨gv, 2, none⟩))) hNS (by kernel_rfl) (by kernel_rfl) (by kernel_rfl) (by kernel_rfl) (by kernel_rfl) hHeld (Rg.y_field (T := 76) (k := 2) (x := (Operand.tmp 14)) (vx := (.pointer (some ⟨gv, 0, none⟩))) (by kernel_rfl) (by kernel_rfl) ?_) ?_
  · (intro W hSw; clear hSw hHeld; go_simp)
  refine Rg.take (ops := (Rg.opsOf Tryz.f33 14)) 3 (some 71) ((.slice Al nl cl)) hNS (by kernel_rfl) (by kernel_rfl) (by kernel_rfl) (by kernel_rfl) (by kernel_rfl) hHeld (Rg.y_load (T := 59) (x := (Operand.tmp 70)) (vx := (.pointer (some ⟨gv, 2, none⟩))) (by kernel_rfl) (by kernel_rfl) ?_) ?_
  · (intro W hSw; obtain ⟨s0, s1⟩ := hX _ hSw; clear hSw hHeld; go_simp)
  refine Rg.take (ops := (Rg.opsOf Tryz.f33 14)) 8 (some 76) ((.pointer (some ⟨gv, 3, none⟩))) hNS (by kernel_rfl) (by kernel_rfl) (by kernel_rfl) (by kernel_rfl) (by kernel_rfl) hHeld (Rg.y_field (T := 76) (k := 3) (x := (Operand.tmp 14)) (vx := (.pointer (some ⟨gv, 0, none⟩))) (by kernel_rfl) (by kernel_rfl) ?_) ?_
  · (intro W hSw; clear hSw hHeld; go_simp)
  refine Rg.take (ops := (Rg.opsOf Tryz.f33 14)) 9 (some 77) ((.slice Ar nr cr)) hNS (by kernel_rfl) (by kernel_rfl) (by kernel_rfl) (by kernel_rfl) (by kernel_rfl) hHeld (Rg.y_load (T := 59) (x := (Operand.tmp 76)) (vx := (.pointer (some ⟨gv, 3, none⟩))) (by kernel_rfl) (by kernel_rfl) ?_) ?_
  · (intro W hSw; obtain ⟨s0, s1⟩ := hX _ hSw; clear hSw hHeld; go_simp)
  refine Rg.call (ops := (Rg.opsOf Tryz.f33 14)) (fn := Tryz.f51) (xs := #[Operand.tmp 71]) (ats := #[59]) 4 (some 72) 51 #[(.slice Al nl cl)] (by kernel_rfl) (by kernel_rfl) (by kernel_rfl) (by kernel_rfl) (by kernel_rfl) Tryz.func51 (by kernel_rfl) (by kernel_rfl) (by kernel_rfl) ?_
  refine (hC1 _ hHeld).mono ?_
  rintro e z1 ⟨v1, rfl, k1, y1⟩
  refine ⟨_, rfl, k1, fun hHeld => ?_⟩
  refine Rg.call (ops := (Rg.opsOf Tryz.f33 14)) (fn := Tryz.f50) (xs := #[Operand.tmp 72]) (ats := #[59]) 5 (some 73) 50 #[v1] (by kernel_rfl) (by kernel_rfl) (by kernel_rfl) (by kernel_rfl) (by kernel_rfl) Tryz.func50 (by kernel_rfl) (by kernel_rfl) (by kernel_rfl) ?_
  refine (hJ1 _ _ hHeld y1).mono ?_
  rintro e t1 ⟨rfl, k1⟩
  refine ⟨_, rfl, k1, fun hHeld => ?_⟩
  refine Rg.take (ops := (Rg.opsOf Tryz.f33 14)) 6 (some 74) ((.string (S ++ ⟨#[60, 60, 60, 60, 60, 60, 60, 10]⟩ ++ x1))) hNS (by kernel_rfl) (by kernel_rfl) (by kernel_rfl) (by kernel_rfl) (by kernel_rfl) hHeld (Rg.y_bin (b := BinOp.add) (T := 9) (R' := 9) (x := (Operand.tmp 69)) (y := (Operand.tmp 73)) (vx := (.string (S ++ ⟨#[60, 60, 60, 60, 60, 60, 60, 10]⟩))) (vy := (.string x1)) (by kernel_rfl) (by kernel_rfl) (by kernel_rfl) ?_) ?_
  · (intro W hSw; clear hSw hHeld; go_simp <;> omega)
  refine Rg.take (ops := (Rg.opsOf Tryz.f33 14)) 7 (some 75) ((.string (S ++ ⟨#[60, 60, 60, 60, 60, 60, 60, 10]⟩ ++ x1 ++ ⟨#[61, 61, 61, 61, 61, 61, 61, 10]⟩))) hNS (by kernel_rfl) (by kernel_rfl) (by kernel_rfl) (by kernel_rfl) (by kernel_rfl) hHeld (Rg.y_bin (b := BinOp.add) (T := 9) (R' := 9) (x := (Operand.tmp 74)) (y := (Operand.const (Value.string { data := #[61, 61, 61, 61, 61, 61, 61, 10] }))) (vx := (.string (S ++ ⟨#[60, 60, 60, 60, 60, 60, 60, 10]⟩ ++ x1))) (vy := (Value.string { data := #[61, 61, 61, 61, 61, 61, 61, 10] })) (by kernel_rfl) (by kernel_rfl) (by kernel_rfl) ?_) ?_
  · (intro W hSw; clear hSw hHeld; go_simp <;> omega)
  refine Rg.call (ops := (Rg.opsOf Tryz.f33 14)) (fn := Tryz.f51) (xs := #[Operand.tmp 77]) (ats := #[59]) 10 (some 78) 51 #[(.slice Ar nr cr)] (by kernel_rfl) (by kernel_rfl) (by kernel_rfl) (by kernel_rfl) (by kernel_rfl) Tryz.func51 (by kernel_rfl) (by kernel_rfl) (by kernel_rfl) ?_
  refine (hC2 _ hHeld).mono ?_
  rintro e z2 ⟨v2, rfl, k2, y2⟩
  refine ⟨_, rfl, k2, fun hHeld => ?_⟩
  refine Rg.call (ops := (Rg.opsOf Tryz.f33 14)) (fn := Tryz.f50) (xs := #[Operand.tmp 78]) (ats := #[59]) 11 (some 79) 50 #[v2] (by kernel_rfl) (by kernel_rfl) (by kernel_rfl) (by kernel_rfl) (by kernel_rfl) Tryz.func50 (by kernel_rfl) (by kernel_rfl) (by kernel_rfl) ?_
  refine (hJ2 _ _ hHeld y2).mono ?_
  rintro e t2 ⟨rfl, k2⟩
  refine ⟨_, rfl, k2, fun hHeld => ?_⟩
  refine Rg.take (ops := (Rg.opsOf Tryz.f33 14)) 12 (some 80) ((.string (S ++ ⟨#[60, 60, 60, 60, 60, 60, 60, 10]⟩ ++ x1 ++ ⟨#[61, 61, 61, 61, 61, 61, 61, 10]⟩ ++ x2))) hNS (by kernel_rfl) (by kernel_rfl) (by kernel_rfl) (by kernel_rfl) (by kernel_rfl) hHeld (Rg.y_bin (b := BinOp.add) (T := 9) (R' := 9) (x := (Operand.tmp 75)) (y := (Operand.tmp 79)) (vx := (.string (S ++ ⟨#[60, 60, 60, 60, 60, 60, 60, 10]⟩ ++ x1 ++ ⟨#[61, 61, 61, 61, 61, 61, 61, 10]⟩))) (vy := (.string x2)) (by kernel_rfl) (by kernel_rfl) (by kernel_rfl) ?_) ?_
  · (intro W hSw; clear hSw hHeld; go_simp <;> omega)
  refine Rg.take (ops := (Rg.opsOf Tryz.f33 14)) 13 (some 81) ((.string (S ++ ⟨#[60, 60, 60, 60, 60, 60, 60, 10]⟩ ++ x1 ++ ⟨#[61, 61, 61, 61, 61, 61, 61, 10]⟩ ++ x2 ++ ⟨#[62, 62, 62, 62, 62, 62, 62, 10]⟩))) hNS (by kernel_rfl) (by kernel_rfl) (by kernel_rfl) (by kernel_rfl) (by kernel_rfl) hHeld (Rg.y_bin (b := BinOp.add) (T := 9) (R' := 9) (x := (Operand.tmp 80)) (y := (Operand.const (Value.string { data := #[62, 62, 62, 62, 62, 62, 62, 10] }))) (vx := (.string (S ++ ⟨#[60, 60, 60, 60, 60, 60, 60, 10]⟩ ++ x1 ++ ⟨#[61, 61, 61, 61, 61, 61, 61, 10]⟩ ++ x2))) (vy := (Value.string { data := #[62, 62, 62, 62, 62, 62, 62, 10] })) (by kernel_rfl) (by kernel_rfl) (by kernel_rfl) ?_) ?_
  · (intro W hSw; clear hSw hHeld; go_simp <;> omega)
  refine Rg.take (ops := (Rg.opsOf Tryz.f33 14)) 14 (some 11) ((.string (S ++ ⟨#[60, 60, 60, 60, 60, 60, 60, 10]⟩ ++ x1 ++ ⟨#[61, 61, 61, 61, 61, 61, 61, 10]⟩ ++ x2 ++ ⟨#[62, 62, 62, 62, 62, 62, 62, 10]⟩))) hNS (by kernel_rfl) (by kernel_rfl) (by kernel_rfl) (by kernel_rfl) (by kernel_rfl) hHeld (Rg.y_move (x := (Operand.tmp 81)) (Or.inr (by kernel_rfl)) (by kernel_rfl)) ?_
  refine Rg.done (ops := (Rg.opsOf Tryz.f33 14)) (by kernel_rfl) ?_
  exact ⟨v1, v2, by kernel_rfl, hHeld⟩
end Go.Proofs.YtkenmldiojeooaaGreat.Mg
