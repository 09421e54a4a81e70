/- Texts of this seat, one behind the other. -/
import Derived.Test.YtmlmgmodgcpkpaaT1
namespace Go.Proofs.Ytmlmgmodgcpkpaa.Ud
open Go.RowKit Go.ChangeShapes Go.WideShapes Tx Um Aq
set_option linter.unusedVariables false
def RunAt (w : World) (pr x n : Nat) : Prop := w.heap[pr]? = some (.cells #[.int .i64 (x : Int), .int .i64 (n : Int)] 37 (0, 0))
theorem RunAt.cell {w : World} {pr x n : Nat} (h : RunAt w pr x n) : w.cell? ⟨pr, 0, none⟩ = some (.int .i64 (x : Int)) ∧ w.cell? ⟨pr, 1, none⟩ = some (.int .i64 (n : Int)) := by
  unfold World.cell?
  unfold RunAt at h
  simp [h]
theorem RunAt.kept {w w1 : World} {pr x n : Nat} (h : RunAt w pr x n) (hk : w1.heap[pr]? = w.heap[pr]?) : RunAt w1 pr x n := hk.trans h
theorem RunAt.lt {w : World} {pr x n : Nat} (h : RunAt w pr x n) : pr < w.heap.size := (Array.getElem?_eq_some_iff.1 h).1
theorem pk_on {s : List Nat} {k i j x : Nat} {pre : List (Nat × Nat)} (h : PK s k i j pre) (hs : s[k]? = some x) (hx : x = 0 ∨ x = 1 ∨ x = 2) : PK s (k + 1) (onA i x) (onB j x) (if x = 0 then pre ++ [(i, j)] else pre) := by
  rcases hx with rfl | rfl | rfl
  · exact pk_keep h hs
  · exact pk_drop h hs
  · exact pk_add h hs
theorem pos_le (R : List (Nat × Nat)) (k : Nat) : pos R k ≤ (flat R).length := by
  unfold pos
  have : flat R = flat (R.take k) ++ flat (R.drop k) := by unfold flat; rw [← List.flatMap_append, List.take_append_drop]
  rw [this, List.length_append]
  omega
set_option maxRecDepth 100000 in
set_option maxHeartbeats 2000000 in
theorem kept_any (A B : Option Addr) (ca cb : Nat) (a b : List ByteArray) (w : World) (hA : Strs w A a.length a) (hB : Strs w B b.length b) (ha : ∀ x, x ∈ a → x.size ≤ maxLen) (hb : ∀ x, x ∈ b → x.size ≤ maxLen) :
    Calls Try.prog 9 #[.slice A a.length ca, .slice B b.length cb] w (PrsTo 42 (kep a b) (err a b) w) := by
  obtain ⟨iE, hI, hI0, hI1, hI2⟩ := info_parts infoPair
  have cS := script_any A B ca cb a b w hA hB ha hb
  unfold PrsTo at cS
  clear hA hB ha hb
  cases hl : lng a b
  case true =>
    rw [scr_yes hl, err_yes hl] at cS
    rw [kep_yes hl, err_yes hl]
    have CS := Lib.hid cS
    clear cS hl
    go_enter Try.func9, Try.ntmps9
    go_wp2_with fail
    go_at_call 7
    refine CS.out.mono ?_
    rintro e w1 ⟨v, rfl, hv, hb1⟩
    go_wp2_with fail
    go_ret2
    exact ⟨_, rfl, World.ownsRow_nil _ _ _ _, hb1⟩
  case false =>
    obtain ⟨hm4, hn4⟩ := lng_small hl
    have hsl := (makes a b).lens
    have hk := kept a b
    have hkl := lcs_le_left a b
    have hs800 : (steps a b).length ≤ 800 := by omega
    have hle := (makes a b).le
    rw [scr_no hl, err_no hl] at cS
    rw [kep_no hl, err_no hl]
    obtain ⟨s, hs⟩ : ∃ s, s = steps a b := ⟨_, rfl⟩
    rw [← hs] at cS hs800 hle ⊢
    have HLE := Lib.hid hle
    obtain ⟨R, hR⟩ : ∃ R, R = runs s := ⟨_, rfl⟩
    rw [← hR] at cS
    have hfl : flat R = s := by rw [hR, runs_flat]
    have HFL := Lib.hid hfl
    have hRl : R.length ≤ 800 := by rw [hR]; have := runs_len s; omega
    have CS := Lib.hid cS
    clear cS hl hsl hk hkl hle hs hR hfl hm4 hn4
    go_enter Try.func9, Try.ntmps9
    go_wp2_with fail
    go_at_call 7
    refine CS.out.mono ?_
    rintro e w1 ⟨v, rfl, hv, hb1⟩
    obtain ⟨ad, cc, rfl, hrr⟩ := hv.form
    have HRR := Lib.hid hrr
    obtain ⟨L, hL⟩ : ∃ L, L = R.length := ⟨_, rfl⟩
    rw [← hL] at hRl ⊢
    have HL := Lib.hid hL
    clear hv CS hL hrr
    have hTw : Two (w1.alloc (.cells #[.int .i64 0, .int .i64 0] 42)) w1.heap.size 0 0 := heap_alloc_new _ _
    have hb2 : Below w1.heap.size w1 (w1.alloc (.cells #[.int .i64 0, .int .i64 0] 42)) := (Below.refl _ w1).alloc (Nat.le_refl _) _
    have hs3 : (w1.alloc (.cells #[.int .i64 0, .int .i64 0] 42)).heap.size = w1.heap.size + 1 := by simp
    go_wp2_with fail
    generalize w1.alloc (.cells #[.int .i64 0, .int .i64 0] 42) = w3 at hTw hb2 hs3 ⊢
    have HB3 : Hid (Below w.heap.size w w3) := hb1.trans (hb2.mono hb1.size)
    have HRR3 := Lib.hid (HRR.out.below hb2)
    have HAA : Hid (∀ i o, R.length ≠ 0 → ad = some ⟨i, o, none⟩ → i < w1.heap.size) := fun i o h0 h1 => by
      obtain ⟨b', o', h2, h3, _⟩ := HRR.out.2.resolve_left h0
      rw [h1] at h2
      injection h2 with h2
      injection h2 with h2
      omega
    have hww1 : w.heap.size ≤ w1.heap.size := hb1.size
    obtain ⟨pa, hpa⟩ : ∃ pa, pa = w1.heap.size := ⟨_, rfl⟩
    rw [← hpa] at hTw hs3 HAA hww1 ⊢
    have HTW := Lib.hid hTw
    clear hb1 hb2 hpa hTw HRR
    go_loopw [8, 11, 23] (fun v _ i wr => ∃ (k : Nat) (pre : List (Nat × Nat)) (p q : Nat), i = .int .i64 (k : Int) ∧ k ≤ L ∧ Hid (PK s (pos R k) p q pre) ∧ Prs 42 wr (pa + 1) v pre ∧ Hid (Kp pa (pa + 1) w3 wr) ∧ Hid (Two wr pa p q)) (fun _ _ i _ => L - (intOf i).toNat)
    case atStart => exact ⟨0, [], 0, 0, rfl, Nat.zero_le _, pk_start s, World.ownsRow_nil _ _ _ _, Kp.refl _ _ _, HTW⟩
    case round =>
      obtain ⟨k, pre, p, q, rfl, hk, HPK0, hpr, HK, HTWO⟩ := hrel
      clear HTW
      have hszr := HK.out.size
      by_cases hlt : k < L
      · have e1 : (k : Int) < (L : Int) := by omega
        obtain ⟨⟨x, N⟩, hx⟩ : ∃ y, R[k]? = some y := ⟨_, List.getElem?_eq_getElem (by rw [← HL.out]; exact hlt)⟩
        obtain ⟨ga, oa, rfl, hga, hca⟩ := HRR3.out.2.resolve_left (by rw [← HL.out]; omega)
        obtain ⟨a0, a1⟩ := hca k (x, N) hx
        have hgp := HAA.out ga oa (by rw [← HL.out]; omega) rfl
        have d0 : wr.cell? ⟨ga, oa + k * 2, none⟩ = some (.int .i64 (x : Int)) := cell_keep a0 (HK.out.block ga (by omega) (by omega))
        have d1 : wr.cell? ⟨ga, oa + k * 2 + 1, none⟩ = some (.int .i64 (N : Int)) := cell_keep a1 (HK.out.block ga (by omega) (by omega))
        have hend := HPK0.out
        have hat : Hid (∀ j, j < N → s[pos R k + j]? = some x) := fun j hj => by
          have := flat_at hx hj
          rwa [HFL.out] at this
        have hnx : Hid (pos R (k + 1) = pos R k + N) := pos_next hx
        have hx3 : Hid (0 < N → x = 0 ∨ x = 1 ∨ x = 2) := fun h0 => HLE.out x (List.mem_iff_getElem?.2 ⟨_, hat.out 0 h0⟩)
        have hp8 : pos R k + N ≤ 800 := by
          rw [← hnx.out]
          have h2 := pos_le R (k + 1)
          rw [HFL.out] at h2
          omega
        have hal : Below wr.heap.size wr (wr.alloc (.cells #[.int .i64 (x : Int), .int .i64 (N : Int)] 37)) := (Below.refl _ wr).alloc (Nat.le_refl _) _
        have hr0 : RunAt (wr.alloc (.cells #[.int .i64 (x : Int), .int .i64 (N : Int)] 37)) wr.heap.size x N := heap_alloc_new _ _
        have hneq : u8.ownBlock ≠ some wr.heap.size := fun e => by have := (World.ownsRow.lt hpr _ e).2; omega
        have hK0 := Lib.hid (HK.out.below hal (by omega))
        have hT0 := Lib.hid (HTWO.out.kept (hal.block pa (by omega)))
        have hp0 := hpr.below hal
        clear hca a0 a1 hx hend HK HTWO hpr hal
        go_wp2_with fail
        generalize wr.alloc (.cells #[.int .i64 (x : Int), .int .i64 (N : Int)] 37) = w4 at hr0 hK0 hT0 hp0 ⊢
        obtain ⟨pr, hpr⟩ : ∃ pr, pr = wr.heap.size := ⟨_, rfl⟩
        have hprpa : pa < pr := by omega
        rw [← hpr] at hr0 hneq ⊢
        obtain ⟨t0, ht0⟩ : ∃ t0, t0 = pos R k := ⟨_, rfl⟩
        rw [← ht0] at hp8 hat hnx HPK0
        have hr0 := Lib.hid hr0
        clear hpr d0 d1 hszr ht0
        go_loopw [8, 29] (fun v i wr => ∃ (j : Nat) (pre : List (Nat × Nat)) (p q : Nat), i = .int .i64 (j : Int) ∧ j ≤ N ∧ Hid (PK s (t0 + j) p q pre) ∧ Prs 42 wr (pa + 1) v pre ∧ v.ownBlock ≠ some pr ∧ Hid (Kp pa (pa + 1) w3 wr) ∧ Hid (Two wr pa p q) ∧ Hid (RunAt wr pr x N)) (fun _ i _ => N - (intOf i).toNat)
        case atStart => exact ⟨0, pre, p, q, rfl, Nat.zero_le _, HPK0, hp0, hneq, hK0, hT0, hr0⟩
        case round =>
          clear HPK0 hp0 hneq hK0 hT0 hr0 p q pre
          obtain ⟨j, pre, p, q, rfl, hj, HPK0, hpr, hne, HK, HTWO, HRUN⟩ := hrel
          have hp8b := HPK0.out.2.1
          have hq8 := HPK0.out.2.2.1
          have hpl8 := HPK0.out.2.2.2
          by_cases hjN : j < N
          · have e2 : (j : Int) < (N : Int) := by omega
            have hsx := hat.out j hjN
            have hx3 := hx3.out (by omega)
            have hszr := HK.out.size
            have hK := HK.out
            have hTWO := HTWO.out
            have hrun := HRUN.out
            obtain ⟨c0, c1⟩ := hTWO.cell
            obtain ⟨r0, r1⟩ := hrun.cell
            clear HK HTWO HRUN
            have HPK := Lib.hid (pk_on HPK0.out hsx hx3)
            by_cases hx0 : x = 0
            · have q0 : ((x : Int) == 0) = true := beq_iff_eq.2 (by omega)
              have q1 : (x == 0) = true := beq_iff_eq.2 hx0
              rw [if_pos hx0] at HPK
              clear HPK0 hsx hx0
              have hown : wr.ownsRow (pa + 1) 42 2 u8 pre.length (pre.flatMap Ud.c2) := hpr
              have hszd : pa + 1 ≤ wr.heap.size := by omega
              have hpl : pre.length ≤ 1000 := by omega
              go_wp2_with (at_builtin; refine Ap.wpList_append_two _ rfl _ _ 29 rfl (pa + 1) 42 iE (.agg #[.int .i64 0, .int .i64 0]) 2 16 Try.underlying29 hI hI0 hI1 hI2 rfl (by decide) (by decide) _ _ _ rfl (hown.alloc _) ⟨wr.heap.size, 0, none⟩ 1 (Ud.c2 (p, q)) rfl rfl ?c1 ?c2 ?c3 ?c4 ?c5 ?_)
              case c1 => exact cell_two_new _ _ _ _
              case c2 => exact c2_one (p, q)
              case c3 => omega
              case c4 => omega
              case c5 => simp; omega
              intro v' w2 hown' hgr
              have hpr2 : Prs 42 w2 (pa + 1) v' (pre ++ [(p, q)]) := by
                unfold Prs
                rw [List.length_append, List.flatMap_append]
                exact hown'
              have hal : Below wr.heap.size wr (wr.alloc (.cells #[.int .i64 (p : Int), .int .i64 (q : Int)] 42)) := (Below.refl _ wr).alloc (Nat.le_refl _) _
              have hsz1 : (wr.alloc (.cells #[.int .i64 (p : Int), .int .i64 (q : Int)] 42)).heap.size = wr.heap.size + 1 := by simp
              have hprl := hrun.lt
              have hold : ∀ i, i < wr.heap.size → u8.ownBlock ≠ some i → w2.heap[i]? = wr.heap[i]? := fun i hi hne => by
                rcases hgr with ⟨_, h2⟩ | ⟨_, h2⟩
                · exact (h2.block i (by omega) (fun e => hne e.symm)).trans (hal.block i hi)
                · exact (h2.block i (by omega) (by simp)).trans (hal.block i hi)
              have hmx : w2.os = wr.os ∧ w2.tape = wr.tape ∧ w2.output = wr.output ∧ wr.heap.size ≤ w2.heap.size := by
                rcases hgr with ⟨_, h2⟩ | ⟨_, h2⟩
                · exact ⟨h2.os, h2.tape, h2.output, by have := h2.size; omega⟩
                · exact ⟨h2.os, h2.tape, h2.output, by have := h2.size; omega⟩
              have hfar : ∀ i, i < pa + 1 → u8.ownBlock ≠ some i := fun i hi e => by have := (hown.lt i e).1; omega
              have hne2 : v'.ownBlock ≠ some pr := by
                rcases hgr with ⟨h1, _⟩ | ⟨h1, _⟩
                · rw [h1]; exact hne
                · rw [h1]; intro e; injection e with e; omega
              have hTWO2 := hTWO.kept (hold pa (by omega) (hfar pa (by omega)))
              have hrun2 := hrun.kept (hold pr hprl hne)
              have hK2 : Kp pa (pa + 1) w3 w2 := ⟨hmx.1.trans hK.os, hmx.2.1.trans hK.tape, hmx.2.2.1.trans hK.output, Nat.le_trans hK.size hmx.2.2.2, fun i hi hne => (hold i (by omega) (hfar i hi)).trans (hK.block i hi hne)⟩
              clear hgr hal hsz1 hold hfar hown hown' hTWO hrun hK hpr hne c0 c1 r0
              have hTWO := hTWO2
              have hrun := hrun2
              have hK := hK2
              have hne := hne2
              clear hTWO2 hrun2 hK2 hne2
              obtain ⟨c0, c1⟩ := hTWO.cell
              obtain ⟨r0, r1⟩ := hrun.cell
              have hcl := hmx
              have CB := Lib.hid (behind_any p q x w2 hx3 (by omega) (by omega))
              clear hcl
              go_wp2_with fail
              go_at_call 20
              refine CB.out.mono ?_
              rintro e w7 ⟨rfl, hb7⟩
              have HT7 := Lib.hid (hTWO.kept (hb7.block pa hTWO.lt))
              have HK7 := Lib.hid (hK.below hb7 (by have := hK.size; omega))
              have hp7 := hpr2.below hb7
              have hr7 := hrun.kept (hb7.block pr hrun.lt)
              obtain ⟨c0, c1⟩ := HT7.out.cell
              have f0 := HT7.out.frozen 0
              have f1 := HT7.out.frozen 1
              have HP8 := Lib.hid ((hp7.far (by omega : pa < pa + 1) 0 (.int .i64 (onA p x : Nat))).far (by omega : pa < pa + 1) 1 (.int .i64 (onB q x : Nat)))
              have HK8 := Lib.hid ((HK7.out.put (o := 0) (.int .i64 (onA p x : Nat))).put (o := 1) (.int .i64 (onB q x : Nat)))
              have HT8 := Lib.hid (HT7.out.put (onA p x) (onB q x))
              have HR8 : Hid (RunAt ((w7.setCell ⟨pa, 0, none⟩ (.int .i64 (onA p x : Nat))).setCell ⟨pa, 1, none⟩ (.int .i64 (onB q x : Nat))) pr x N) := hr7.kept ((Below.heap_setCell _ ⟨pa, 1, none⟩ _ pr (show pr ≠ pa by omega)).trans (Below.heap_setCell _ ⟨pa, 0, none⟩ _ pr (show pr ≠ pa by omega)))
              clear hp7 HT7 HK7 hb7 CB hTWO hK hpr2 hr7 hrun
              go_wp2_with fail
              go_roundw
              case rel => exact ⟨j + 1, pre ++ [(p, q)], onA p x, onB q x, by go_num, by omega, HPK, HP8.out, hne, HK8, HT8, HR8⟩
              case measure => simp only [intOf]; omega
            · have q0 : ((x : Int) == 0) = false := beq_eq_false_iff_ne.2 (by omega)
              have q1 : (x == 0) = false := beq_eq_false_iff_ne.2 hx0
              rw [if_neg hx0] at HPK
              have hpr2 := hpr
              have hcl := hszr
              clear HPK0 hsx hx0 hpr
              have CB := Lib.hid (behind_any p q x wr hx3 (by omega) (by omega))
              clear hcl
              go_wp2_with fail
              go_at_call 20
              refine CB.out.mono ?_
              rintro e w7 ⟨rfl, hb7⟩
              have HT7 := Lib.hid (hTWO.kept (hb7.block pa hTWO.lt))
              have HK7 := Lib.hid (hK.below hb7 (by have := hK.size; omega))
              have hp7 := hpr2.below hb7
              have hr7 := hrun.kept (hb7.block pr hrun.lt)
              obtain ⟨c0, c1⟩ := HT7.out.cell
              have f0 := HT7.out.frozen 0
              have f1 := HT7.out.frozen 1
              have HP8 := Lib.hid ((hp7.far (by omega : pa < pa + 1) 0 (.int .i64 (onA p x : Nat))).far (by omega : pa < pa + 1) 1 (.int .i64 (onB q x : Nat)))
              have HK8 := Lib.hid ((HK7.out.put (o := 0) (.int .i64 (onA p x : Nat))).put (o := 1) (.int .i64 (onB q x : Nat)))
              have HT8 := Lib.hid (HT7.out.put (onA p x) (onB q x))
              have HR8 : Hid (RunAt ((w7.setCell ⟨pa, 0, none⟩ (.int .i64 (onA p x : Nat))).setCell ⟨pa, 1, none⟩ (.int .i64 (onB q x : Nat))) pr x N) := hr7.kept ((Below.heap_setCell _ ⟨pa, 1, none⟩ _ pr (show pr ≠ pa by omega)).trans (Below.heap_setCell _ ⟨pa, 0, none⟩ _ pr (show pr ≠ pa by omega)))
              clear hp7 HT7 HK7 hb7 CB hTWO hK hpr2 hr7 hrun
              go_wp2_with fail
              go_roundw
              case rel => exact ⟨j + 1, pre, onA p x, onB q x, by go_num, by omega, HPK, HP8.out, hne, HK8, HT8, HR8⟩
              case measure => simp only [intOf]; omega
          · obtain rfl : j = N := by omega
            have e2 : ¬ (j : Int) < (j : Int) := by omega
            have HPK2 : Hid (PK s (pos R (k + 1)) p q pre) := by
              show PK _ _ _ _ _
              rw [hnx.out]
              exact HPK0.out
            clear HPK0 HRUN
            go_wp2_with fail
            go_roundw
            case rel => exact ⟨k + 1, pre, p, q, by go_num, by omega, HPK2, hpr, HK, HTWO⟩
            case measure => simp only [intOf]; omega
      · have e1 : ¬ (k : Int) < (L : Int) := by omega
        obtain rfl : k = L := by omega
        have HR : Hid (PrsTo 42 (pairs 0 0 s) 0 w (.returned (.tuple #[u8, .int .i64 0])) wr) := by
          show PrsTo _ _ _ _ _ _
          rw [pk_end HPK0.out (by rw [pos_end R HL.out, HFL.out])]
          exact ⟨_, rfl, own_base hpr (by omega), HB3.out.trans (HK.out.all (by omega) hww1)⟩
        clear hpr HPK0
        go_wp2_with fail
        go_ret2
        exact HR.out
end Go.Proofs.Ytmlmgmodgcpkpaa.Ud

namespace Go.Proofs.Ytmlmgmodgcpkpaa.Ud
open Go.RowKit Go.ChangeShapes Go.WideShapes Tx Um Aq
set_option linter.unusedVariables false
theorem dist_le (a b : List ByteArray) : dist a b ≤ a.length + b.length := by
  have := dist_eq a b
  omega
set_option maxRecDepth 100000 in
set_option maxHeartbeats 1000000 in
theorem distance_any (A B : Option Addr) (ca cb : Nat) (a b : List ByteArray) (w : World) (hA : Strs w A a.length a) (hB : Strs w B b.length b) (ha : ∀ x, x ∈ a → x.size ≤ maxLen) (hb : ∀ x, x ∈ b → x.size ≤ maxLen) :
    Calls Try.prog 11 #[.slice A a.length ca, .slice B b.length cb] w fun e w' => e = .returned (.tuple #[.int .i64 (dst a b : Nat), .int .i64 (err a b : Nat)]) ∧ Below w.heap.size w w' := by
  have cS := script_any A B ca cb a b w hA hB ha hb
  unfold PrsTo at cS
  clear hA hB ha hb
  cases hl : lng a b
  case true =>
    rw [scr_yes hl, err_yes hl] at cS
    rw [dst_yes hl, err_yes hl]
    have CS := Lib.hid cS
    clear cS hl
    go_enter Try.func11, Try.ntmps11
    go_wp2_with fail
    go_at_call 7
    refine CS.out.mono ?_
    rintro e w1 ⟨v, rfl, hv, hb1⟩
    go_wp2_with fail
    go_ret2
    exact ⟨rfl, hb1⟩
  case false =>
    obtain ⟨hm4, hn4⟩ := lng_small hl
    have hsl := (makes a b).lens
    have hk := kept a b
    have hkl := lcs_le_left a b
    have hs800 : (steps a b).length ≤ 800 := by omega
    have hd8 := dist_le a b
    have hfd := far_dist a b
    rw [scr_no hl, err_no hl] at cS
    rw [dst_no hl, err_no hl]
    obtain ⟨R, hR⟩ : ∃ R, R = runs (steps a b) := ⟨_, rfl⟩
    rw [← hR] at cS hfd
    have hRl : R.length ≤ 800 := by rw [hR]; have := runs_len (steps a b); omega
    obtain ⟨d, hd⟩ : ∃ d, d = Um.dist a b := ⟨_, rfl⟩
    rw [← hd] at hfd hd8 ⊢
    have HFD := Lib.hid hfd
    have hd9 : d ≤ 800 := by omega
    have CS := Lib.hid cS
    clear cS hl hsl hk hkl hs800 hR hm4 hn4 hd hfd hd8
    go_enter Try.func11, Try.ntmps11
    go_wp2_with fail
    go_at_call 7
    refine CS.out.mono ?_
    rintro e w1 ⟨v, rfl, hv, hb1⟩
    obtain ⟨ad, cc, rfl, hrr⟩ := hv.form
    have HRR := Lib.hid hrr
    obtain ⟨L, hL⟩ : ∃ L, L = R.length := ⟨_, rfl⟩
    rw [← hL] at hRl ⊢
    have HL := Lib.hid hL
    have HB1 := Lib.hid hb1
    clear hv CS hL hrr hb1
    go_wp2_with fail
    go_loopw [8, 10, 22] (fun n _ i wr => ∃ k : Nat, i = .int .i64 (k : Int) ∧ k ≤ L ∧ n = .int .i64 (far (R.take k) : Nat) ∧ Hid (Below w1.heap.size w1 wr)) (fun _ _ i _ => L - (intOf i).toNat)
    case atStart => exact ⟨0, rfl, Nat.zero_le _, rfl, Below.refl _ _⟩
    case round =>
      obtain ⟨k, rfl, hk, rfl, HB⟩ := hrel
      have hfl := far_le R k
      rw [HFD.out] at hfl
      by_cases hlt : k < L
      · have e1 : (k : Int) < (L : Int) := by omega
        obtain ⟨⟨x, N⟩, hx⟩ : ∃ y, R[k]? = some y := ⟨_, List.getElem?_eq_getElem (by rw [← HL.out]; exact hlt)⟩
        obtain ⟨ga, oa, rfl, hga, hca⟩ := HRR.out.2.resolve_left (by rw [← HL.out]; omega)
        obtain ⟨a0, a1⟩ := hca k (x, N) hx
        have d0 : wr.cell? ⟨ga, oa + k * 2, none⟩ = some (.int .i64 (x : Int)) := (HB.out.cell (p := ⟨ga, _, none⟩) hga).trans a0
        have d1 : wr.cell? ⟨ga, oa + k * 2 + 1, none⟩ = some (.int .i64 (N : Int)) := (HB.out.cell (p := ⟨ga, _, none⟩) hga).trans a1
        have hft := far_take R k (x, N) hx
        have hfl2 := far_le R (k + 1)
        rw [HFD.out] at hfl2
        have HB2 := Lib.hid (HB.out.alloc HB.out.size (.cells #[.int .i64 (x : Int), .int .i64 (N : Int)] 37))
        obtain ⟨F1, hF1⟩ : ∃ F1, F1 = far (R.take k) := ⟨_, rfl⟩
        obtain ⟨F2, hF2⟩ : ∃ F2, F2 = far (R.take (k + 1)) := ⟨_, rfl⟩
        rw [← hF1] at hft hfl ⊢
        rw [← hF2] at hft hfl2
        simp only at hft
        have HF2 := Lib.hid hF2
        clear hca a0 a1 hx hF1 hF2 HB
        by_cases hx0 : x = 0
        · rw [if_pos hx0] at hft
          have q0 : ((x : Int) == 0) = true := beq_iff_eq.2 (by omega)
          have q1 : (x == 0) = true := beq_iff_eq.2 hx0
          have HFT := Lib.hid hft
          clear hx0 hft
          go_wp2_with fail
          go_roundw
          case rel => exact ⟨k + 1, by go_num, by omega, by rw [← HF2.out, HFT.out]; rfl, HB2⟩
          case measure => simp only [intOf]; omega
        · rw [if_neg hx0] at hft
          have q0 : ((x : Int) == 0) = false := beq_eq_false_iff_ne.2 (by omega)
          have q1 : (x == 0) = false := beq_eq_false_iff_ne.2 hx0
          have wF : IntKind.i64.wrap ((F1 : Int) + (N : Int)) = (F1 : Int) + (N : Int) := IntWalk.i64_in _ (by omega)
          have HFT := Lib.hid hft
          clear hx0 hft
          go_wp2_with fail
          go_roundw
          case rel => exact ⟨k + 1, by go_num, by omega, by rw [← HF2.out, HFT.out] <;> first | rfl | go_num, HB2⟩
          case measure => simp only [intOf]; omega
      · have e1 : ¬ (k : Int) < (L : Int) := by omega
        obtain rfl : k = L := by omega
        rw [HL.out, List.take_length, HFD.out]
        rw [← HL.out]
        have HE : Hid (Below w.heap.size w wr) := HB1.out.trans (HB.out.mono HB1.out.size)
        clear hfl HB
        go_wp2_with fail
        go_ret2
        exact ⟨rfl, HE.out⟩
theorem impl : Impl := ⟨fun A B ca cb a b w hA hB ha hb => script_any A B ca cb a b w hA hB ha hb, fun A B ca cb a b w hA hB ha hb => kept_any A B ca cb a b w hA hB ha hb, fun A B ca cb a b w hA hB ha hb => distance_any A B ca cb a b w hA hB ha hb⟩
end Go.Proofs.Ytmlmgmodgcpkpaa.Ud
