/- Texts of this seat, one behind the other. -/
import Derived.Test.YtoncghamkedhcaaT2
import Derived.Lib.MinMax
namespace Go.Proofs.Ytoncghamkedhcaa.Kd
open Go.RowKit Go.ChangeShapes Go.WideShapes Tx Um Ud Aq Km
set_option linter.unusedVariables false
def Pst (R : List (Nat × Nat)) (bt k p q : Nat) (r : List G) : Prop := pr bt R 0 0 [] = pr bt (R.drop k) p q r ∧ (∀ l, r.head? = some l → l.t ≤ p) ∧ r.length ≤ k ∧ p ≤ k * 800 ∧ q ≤ k * 800
theorem pst_start (R : List (Nat × Nat)) (bt : Nat) : Pst R bt 0 0 0 [] := ⟨rfl, (fun l h => by cases h), Nat.le_refl _, Nat.le_refl _, Nat.le_refl _⟩
theorem add_head {bt i p j q : Nat} {r : List G} : (∀ l, (add bt i p j q r).head? = some l → l.t = p) ∧ (add bt i p j q r).length ≤ r.length + 1 := by
  cases r with
  | nil => exact ⟨fun l h => by injection h with h; subst h; rfl, Nat.le_refl _⟩
  | cons x r =>
    rw [add_cons]
    by_cases hb : i - x.t ≤ bt
    · rw [if_pos hb]
      exact ⟨fun l h => by injection h with h; subst h; rfl, by simp⟩
    · rw [if_neg hb]
      exact ⟨fun l h => by injection h with h; subst h; rfl, by simp⟩
theorem pst_next {R : List (Nat × Nat)} {bt k p q : Nat} {r : List G} {x : Nat × Nat} (h : Pst R bt k p q r) (hx : R[k]? = some x) (hm : x.2 ≤ 800) : Pst R bt (k + 1) (ra p x) (rb q x) (if x.1 = 0 then r else add bt p (ra p x) q (rb q x) r) := by
  obtain ⟨h1, h2, h3, h4, h5⟩ := h
  have e : R.drop k = x :: R.drop (k + 1) := by
    obtain ⟨q1, q2⟩ := List.getElem?_eq_some_iff.1 hx
    rw [List.drop_eq_getElem_cons q1, q2]
  rw [e] at h1
  have hra : p ≤ ra p x ∧ ra p x ≤ p + 800 := by unfold ra; split <;> omega
  have hrb : rb q x ≤ q + 800 := by unfold rb; split <;> omega
  refine ⟨h1, fun l hl => ?_, ?_, by omega, by omega⟩
  · by_cases h0 : x.1 = 0
    · rw [if_pos h0] at hl
      have := h2 l hl
      omega
    · rw [if_neg h0] at hl
      have := add_head.1 l hl
      omega
  · by_cases h0 : x.1 = 0
    · rw [if_pos h0]; omega
    · rw [if_neg h0]
      have := (add_head (bt := bt) (i := p) (p := ra p x) (j := q) (q := rb q x) (r := r)).2
      omega
theorem pst_end {R : List (Nat × Nat)} {bt k p q : Nat} {r : List G} (h : Pst R bt k p q r) (hk : R.length ≤ k) : pr bt R 0 0 [] = r := by
  rw [h.1, List.drop_eq_nil_iff.2 hk]
  rfl
theorem Two.put0 {w : World} {pa p q : Nat} (h : Two w pa p q) (p' : Nat) : Two (w.setCell ⟨pa, 0, none⟩ (.int .i64 (p' : Int))) pa p' q := by
  unfold Two at h ⊢
  simp [World.setCell, Array.getElem?_modify, h]
theorem Two.put1 {w : World} {pa p q : Nat} (h : Two w pa p q) (q' : Nat) : Two (w.setCell ⟨pa, 1, none⟩ (.int .i64 (q' : Int))) pa p q' := by
  unfold Two at h ⊢
  simp [World.setCell, Array.getElem?_modify, h]
theorem Pc.far {w : World} {B pa : Nat} {v : Value} {l : List G} (h : Pc w B v l) (hp : pa < B) (o : Nat) (u : Value) : Pc (w.setCell ⟨pa, o, none⟩ u) B v l := by
  have hg : w.grownBy (w.setCell ⟨pa, o, none⟩ u) (some pa) := ⟨rfl, rfl, rfl, by simp [World.setCell], fun j _ hj => Below.heap_setCell w ⟨pa, o, none⟩ u j (fun e => hj (by rw [e]))⟩
  exact World.ownsRow.kept h hg (.inr (fun e => by have := (World.ownsRow.lt h pa e).1; omega))
structure At (pa : Nat) (w3 W : World) (v : Value) (l : List G) (p q : Nat) : Prop where
  kp : Kp pa (pa + 1) w3 W
  two : Two W pa p q
  pc : Pc W (pa + 1) v l
  size : pa + 1 ≤ W.heap.size
theorem At.allocs {pa : Nat} {w3 W : World} {v : Value} {l : List G} {p q : Nat} (h : At pa w3 W v l p q) (o1 o2 : Obj) : At pa w3 ((W.alloc o1).alloc o2) v l p q := by
  have hb : Below W.heap.size W ((W.alloc o1).alloc o2) := ((Below.refl _ W).alloc (Nat.le_refl _) _).alloc (by simp) _
  exact ⟨h.kp.below hb h.size, h.two.kept (hb.block pa h.size), h.pc.below hb, Nat.le_trans h.size hb.size⟩
theorem At.both {pa : Nat} {w3 W : World} {v : Value} {l : List G} {p q : Nat} (h : At pa w3 W v l p q) (p' q' : Nat) : At pa w3 ((W.setCell ⟨pa, 0, none⟩ (.int .i64 (p' : Int))).setCell ⟨pa, 1, none⟩ (.int .i64 (q' : Int))) v l p' q' :=
  ⟨(h.kp.put _).put _, h.two.put p' q', (h.pc.far (Nat.lt_succ_self pa) _ _).far (Nat.lt_succ_self pa) _ _, by simpa [World.setCell] using h.size⟩
theorem At.first {pa : Nat} {w3 W : World} {v : Value} {l : List G} {p q : Nat} (h : At pa w3 W v l p q) (p' : Nat) : At pa w3 (W.setCell ⟨pa, 0, none⟩ (.int .i64 (p' : Int))) v l p' q :=
  ⟨h.kp.put _, (Two.put0 h.two p'), h.pc.far (Nat.lt_succ_self pa) _ _, by simpa [World.setCell] using h.size⟩
theorem At.second {pa : Nat} {w3 W : World} {v : Value} {l : List G} {p q : Nat} (h : At pa w3 W v l p q) (q' : Nat) : At pa w3 (W.setCell ⟨pa, 1, none⟩ (.int .i64 (q' : Int))) v l p q' :=
  ⟨h.kp.put _, (Two.put1 h.two q'), h.pc.far (Nat.lt_succ_self pa) _ _, by simpa [World.setCell] using h.size⟩
theorem At.call {pa : Nat} {w3 W W1 : World} {v v' : Value} {l l' : List G} {p q : Nat} (h : At pa w3 W v l p q) (hp : Pc W1 (pa + 1) v' l') (hb : Below (pa + 1) W W1) : At pa w3 W1 v' l' p q :=
  ⟨h.kp.below hb (Nat.le_refl _), h.two.kept (hb.block pa (Nat.lt_succ_self pa)), hp, Nat.le_trans h.size hb.size⟩
set_option maxRecDepth 100000 in
set_option maxHeartbeats 2000000 in
theorem pieces_any (ad : Option Addr) (cc L : Nat) (R : List (Nat × Nat)) (bt : Nat) (w : World) (hR : PrsR w ad L R) (hL : L ≤ 800) (hx : ∀ x, x ∈ R → x.1 ≤ 2 ∧ x.2 ≤ 800) (hbt : bt ≤ 800) :
    Calls Try.prog 17 #[.slice ad L cc, .int .i64 (bt : Int)] w (PcTo w.heap.size (pr bt R 0 0 []).reverse w) := by
  have hRl := hR.1
  have hTw : Two (w.alloc (.cells #[.int .i64 0, .int .i64 0] 49)) w.heap.size 0 0 := heap_alloc_new _ _
  have hb2 : Below w.heap.size w (w.alloc (.cells #[.int .i64 0, .int .i64 0] 49)) := (Below.refl _ w).alloc (Nat.le_refl _) _
  have hs3 : (w.alloc (.cells #[.int .i64 0, .int .i64 0] 49)).heap.size = w.heap.size + 1 := by simp
  have HX := Lib.hid hx
  have HRL := Lib.hid hRl
  have hR3 := hR.below hb2
  have HAA : Hid (∀ i o, L ≠ 0 → ad = some ⟨i, o, none⟩ → i < w.heap.size) := fun i o h0 h1 => by
    obtain ⟨b', o', h2, h3, _⟩ := hR.2.resolve_left h0
    rw [h1] at h2
    injection h2 with h2
    injection h2 with h2
    omega
  clear hx hRl hR
  go_enter Try.func17, Try.ntmps17
  go_wp2_with fail
  generalize w.alloc (.cells #[.int .i64 0, .int .i64 0] 49) = w3 at hTw hb2 hs3 hR3 ⊢
  obtain ⟨pa, hpa⟩ : ∃ pa, pa = w.heap.size := ⟨_, rfl⟩
  rw [← hpa] at hTw hb2 hs3 HAA ⊢
  have HPA := Lib.hid hpa
  have HTW := Lib.hid hTw
  have HB3 := Lib.hid hb2
  have HRR3 := Lib.hid hR3
  have HST := Lib.hid (pst_start R bt)
  clear hTw hb2 hR3 hpa
  go_loopw [5, 8, 9, 12] (fun v _ _ i wr => ∃ (k p q : Nat) (r : List G), i = .int .i64 (k : Int) ∧ k ≤ L ∧ Hid (Pst R bt k p q r) ∧ Hid (Pc wr (pa + 1) v r.reverse) ∧ Hid (Kp pa (pa + 1) w3 wr) ∧ Hid (Two wr pa p q)) (fun _ _ _ i _ => L - (intOf i).toNat)
  case atStart => exact ⟨0, 0, 0, [], rfl, Nat.zero_le _, HST, World.ownsRow_nil _ _ _ _, Kp.refl _ _ _, HTW⟩
  case round =>
    obtain ⟨k, p, q, r, rfl, hk, HS, HP, HK, HTWO⟩ := hrel
    clear HST HTW
    have hszr := HK.out.size
    by_cases hlt : k < L
    · have e1 : (k : Int) < (L : Int) := by omega
      obtain ⟨⟨x, N⟩, hx⟩ : ∃ y, R[k]? = some y := ⟨_, List.getElem?_eq_getElem (by rw [HRL.out]; exact hlt)⟩
      obtain ⟨hx2, hN8⟩ := HX.out (x, N) (List.mem_iff_getElem?.2 ⟨k, hx⟩)
      simp only at hx2 hN8
      obtain ⟨ga, oa, rfl, hga, hca⟩ := HRR3.out.2.resolve_left (by omega)
      obtain ⟨a0, a1⟩ := hca k (x, N) hx
      have hgp := HAA.out ga oa (by omega) rfl
      have d0 : wr.cell? ⟨ga, oa + k * 2, none⟩ = some (.int .i64 (x : Int)) := cell_keep a0 (HK.out.block ga (by omega) (by omega))
      have d1 : wr.cell? ⟨ga, oa + k * 2 + 1, none⟩ = some (.int .i64 (N : Int)) := cell_keep a1 (HK.out.block ga (by omega) (by omega))
      obtain ⟨c0, c1⟩ := HTWO.out.cell
      have f0 := HTWO.out.frozen 0
      have f1 := HTWO.out.frozen 1
      have hplt := HTWO.out.lt
      have HNX := Lib.hid (pst_next HS.out hx hN8)
      obtain ⟨_, HHD, hrl, hp8, hq8⟩ := HS.out
      have HHD := Lib.hid HHD
      obtain ⟨p', hp'⟩ : ∃ p', p' = p + N := ⟨_, rfl⟩
      obtain ⟨q', hq'⟩ : ∃ q', q' = q + N := ⟨_, rfl⟩
      have q1 : (p : Int) + (N : Int) = (p' : Int) := by omega
      have q2 : (q : Int) + (N : Int) = (q' : Int) := by omega
      have V1 : IntKind.i64.wrap (p' : Int) = (p' : Int) := IntWalk.i64_in _ (by omega)
      have V2 : IntKind.i64.wrap (q' : Int) = (q' : Int) := IntWalk.i64_in _ (by omega)
      have W1 : IntKind.i64.wrap ((p : Int) + (N : Int)) = (p' : Int) := (IntWalk.i64_in _ (by omega)).trans q1
      have W2 : IntKind.i64.wrap ((q : Int) + (N : Int)) = (q' : Int) := (IntWalk.i64_in _ (by omega)).trans q2
      have hp8 : p ≤ 1000000 := by omega
      have hr8 : r.length ≤ 1000 := by omega
      have HP8 := Lib.hid hp'
      have HQ8 := Lib.hid hq'
      have HAT : Hid (At pa w3 wr u5 r.reverse p q) := ⟨HK.out, HTWO.out, HP.out, by omega⟩
      clear a0 a1 hca hx hp' hq' hrl hq8 HS HK HTWO HP
      have hx3 : x = 0 ∨ x = 1 ∨ x = 2 := by omega
      clear hx2
      rcases hx3 with rfl | rfl | rfl
      · have HNX1 : Hid (Pst R bt (k + 1) p' q' r) := by
          have h := HNX.out
          show Pst _ _ _ _ _ _
          rw [HP8.out, HQ8.out]
          exact h
        clear HNX
        go_wp2_with fail
        go_roundw
        case rel =>
          have h := (HAT.out.both p' q').allocs (.cells #[.int .i64 0, .int .i64 (N : Int)] 68) (.cells #[.int .i64 (p : Int), .int .i64 (q : Int)] 49)
          exact ⟨k + 1, _, _, _, by go_num, by omega, HNX1, h.pc, h.kp, h.two⟩
        case measure => simp only [intOf]; omega
      · have HNX1 : Hid (Pst R bt (k + 1) p' q (add bt p p' q q r)) := by
          have h := HNX.out
          show Pst _ _ _ _ _ _
          rw [HP8.out]
          exact h
        clear HNX
        have HL8 : Hid (∀ o1 o2, Calls Try.prog 29 #[u5, .agg #[.int .i64 (p : Int), .int .i64 (q : Int), .int .i64 (p' : Int), .int .i64 (q : Int)], .int .i64 (bt : Int)] (((wr.setCell ⟨pa, 0, none⟩ (.int .i64 (p' : Int))).alloc o1).alloc o2) (PcTo (pa + 1) (add bt p p' q q r).reverse (((wr.setCell ⟨pa, 0, none⟩ (.int .i64 (p' : Int))).alloc o1).alloc o2))) := fun o1 o2 =>
          plonger_any (pa + 1) u5 r p p' q q bt _ ((HAT.out.first p').allocs o1 o2).pc ((HAT.out.first p').allocs o1 o2).size hr8 HHD.out hp8 (by omega)
        go_wp2_with fail
        go_at_call 29
        refine (HL8.out _ _).mono ?_
        rintro e w5 ⟨v5, rfl, hp5, hb5⟩
        have HA5 := Lib.hid (((HAT.out.first p').allocs _ _).call hp5 hb5)
        clear hp5 hb5 HAT HL8
        go_wp2_with fail
        go_roundw
        case rel => exact ⟨k + 1, _, _, _, by go_num, by omega, HNX1, HA5.out.pc, HA5.out.kp, HA5.out.two⟩
        case measure => simp only [intOf]; omega
      · have HNX1 : Hid (Pst R bt (k + 1) p q' (add bt p p q q' r)) := by
          have h := HNX.out
          show Pst _ _ _ _ _ _
          rw [HQ8.out]
          exact h
        clear HNX
        have HL8 : Hid (∀ o1 o2, Calls Try.prog 29 #[u5, .agg #[.int .i64 (p : Int), .int .i64 (q : Int), .int .i64 (p : Int), .int .i64 (q' : Int)], .int .i64 (bt : Int)] (((wr.setCell ⟨pa, 1, none⟩ (.int .i64 (q' : Int))).alloc o1).alloc o2) (PcTo (pa + 1) (add bt p p q q' r).reverse (((wr.setCell ⟨pa, 1, none⟩ (.int .i64 (q' : Int))).alloc o1).alloc o2))) := fun o1 o2 =>
          plonger_any (pa + 1) u5 r p p q q' bt _ ((HAT.out.second q').allocs o1 o2).pc ((HAT.out.second q').allocs o1 o2).size hr8 HHD.out hp8 (by omega)
        go_wp2_with fail
        go_at_call 29
        refine (HL8.out _ _).mono ?_
        rintro e w5 ⟨v5, rfl, hp5, hb5⟩
        have HA5 := Lib.hid (((HAT.out.second q').allocs _ _).call hp5 hb5)
        clear hp5 hb5 HAT HL8
        go_wp2_with fail
        go_roundw
        case rel => exact ⟨k + 1, _, _, _, by go_num, by omega, HNX1, HA5.out.pc, HA5.out.kp, HA5.out.two⟩
        case measure => simp only [intOf]; omega
    · have hkL : k = L := by omega
      have e1 : ¬ (k : Int) < (L : Int) := by omega
      have HE : Hid (PcTo pa (pr bt R 0 0 []).reverse w (.returned u5) wr) := by
        show PcTo _ _ _ _ _
        rw [pst_end HS.out (by rw [HRL.out]; omega)]
        exact ⟨_, rfl, own_base HP.out (by omega), HB3.out.trans (HK.out.all (by omega) (Nat.le_refl _))⟩
      clear hkL HS
      go_wp2_with fail
      go_ret
      rw [← HPA.out]
      exact HE.out
end Go.Proofs.Ytoncghamkedhcaa.Kd

namespace Go.Proofs.Ytoncghamkedhcaa.Kd
open Go.RowKit Tx
set_option linter.unusedVariables false
def FourP (ph f t u v : Nat) (W : World) : Prop := W.cell? ⟨ph, 0, none⟩ = some (.int .i64 (f : Int)) ∧ W.cell? ⟨ph, 1, none⟩ = some (.int .i64 (u : Int)) ∧ W.cell? ⟨ph, 2, none⟩ = some (.int .i64 (t : Int)) ∧ W.cell? ⟨ph, 3, none⟩ = some (.int .i64 (v : Int))
set_option maxRecDepth 100000 in
set_option maxHeartbeats 4000000 in
theorem hbetwReg (ops : Array Oper) (hops : ops = (Rg.opsOf Try.f7 13)) (id : Nat) (ph m n ca cb f t u v x y lo hi lo2 hi2 no co nn cn : Nat) (A B Ao An : Option Addr) (vL : Value) {u2 u3 u4 u5 u6 u7 u8 u9 u11 u15 u16 u17 u18 u19 u20 u21 u22 u23 u24 u25 u26 u27 u28 u29 u30 u31 u32 u33 u34 u35 u36 u37 u38 u39 u40 u41 u42 u43 u44 u45 u46 u47 u48 u49 u50 u51 u52 u53 u54 u55 u56 u57 u58 u59 u60 u61 u62 u63 u64 u65 u66 u67 u68 u69 u70 u71 u72 u73 u74 u75 u76 u77 u78 u79 u80 u81 u82 u83 u84 u85 u86 : Value} (w : World) (X : World → Prop) (Y1 : World → World → Value → Prop) (Y2 : World → World → Value → Prop) (Z : Value → World → Prop)
    (hX : ∀ W, X W → FourP ph f t u v W) (hw : X w.drew) (hXa : ∀ W o, X W → X (W.alloc o))
    (q1 : (f : Int) - (x : Int) = (lo : Int)) (q2 : (t : Int) + (y : Int) = (hi : Int)) (q3 : (u : Int) - (x : Int) = (lo2 : Int)) (q4 : (v : Int) + (y : Int) = (hi2 : Int))
    (V1 : IntKind.i64.wrap (lo : Int) = (lo : Int)) (V2 : IntKind.i64.wrap (hi : Int) = (hi : Int)) (V3 : IntKind.i64.wrap (lo2 : Int) = (lo2 : Int)) (V4 : IntKind.i64.wrap (hi2 : Int) = (hi2 : Int))
    (S1 : ∀ W : World, (Instr.slice 22 (.slice A m ca) (some (.int .i64 (lo : Int))) (some (.int .i64 (hi : Int))) none).run Try.prog W = .ok (.slice Ao no co) W)
    (S2 : ∀ W : World, (Instr.slice 22 (.slice B n cb) (some (.int .i64 (lo2 : Int))) (some (.int .i64 (hi2 : Int))) none).run Try.prog W = .ok (.slice An nn cn) W)
    (hA : ∀ W, X W → Calls Try.prog 18 #[.slice Ao no co] W fun e w' => X w' ∧ ∃ Bo do_, e = .returned (.slice Bo no do_) ∧ Below W.heap.size W w' ∧ Y1 W w' (.slice Bo no do_))
    (hB : ∀ W, X W → Calls Try.prog 18 #[.slice An nn cn] W fun e w' => X w' ∧ ∃ Bn dn, e = .returned (.slice Bn nn dn) ∧ Below W.heap.size W w' ∧ Y2 W w' (.slice Bn nn dn))
    (hE : ∀ w5 w6 Bo do_ Bn dn, X w5 → Below w.drew.heap.size w.drew w5 → Y1 w.drew w5 (.slice Bo no do_) → X w6 → Below w5.heap.size w5 w6 → Y2 w5 w6 (.slice Bn nn dn) → ∀ ty, ∃ v8 w8, (Builtin.append_ #[23, 23] ty #[vL, .slice (some ⟨w6.heap.size, 0, none⟩) 1 1]).run Try.prog (w6.alloc (.cells #[.int .i64 (lo : Int), .slice Bo no do_, .slice Bn nn dn] 33)) = .ok v8 w8 ∧ X w8 ∧ Z v8 w8) :
    (Code.region id ops true).wp Try.prog (Rg.Only fun a' w' => ∃ (v8 : Value) (Bo : Option Addr) (do_ : Nat) (Bn : Option Addr) (dn g6 : Nat), a' = ⟨#[(.slice A m ca), (.slice B n cb), u2, u3, u4, u5, u6, u7, u8, u9, v8, u11, (.pointer (some ⟨ph, 0, none⟩)), (.int .i64 (x : Int)), (.int .i64 (y : Int)), u15, u16, u17, u18, u19, u20, u21, u22, u23, u24, u25, u26, u27, u28, u29, u30, u31, u32, u33, u34, u35, u36, u37, u38, u39, u40, u41, u42, u43, u44, u45, u46, u47, u48, u49, vL, (.pointer (some ⟨ph, 0, none⟩)), (.pointer (some ⟨ph, 0, none⟩)), (.int .i64 (f : Int)), (.int .i64 (x : Int)), (.int .i64 (lo : Int)), (.slice A m ca), (.pointer (some ⟨ph, 0, none⟩)), (.pointer (some ⟨ph, 0, none⟩)), (.int .i64 (f : Int)), (.int .i64 (x : Int)), (.int .i64 (lo : Int)), (.pointer (some ⟨ph, 2, none⟩)), (.pointer (some ⟨ph, 2, none⟩)), (.int .i64 (t : Int)), (.int .i64 (y : Int)), (.int .i64 (hi : Int)), (.slice Ao no co), (.slice Bo no do_), (.slice B n cb), (.pointer (some ⟨ph, 0, none⟩)), (.pointer (some ⟨ph, 1, none⟩)), (.int .i64 (u : Int)), (.int .i64 (x : Int)), (.int .i64 (lo2 : Int)), (.pointer (some ⟨ph, 2, none⟩)), (.pointer (some ⟨ph, 3, none⟩)), (.int .i64 (v : Int)), (.int .i64 (y : Int)), (.int .i64 (hi2 : Int)), (.slice An nn cn), (.slice Bn nn dn), (.agg #[.int .i64 (lo : Int), .slice Bo no do_, .slice Bn nn dn]), (.slice (some ⟨g6, 0, none⟩) 1 1), v8, u85, u86], []⟩ ∧ Z v8 w') ⟨#[(.slice A m ca), (.slice B n cb), u2, u3, u4, u5, u6, u7, u8, u9, vL, u11, (.pointer (some ⟨ph, 0, none⟩)), (.int .i64 (x : Int)), (.int .i64 (y : Int)), u15, u16, u17, u18, u19, u20, u21, u22, u23, u24, u25, u26, u27, u28, u29, u30, u31, u32, u33, u34, u35, u36, u37, u38, u39, u40, u41, u42, u43, u44, u45, u46, u47, u48, u49, u50, u51, u52, u53, u54, u55, u56, u57, u58, u59, u60, u61, u62, u63, u64, u65, u66, u67, u68, u69, u70, u71, u72, u73, u74, u75, u76, u77, u78, u79, u80, u81, u82, u83, u84, u85, u86], []⟩ w := by
  subst hops
  have hNS : Region.noSelect (Rg.opsOf Try.f7 13) = true := by kernel_rfl
  refine wp_region_held_drew (S := X) (by kernel_rfl) hw (fun hHeld => ?_)
  rw [show (Rg.opsOf Try.f7 13).size = 36 by kernel_rfl]
  refine Rg.take (ops := (Rg.opsOf Try.f7 13)) 0 (some 50) (vL) hNS (by kernel_rfl) (by kernel_rfl) (by kernel_rfl) (by kernel_rfl) (by kernel_rfl) hHeld (Rg.y_move (x := (Operand.tmp 10)) (Or.inl (by kernel_rfl)) (by kernel_rfl)) ?_
  refine Rg.take (ops := (Rg.opsOf Try.f7 13)) 1 (some 51) ((.pointer (some ⟨ph, 0, none⟩))) hNS (by kernel_rfl) (by kernel_rfl) (by kernel_rfl) (by kernel_rfl) (by kernel_rfl) hHeld (Rg.y_field (T := 51) (k := 0) (x := (Operand.tmp 12)) (vx := (.pointer (some ⟨ph, 0, none⟩))) (by kernel_rfl) (by kernel_rfl) ?_) ?_
  · (intro W hSw; clear hSw hHeld; go_simp)
  refine Rg.take (ops := (Rg.opsOf Try.f7 13)) 2 (some 52) ((.pointer (some ⟨ph, 0, none⟩))) hNS (by kernel_rfl) (by kernel_rfl) (by kernel_rfl) (by kernel_rfl) (by kernel_rfl) hHeld (Rg.y_at (T := 49) (x := (Operand.tmp 51)) (y := (Operand.const (Value.int IntKind.i64 0))) (vx := (.pointer (some ⟨ph, 0, none⟩))) (vy := (Value.int IntKind.i64 0)) (by kernel_rfl) (by kernel_rfl) (by kernel_rfl) ?_) ?_
  · (intro W hSw; clear hSw hHeld; go_simp)
  refine Rg.take (ops := (Rg.opsOf Try.f7 13)) 3 (some 53) ((.int .i64 (f : Int))) hNS (by kernel_rfl) (by kernel_rfl) (by kernel_rfl) (by kernel_rfl) (by kernel_rfl) hHeld (Rg.y_load (T := 3) (x := (Operand.tmp 52)) (vx := (.pointer (some ⟨ph, 0, none⟩))) (by kernel_rfl) (by kernel_rfl) ?_) ?_
  · (intro W hSw; obtain ⟨s0, s1, s2, s3⟩ := hX _ hSw; clear hSw hHeld; go_simp)
  refine Rg.take (ops := (Rg.opsOf Try.f7 13)) 4 (some 54) ((.int .i64 (x : Int))) hNS (by kernel_rfl) (by kernel_rfl) (by kernel_rfl) (by kernel_rfl) (by kernel_rfl) hHeld (Rg.y_move (x := (Operand.tmp 13)) (Or.inl (by kernel_rfl)) (by kernel_rfl)) ?_
  refine Rg.take (ops := (Rg.opsOf Try.f7 13)) 5 (some 55) ((.int .i64 (lo : Int))) hNS (by kernel_rfl) (by kernel_rfl) (by kernel_rfl) (by kernel_rfl) (by kernel_rfl) hHeld (Rg.y_bin (b := BinOp.sub) (T := 3) (R' := 3) (x := (Operand.tmp 53)) (y := (Operand.tmp 54)) (vx := (.int .i64 (f : Int))) (vy := (.int .i64 (x : Int))) (by kernel_rfl) (by kernel_rfl) (by kernel_rfl) ?_) ?_
  · (intro W hSw; clear hSw hHeld; go_simp)
  refine Rg.take (ops := (Rg.opsOf Try.f7 13)) 6 (some 56) ((.slice A m ca)) hNS (by kernel_rfl) (by kernel_rfl) (by kernel_rfl) (by kernel_rfl) (by kernel_rfl) hHeld (Rg.y_move (x := (Operand.tmp 0)) (Or.inl (by kernel_rfl)) (by kernel_rfl)) ?_
  refine Rg.take (ops := (Rg.opsOf Try.f7 13)) 7 (some 57) ((.pointer (some ⟨ph, 0, none⟩))) hNS (by kernel_rfl) (by kernel_rfl) (by kernel_rfl) (by kernel_rfl) (by kernel_rfl) hHeld (Rg.y_field (T := 51) (k := 0) (x := (Operand.tmp 12)) (vx := (.pointer (some ⟨ph, 0, none⟩))) (by kernel_rfl) (by kernel_rfl) ?_) ?_
  · (intro W hSw; clear hSw hHeld; go_simp)
  refine Rg.take (ops := (Rg.opsOf Try.f7 13)) 8 (some 58) ((.pointer (some ⟨ph, 0, none⟩))) hNS (by kernel_rfl) (by kernel_rfl) (by kernel_rfl) (by kernel_rfl) (by kernel_rfl) hHeld (Rg.y_at (T := 49) (x := (Operand.tmp 57)) (y := (Operand.const (Value.int IntKind.i64 0))) (vx := (.pointer (some ⟨ph, 0, none⟩))) (vy := (Value.int IntKind.i64 0)) (by kernel_rfl) (by kernel_rfl) (by kernel_rfl) ?_) ?_
  · (intro W hSw; clear hSw hHeld; go_simp)
  refine Rg.take (ops := (Rg.opsOf Try.f7 13)) 9 (some 59) ((.int .i64 (f : Int))) hNS (by kernel_rfl) (by kernel_rfl) (by kernel_rfl) (by kernel_rfl) (by kernel_rfl) hHeld (Rg.y_load (T := 3) (x := (Operand.tmp 58)) (vx := (.pointer (some ⟨ph, 0, none⟩))) (by kernel_rfl) (by kernel_rfl) ?_) ?_
  · (intro W hSw; obtain ⟨s0, s1, s2, s3⟩ := hX _ hSw; clear hSw hHeld; go_simp)
  refine Rg.take (ops := (Rg.opsOf Try.f7 13)) 10 (some 60) ((.int .i64 (x : Int))) hNS (by kernel_rfl) (by kernel_rfl) (by kernel_rfl) (by kernel_rfl) (by kernel_rfl) hHeld (Rg.y_move (x := (Operand.tmp 13)) (Or.inl (by kernel_rfl)) (by kernel_rfl)) ?_
  refine Rg.take (ops := (Rg.opsOf Try.f7 13)) 11 (some 61) ((.int .i64 (lo : Int))) hNS (by kernel_rfl) (by kernel_rfl) (by kernel_rfl) (by kernel_rfl) (by kernel_rfl) hHeld (Rg.y_bin (b := BinOp.sub) (T := 3) (R' := 3) (x := (Operand.tmp 59)) (y := (Operand.tmp 60)) (vx := (.int .i64 (f : Int))) (vy := (.int .i64 (x : Int))) (by kernel_rfl) (by kernel_rfl) (by kernel_rfl) ?_) ?_
  · (intro W hSw; clear hSw hHeld; go_simp)
  refine Rg.take (ops := (Rg.opsOf Try.f7 13)) 12 (some 62) ((.pointer (some ⟨ph, 2, none⟩))) hNS (by kernel_rfl) (by kernel_rfl) (by kernel_rfl) (by kernel_rfl) (by kernel_rfl) hHeld (Rg.y_field (T := 51) (k := 1) (x := (Operand.tmp 12)) (vx := (.pointer (some ⟨ph, 0, none⟩))) (by kernel_rfl) (by kernel_rfl) ?_) ?_
  · (intro W hSw; clear hSw hHeld; go_simp)
  refine Rg.take (ops := (Rg.opsOf Try.f7 13)) 13 (some 63) ((.pointer (some ⟨ph, 2, none⟩))) hNS (by kernel_rfl) (by kernel_rfl) (by kernel_rfl) (by kernel_rfl) (by kernel_rfl) hHeld (Rg.y_at (T := 49) (x := (Operand.tmp 62)) (y := (Operand.const (Value.int IntKind.i64 0))) (vx := (.pointer (some ⟨ph, 2, none⟩))) (vy := (Value.int IntKind.i64 0)) (by kernel_rfl) (by kernel_rfl) (by kernel_rfl) ?_) ?_
  · (intro W hSw; clear hSw hHeld; go_simp)
  refine Rg.take (ops := (Rg.opsOf Try.f7 13)) 14 (some 64) ((.int .i64 (t : Int))) hNS (by kernel_rfl) (by kernel_rfl) (by kernel_rfl) (by kernel_rfl) (by kernel_rfl) hHeld (Rg.y_load (T := 3) (x := (Operand.tmp 63)) (vx := (.pointer (some ⟨ph, 2, none⟩))) (by kernel_rfl) (by kernel_rfl) ?_) ?_
  · (intro W hSw; obtain ⟨s0, s1, s2, s3⟩ := hX _ hSw; clear hSw hHeld; go_simp)
  refine Rg.take (ops := (Rg.opsOf Try.f7 13)) 15 (some 65) ((.int .i64 (y : Int))) hNS (by kernel_rfl) (by kernel_rfl) (by kernel_rfl) (by kernel_rfl) (by kernel_rfl) hHeld (Rg.y_move (x := (Operand.tmp 14)) (Or.inl (by kernel_rfl)) (by kernel_rfl)) ?_
  refine Rg.take (ops := (Rg.opsOf Try.f7 13)) 16 (some 66) ((.int .i64 (hi : Int))) hNS (by kernel_rfl) (by kernel_rfl) (by kernel_rfl) (by kernel_rfl) (by kernel_rfl) hHeld (Rg.y_bin (b := BinOp.add) (T := 3) (R' := 3) (x := (Operand.tmp 64)) (y := (Operand.tmp 65)) (vx := (.int .i64 (t : Int))) (vy := (.int .i64 (y : Int))) (by kernel_rfl) (by kernel_rfl) (by kernel_rfl) ?_) ?_
  · (intro W hSw; clear hSw hHeld; go_simp)
  refine Rg.take (ops := (Rg.opsOf Try.f7 13)) 17 (some 67) ((.slice Ao no co)) hNS (by kernel_rfl) (by kernel_rfl) (by kernel_rfl) (by kernel_rfl) (by kernel_rfl) hHeld (Rg.y_sl2 (T := 22) (x := (Operand.tmp 56)) (l := (Operand.tmp 61)) (h := (Operand.tmp 66)) (vx := (.slice A m ca)) (vl := (.int .i64 (lo : Int))) (vh := (.int .i64 (hi : Int))) (by kernel_rfl) (by kernel_rfl) (by kernel_rfl) (by kernel_rfl) ?_) ?_
  · (intro W hSw; clear hSw hHeld; rw [run_sliceAt_slice _ _ _ _ _ _ (by kernel_rfl)]; exact S1 W)
  refine Rg.take (ops := (Rg.opsOf Try.f7 13)) 19 (some 69) ((.slice B n cb)) hNS (by kernel_rfl) (by kernel_rfl) (by kernel_rfl) (by kernel_rfl) (by kernel_rfl) hHeld (Rg.y_move (x := (Operand.tmp 1)) (Or.inl (by kernel_rfl)) (by kernel_rfl)) ?_
  refine Rg.take (ops := (Rg.opsOf Try.f7 13)) 20 (some 70) ((.pointer (some ⟨ph, 0, none⟩))) hNS (by kernel_rfl) (by kernel_rfl) (by kernel_rfl) (by kernel_rfl) (by kernel_rfl) hHeld (Rg.y_field (T := 51) (k := 0) (x := (Operand.tmp 12)) (vx := (.pointer (some ⟨ph, 0, none⟩))) (by kernel_rfl) (by kernel_rfl) ?_) ?_
  · (intro W hSw; clear hSw hHeld; go_simp)
  refine Rg.take (ops := (Rg.opsOf Try.f7 13)) 21 (some 71) ((.pointer (some ⟨ph, 1, none⟩))) hNS (by kernel_rfl) (by kernel_rfl) (by kernel_rfl) (by kernel_rfl) (by kernel_rfl) hHeld (Rg.y_at (T := 49) (x := (Operand.tmp 70)) (y := (Operand.const (Value.int IntKind.i64 1))) (vx := (.pointer (some ⟨ph, 0, none⟩))) (vy := (Value.int IntKind.i64 1)) (by kernel_rfl) (by kernel_rfl) (by kernel_rfl) ?_) ?_
  · (intro W hSw; clear hSw hHeld; go_simp)
  refine Rg.take (ops := (Rg.opsOf Try.f7 13)) 22 (some 72) ((.int .i64 (u : Int))) hNS (by kernel_rfl) (by kernel_rfl) (by kernel_rfl) (by kernel_rfl) (by kernel_rfl) hHeld (Rg.y_load (T := 3) (x := (Operand.tmp 71)) (vx := (.pointer (some ⟨ph, 1, none⟩))) (by kernel_rfl) (by kernel_rfl) ?_) ?_
  · (intro W hSw; obtain ⟨s0, s1, s2, s3⟩ := hX _ hSw; clear hSw hHeld; go_simp)
  refine Rg.take (ops := (Rg.opsOf Try.f7 13)) 23 (some 73) ((.int .i64 (x : Int))) hNS (by kernel_rfl) (by kernel_rfl) (by kernel_rfl) (by kernel_rfl) (by kernel_rfl) hHeld (Rg.y_move (x := (Operand.tmp 13)) (Or.inl (by kernel_rfl)) (by kernel_rfl)) ?_
  refine Rg.take (ops := (Rg.opsOf Try.f7 13)) 24 (some 74) ((.int .i64 (lo2 : Int))) hNS (by kernel_rfl) (by kernel_rfl) (by kernel_rfl) (by kernel_rfl) (by kernel_rfl) hHeld (Rg.y_bin (b := BinOp.sub) (T := 3) (R' := 3) (x := (Operand.tmp 72)) (y := (Operand.tmp 73)) (vx := (.int .i64 (u : Int))) (vy := (.int .i64 (x : Int))) (by kernel_rfl) (by kernel_rfl) (by kernel_rfl) ?_) ?_
  · (intro W hSw; clear hSw hHeld; go_simp)
  refine Rg.take (ops := (Rg.opsOf Try.f7 13)) 25 (some 75) ((.pointer (some ⟨ph, 2, none⟩))) hNS (by kernel_rfl) (by kernel_rfl) (by kernel_rfl) (by kernel_rfl) (by kernel_rfl) hHeld (Rg.y_field (T := 51) (k := 1) (x := (Operand.tmp 12)) (vx := (.pointer (some ⟨ph, 0, none⟩))) (by kernel_rfl) (by kernel_rfl) ?_) ?_
  · (intro W hSw; clear hSw hHeld; go_simp)
  refine Rg.take (ops := (Rg.opsOf Try.f7 13)) 26 (some 76) ((.pointer (some ⟨ph, 3, none⟩))) hNS (by kernel_rfl) (by kernel_rfl) (by kernel_rfl) (by kernel_rfl) (by kernel_rfl) hHeld (Rg.y_at (T := 49) (x := (Operand.tmp 75)) (y := (Operand.const (Value.int IntKind.i64 1))) (vx := (.pointer (some ⟨ph, 2, none⟩))) (vy := (Value.int IntKind.i64 1)) (by kernel_rfl) (by kernel_rfl) (by kernel_rfl) ?_) ?_
  · (intro W hSw; clear hSw hHeld; go_simp)
  refine Rg.take (ops := (Rg.opsOf Try.f7 13)) 27 (some 77) ((.int .i64 (v : Int))) hNS (by kernel_rfl) (by kernel_rfl) (by kernel_rfl) (by kernel_rfl) (by kernel_rfl) hHeld (Rg.y_load (T := 3) (x := (Operand.tmp 76)) (vx := (.pointer (some ⟨ph, 3, none⟩))) (by kernel_rfl) (by kernel_rfl) ?_) ?_
  · (intro W hSw; obtain ⟨s0, s1, s2, s3⟩ := hX _ hSw; clear hSw hHeld; go_simp)
  refine Rg.take (ops := (Rg.opsOf Try.f7 13)) 28 (some 78) ((.int .i64 (y : Int))) hNS (by kernel_rfl) (by kernel_rfl) (by kernel_rfl) (by kernel_rfl) (by kernel_rfl) hHeld (Rg.y_move (x := (Operand.tmp 14)) (Or.inl (by kernel_rfl)) (by kernel_rfl)) ?_
  refine Rg.take (ops := (Rg.opsOf Try.f7 13)) 29 (some 79) ((.int .i64 (hi2 : Int))) hNS (by kernel_rfl) (by kernel_rfl) (by kernel_rfl) (by kernel_rfl) (by kernel_rfl) hHeld (Rg.y_bin (b := BinOp.add) (T := 3) (R' := 3) (x := (Operand.tmp 77)) (y := (Operand.tmp 78)) (vx := (.int .i64 (v : Int))) (vy := (.int .i64 (y : Int))) (by kernel_rfl) (by kernel_rfl) (by kernel_rfl) ?_) ?_
  · (intro W hSw; clear hSw hHeld; go_simp)
  refine Rg.take (ops := (Rg.opsOf Try.f7 13)) 30 (some 80) ((.slice An nn cn)) hNS (by kernel_rfl) (by kernel_rfl) (by kernel_rfl) (by kernel_rfl) (by kernel_rfl) hHeld (Rg.y_sl2 (T := 22) (x := (Operand.tmp 69)) (l := (Operand.tmp 74)) (h := (Operand.tmp 79)) (vx := (.slice B n cb)) (vl := (.int .i64 (lo2 : Int))) (vh := (.int .i64 (hi2 : Int))) (by kernel_rfl) (by kernel_rfl) (by kernel_rfl) (by kernel_rfl) ?_) ?_
  · (intro W hSw; clear hSw hHeld; rw [run_sliceAt_slice _ _ _ _ _ _ (by kernel_rfl)]; exact S2 W)
  refine Rg.call (ops := (Rg.opsOf Try.f7 13)) (fn := Try.f18) (xs := #[Operand.tmp 67]) (ats := #[22]) 18 (some 68) 18 #[(.slice Ao no co)] (by kernel_rfl) (by kernel_rfl) (by kernel_rfl) (by kernel_rfl) (by kernel_rfl) Try.func18 (by kernel_rfl) (by kernel_rfl) (by kernel_rfl) ?_
  refine (hA _ hHeld).mono ?_
  rintro e w5 ⟨k5, Bo, do_, rfl, l5, h5⟩
  refine ⟨_, rfl, k5, fun hHeld => ?_⟩
  refine Rg.call (ops := (Rg.opsOf Try.f7 13)) (fn := Try.f18) (xs := #[Operand.tmp 80]) (ats := #[22]) 31 (some 81) 18 #[(.slice An nn cn)] (by kernel_rfl) (by kernel_rfl) (by kernel_rfl) (by kernel_rfl) (by kernel_rfl) Try.func18 (by kernel_rfl) (by kernel_rfl) (by kernel_rfl) ?_
  refine (hB _ hHeld).mono ?_
  rintro e w6 ⟨k6, Bn, dn, rfl, l6, h6⟩
  refine ⟨_, rfl, k6, fun hHeld => ?_⟩
  refine Rg.take (ops := (Rg.opsOf Try.f7 13)) 32 (some 82) ((.agg #[.int .i64 (lo : Int), .slice Bo no do_, .slice Bn nn dn])) hNS (by kernel_rfl) (by kernel_rfl) (by kernel_rfl) (by kernel_rfl) (by kernel_rfl) hHeld (Rg.y_build (T := 33) (parts := #[(0, Operand.tmp 55), (1, Operand.tmp 68), (2, Operand.tmp 81)]) (vs := #[(0, (.int .i64 (lo : Int))), (1, (.slice Bo no do_)), (2, (.slice Bn nn dn))]) (by kernel_rfl) (by kernel_rfl) ?_) ?_
  · (intro W hSw; clear hSw hHeld; go_simp)
  refine Rg.bld (ops := (Rg.opsOf Try.f7 13)) 33 (some 83) (T := 23) (len := 1) (parts := #[(0, Operand.tmp 82)]) (vs := #[(0, (.agg #[.int .i64 (lo : Int), .slice Bo no do_, .slice Bn nn dn]))]) (v := (.slice (some ⟨w6.heap.size, 0, none⟩) 1 1)) (w1 := w6.alloc (.cells #[.int .i64 (lo : Int), .slice Bo no do_, .slice Bn nn dn] 33)) (by kernel_rfl) (by kernel_rfl) (by kernel_rfl) (by kernel_rfl) (by kernel_rfl) (by kernel_rfl) ?_ (hXa _ _ k6) (fun hHeld => ?_)
  · (clear hHeld hE h5 h6 k5 k6 l5 l6; go_simp)
  refine Rg.app1 (ops := (Rg.opsOf Try.f7 13)) 34 (some 84) (T := 23) (x := (Operand.tmp 50)) (y := (Operand.tmp 83)) (vx := vL) (vy := (.slice (some ⟨w6.heap.size, 0, none⟩) 1 1)) (by kernel_rfl) (by kernel_rfl) (by kernel_rfl) (by kernel_rfl) (by kernel_rfl) (by kernel_rfl) (by kernel_rfl) ?_
  intro ty
  obtain ⟨v8, w8, e8, h8, h9⟩ := hE w5 w6 Bo do_ Bn dn k5 l5 h5 k6 l6 h6 ty
  refine ⟨v8, w8, e8, h8, fun hHeld => ?_⟩
  refine Rg.take (ops := (Rg.opsOf Try.f7 13)) 35 (some 10) (v8) hNS (by kernel_rfl) (by kernel_rfl) (by kernel_rfl) (by kernel_rfl) (by kernel_rfl) hHeld (Rg.y_move (x := (Operand.tmp 84)) (Or.inr (by kernel_rfl)) (by kernel_rfl)) ?_
  refine Rg.done (ops := (Rg.opsOf Try.f7 13)) (by kernel_rfl) ?_
  exact ⟨v8, Bo, do_, Bn, dn, w6.heap.size, by kernel_rfl, h9⟩
end Go.Proofs.Ytoncghamkedhcaa.Kd

namespace Go.Proofs.Ytoncghamkedhcaa.Kd
open Go.RowKit Go.ChangeShapes Go.WideShapes Tx Um Ud Aq Km
set_option linter.unusedVariables false
theorem Own3.base {w : World} {B B2 : Nat} {cs : List (Int × Value × Value)} {hs : List (Hz ByteArray)} (h : Own3 w B cs hs) (hB : B2 ≤ B) : Own3 w B2 cs hs :=
  ⟨fun k c x h1 h2 => ⟨own_base (h.each k c x h1 h2).1 hB, own_base (h.each k c x h1 h2).2 hB⟩, h.far⟩
theorem bet_nil {w w1 : World} (h : Below w.heap.size w w1) (er : Nat) : BetTo [] er w (.returned (.tuple #[.slice none 0 0, .int .i64 (er : Int)])) w1 :=
  ⟨_, [], rfl, hu_nil _ _, trivial, Own3.nil _ _, h⟩
def PcB (w : World) (ph f t u v : Nat) : Prop := w.heap[ph]? = some (.cells #[.int .i64 (f : Int), .int .i64 (u : Int), .int .i64 (t : Int), .int .i64 (v : Int)] 51 (0, 0))
theorem PcB.kept {w w1 : World} {ph f t u v : Nat} (h : PcB w ph f t u v) (hk : w1.heap[ph]? = w.heap[ph]?) : PcB w1 ph f t u v := hk.trans h
theorem PcB.lt {w : World} {ph f t u v : Nat} (h : PcB w ph f t u v) : ph < w.heap.size := (Array.getElem?_eq_some_iff.1 h).1
def Xb (w2 : World) (ph f t u v : Nat) (W : World) : Prop := Below w2.heap.size w2 W ∧ PcB W ph f t u v
theorem Xb.call {w2 W W1 : World} {ph f t u v : Nat} (h : Xb w2 ph f t u v W) (hb : Below W.heap.size W W1) : Xb w2 ph f t u v W1 := ⟨h.1.trans (hb.mono h.1.size), h.2.kept (hb.block ph h.2.lt)⟩
theorem PcB.four {w : World} {ph f t u v : Nat} (h : PcB w ph f t u v) : FourP ph f t u v w := by
  unfold FourP World.cell?
  unfold PcB at h
  simp [h]
def Zb (w2 : World) (lo : Nat) (cs : List (Int × Value × Value)) (hs : List (Hz ByteArray)) (v8 : Value) (W : World) : Prop := ∃ c, c.1 = (lo : Int) ∧ Below w2.heap.size w2 W ∧ Hu W w2.heap.size v8 (cs ++ [c]) ∧ Own3 W w2.heap.size (cs ++ [c]) hs
set_option maxRecDepth 100000 in
set_option maxHeartbeats 4000000 in
theorem between_any (A B : Option Addr) (ca cb : Nat) (ar : Int) (a b : List ByteArray) (w : World) (hA : In w A ca a) (hB : In w B cb b) (har : int64 ar) :
    Calls Try.prog 7 #[.slice A a.length ca, .slice B b.length cb, .int .i64 ar] w (BetTo (pcs a b ar) (per a b ar) w) := by
  by_cases hn : ar < 0
  · have HE : Hid (pcs a b ar = [] ∧ per a b ar = 1) := ⟨if_pos hn, if_pos hn⟩
    clear hA hB
    go_enter Try.func7, Try.ntmps7
    go_wp2_with fail
    go_ret2
    rw [HE.out.1, HE.out.2]
    exact bet_nil (Below.refl _ _) 1
  · have hge : 0 ≤ ar := by omega
    have cS := script_any A B ca cb a b w hA.1 hB.1 hA.2.2.2 hB.2.2.2
    unfold PrsTo at cS
    cases hl : lng a b
    case true =>
      have HE : Hid (pcs a b ar = [] ∧ per a b ar = 4) := by
        show _ ∧ _
        unfold pcs per
        rw [if_neg hn, if_neg hn, hl]
        exact ⟨rfl, rfl⟩
      rw [scr_yes hl, err_yes hl] at cS
      have CS := Lib.hid cS
      clear hA hB hl cS
      go_enter Try.func7, Try.ntmps7
      go_wp2_with fail
      go_at_call 16
      refine CS.out.mono ?_
      rintro e w1 ⟨v, rfl, hv, hb1⟩
      go_wp2_with fail
      go_ret2
      rw [HE.out.1, HE.out.2]
      exact bet_nil hb1 4
    case false =>
      obtain ⟨hm4, hn4⟩ := lng_small hl
      obtain ⟨N, hN⟩ : ∃ N, N = min ar.toNat 400 := ⟨_, rfl⟩
      have hN4 : N ≤ 400 := by omega
      have hNm : min ar 400 = (N : Int) := by omega
      obtain ⟨GL, hGL⟩ : ∃ GL, GL = (gp (2 * N) (pairs 0 0 (steps a b) ++ [(a.length, b.length)]) 0 0 []).reverse := ⟨_, rfl⟩
      have HE : Hid (pcs a b ar = GL.map (fun g => (pc a b N g).z) ∧ per a b ar = 0) := by
        show _ ∧ _
        unfold pcs per
        rw [if_neg hn, if_neg hn, hl, ← hN]
        refine ⟨?_, rfl⟩
        show (btw a b N _).map Hk.z = _
        unfold btw
        rw [hks_map, ← hGL, List.map_map]
        rfl
      have HFIT : Hid (∀ g, g ∈ GL → Fit4 a b N g) := by
        show ∀ g, g ∈ GL → Fit4 a b N g
        rw [hGL]
        exact gaps_fit a b N
      have hGl : GL.length ≤ 401 := by
        have h1 := rs_len (pairs 0 0 (steps a b) ++ [(a.length, b.length)]) (2 * N) 0 0 []
        have h2 := pairs_len (steps a b) 0 0
        have h3 := kept a b
        have h4 := lcs_le_left a b
        rw [hGL, List.length_reverse]
        rw [List.length_append] at h1
        simp at h1
        omega
      rw [scr_no hl, err_no hl] at cS
      have hsl := (makes a b).lens
      have hk := kept a b
      have hkl := lcs_le_left a b
      have hs800 : (steps a b).length ≤ 800 := by omega
      have hRx : ∀ x, x ∈ runs (steps a b) → x.1 ≤ 2 ∧ x.2 ≤ 800 := fun x hx => by
        obtain ⟨h5, h6⟩ := runs_le (steps a b) x hx
        have := (makes a b).le x.1 h5
        omega
      have hRl : (runs (steps a b)).length ≤ 800 := by have := runs_len (steps a b); omega
      have cP := fun ad cc w1 h1 => pieces_any ad cc (runs (steps a b)).length (runs (steps a b)) (2 * N) w1 h1 hRl hRx (by omega)
      unfold PcTo at cP
      rw [pr_gaps, ← hGL, show ((2 * N : Nat) : Int) = 2 * (N : Int) by omega] at cP
      have CS := Lib.hid cS
      have CP := Lib.hid cP
      have HA : Hid (Strs w A a.length a) := hA.1
      have HB' : Hid (Strs w B b.length b) := hB.1
      have HNA : Hid (A = none → ca = 0) := hA.2.2.1
      have HNB : Hid (B = none → cb = 0) := hB.2.2.1
      have hac := hA.2.1
      have hbc := hB.2.1
      obtain ⟨m, hm⟩ : ∃ m, m = a.length := ⟨_, rfl⟩
      obtain ⟨n, hnn⟩ : ∃ n, n = b.length := ⟨_, rfl⟩
      rw [← hm] at hm4 hac CS ⊢
      rw [← hnn] at hn4 hbc CS ⊢
      have HM := Lib.hid hm
      have HN := Lib.hid hnn
      obtain ⟨L, hL⟩ : ∃ L, L = GL.length := ⟨_, rfl⟩
      rw [← hL] at hGl
      have HL := Lib.hid hL
      have w2N : IntKind.i64.wrap (2 * (N : Int)) = 2 * (N : Int) := IntWalk.i64_in _ (by omega)
      clear hA hB cS cP hN hGL hm hnn hL hl hsl hk hkl hs800 hRx hRl
      go_enter Try.func7, Try.ntmps7
      go_wp2_with fail
      go_at_call 16
      refine CS.out.mono ?_
      rintro e w1 ⟨v, rfl, hv, hb1⟩
      obtain ⟨ad, cc, rfl, hrr⟩ := hv.form
      have CP1 := Lib.hid (CP.out ad cc w1 hrr)
      have HB1 := Lib.hid hb1
      clear hv hrr hb1 CS CP
      go_wp2_with fail
      go_at_call 17
      refine CP1.out.mono ?_
      rintro e w2 ⟨v, rfl, hv, hb2⟩
      obtain ⟨ga, gc, rfl, hgc⟩ := hv.form
      rw [← HL.out] at hgc ⊢
      have HGC := Lib.hid hgc
      have HB2 : Hid (Below w.heap.size w w2) := HB1.out.trans (hb2.mono HB1.out.size)
      clear hv hgc hb2 CP1 HB1
      go_wp2_with fail
      go_loopw [10, 12, 13, 14, 33] (fun v _ _ _ i wr => ∃ (k : Nat) (cs : List (Int × Value × Value)), i = .int .i64 (k : Int) ∧ k ≤ L ∧ Hid (cs.map (·.1) = ((GL.take k).map (fun g => (pc a b N g).z)).map (·.at_)) ∧ Hid (Hu wr w2.heap.size v cs) ∧ Hid (Own3 wr w2.heap.size cs ((GL.take k).map (fun g => (pc a b N g).z))) ∧ Hid (Below w2.heap.size w2 wr)) (fun _ _ _ _ i _ => L - (intOf i).toNat)
      case atStart => exact ⟨0, [], rfl, Nat.zero_le _, rfl, hu_nil _ _, Own3.nil _ _, Below.refl _ _⟩
      case round =>
        obtain ⟨k, cs, rfl, hk, HCK, HH, HO, HB⟩ := hrel
        by_cases hlt : k < L
        · have e3 : (k : Int) < (L : Int) := by omega
          obtain ⟨g, hg⟩ : ∃ g, GL[k]? = some g := ⟨_, List.getElem?_eq_getElem (by rw [← HL.out]; exact hlt)⟩
          obtain ⟨k1, k2, k3, k4, k5, k6⟩ := HFIT.out g (List.mem_iff_getElem?.2 ⟨k, hg⟩)
          obtain ⟨gg, rfl, hgB, hgl, _, hcl⟩ := HGC.out.resolve_left (by omega)
          obtain ⟨a0, a1, a2, a3⟩ := hcl k g hg
          have hszr := HB.out.size
          have d0 := (HB.out.cell (p := ⟨gg, _, none⟩) hgl).trans a0
          have d1 := (HB.out.cell (p := ⟨gg, _, none⟩) hgl).trans a1
          have d2 := (HB.out.cell (p := ⟨gg, _, none⟩) hgl).trans a2
          have d3 := (HB.out.cell (p := ⟨gg, _, none⟩) hgl).trans a3
          have htk : (GL.take (k + 1)).map (fun g => (pc a b N g).z) = (GL.take k).map (fun g => (pc a b N g).z) ++ [(pc a b N g).z] := by
            rw [List.take_add_one, hg, List.map_append]
            rfl
          rw [← HM.out] at k2 k6
          rw [← HN.out] at k4 k6
          obtain ⟨f, hf⟩ : ∃ f, f = g.f := ⟨_, rfl⟩
          obtain ⟨t, ht⟩ : ∃ t, t = g.t := ⟨_, rfl⟩
          obtain ⟨u, hu⟩ : ∃ u, u = g.u := ⟨_, rfl⟩
          obtain ⟨v, hv⟩ : ∃ v, v = g.v := ⟨_, rfl⟩
          unfold iv at d0 d1 d2 d3
          rw [← hf] at d0 k1 k5
          rw [← ht] at d2 k1 k2 k6
          rw [← hu] at d1 k3 k5
          rw [← hv] at d3 k3 k4 k6
          obtain ⟨x, hx⟩ : ∃ x, x = min N f := ⟨_, rfl⟩
          obtain ⟨y, hy⟩ : ∃ y, y = min N (m - t) := ⟨_, rfl⟩
          rw [← hx] at k5
          rw [← hy] at k6
          obtain ⟨Ao, eo, ro, no_⟩ := rd_room HA.out (c := ca) (lo := f - x) (hi := t + y) (by omega) (by rw [← HM.out]; omega) (by rw [← HM.out]; exact hac) HNA.out
          obtain ⟨An, en, rn, nn_⟩ := rd_room HB'.out (c := cb) (lo := u - x) (hi := v + y) (by omega) (by rw [← HN.out]; omega) (by rw [← HN.out]; exact hbc) HNB.out
          have r1 : Hid ((a.take (t + y)).drop (f - x) = (pc a b N g).old) := by
            show _ = (a.take (g.t + min N (a.length - g.t))).drop (g.f - min N g.f)
            rw [← hf, ← ht, ← HM.out, ← hx, ← hy]
          have r2 : Hid ((b.take (v + y)).drop (u - x) = (pc a b N g).new) := by
            show _ = (b.take (g.v + min N (a.length - g.t))).drop (g.u - min N g.f)
            rw [← hf, ← ht, ← hu, ← hv, ← HM.out, ← hx, ← hy]
          rw [r1.out] at ro
          rw [r2.out] at rn
          have hat : Hid ((f - x : Nat) = (pc a b N g).at_) := by
            show f - x = g.f - min N g.f
            rw [← hf, ← hx]
          obtain ⟨lo, hlo⟩ : ∃ lo, lo = f - x := ⟨_, rfl⟩
          obtain ⟨hi, hhi⟩ : ∃ hi, hi = t + y := ⟨_, rfl⟩
          obtain ⟨lo2, hlo2⟩ : ∃ lo2, lo2 = u - x := ⟨_, rfl⟩
          obtain ⟨hi2, hhi2⟩ : ∃ hi2, hi2 = v + y := ⟨_, rfl⟩
          rw [← hlo, ← hhi] at eo ro
          rw [← hlo2, ← hhi2] at en rn
          rw [← hlo] at no_ hat
          rw [← hlo2] at nn_
          have q1 : (f : Int) - (x : Int) = (lo : Int) := by omega
          have q2 : (t : Int) + (y : Int) = (hi : Int) := by omega
          have q3 : (u : Int) - (x : Int) = (lo2 : Int) := by omega
          have q4 : (v : Int) + (y : Int) = (hi2 : Int) := by omega
          have o1 : lo ≤ hi ∧ hi ≤ ca ∧ lo2 ≤ hi2 ∧ hi2 ≤ cb ∧ lo ≤ 400 ∧ hi ≤ 1000 ∧ lo2 ≤ 400 ∧ hi2 ≤ 1000 := by omega
          obtain ⟨o1, o2, o3, o4, o5, o6, o7, o8⟩ := o1
          have W5 : IntKind.i64.wrap ((m : Int) - (t : Int)) = (m : Int) - (t : Int) := IntWalk.i64_in _ (by omega)
          have V1 : IntKind.i64.wrap (lo : Int) = (lo : Int) := IntWalk.i64_in _ (by omega)
          have V2 : IntKind.i64.wrap (hi : Int) = (hi : Int) := IntWalk.i64_in _ (by omega)
          have V3 : IntKind.i64.wrap (lo2 : Int) = (lo2 : Int) := IntWalk.i64_in _ (by omega)
          have V4 : IntKind.i64.wrap (hi2 : Int) = (hi2 : Int) := IntWalk.i64_in _ (by omega)
          have S1 : ∀ W : World, (Instr.slice 22 (.slice A m ca) (some (.int .i64 (lo : Int))) (some (.int .i64 (hi : Int))) none).run Try.prog W = .ok (.slice Ao (hi - lo) (ca - lo)) W := fun W => by rw [← eo]; exact slice_run A m ca lo hi o1 o2 W
          have S2 : ∀ W : World, (Instr.slice 22 (.slice B n cb) (some (.int .i64 (lo2 : Int))) (some (.int .i64 (hi2 : Int))) none).run Try.prog W = .ok (.slice An (hi2 - lo2) (cb - lo2)) W := fun W => by rw [← en]; exact slice_run B n cb lo2 hi2 o3 o4 W
          have m1 : min (N : Int) (f : Int) = (x : Int) := by omega
          have m2 : min (N : Int) ((m : Int) - (t : Int)) = (y : Int) := by omega
          have RO := Lib.hid ro
          have RN := Lib.hid rn
          have NO_ := Lib.hid no_
          have NN_ := Lib.hid nn_
          have HTK := Lib.hid htk
          clear hcl a0 a1 a2 a3 hg hf ht hu hv hx hy hlo hhi hlo2 hhi2 k1 k2 k3 k4 k5 k6 htk ro rn no_ nn_ eo en
          go_wp2_with fail
          obtain ⟨iH, hH, hH0, hH1, hH2⟩ := info_parts infoH
          obtain ⟨wq, hwq⟩ : ∃ wq, wq = wr.alloc (.cells #[.int .i64 (f : Int), .int .i64 (u : Int), .int .i64 (t : Int), .int .i64 (v : Int)] 51) := ⟨_, rfl⟩
          have hba : Below wr.heap.size wr wq := by rw [hwq]; exact (Below.refl _ wr).alloc (Nat.le_refl _) _
          have hpb : PcB wq wr.heap.size f t u v := by rw [hwq]; exact heap_alloc_new _ _
          have hX0 : Xb w2 wr.heap.size f t u v wq := ⟨HB.out.trans (hba.mono HB.out.size), hpb⟩
          have HLc : Hid (cs.length = ((GL.take k).map (fun g => (pc a b N g).z)).length) := by
            have h := congrArg List.length HCK.out
            rw [List.length_map, List.length_map] at h
            exact h
          have hck4 : cs.length ≤ 401 := by rw [HLc.out, List.length_map, List.length_take]; omega
          have HWB : Hid (∀ W, Xb w2 wr.heap.size f t u v W → Below w.heap.size w W) := fun W h => HB2.out.trans (h.1.mono HB2.out.size)
          have HCA : Hid (∀ W, Xb w2 wr.heap.size f t u v W → Calls Try.prog 18 #[.slice Ao (hi - lo) (ca - lo)] W fun e w' => Xb w2 wr.heap.size f t u v w' ∧ ∃ Bo do_, e = .returned (.slice Bo (hi - lo) do_) ∧ Below W.heap.size W w' ∧ Lo w' W.heap.size (.slice Bo (hi - lo) do_) (pc a b N g).old) := fun W h =>
            (kclone_any Ao (hi - lo) (ca - lo) _ W (RO.out.below (HWB.out W h)) NO_.out (by omega)).mono fun e w' hh => by
              obtain ⟨v', rfl, h1, h2⟩ := hh
              obtain ⟨Bo, do_, rfl⟩ := h1.form
              rw [RO.out.1] at h1 ⊢
              exact ⟨h.call h2, Bo, do_, rfl, h2, h1⟩
          have HCB : Hid (∀ W, Xb w2 wr.heap.size f t u v W → Calls Try.prog 18 #[.slice An (hi2 - lo2) (cb - lo2)] W fun e w' => Xb w2 wr.heap.size f t u v w' ∧ ∃ Bn dn, e = .returned (.slice Bn (hi2 - lo2) dn) ∧ Below W.heap.size W w' ∧ Lo w' W.heap.size (.slice Bn (hi2 - lo2) dn) (pc a b N g).new) := fun W h =>
            (kclone_any An (hi2 - lo2) (cb - lo2) _ W (RN.out.below (HWB.out W h)) NN_.out (by omega)).mono fun e w' hh => by
              obtain ⟨v', rfl, h1, h2⟩ := hh
              obtain ⟨Bn, dn, rfl⟩ := h1.form
              rw [RN.out.1] at h1 ⊢
              exact ⟨h.call h2, Bn, dn, rfl, h2, h1⟩
          have HE8 : Hid (∀ w5 w6 Bo do_ Bn dn, Xb w2 wr.heap.size f t u v w5 → Below wq.drew.heap.size wq.drew w5 → Lo w5 wq.drew.heap.size (.slice Bo (hi - lo) do_) (pc a b N g).old → Xb w2 wr.heap.size f t u v w6 → Below w5.heap.size w5 w6 → Lo w6 w5.heap.size (.slice Bn (hi2 - lo2) dn) (pc a b N g).new → ∀ ty, ∃ v8 w8, (Builtin.append_ #[23, 23] ty #[u10, .slice (some ⟨w6.heap.size, 0, none⟩) 1 1]).run Try.prog (w6.alloc (.cells #[.int .i64 (lo : Int), .slice Bo (hi - lo) do_, .slice Bn (hi2 - lo2) dn] 33)) = .ok v8 w8 ∧ Xb w2 wr.heap.size f t u v w8 ∧ Zb w2 lo cs ((GL.take (k + 1)).map (fun g => (pc a b N g).z)) v8 w8) := by
            intro w5 w6 Bo do_ Bn dn k5 l5 h5 k6 l6 h6 ty
            have hone : ∀ u ∈ h3 ((lo : Int), .slice Bo (hi - lo) do_, .slice Bn (hi2 - lo2) dn), u.oneCell' = true := by
              intro u hu
              simp only [h3, List.mem_cons, List.not_mem_nil, or_false] at hu
              rcases hu with rfl | rfl | rfl
              · rfl
              · rfl
              · rfl
            have hqd : Below wq.heap.size wq wq.drew := (Below.refl _ _).drew
            have b56 : Below wq.drew.heap.size wq.drew w6 := l5.trans (l6.mono l5.size)
            have hu6 : Hu w6 w2.heap.size u10 cs := ((HH.out.below hba).below hqd).below b56
            have ha6 : Below w6.heap.size w6 (w6.alloc (.cells #[.int .i64 (lo : Int), .slice Bo (hi - lo) do_, .slice Bn (hi2 - lo2) dn] 33)) := (Below.refl _ _).alloc (Nat.le_refl _) _
            have hu7 := hu6.below ha6
            have k7 := k6.call ha6
            have hwq2 : w2.heap.size ≤ wq.drew.heap.size := Nat.le_trans hX0.1.size hqd.size
            have o6 : Own3 w6 w2.heap.size (cs ++ [((lo : Int), .slice Bo (hi - lo) do_, .slice Bn (hi2 - lo2) dn)]) ((GL.take (k + 1)).map (fun g => (pc a b N g).z)) := by
              rw [HTK.out]
              refine Own3.snoc ((HO.out.below hba).below hqd) HLc.out b56 (h5.below l6) (own_base h6 l5.size) hwq2 (fun q e1 e2 => ?_)
              have x1 := (World.ownsRow.lt h5 q e1).2
              have x2 := (World.ownsRow.lt h6 q e2).1
              omega
            obtain ⟨v8, w8, h1, h2, h3', _⟩ := run_append_own (P := Try.prog) (w6.alloc (.cells #[.int .i64 (lo : Int), .slice Bo (hi - lo) do_, .slice Bn (hi2 - lo2) dn] 33)) w2.heap.size 23 ty 33 iH (.agg #[.int .i64 0, .slice none 0 0, .slice none 0 0]) 3 56 Try.underlying23 hH hH0 hH1 hH2 rfl (by decide) u10 cs.length (cs.flatMap h3) hu7 ⟨w6.heap.size, 0, none⟩ 1 1 (h3 ((lo : Int), .slice Bo (hi - lo) do_, .slice Bn (hi2 - lo2) dn)) rfl (cell_three_new _ _ _ _ _) hone (by unfold maxLen; omega) (by omega) k7.1.size
            have hg8 := k7.1.grown h3' k7.1.size (fun q hq => (World.ownsRow.lt hu7 q hq).1)
            refine ⟨v8, w8, h1, ⟨hg8, ?_⟩, ⟨_, rfl, hg8, ?_, (o6.below ha6).grown hu7 h3'⟩⟩
            · exact k7.2.kept (h3'.block _ k7.2.lt (fun e => by have := (World.ownsRow.lt HH.out _ e.symm).2; omega))
            · unfold Hu
              rw [List.length_append, List.flatMap_append]
              simpa using h2
          have HXF : Hid (∀ W, Xb w2 wr.heap.size f t u v W → FourP wr.heap.size f t u v W) := fun W h => h.2.four
          have HXA : Hid (∀ W o, Xb w2 wr.heap.size f t u v W → Xb w2 wr.heap.size f t u v (W.alloc o)) := fun W o h => h.call ((Below.refl _ _).alloc (Nat.le_refl _) _)
          have hX1 : Xb w2 wr.heap.size f t u v wq.drew := hX0.call ((Below.refl _ _).drew)
          rw [← hwq]
          clear hwq hba hpb hX0
          refine Rg.wp_only ?_ (hbetwReg _ (by kernel_rfl) _ wr.heap.size m n ca cb f t u v x y lo hi lo2 hi2 (hi - lo) (ca - lo) (hi2 - lo2) (cb - lo2) A B Ao An u10 _ (Xb w2 wr.heap.size f t u v) (fun W w' v => Lo w' W.heap.size v (pc a b N g).old) (fun W w' v => Lo w' W.heap.size v (pc a b N g).new) (Zb w2 lo cs ((GL.take (k + 1)).map (fun g => (pc a b N g).z))) HXF.out hX1 HXA.out q1 q2 q3 q4 V1 V2 V3 V4 S1 S2 HCA.out HCB.out HE8.out)
          rintro _ w9 ⟨v9, Bo, do_, Bn, dn, g6, rfl, c9, hc9, hb9, hu9, ho9⟩
          have HU9 := Lib.hid hu9
          have HO9 := Lib.hid ho9
          have HC9 : Hid ((cs ++ [c9]).map (·.1) = ((GL.take (k + 1)).map (fun g => (pc a b N g).z)).map (·.at_)) := by
            show _ = _
            rw [HTK.out, List.map_append, List.map_append, HCK.out, List.map_cons, List.map_cons, hc9, hat.out]
            rfl
          clear hu9 ho9 HXF HXA HE8 HCA HCB S1 S2 hX1 HH HO HCK
          go_wp2_with fail
          go_roundw
          case rel => exact ⟨k + 1, _, by go_num, by omega, HC9, HU9, HO9, hb9⟩
          case measure => simp only [intOf]; omega
        · have hkL : k = L := by omega
          have e3 : ¬ (k : Int) < (L : Int) := by omega
          have HR : Hid (BetTo (pcs a b ar) (per a b ar) w (.returned (.tuple #[u10, .int .i64 0])) wr) := by
            show BetTo _ _ _ _ _
            rw [HE.out.1, HE.out.2]
            have hi := HO.out
            have hc := HCK.out
            rw [hkL, HL.out, List.take_length] at hi hc
            exact ⟨u10, cs, rfl, own_base HH.out HB2.out.size, hi.reads hc, hi.base HB2.out.size, HB2.out.trans (HB.out.mono HB2.out.size)⟩
          clear hkL HH HO HCK
          go_wp2_with fail
          go_ret2
          exact HR.out
end Go.Proofs.Ytoncghamkedhcaa.Kd

namespace Go.Proofs.Ytoncghamkedhcaa.Kd
open Go.RowKit Tx
set_option linter.unusedVariables false
def Free3 (gB o : Nat) (W : World) : Prop := ∃ z0 z1 z2, W.cell? ⟨gB, o, none⟩ = some z0 ∧ W.cell? ⟨gB, o + 1, none⟩ = some z1 ∧ W.cell? ⟨gB, o + 2, none⟩ = some z2 ∧ W.frozen? ⟨gB, o, none⟩ = false ∧ W.frozen? ⟨gB, o + 1, none⟩ = false ∧ W.frozen? ⟨gB, o + 2, none⟩ = false
def Three (ph : Nat) (at_ : Int) (uo un : Value) (W : World) : Prop := W.cell? ⟨ph, 0, none⟩ = some (.int .i64 at_) ∧ W.cell? ⟨ph, 1, none⟩ = some uo ∧ W.cell? ⟨ph, 2, none⟩ = some un
set_option maxRecDepth 100000 in
set_option maxHeartbeats 4000000 in
theorem backReg (ops : Array Oper) (hops : ops = (Rg.opsOf Try.f15 6)) (id : Nat) (gB ph n k no co nn cn : Nat) (at_ mo z : Int) (Ao An : Option Addr) {u0 u1 u2 u7 u8 u9 u10 u11 u12 u13 u14 u15 u16 u17 u18 u19 u20 u21 u22 u23 u24 u25 u26 u27 u28 u29 u30 u31 u32 u33 u34 u35 u36 u37 u38 u39 u40 u41 : Value} (w : World) (X : World → Prop) (Y1 Y2 : World → World → Value → Prop) (Z : World → Prop)
    (hk : (k : Int) < (n : Int)) (hX : ∀ W, X W → Three ph at_ (.slice Ao no co) (.slice An nn cn) W) (hF : ∀ W, X W → Free3 gB (k * 3) W) (hw : X w.drew)
    (q1 : at_ + mo = z) (V1 : IntKind.i64.wrap z = z)
    (hA : ∀ W, X W → Calls Try.prog 18 #[.slice An nn cn] W fun e w' => X w' ∧ ∃ Bn dn, e = .returned (.slice Bn nn dn) ∧ Below W.heap.size W w' ∧ Y1 W w' (.slice Bn nn dn))
    (hB : ∀ W, X W → Calls Try.prog 18 #[.slice Ao no co] W fun e w' => X w' ∧ ∃ Bo do_, e = .returned (.slice Bo no do_) ∧ Below W.heap.size W w' ∧ Y2 W w' (.slice Bo no do_))
    (hZ : ∀ w5 w6 Bn dn Bo do_, X w5 → Below w.drew.heap.size w.drew w5 → Y1 w.drew w5 (.slice Bn nn dn) → X w6 → Below w5.heap.size w5 w6 → Y2 w5 w6 (.slice Bo no do_) → X (((w6.setCell ⟨gB, k * 3, none⟩ (.int .i64 z)).setCell ⟨gB, k * 3 + 1, none⟩ (.slice Bn nn dn)).setCell ⟨gB, k * 3 + 2, none⟩ (.slice Bo no do_)) ∧ Z (((w6.setCell ⟨gB, k * 3, none⟩ (.int .i64 z)).setCell ⟨gB, k * 3 + 1, none⟩ (.slice Bn nn dn)).setCell ⟨gB, k * 3 + 2, none⟩ (.slice Bo no do_))) :
    (Code.region id ops true).wp Try.prog (Rg.Only fun a' w' => ∃ (Bn : Option Addr) (dn : Nat) (Bo : Option Addr) (do_ : Nat), a' = ⟨#[u0, u1, u2, (.slice (some ⟨gB, 0, none⟩) n n), (.int .i64 mo), (.int .i64 (k : Int)), (.pointer (some ⟨ph, 0, none⟩)), u7, u8, u9, u10, u11, u12, u13, u14, u15, u16, (.slice (some ⟨gB, 0, none⟩) n n), (.int .i64 (k : Int)), (.pointer (some ⟨ph, 0, none⟩)), (.int .i64 at_), (.int .i64 mo), (.int .i64 z), (.pointer (some ⟨ph, 2, none⟩)), (.slice An nn cn), (.slice Bn nn dn), (.pointer (some ⟨ph, 1, none⟩)), (.slice Ao no co), (.slice Bo no do_), (.agg #[.int .i64 z, .slice Bn nn dn, .slice Bo no do_]), (.pointer (some ⟨gB, k * 3, none⟩)), u31, u32, u33, u34, u35, u36, u37, u38, u39, u40, u41], []⟩ ∧ Z w') ⟨#[u0, u1, u2, (.slice (some ⟨gB, 0, none⟩) n n), (.int .i64 mo), (.int .i64 (k : Int)), (.pointer (some ⟨ph, 0, none⟩)), u7, u8, u9, u10, u11, u12, u13, u14, u15, u16, u17, u18, u19, u20, u21, u22, u23, u24, u25, u26, u27, u28, u29, u30, u31, u32, u33, u34, u35, u36, u37, u38, u39, u40, u41], []⟩ w := by
  subst hops
  have hNS : Region.noSelect (Rg.opsOf Try.f15 6) = true := by kernel_rfl
  refine wp_region_held_drew (S := X) (by kernel_rfl) hw (fun hHeld => ?_)
  rw [show (Rg.opsOf Try.f15 6).size = 15 by kernel_rfl]
  refine Rg.take (ops := (Rg.opsOf Try.f15 6)) 0 (some 17) ((.slice (some ⟨gB, 0, none⟩) n n)) hNS (by kernel_rfl) (by kernel_rfl) (by kernel_rfl) (by kernel_rfl) (by kernel_rfl) hHeld (Rg.y_move (x := (Operand.tmp 3)) (Or.inl (by kernel_rfl)) (by kernel_rfl)) ?_
  refine Rg.take (ops := (Rg.opsOf Try.f15 6)) 1 (some 18) ((.int .i64 (k : Int))) hNS (by kernel_rfl) (by kernel_rfl) (by kernel_rfl) (by kernel_rfl) (by kernel_rfl) hHeld (Rg.y_move (x := (Operand.tmp 5)) (Or.inl (by kernel_rfl)) (by kernel_rfl)) ?_
  refine Rg.take (ops := (Rg.opsOf Try.f15 6)) 2 (some 19) ((.pointer (some ⟨ph, 0, none⟩))) hNS (by kernel_rfl) (by kernel_rfl) (by kernel_rfl) (by kernel_rfl) (by kernel_rfl) hHeld (Rg.y_field (T := 33) (k := 0) (x := (Operand.tmp 6)) (vx := (.pointer (some ⟨ph, 0, none⟩))) (by kernel_rfl) (by kernel_rfl) ?_) ?_
  · (intro W hSw; clear hSw hHeld; go_simp)
  refine Rg.take (ops := (Rg.opsOf Try.f15 6)) 3 (some 20) ((.int .i64 at_)) hNS (by kernel_rfl) (by kernel_rfl) (by kernel_rfl) (by kernel_rfl) (by kernel_rfl) hHeld (Rg.y_load (T := 3) (x := (Operand.tmp 19)) (vx := (.pointer (some ⟨ph, 0, none⟩))) (by kernel_rfl) (by kernel_rfl) ?_) ?_
  · (intro W hSw; obtain ⟨s0, s1, s2⟩ := hX _ hSw; clear hSw hHeld; go_simp)
  refine Rg.take (ops := (Rg.opsOf Try.f15 6)) 4 (some 21) ((.int .i64 mo)) hNS (by kernel_rfl) (by kernel_rfl) (by kernel_rfl) (by kernel_rfl) (by kernel_rfl) hHeld (Rg.y_move (x := (Operand.tmp 4)) (Or.inl (by kernel_rfl)) (by kernel_rfl)) ?_
  refine Rg.take (ops := (Rg.opsOf Try.f15 6)) 5 (some 22) ((.int .i64 z)) hNS (by kernel_rfl) (by kernel_rfl) (by kernel_rfl) (by kernel_rfl) (by kernel_rfl) hHeld (Rg.y_bin (b := BinOp.add) (T := 3) (R' := 3) (x := (Operand.tmp 20)) (y := (Operand.tmp 21)) (vx := (.int .i64 at_)) (vy := (.int .i64 mo)) (by kernel_rfl) (by kernel_rfl) (by kernel_rfl) ?_) ?_
  · (intro W hSw; clear hSw hHeld; go_simp)
  refine Rg.take (ops := (Rg.opsOf Try.f15 6)) 6 (some 23) ((.pointer (some ⟨ph, 2, none⟩))) hNS (by kernel_rfl) (by kernel_rfl) (by kernel_rfl) (by kernel_rfl) (by kernel_rfl) hHeld (Rg.y_field (T := 33) (k := 2) (x := (Operand.tmp 6)) (vx := (.pointer (some ⟨ph, 0, none⟩))) (by kernel_rfl) (by kernel_rfl) ?_) ?_
  · (intro W hSw; clear hSw hHeld; go_simp)
  refine Rg.take (ops := (Rg.opsOf Try.f15 6)) 7 (some 24) ((.slice An nn cn)) hNS (by kernel_rfl) (by kernel_rfl) (by kernel_rfl) (by kernel_rfl) (by kernel_rfl) hHeld (Rg.y_load (T := 22) (x := (Operand.tmp 23)) (vx := (.pointer (some ⟨ph, 2, none⟩))) (by kernel_rfl) (by kernel_rfl) ?_) ?_
  · (intro W hSw; obtain ⟨s0, s1, s2⟩ := hX _ hSw; clear hSw hHeld; go_simp)
  refine Rg.take (ops := (Rg.opsOf Try.f15 6)) 9 (some 26) ((.pointer (some ⟨ph, 1, none⟩))) hNS (by kernel_rfl) (by kernel_rfl) (by kernel_rfl) (by kernel_rfl) (by kernel_rfl) hHeld (Rg.y_field (T := 33) (k := 1) (x := (Operand.tmp 6)) (vx := (.pointer (some ⟨ph, 0, none⟩))) (by kernel_rfl) (by kernel_rfl) ?_) ?_
  · (intro W hSw; clear hSw hHeld; go_simp)
  refine Rg.take (ops := (Rg.opsOf Try.f15 6)) 10 (some 27) ((.slice Ao no co)) hNS (by kernel_rfl) (by kernel_rfl) (by kernel_rfl) (by kernel_rfl) (by kernel_rfl) hHeld (Rg.y_load (T := 22) (x := (Operand.tmp 26)) (vx := (.pointer (some ⟨ph, 1, none⟩))) (by kernel_rfl) (by kernel_rfl) ?_) ?_
  · (intro W hSw; obtain ⟨s0, s1, s2⟩ := hX _ hSw; clear hSw hHeld; go_simp)
  refine Rg.call (ops := (Rg.opsOf Try.f15 6)) (fn := Try.f18) (xs := #[Operand.tmp 24]) (ats := #[22]) 8 (some 25) 18 #[(.slice An nn cn)] (by kernel_rfl) (by kernel_rfl) (by kernel_rfl) (by kernel_rfl) (by kernel_rfl) Try.func18 (by kernel_rfl) (by kernel_rfl) (by kernel_rfl) ?_
  refine (hA _ hHeld).mono ?_
  rintro e w5 ⟨k5, Bn, dn, rfl, l5, h5⟩
  refine ⟨_, rfl, k5, fun hHeld => ?_⟩
  refine Rg.call (ops := (Rg.opsOf Try.f15 6)) (fn := Try.f18) (xs := #[Operand.tmp 27]) (ats := #[22]) 11 (some 28) 18 #[(.slice Ao no co)] (by kernel_rfl) (by kernel_rfl) (by kernel_rfl) (by kernel_rfl) (by kernel_rfl) Try.func18 (by kernel_rfl) (by kernel_rfl) (by kernel_rfl) ?_
  refine (hB _ hHeld).mono ?_
  rintro e w6 ⟨k6, Bo, do_, rfl, l6, h6⟩
  have hZ5 := hZ w5 w6 Bn dn Bo do_ k5 l5 h5 k6 l6 h6
  refine ⟨_, rfl, k6, fun hHeld => ?_⟩
  refine Rg.take (ops := (Rg.opsOf Try.f15 6)) 12 (some 29) ((.agg #[.int .i64 z, .slice Bn nn dn, .slice Bo no do_])) hNS (by kernel_rfl) (by kernel_rfl) (by kernel_rfl) (by kernel_rfl) (by kernel_rfl) hHeld (Rg.y_build (T := 33) (parts := #[(0, Operand.tmp 22), (1, Operand.tmp 25), (2, Operand.tmp 28)]) (vs := #[(0, (.int .i64 z)), (1, (.slice Bn nn dn)), (2, (.slice Bo no do_))]) (by kernel_rfl) (by kernel_rfl) ?_) ?_
  · (intro W hSw; clear hSw hHeld; go_simp)
  refine Rg.take (ops := (Rg.opsOf Try.f15 6)) 13 (some 30) ((.pointer (some ⟨gB, k * 3, none⟩))) hNS (by kernel_rfl) (by kernel_rfl) (by kernel_rfl) (by kernel_rfl) (by kernel_rfl) hHeld (Rg.y_at (T := 23) (x := (Operand.tmp 17)) (y := (Operand.tmp 18)) (vx := (.slice (some ⟨gB, 0, none⟩) n n)) (vy := (.int .i64 (k : Int))) (by kernel_rfl) (by kernel_rfl) (by kernel_rfl) ?_) ?_
  · (intro W hSw; clear hSw hHeld; go_simp)
  refine Rg.store (ops := (Rg.opsOf Try.f15 6)) 14 (T := 33) (x := (Operand.tmp 30)) (y := (Operand.tmp 29)) (vx := (.pointer (some ⟨gB, k * 3, none⟩))) (vy := (.agg #[.int .i64 z, .slice Bn nn dn, .slice Bo no do_])) (w1 := ((w6.setCell ⟨gB, k * 3, none⟩ (.int .i64 z)).setCell ⟨gB, k * 3 + 1, none⟩ (.slice Bn nn dn)).setCell ⟨gB, k * 3 + 2, none⟩ (.slice Bo no do_)) (by kernel_rfl) (by kernel_rfl) (by kernel_rfl) (by kernel_rfl) (by kernel_rfl) (by kernel_rfl) (by kernel_rfl) ?_ (hZ5.1) (fun hHeld => ?_)
  · (obtain ⟨z0, z1, z2, e0, e1, e2, f0, f1, f2⟩ := hF _ k6; clear hHeld hZ h5 h6 k5 k6 l5 l6; go_simp)
  refine Rg.done (ops := (Rg.opsOf Try.f15 6)) (by kernel_rfl) ?_
  exact ⟨Bn, dn, Bo, do_, by kernel_rfl, hZ5.2⟩
end Go.Proofs.Ytoncghamkedhcaa.Kd

namespace Go.Proofs.Ytoncghamkedhcaa.Kd
open Go.RowKit Go.ChangeShapes Go.WideShapes Tx Um Ud Aq Km
set_option linter.unusedVariables false
theorem take_set3 {α : Type} {xs ys : List α} {k n : Nat} (hl : xs.length = n * 3) (hk : k < n) (h : xs.take (k * 3) = ys) (u v x : α) : (((xs.set (k * 3) u).set (k * 3 + 1) v).set (k * 3 + 2) x).take ((k + 1) * 3) = ys ++ [u, v, x] := by
  subst h
  have hle : k * 3 + 2 < xs.length := by omega
  apply List.ext_getElem?
  intro i
  rw [List.getElem?_take]
  by_cases h1 : i < k * 3
  · rw [if_pos (by omega), List.getElem?_set_ne (by omega), List.getElem?_set_ne (by omega), List.getElem?_set_ne (by omega), List.getElem?_append_left (by rw [List.length_take]; omega), List.getElem?_take, if_pos h1]
  · rw [List.getElem?_append_right (by rw [List.length_take]; omega), List.length_take, Nat.min_eq_left (by omega)]
    by_cases e0 : i = k * 3
    · subst e0
      rw [if_pos (by omega), List.getElem?_set_ne (by omega), List.getElem?_set_ne (by omega), List.getElem?_set_self (by omega), Nat.sub_self]
      rfl
    · by_cases e1 : i = k * 3 + 1
      · subst e1
        rw [if_pos (by omega), List.getElem?_set_ne (by omega), List.getElem?_set_self (by rw [List.length_set]; omega), show k * 3 + 1 - k * 3 = 1 by omega]
        rfl
      · by_cases e2 : i = k * 3 + 2
        · subst e2
          rw [if_pos (by omega), List.getElem?_set_self (by rw [List.length_set, List.length_set]; omega), show k * 3 + 2 - k * 3 = 2 by omega]
          rfl
        · rw [if_neg (by omega), List.getElem?_eq_none (by show 3 ≤ i - k * 3; omega)]
def Fill (w : World) (B gB n : Nat) (cs : List (Int × Value × Value)) : Prop := ∃ xs, w.ownsRow B 33 3 (.slice (some ⟨gB, 0, none⟩) n n) n xs ∧ xs.take (cs.length * 3) = cs.flatMap h3
theorem Fill.below {w w1 : World} {B gB n : Nat} {cs : List (Int × Value × Value)} (h : Fill w B gB n cs) (hb : Below w.heap.size w w1) : Fill w1 B gB n cs := by
  obtain ⟨xs, h1, h2⟩ := h
  refine ⟨xs, ⟨h1.1, ?_⟩, h2⟩
  rcases h1.2 with h0 | ⟨g', cap', cur, hv, hg, hh, r⟩
  · exact .inl h0
  · exact .inr ⟨g', cap', cur, hv, hg, (hb.block g' (Array.getElem?_eq_some_iff.1 hh).1).trans hh, r⟩
theorem Fill.lt {w : World} {B gB n : Nat} {cs : List (Int × Value × Value)} (h : Fill w B gB n cs) : B ≤ gB ∧ gB < w.heap.size := by
  obtain ⟨xs, h1, _⟩ := h
  exact World.ownsRow.lt h1 gB rfl
theorem Fill.free {w : World} {B gB n k : Nat} {cs : List (Int × Value × Value)} (h : Fill w B gB n cs) (hk : k < n) : Free3 gB (k * 3) w := by
  obtain ⟨xs, h1, _⟩ := h
  have hl := h1.1
  have hg : ∀ j, j < n * 3 → ∃ u, w.cell? ⟨gB, j, none⟩ = some u := fun j hj => by
    have e1 := World.ownsRow.cells (g := gB) h1 rfl j _ (List.getElem?_eq_getElem (by omega))
    rw [WideShapes.add_plain, Nat.zero_add] at e1
    exact ⟨_, e1⟩
  have hf : ∀ j, w.frozen? ⟨gB, j, none⟩ = false := fun j => by
    rcases h1.2 with ⟨h0, _⟩ | ⟨g', cap', cur, hv, hg, hh, r⟩
    · cases h0
    · injection hv with hv _ _
      injection hv with hv
      injection hv with hv
      subst hv
      simp [World.frozen?, hh]
  obtain ⟨z0, e0⟩ := hg (k * 3) (by omega)
  obtain ⟨z1, e1⟩ := hg (k * 3 + 1) (by omega)
  obtain ⟨z2, e2⟩ := hg (k * 3 + 2) (by omega)
  exact ⟨z0, z1, z2, e0, e1, e2, hf _, hf _, hf _⟩
theorem Fill.put {w : World} {B gB n : Nat} {cs : List (Int × Value × Value)} (h : Fill w B gB n cs) (hk : cs.length < n) (z : Int) (u v : Value) :
    Fill (((w.setCell ⟨gB, cs.length * 3, none⟩ (.int .i64 z)).setCell ⟨gB, cs.length * 3 + 1, none⟩ u).setCell ⟨gB, cs.length * 3 + 2, none⟩ v) B gB n (cs ++ [(z, u, v)]) := by
  obtain ⟨xs, h1, h2⟩ := h
  refine ⟨_, own_put4 (own_put4 (own_put4 h1 _ _) _ _) _ _, ?_⟩
  rw [List.length_append, List.length_singleton, List.flatMap_append]
  exact take_set3 h1.1 hk h2 _ _ _
theorem Fill.all {w : World} {B gB n : Nat} {cs : List (Int × Value × Value)} (h : Fill w B gB n cs) (hn : cs.length = n) : Hu w B (.slice (some ⟨gB, 0, none⟩) n n) cs := by
  obtain ⟨xs, h1, h2⟩ := h
  unfold Hu
  rw [hn] at h2 ⊢
  rw [← h2, List.take_of_length_le (by rw [h1.1]; exact Nat.le_refl _)]
  exact h1
theorem Own3.put {w : World} {B B2 gB n o : Nat} {cs ds : List (Int × Value × Value)} {hs : List (Hz ByteArray)} (h : Own3 w B cs hs) (hf : Fill w B2 gB n ds) (u : Value) : Own3 (w.setCell ⟨gB, o, none⟩ u) B cs hs := by
  obtain ⟨xs, h1, _⟩ := hf
  have hg : w.grownBy (w.setCell ⟨gB, o, none⟩ u) (some gB) := ⟨rfl, rfl, rfl, by simp [World.setCell], fun j _ hj => Below.heap_setCell w ⟨gB, o, none⟩ u j (fun e => hj (by rw [e]))⟩
  have hne : ∀ {v : Value} {l : List ByteArray}, Lo w B v l → ∀ g, v.ownBlock = some g → some gB ≠ some g := fun {v l} hl g e e2 => by
    injection e2 with e2
    subst e2
    rcases hl.2 with ⟨rfl, _⟩ | ⟨g1, cap, cur, rfl, _, hh, _⟩
    · cases e
    · rcases h1.2 with ⟨h0, _⟩ | ⟨g2, cap2, cur2, hv, _, hh2, _⟩
      · cases h0
      · injection hv with hv _ _
        injection hv with hv
        injection hv with hv
        subst hv
        have x1 : g1 = gB := by simpa [Value.ownBlock] using e
        subst x1
        rw [hh] at hh2
        injection hh2 with hh2
        injection hh2 with _ hh2 _
        exact absurd hh2 (by decide)
  exact ⟨fun k c x h1 h2 => ⟨lo_kept (h.each k c x h1 h2).1 hg (hne (h.each k c x h1 h2).1), lo_kept (h.each k c x h1 h2).2 hg (hne (h.each k c x h1 h2).2)⟩, h.far⟩
theorem bk_snoc (hs : List (Hz ByteArray)) : ∀ (s : Int) (k : Nat) (h : Hz ByteArray), hs[k]? = some h → (bk s hs).take (k + 1) = (bk s hs).take k ++ [⟨h.at_ + (s + ((hs.take k).map fun x => (x.new.length : Int) - x.old.length).sum), h.new, h.old⟩] := by
  induction hs with
  | nil => intro s k h hh; cases hh
  | cons x hs ih =>
    intro s k h hh
    cases k with
    | zero =>
      injection hh with hh
      subst hh
      simp [bk]
    | succ k =>
      have := ih (s + x.new.length - x.old.length) k h hh
      rw [bk, List.take_succ_cons, List.take_succ_cons, this, List.cons_append, List.take_succ_cons, List.map_cons, List.sum_cons]
      congr 3
      simp only [Hz.mk.injEq, and_self, and_true]
      omega
def mor (hs : List (Hz ByteArray)) (k : Nat) : Int := ((hs.take k).map fun x => (x.new.length : Int) - x.old.length).sum
theorem mor_next {hs : List (Hz ByteArray)} {k : Nat} {h : Hz ByteArray} (hh : hs[k]? = some h) : mor hs (k + 1) = mor hs k + ((h.new.length : Int) - h.old.length) := by
  unfold mor
  rw [List.take_add_one, hh, List.map_append, List.sum_append]
  simp
theorem mor_small {hs : List (Hz ByteArray)} (hb : ∀ h, h ∈ hs → h.old.length ≤ 1000 ∧ h.new.length ≤ 1000) : ∀ k : Nat, k ≤ 1000 → -(1000 * (k : Int)) ≤ mor hs k ∧ mor hs k ≤ 1000 * (k : Int) := by
  intro k
  induction k with
  | zero => intro _; exact ⟨by show -(1000 * 0) ≤ (0 : Int); omega, by show (0 : Int) ≤ 1000 * 0; omega⟩
  | succ k ih =>
    intro hk
    have h0 := ih (by omega)
    cases hh : hs[k]? with
    | none =>
      have e : mor hs (k + 1) = mor hs k := by unfold mor; rw [List.take_add_one, hh]; simp
      rw [e]
      omega
    | some h =>
      have := hb h (List.mem_iff_getElem?.2 ⟨k, hh⟩)
      rw [mor_next hh]
      omega
def Xk (w : World) (ph : Nat) (at_ : Int) (uo un : Value) (gB L : Nat) (W : World) : Prop := Below w.heap.size w W ∧ Hb W ph at_ uo un ∧ ∃ ds, Fill W w.heap.size gB L ds
theorem Xk.call {w W W1 : World} {ph gB L : Nat} {at_ : Int} {uo un : Value} (h : Xk w ph at_ uo un gB L W) (hb : Below W.heap.size W W1) : Xk w ph at_ uo un gB L W1 :=
  ⟨h.1.trans (hb.mono h.1.size), h.2.1.kept (hb.block ph h.2.1.lt), by obtain ⟨ds, hd⟩ := h.2.2; exact ⟨ds, hd.below hb⟩⟩
def Zk (w : World) (gB L : Nat) (cs : List (Int × Value × Value)) (z : Int) (hs : List (Hz ByteArray)) (ph : Nat) (at_ : Int) (uo un : Value) (W : World) : Prop := Hb W ph at_ uo un ∧ ∃ c, c.1 = z ∧ Below w.heap.size w W ∧ Fill W w.heap.size gB L (cs ++ [c]) ∧ Own3 W w.heap.size (cs ++ [c]) hs
set_option maxRecDepth 100000 in
set_option maxHeartbeats 4000000 in
theorem back_any (C : Option Addr) (cc : Nat) (hs : List (Hz ByteArray)) (w : World) (hC : HzR w C hs.length hs) (hl : hs.length ≤ 1000) (hb : ∀ h, h ∈ hs → h.old.length ≤ 1000 ∧ h.new.length ≤ 1000 ∧ -1000000 ≤ h.at_ ∧ h.at_ ≤ 1000000) :
    Calls Try.prog 15 #[.slice C hs.length cc] w (BackTo (bk 0 hs) w) := by
  obtain ⟨iH, hH, hH0, hH1, hH2⟩ := info_parts infoH
  have hsm := fun k hk => mor_small (hs := hs) (fun h hh => ⟨(hb h hh).1, (hb h hh).2.1⟩) k hk
  have hbl : (bk 0 hs).length = hs.length := by
    have e : ∀ (l : List (Hz ByteArray)) s, (bk s l).length = l.length := by
      intro l
      induction l with
      | nil => intro s; rfl
      | cons x l ih => intro s; rw [bk, List.length_cons, List.length_cons, ih]
    exact e hs 0
  have HC := Lib.hid hC
  have HBD := Lib.hid hb
  have HSM := Lib.hid hsm
  have HBL := Lib.hid hbl
  obtain ⟨L, hL⟩ : ∃ L, L = hs.length := ⟨_, rfl⟩
  rw [← hL] at hl HBL ⊢
  have HL := Lib.hid hL
  clear hC hb hsm hbl hL
  go_enter Try.func15, Try.ntmps15
  go_wp2_with (refine wpList_make_full _ rfl _ _ 23 rfl w.heap.size 33 iH (.agg #[.int .i64 0, .slice none 0 0, .slice none 0 0]) 3 Try.underlying23 hH hH0 hH1 .i64 .i64 (L : Int) (L : Int) L rfl rfl rfl rfl (by rw [hH2]; omega) (by unfold maxLen; omega) (Nat.le_refl _) ?_)
  intro w1 hown hg1
  have hb1 : Below w.heap.size w w1 := (Below.refl _ w).grown hg1 (Nat.le_refl _) (fun k hk => by cases hk)
  have HF1 : Hid (Fill w1 w.heap.size w.heap.size L []) := ⟨_, hown, by rfl⟩
  have HB1 := Lib.hid hb1
  obtain ⟨gB, hgB⟩ : ∃ gB, gB = w.heap.size := ⟨_, rfl⟩
  rw [← hgB] at HF1 ⊢
  have HGB := Lib.hid hgB
  clear hown hg1 hb1 hgB
  go_wp2_with fail
  go_loopw [4, 5, 6, 12] (fun mo _ _ i wr => ∃ (k : Nat) (cs : List (Int × Value × Value)), i = .int .i64 (k : Int) ∧ k ≤ L ∧ mo = .int .i64 (mor hs k) ∧ Hid (cs.map (·.1) = ((bk 0 hs).take k).map (·.at_)) ∧ Hid (Fill wr w.heap.size gB L cs) ∧ Hid (Own3 wr w.heap.size cs ((bk 0 hs).take k)) ∧ Hid (Below w.heap.size w wr)) (fun _ _ _ i _ => L - (intOf i).toNat)
  case atStart =>
    refine ⟨0, [], rfl, Nat.zero_le _, rfl, rfl, ?_, Own3.nil _ _, HB1.out⟩
    show Fill _ _ _ _ _
    rw [← HGB.out]
    exact HF1.out
  case round =>
    obtain ⟨k, cs, rfl, hk, rfl, HCK, HF, HO, HB⟩ := hrel
    clear HF1 HB1
    by_cases hlt : k < L
    · have e1 : (k : Int) < (L : Int) := by omega
      obtain ⟨h, hh⟩ : ∃ h, hs[k]? = some h := ⟨_, List.getElem?_eq_getElem (by rw [← HL.out]; exact hlt)⟩
      obtain ⟨ho4, hn4, ha4, ha5⟩ := HBD.out h (List.mem_iff_getElem?.2 ⟨k, hh⟩)
      have hm4 := HSM.out k (by omega)
      obtain ⟨bc, oc, rfl, hbc, hcc⟩ := HC.out.2.resolve_left (by rw [← HL.out]; omega)
      obtain ⟨uo, un, b0, b1, b2, ⟨A1, c1, rfl, s1, hn1⟩, ⟨A2, c2, rfl, s2, hn2⟩⟩ := hcc k h hh
      have d0 := (HB.out.cell (p := ⟨bc, _, none⟩) hbc).trans b0
      have d1 := (HB.out.cell (p := ⟨bc, _, none⟩) hbc).trans b1
      have d2 := (HB.out.cell (p := ⟨bc, _, none⟩) hbc).trans b2
      have htk := bk_snoc hs 0 k h hh
      have hmn := mor_next hh
      rw [show (0 : Int) + ((hs.take k).map fun x => (x.new.length : Int) - x.old.length).sum = mor hs k from Int.zero_add _] at htk
      have HLc : Hid (cs.length = k) := by
        have h := congrArg List.length HCK.out
        rw [List.length_map, List.length_map, List.length_take, HBL.out, Nat.min_eq_left (by omega)] at h
        exact h
      obtain ⟨n1, hn1'⟩ : ∃ n1, n1 = h.old.length := ⟨_, rfl⟩
      obtain ⟨n2, hn2'⟩ : ∃ n2, n2 = h.new.length := ⟨_, rfl⟩
      obtain ⟨AT, hAT⟩ : ∃ AT, AT = h.at_ := ⟨_, rfl⟩
      obtain ⟨mo, hmo⟩ : ∃ mo, mo = mor hs k := ⟨_, rfl⟩
      obtain ⟨mo', hmo'⟩ : ∃ mo', mo' = mor hs (k + 1) := ⟨_, rfl⟩
      rw [← hn1'] at d1 ho4 hmn
      rw [← hn2'] at d2 hn4 hmn
      rw [← hAT] at d0 ha4 ha5 htk
      rw [← hmo] at hm4 htk hmn ⊢
      rw [← hmo'] at hmn
      have HMO' := Lib.hid hmo'
      have HN1 := Lib.hid hn1'
      have HN2 := Lib.hid hn2'
      have S1 : Hid (Strs w A1 n1 h.old) := by show Strs _ _ _ _; rw [hn1']; exact s1
      have S2 : Hid (Strs w A2 n2 h.new) := by show Strs _ _ _ _; rw [hn2']; exact s2
      have Z1 := Lib.hid hn1
      have Z2 := Lib.hid hn2
      obtain ⟨z, hz⟩ : ∃ z, z = AT + mo := ⟨_, rfl⟩
      have q1 : AT + mo = z := hz.symm
      have V1 : IntKind.i64.wrap z = z := IntWalk.i64_in _ (by omega)
      have q2 : mo + ((n2 : Int) - (n1 : Int)) = mo' := hmn.symm
      have V2 : IntKind.i64.wrap ((n2 : Int) - (n1 : Int)) = (n2 : Int) - (n1 : Int) := IntWalk.i64_in _ (by omega)
      have V3 : IntKind.i64.wrap mo' = mo' := IntWalk.i64_in _ (by omega)
      rw [q1] at htk
      have HTK := Lib.hid htk
      obtain ⟨wq, hwq⟩ : ∃ wq, wq = wr.alloc (.cells #[.int .i64 AT, .slice A1 n1 c1, .slice A2 n2 c2] 33) := ⟨_, rfl⟩
      have hba : Below wr.heap.size wr wq := by rw [hwq]; exact (Below.refl _ wr).alloc (Nat.le_refl _) _
      have hhb : Hb wq wr.heap.size AT (.slice A1 n1 c1) (.slice A2 n2 c2) := by rw [hwq]; exact heap_alloc_new _ _
      have hX0 : Xk w wr.heap.size AT (.slice A1 n1 c1) (.slice A2 n2 c2) gB L wq := ⟨HB.out.trans (hba.mono HB.out.size), hhb, cs, HF.out.below hba⟩
      have hgl := HF.out.lt
      have hXF : ∀ W, Xk w wr.heap.size AT (.slice A1 n1 c1) (.slice A2 n2 c2) gB L W → Three wr.heap.size AT (.slice A1 n1 c1) (.slice A2 n2 c2) W := fun W h => h.2.1.cell
      have hFF : ∀ W, Xk w wr.heap.size AT (.slice A1 n1 c1) (.slice A2 n2 c2) gB L W → Free3 gB (k * 3) W := fun W h => by
        obtain ⟨ds, hd⟩ := h.2.2
        exact hd.free hlt
      have HCA : Hid (∀ W, Xk w wr.heap.size AT (.slice A1 n1 c1) (.slice A2 n2 c2) gB L W → Calls Try.prog 18 #[.slice A2 n2 c2] W fun e w' => Xk w wr.heap.size AT (.slice A1 n1 c1) (.slice A2 n2 c2) gB L w' ∧ ∃ Bn dn, e = .returned (.slice Bn n2 dn) ∧ Below W.heap.size W w' ∧ Lo w' W.heap.size (.slice Bn n2 dn) h.new) := fun W hX =>
        (kclone_any A2 n2 c2 _ W (S2.out.below hX.1) Z2.out (by omega)).mono fun e w' hh => by
          obtain ⟨v', rfl, h1, h2⟩ := hh
          obtain ⟨Bn, dn, rfl⟩ := h1.form
          rw [← HN2.out] at h1 ⊢
          exact ⟨hX.call h2, Bn, dn, rfl, h2, h1⟩
      have HCB : Hid (∀ W, Xk w wr.heap.size AT (.slice A1 n1 c1) (.slice A2 n2 c2) gB L W → Calls Try.prog 18 #[.slice A1 n1 c1] W fun e w' => Xk w wr.heap.size AT (.slice A1 n1 c1) (.slice A2 n2 c2) gB L w' ∧ ∃ Bo do_, e = .returned (.slice Bo n1 do_) ∧ Below W.heap.size W w' ∧ Lo w' W.heap.size (.slice Bo n1 do_) h.old) := fun W hX =>
        (kclone_any A1 n1 c1 _ W (S1.out.below hX.1) Z1.out (by omega)).mono fun e w' hh => by
          obtain ⟨v', rfl, h1, h2⟩ := hh
          obtain ⟨Bo, do_, rfl⟩ := h1.form
          rw [← HN1.out] at h1 ⊢
          exact ⟨hX.call h2, Bo, do_, rfl, h2, h1⟩
      have HZ : Hid (∀ w5 w6 Bn dn Bo do_, Xk w wr.heap.size AT (.slice A1 n1 c1) (.slice A2 n2 c2) gB L w5 → Below wq.drew.heap.size wq.drew w5 → Lo w5 wq.drew.heap.size (.slice Bn n2 dn) h.new → Xk w wr.heap.size AT (.slice A1 n1 c1) (.slice A2 n2 c2) gB L w6 → Below w5.heap.size w5 w6 → Lo w6 w5.heap.size (.slice Bo n1 do_) h.old → Xk w wr.heap.size AT (.slice A1 n1 c1) (.slice A2 n2 c2) gB L (((w6.setCell ⟨gB, k * 3, none⟩ (.int .i64 z)).setCell ⟨gB, k * 3 + 1, none⟩ (.slice Bn n2 dn)).setCell ⟨gB, k * 3 + 2, none⟩ (.slice Bo n1 do_)) ∧ Zk w gB L cs z ((bk 0 hs).take (k + 1)) wr.heap.size AT (.slice A1 n1 c1) (.slice A2 n2 c2) (((w6.setCell ⟨gB, k * 3, none⟩ (.int .i64 z)).setCell ⟨gB, k * 3 + 1, none⟩ (.slice Bn n2 dn)).setCell ⟨gB, k * 3 + 2, none⟩ (.slice Bo n1 do_))) := by
        intro w5 w6 Bn dn Bo do_ k5 l5 h5 k6 l6 h6
        have hqd : Below wq.heap.size wq wq.drew := (Below.refl _ _).drew
        have b56 : Below wq.drew.heap.size wq.drew w6 := l5.trans (l6.mono l5.size)
        have hwq2 : w.heap.size ≤ wq.drew.heap.size := Nat.le_trans hX0.1.size hqd.size
        have f6 : Fill w6 w.heap.size gB L cs := ((HF.out.below hba).below hqd).below b56
        have o6 : Own3 w6 w.heap.size (cs ++ [(z, .slice Bn n2 dn, .slice Bo n1 do_)]) ((bk 0 hs).take (k + 1)) := by
          rw [HTK.out]
          refine Own3.snoc ((HO.out.below hba).below hqd) (by rw [HLc.out, List.length_take, HBL.out]; omega) b56 (h5.below l6) (own_base h6 l5.size) hwq2 (fun q e1 e2 => ?_)
          have x1 := (World.ownsRow.lt h5 q e1).2
          have x2 := (World.ownsRow.lt h6 q e2).1
          omega
        have f7 := f6.put (by rw [HLc.out]; exact hlt) z (.slice Bn n2 dn) (.slice Bo n1 do_)
        rw [HLc.out] at f7
        have g1 : w.heap.size ≤ gB := hgl.1
        have b7 : Below w.heap.size w (((w6.setCell ⟨gB, k * 3, none⟩ (.int .i64 z)).setCell ⟨gB, k * 3 + 1, none⟩ (.slice Bn n2 dn)).setCell ⟨gB, k * 3 + 2, none⟩ (.slice Bo n1 do_)) := ((k6.1.setCell (p := ⟨gB, _, none⟩) g1 _).setCell (p := ⟨gB, _, none⟩) g1 _).setCell (p := ⟨gB, _, none⟩) g1 _
        have hne : wr.heap.size ≠ gB := by have := hgl.2; omega
        have hb7 : Hb (((w6.setCell ⟨gB, k * 3, none⟩ (.int .i64 z)).setCell ⟨gB, k * 3 + 1, none⟩ (.slice Bn n2 dn)).setCell ⟨gB, k * 3 + 2, none⟩ (.slice Bo n1 do_)) wr.heap.size AT (.slice A1 n1 c1) (.slice A2 n2 c2) :=
          ((k6.2.1.kept (Below.heap_setCell _ ⟨gB, _, none⟩ _ _ hne)).kept (Below.heap_setCell _ ⟨gB, _, none⟩ _ _ hne)).kept (Below.heap_setCell _ ⟨gB, _, none⟩ _ _ hne)
        have o7 : Own3 (((w6.setCell ⟨gB, k * 3, none⟩ (.int .i64 z)).setCell ⟨gB, k * 3 + 1, none⟩ (.slice Bn n2 dn)).setCell ⟨gB, k * 3 + 2, none⟩ (.slice Bo n1 do_)) w.heap.size (cs ++ [(z, .slice Bn n2 dn, .slice Bo n1 do_)]) ((bk 0 hs).take (k + 1)) := by
          obtain ⟨xs, x1, _⟩ := f6
          have y : ∀ ys W, W.ownsRow w.heap.size 33 3 (.slice (some ⟨gB, 0, none⟩) L L) L ys → Fill W w.heap.size gB L [] := fun ys W hW => ⟨ys, hW, by rfl⟩
          exact ((o6.put (y _ _ x1) _).put (y _ _ (own_put4 x1 _ _)) _).put (y _ _ (own_put4 (own_put4 x1 _ _) _ _)) _
        exact ⟨⟨b7, hb7, _, f7⟩, hb7, _, rfl, b7, f7, o7⟩
      have hX1 : Xk w wr.heap.size AT (.slice A1 n1 c1) (.slice A2 n2 c2) gB L wq.drew := hX0.call ((Below.refl _ _).drew)
      have HXF := Lib.hid hXF
      have HFF := Lib.hid hFF
      have HX1 := Lib.hid hX1
      have HHB := Lib.hid hhb
      clear hcc b0 b1 b2 s1 s2 hn1 hn2 hn1' hn2' hh hAT hmo hmo' hmn htk hz hba hX0 hXF hFF hX1 hhb ho4 hn4 ha4 ha5 hm4
      go_wp2_with fail
      rw [← hwq]
      clear hwq
      refine Rg.wp_only ?_ (backReg _ (by kernel_rfl) _ gB wr.heap.size L k n1 c1 n2 c2 AT mo z A1 A2 _ (Xk w wr.heap.size AT (.slice A1 n1 c1) (.slice A2 n2 c2) gB L) (fun W w' v => Lo w' W.heap.size v h.new) (fun W w' v => Lo w' W.heap.size v h.old) (Zk w gB L cs z ((bk 0 hs).take (k + 1)) wr.heap.size AT (.slice A1 n1 c1) (.slice A2 n2 c2)) e1 HXF.out HFF.out HX1.out q1 V1 HCA.out HCB.out HZ.out)
      rintro _ w9 ⟨Bn, dn, Bo, do_, rfl, hh9, c9, hc9, hb9, hf9, ho9⟩
      obtain ⟨g0, g1, g2⟩ := hh9.cell
      have HF9 := Lib.hid hf9
      have HO9 := Lib.hid ho9
      have HB9 := Lib.hid hb9
      have HC9 : Hid ((cs ++ [c9]).map (·.1) = ((bk 0 hs).take (k + 1)).map (·.at_)) := by
        show _ = _
        rw [HTK.out, List.map_append, List.map_append, HCK.out, List.map_cons, List.map_cons, hc9]
        rfl
      clear hf9 ho9 hb9 hh9 HXF HFF HX1 HCA HCB HZ HF HO HCK HHB q1 V1 d0 d1 d2 HB hgl
      go_wp2_with fail
      go_roundw
      case rel =>
        refine ⟨k + 1, _, by go_num, by omega, ?_, HC9, HF9, HO9, HB9⟩
        rw [← HMO'.out]
      case measure => simp only [intOf]; omega
    · have hkL : k = L := by omega
      have e1 : ¬ (k : Int) < (L : Int) := by omega
      have hE : Hid (BackTo (bk 0 hs) w (.returned (.slice (some ⟨gB, 0, none⟩) L L)) wr) := by
        have hc := HCK.out
        have hi := HO.out
        rw [List.take_of_length_le (by rw [HBL.out]; omega)] at hc hi
        have hl : cs.length = L := by
          have h := congrArg List.length hc
          rw [List.length_map, List.length_map, HBL.out] at h
          exact h
        exact ⟨_, cs, rfl, HF.out.all hl, hi.reads hc, HB.out⟩
      clear hkL HF HO HCK
      go_wp2_with fail
      go_ret
      exact hE.out
end Go.Proofs.Ytoncghamkedhcaa.Kd

namespace Go.Proofs.Ytoncghamkedhcaa.Kd
open Go.RowKit Tx Um Ud Aq Km
set_option linter.unusedVariables false
theorem impl : Impl where
  between := fun A B ca cb ar a b w hA hB har => between_any A B ca cb ar a b w hA hB har
  apply := fun A C ca cc a hs w hA hC hT hO hhl => apply_any A C ca cc a hs w hA.1 hA.2.1 hA.2.2 hC hT (fun h hh => (hO h hh).1) hhl
  back := fun C cc hs w hC hl hb => back_any C cc hs w hC hl hb
end Go.Proofs.Ytoncghamkedhcaa.Kd
