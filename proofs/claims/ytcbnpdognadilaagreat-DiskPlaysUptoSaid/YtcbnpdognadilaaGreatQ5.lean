/- Texts of this seat, one behind the other. -/
import Derived.Test.YtcbnpdognadilaaGreatQ4
import Derived.StillTailTactics
import Derived.Shelf.Sort.Plain
import Derived.Test.YtcbnpdognadilaaGreatProg
import Derived.Lib.OwnBridge
import Derived.Shelf.Slices.In.SortNone
import Derived.Sort.OwnSorted
import Derived.Deep.QuietTactic
import Derived.BigQuiet
/- Package disk's step: a call that isn't refused is a step, or the stop. -/
namespace Go.Proofs.YtcbnpdognadilaaGreat.Dk
open Go.RowKit Tx Pm Pl Pr
set_option linter.unusedVariables false

def stepR (s : St) (r : Nat) (s' : St) : Nat × St := if r ≠ 0 then (r, s) else if (done s).1 ≠ 0 then done s else (0, s')
set_option maxRecDepth 100000 in
theorem iStep_any (b bi bl : Nat) (l : Int) (s : St) (r : Nat) (f : FuncId) (cap : Array Value) (s' : St) (w : World) (h : Ia b bi bl l w s) (hd : r = 0 → s.down = false) (hst : s.steps ≤ 1000000000000)
    (hen : ∀ W, (callFunc f cap).run Tryz.prog W = .ok (.enter f cap) W)
    (cf : ∀ l1 W, r = 0 → (done s).1 = 0 → Ia b bi bl l1 W (done s).2 → Chg (· = b) w W → Calls Tryz.prog f cap W fun e w' => e = .returned (.tuple #[]) ∧ Ip b bi bl W s' w') :
    Calls Tryz.prog 44 #[.pointer (some ⟨b, 0, none⟩), .int .i64 r, .func (.func f) #[] cap] w fun e w' => e = .returned (.int .i64 ((stepR s r s').1 : Nat)) ∧ Ip b bi bl w (stepR s r s').2 w' := by
  obtain ⟨c0, c1, c2, c3, c4, c5⟩ := h.cell
  have hwm := h.warm
  have hlow := h.low
  unfold stepR
  by_cases hr : r = 0
  · subst hr
    rw [if_neg (by decide)]
    have hdn := hd rfl
    have hla : l = s.armed := h.left.resolve_left (by rw [hdn]; decide)
    by_cases h0 : l = 0
    · have hD : done s = (14, { s with down := true, armed := -1 }) := by unfold done; rw [if_pos (by omega)]
      rw [hD, if_pos (fun e => by cases e)]
      subst h0
      have a1 : Ia b bi bl 0 (w.setCell ⟨b, 5, none⟩ (.bool true)) { s with down := true, armed := -1 } := h.poke (chg_set _) (own_cells h 5 _ rfl) rfl rfl (.inl rfl) h.low
      have HE := Lib.hid (show Ip b bi bl w { s with down := true, armed := -1 } (w.setCell ⟨b, 5, none⟩ (.bool true)) from ⟨0, a1, (chg_set _).mono ft_b⟩)
      clear a1 h hd hD hla cf
      go_enter Tryz.func44, Tryz.ntmps44
      go_wp2
      go_ret
      exact ⟨rfl, HE.out⟩
    · have hD : done s = (0, { s with armed := if s.armed > 0 then s.armed - 1 else s.armed, steps := s.steps + 1 }) := by unfold done; rw [if_neg (by omega)]
      rw [hD] at cf
      rw [hD, if_neg (fun e => e rfl)]
      have e0 : (l == 0) = false := beq_eq_false_iff_ne.2 h0
      by_cases hl1 : l = -1
      · have hl2 : (-1 : Int) = s.armed := hl1 ▸ hla
        subst hl1
        have hx1 : max ((-1 : Int) - 1) (-1) = -1 := by omega
        have hx2 : max (-2 : Int) (-1) = -1 := by omega
        have hb1 : (w.setCell ⟨b, 2, none⟩ (.int .i64 (-1))).heap[b]? = some (.cells #[.map (some bi), .map (some bl), .int .i64 (-1), .int .i64 s.steps, .int .i64 s.stamps, .bool s.down] 47 (0, 0)) := own_cells h 2 _ rfl
        have hb2 : ((w.setCell ⟨b, 2, none⟩ (.int .i64 (-1))).setCell ⟨b, 3, none⟩ (.int .i64 ((s.steps : Int) + 1))).heap[b]? = some (.cells #[.map (some bi), .map (some bl), .int .i64 (-1), .int .i64 ((s.steps : Int) + 1), .int .i64 s.stamps, .bool s.down] 47 (0, 0)) := set_block hb1 _
        have hc2 : Chg (· = b) w ((w.setCell ⟨b, 2, none⟩ (.int .i64 (-1))).setCell ⟨b, 3, none⟩ (.int .i64 ((s.steps : Int) + 1))) := (chg_set _).then (chg_set _)
        have a2 : Ia b bi bl (-1) _ { s with armed := if s.armed > 0 then s.armed - 1 else s.armed, steps := s.steps + 1 } := h.poke hc2 hb2 rfl rfl (.inr (by show _ = (if s.armed > 0 then s.armed - 1 else s.armed); split <;> omega)) (by omega)
        have cf2 := cf (-1) _ rfl rfl a2 hc2
        have HC := Lib.hid hc2
        have g3 : (w.setCell ⟨b, 2, none⟩ (.int .i64 (-1))).cell? ⟨b, 3, none⟩ = some (.int .i64 s.steps) := by unfold World.cell?; rw [hb1]; rfl
        clear hl2 a2 h hd hD hla cf hc2 hb1 hb2 h0
        go_enter Tryz.func44, Tryz.ntmps44
        go_wp2_with fail
        refine cf2.mono ?_
        rintro e w5 ⟨rfl, l5, hat5, hc5⟩
        go_wp2
        go_ret
        exact ⟨rfl, l5, hat5, (HC.out.mono ft_b).then hc5⟩
      · have hl2 : 1 ≤ l := by omega
        have hx1 : max (l - 1) (-1) = l - 1 := by omega
        have hb1 : (w.setCell ⟨b, 2, none⟩ (.int .i64 (l - 1))).heap[b]? = some (.cells #[.map (some bi), .map (some bl), .int .i64 (l - 1), .int .i64 s.steps, .int .i64 s.stamps, .bool s.down] 47 (0, 0)) := own_cells h 2 _ rfl
        have hb2 : ((w.setCell ⟨b, 2, none⟩ (.int .i64 (l - 1))).setCell ⟨b, 3, none⟩ (.int .i64 ((s.steps : Int) + 1))).heap[b]? = some (.cells #[.map (some bi), .map (some bl), .int .i64 (l - 1), .int .i64 ((s.steps : Int) + 1), .int .i64 s.stamps, .bool s.down] 47 (0, 0)) := set_block hb1 _
        have hc2 : Chg (· = b) w ((w.setCell ⟨b, 2, none⟩ (.int .i64 (l - 1))).setCell ⟨b, 3, none⟩ (.int .i64 ((s.steps : Int) + 1))) := (chg_set _).then (chg_set _)
        have a2 : Ia b bi bl (l - 1) _ { s with armed := if s.armed > 0 then s.armed - 1 else s.armed, steps := s.steps + 1 } := h.poke hc2 hb2 rfl rfl (.inr (by show _ = (if s.armed > 0 then s.armed - 1 else s.armed); split <;> omega)) (by omega)
        have cf2 := cf (l - 1) _ rfl rfl a2 hc2
        have HC := Lib.hid hc2
        have g3 : (w.setCell ⟨b, 2, none⟩ (.int .i64 (l - 1))).cell? ⟨b, 3, none⟩ = some (.int .i64 s.steps) := by unfold World.cell?; rw [hb1]; rfl
        clear hl1 a2 h hd hD hla cf hc2 hb1 hb2 h0
        go_enter Tryz.func44, Tryz.ntmps44
        go_wp2_with fail
        refine cf2.mono ?_
        rintro e w5 ⟨rfl, l5, hat5, hc5⟩
        go_wp2
        go_ret
        exact ⟨rfl, l5, hat5, (HC.out.mono ft_b).then hc5⟩
  · rw [if_pos hr]
    have e0 : ((r : Int) == 0) = false := beq_eq_false_iff_ne.2 (by omega)
    have HE := Lib.hid (show Ip b bi bl w s w from ⟨l, h, Chg.refl _ _⟩)
    clear h hd cf hr
    go_enter Tryz.func44, Tryz.ntmps44
    go_wp2
    go_ret
    exact ⟨rfl, HE.out⟩
end Go.Proofs.YtcbnpdognadilaaGreat.Dk

/- The regions of package disk's six calls, step by step. -/
namespace Go.Proofs.YtcbnpdognadilaaGreat.Dk
open Go.RowKit Tx Pm Pl Pr
set_option linter.unusedVariables false

set_option maxRecDepth 100000 in
set_option maxHeartbeats 2000000 in
theorem regMkdir (ops : Array Oper) (hops : ops = (Rg.opsOf Tryz.f14 1)) (id : Nat) (bd bp : Nat) (dv : Value) (p : ByteArray) (r X : Nat) {u0 u1 u4 u5 u6 u7 u8 u9 u10 : Value} (w : World) (A B : World → Prop)
    (hS : (fun W => Cap W bd dv ∧ Cap W bp (.string p)) w.drew) (hm : Calls Tryz.prog 45 #[dv, .string p] w.drew fun e w' => e = .returned (.int .i64 (r : Nat)) ∧ A w') (hAS : ∀ W, A W → (fun W => Cap W bd dv ∧ Cap W bp (.string p)) W)
    (hst : ∀ W, A W → Calls Tryz.prog 44 #[dv, .int .i64 (r : Nat), .func (.func 46) #[] #[.pointer (some ⟨bd, 0, none⟩), .pointer (some ⟨bp, 0, none⟩)]] W fun e w' => e = .returned (.int .i64 (X : Nat)) ∧ B w') (hBS : ∀ W, B W → (fun W => Cap W bd dv ∧ Cap W bp (.string p)) W) :
    (Code.region id ops true).wp Tryz.prog (Rg.Only fun a' w' => a' = ⟨#[u0, u1, (.pointer (some ⟨bd, 0, none⟩)), (.pointer (some ⟨bp, 0, none⟩)), (.int .i64 (X : Nat)), dv, dv, (.string p), (.int .i64 (r : Nat)), .func (Fn.func 46) #[] #[(.pointer (some ⟨bd, 0, none⟩)), (.pointer (some ⟨bp, 0, none⟩))], (.int .i64 (X : Nat))], []⟩ ∧ B w') ⟨#[u0, u1, (.pointer (some ⟨bd, 0, none⟩)), (.pointer (some ⟨bp, 0, none⟩)), u4, u5, u6, u7, u8, u9, u10], []⟩ w := by
  subst hops
  have hNS : Region.noSelect (Rg.opsOf Tryz.f14 1) = true := by kernel_rfl
  refine wp_region_held_drew (S := (fun W => Cap W bd dv ∧ Cap W bp (.string p))) (by kernel_rfl) hS (fun hHeld => ?_)
  rw [show (Rg.opsOf Tryz.f14 1).size = 7 by kernel_rfl]
  refine Rg.take (ops := (Rg.opsOf Tryz.f14 1)) 0 (some 5) (dv) hNS (by kernel_rfl) (by kernel_rfl) (by kernel_rfl) (by kernel_rfl) (by kernel_rfl) hHeld (Rg.y_load (T := 23) (x := (Operand.tmp 2)) (vx := (.pointer (some ⟨bd, 0, none⟩))) (by kernel_rfl) (by kernel_rfl) ?_) ?_
  · (intro w hSw; obtain ⟨s0, s1⟩ := hSw; unfold Cap at *; go_simp)
  refine Rg.take (ops := (Rg.opsOf Tryz.f14 1)) 1 (some 6) (dv) hNS (by kernel_rfl) (by kernel_rfl) (by kernel_rfl) (by kernel_rfl) (by kernel_rfl) hHeld (Rg.y_load (T := 23) (x := (Operand.tmp 2)) (vx := (.pointer (some ⟨bd, 0, none⟩))) (by kernel_rfl) (by kernel_rfl) ?_) ?_
  · (intro w hSw; obtain ⟨s0, s1⟩ := hSw; unfold Cap at *; go_simp)
  refine Rg.take (ops := (Rg.opsOf Tryz.f14 1)) 2 (some 7) ((.string p)) hNS (by kernel_rfl) (by kernel_rfl) (by kernel_rfl) (by kernel_rfl) (by kernel_rfl) hHeld (Rg.y_load (T := 9) (x := (Operand.tmp 3)) (vx := (.pointer (some ⟨bp, 0, none⟩))) (by kernel_rfl) (by kernel_rfl) ?_) ?_
  · (intro w hSw; obtain ⟨s0, s1⟩ := hSw; unfold Cap at *; go_simp)
  refine Rg.take (ops := (Rg.opsOf Tryz.f14 1)) 4 (some 9) (.func (Fn.func 46) #[] #[(.pointer (some ⟨bd, 0, none⟩)), (.pointer (some ⟨bp, 0, none⟩))]) hNS (by kernel_rfl) (by kernel_rfl) (by kernel_rfl) (by kernel_rfl) (by kernel_rfl) hHeld (Rg.y_func (f := Fn.func 46) (xs := #[]) (ys := #[Operand.tmp 2, Operand.tmp 3]) (vs := #[]) (us := #[(.pointer (some ⟨bd, 0, none⟩)), (.pointer (some ⟨bp, 0, none⟩))]) (by kernel_rfl) (by kernel_rfl) (by kernel_rfl)) ?_
  refine Rg.call (ops := (Rg.opsOf Tryz.f14 1)) (fn := Tryz.f45) (xs := #[Operand.tmp 6, Operand.tmp 7]) (ats := #[23, 9]) 3 (some 8) 45 #[dv, (.string p)] (by kernel_rfl) (by kernel_rfl) (by kernel_rfl) (by kernel_rfl) (by kernel_rfl) Tryz.func45 (by kernel_rfl) (by kernel_rfl) (by kernel_rfl) ?_
  refine hm.mono ?_
  rintro e w5 ⟨rfl, hA5⟩
  refine ⟨_, rfl, hAS _ hA5, fun hHeld => ?_⟩
  refine Rg.call (ops := (Rg.opsOf Tryz.f14 1)) (fn := Tryz.f44) (xs := #[Operand.tmp 5, Operand.tmp 8, Operand.tmp 9]) (ats := #[23, 39, 1]) 5 (some 10) 44 #[dv, (.int .i64 (r : Nat)), .func (Fn.func 46) #[] #[(.pointer (some ⟨bd, 0, none⟩)), (.pointer (some ⟨bp, 0, none⟩))]] (by kernel_rfl) (by kernel_rfl) (by kernel_rfl) (by kernel_rfl) (by kernel_rfl) Tryz.func44 (by kernel_rfl) (by kernel_rfl) (by kernel_rfl) ?_
  refine (hst _ hA5).mono ?_
  rintro e w6 ⟨rfl, hB6⟩
  refine ⟨_, rfl, hBS _ hB6, fun hHeld => ?_⟩
  refine Rg.take (ops := (Rg.opsOf Tryz.f14 1)) 6 (some 4) ((.int .i64 (X : Nat))) hNS (by kernel_rfl) (by kernel_rfl) (by kernel_rfl) (by kernel_rfl) (by kernel_rfl) hHeld (Rg.y_move (x := (Operand.tmp 10)) (Or.inr (by kernel_rfl)) (by kernel_rfl)) ?_
  refine Rg.done (ops := (Rg.opsOf Tryz.f14 1)) (by kernel_rfl) ?_
  exact ⟨by kernel_rfl, hB6⟩

set_option maxRecDepth 100000 in
set_option maxHeartbeats 2000000 in
theorem regWrite (ops : Array Oper) (hops : ops = (Rg.opsOf Tryz.f15 1)) (id : Nat) (bd bp bq : Nat) (dv : Value) (p q : ByteArray) (r X : Nat) {u0 u1 u2 u6 u7 u8 u9 u10 u11 u12 u13 : Value} (w : World) (A B : World → Prop)
    (hS : (fun W => Cap W bd dv ∧ Cap W bp (.string p) ∧ Cap W bq (.string q)) w.drew) (hm : Calls Tryz.prog 47 #[dv, .string p, .string q] w.drew fun e w' => e = .returned (.int .i64 (r : Nat)) ∧ A w') (hAS : ∀ W, A W → (fun W => Cap W bd dv ∧ Cap W bp (.string p) ∧ Cap W bq (.string q)) W)
    (hst : ∀ W, A W → Calls Tryz.prog 44 #[dv, .int .i64 (r : Nat), .func (.func 48) #[] #[.pointer (some ⟨bd, 0, none⟩), .pointer (some ⟨bp, 0, none⟩), .pointer (some ⟨bq, 0, none⟩)]] W fun e w' => e = .returned (.int .i64 (X : Nat)) ∧ B w') (hBS : ∀ W, B W → (fun W => Cap W bd dv ∧ Cap W bp (.string p) ∧ Cap W bq (.string q)) W) :
    (Code.region id ops true).wp Tryz.prog (Rg.Only fun a' w' => a' = ⟨#[u0, u1, u2, (.pointer (some ⟨bd, 0, none⟩)), (.pointer (some ⟨bp, 0, none⟩)), (.pointer (some ⟨bq, 0, none⟩)), (.int .i64 (X : Nat)), dv, dv, (.string p), (.string q), (.int .i64 (r : Nat)), .func (Fn.func 48) #[] #[(.pointer (some ⟨bd, 0, none⟩)), (.pointer (some ⟨bp, 0, none⟩)), (.pointer (some ⟨bq, 0, none⟩))], (.int .i64 (X : Nat))], []⟩ ∧ B w') ⟨#[u0, u1, u2, (.pointer (some ⟨bd, 0, none⟩)), (.pointer (some ⟨bp, 0, none⟩)), (.pointer (some ⟨bq, 0, none⟩)), u6, u7, u8, u9, u10, u11, u12, u13], []⟩ w := by
  subst hops
  have hNS : Region.noSelect (Rg.opsOf Tryz.f15 1) = true := by kernel_rfl
  refine wp_region_held_drew (S := (fun W => Cap W bd dv ∧ Cap W bp (.string p) ∧ Cap W bq (.string q))) (by kernel_rfl) hS (fun hHeld => ?_)
  rw [show (Rg.opsOf Tryz.f15 1).size = 8 by kernel_rfl]
  refine Rg.take (ops := (Rg.opsOf Tryz.f15 1)) 0 (some 7) (dv) hNS (by kernel_rfl) (by kernel_rfl) (by kernel_rfl) (by kernel_rfl) (by kernel_rfl) hHeld (Rg.y_load (T := 23) (x := (Operand.tmp 3)) (vx := (.pointer (some ⟨bd, 0, none⟩))) (by kernel_rfl) (by kernel_rfl) ?_) ?_
  · (intro w hSw; obtain ⟨s0, s1, s2⟩ := hSw; unfold Cap at *; go_simp)
  refine Rg.take (ops := (Rg.opsOf Tryz.f15 1)) 1 (some 8) (dv) hNS (by kernel_rfl) (by kernel_rfl) (by kernel_rfl) (by kernel_rfl) (by kernel_rfl) hHeld (Rg.y_load (T := 23) (x := (Operand.tmp 3)) (vx := (.pointer (some ⟨bd, 0, none⟩))) (by kernel_rfl) (by kernel_rfl) ?_) ?_
  · (intro w hSw; obtain ⟨s0, s1, s2⟩ := hSw; unfold Cap at *; go_simp)
  refine Rg.take (ops := (Rg.opsOf Tryz.f15 1)) 2 (some 9) ((.string p)) hNS (by kernel_rfl) (by kernel_rfl) (by kernel_rfl) (by kernel_rfl) (by kernel_rfl) hHeld (Rg.y_load (T := 9) (x := (Operand.tmp 4)) (vx := (.pointer (some ⟨bp, 0, none⟩))) (by kernel_rfl) (by kernel_rfl) ?_) ?_
  · (intro w hSw; obtain ⟨s0, s1, s2⟩ := hSw; unfold Cap at *; go_simp)
  refine Rg.take (ops := (Rg.opsOf Tryz.f15 1)) 3 (some 10) ((.string q)) hNS (by kernel_rfl) (by kernel_rfl) (by kernel_rfl) (by kernel_rfl) (by kernel_rfl) hHeld (Rg.y_load (T := 9) (x := (Operand.tmp 5)) (vx := (.pointer (some ⟨bq, 0, none⟩))) (by kernel_rfl) (by kernel_rfl) ?_) ?_
  · (intro w hSw; obtain ⟨s0, s1, s2⟩ := hSw; unfold Cap at *; go_simp)
  refine Rg.take (ops := (Rg.opsOf Tryz.f15 1)) 5 (some 12) (.func (Fn.func 48) #[] #[(.pointer (some ⟨bd, 0, none⟩)), (.pointer (some ⟨bp, 0, none⟩)), (.pointer (some ⟨bq, 0, none⟩))]) hNS (by kernel_rfl) (by kernel_rfl) (by kernel_rfl) (by kernel_rfl) (by kernel_rfl) hHeld (Rg.y_func (f := Fn.func 48) (xs := #[]) (ys := #[Operand.tmp 3, Operand.tmp 4, Operand.tmp 5]) (vs := #[]) (us := #[(.pointer (some ⟨bd, 0, none⟩)), (.pointer (some ⟨bp, 0, none⟩)), (.pointer (some ⟨bq, 0, none⟩))]) (by kernel_rfl) (by kernel_rfl) (by kernel_rfl)) ?_
  refine Rg.call (ops := (Rg.opsOf Tryz.f15 1)) (fn := Tryz.f47) (xs := #[Operand.tmp 8, Operand.tmp 9, Operand.tmp 10]) (ats := #[23, 9, 9]) 4 (some 11) 47 #[dv, (.string p), (.string q)] (by kernel_rfl) (by kernel_rfl) (by kernel_rfl) (by kernel_rfl) (by kernel_rfl) Tryz.func47 (by kernel_rfl) (by kernel_rfl) (by kernel_rfl) ?_
  refine hm.mono ?_
  rintro e w5 ⟨rfl, hA5⟩
  refine ⟨_, rfl, hAS _ hA5, fun hHeld => ?_⟩
  refine Rg.call (ops := (Rg.opsOf Tryz.f15 1)) (fn := Tryz.f44) (xs := #[Operand.tmp 7, Operand.tmp 11, Operand.tmp 12]) (ats := #[23, 39, 1]) 6 (some 13) 44 #[dv, (.int .i64 (r : Nat)), .func (Fn.func 48) #[] #[(.pointer (some ⟨bd, 0, none⟩)), (.pointer (some ⟨bp, 0, none⟩)), (.pointer (some ⟨bq, 0, none⟩))]] (by kernel_rfl) (by kernel_rfl) (by kernel_rfl) (by kernel_rfl) (by kernel_rfl) Tryz.func44 (by kernel_rfl) (by kernel_rfl) (by kernel_rfl) ?_
  refine (hst _ hA5).mono ?_
  rintro e w6 ⟨rfl, hB6⟩
  refine ⟨_, rfl, hBS _ hB6, fun hHeld => ?_⟩
  refine Rg.take (ops := (Rg.opsOf Tryz.f15 1)) 7 (some 6) ((.int .i64 (X : Nat))) hNS (by kernel_rfl) (by kernel_rfl) (by kernel_rfl) (by kernel_rfl) (by kernel_rfl) hHeld (Rg.y_move (x := (Operand.tmp 13)) (Or.inr (by kernel_rfl)) (by kernel_rfl)) ?_
  refine Rg.done (ops := (Rg.opsOf Tryz.f15 1)) (by kernel_rfl) ?_
  exact ⟨by kernel_rfl, hB6⟩

set_option maxRecDepth 100000 in
set_option maxHeartbeats 2000000 in
theorem regAppend (ops : Array Oper) (hops : ops = (Rg.opsOf Tryz.f21 1)) (id : Nat) (bd bp bq : Nat) (dv : Value) (p q : ByteArray) (r X : Nat) {u0 u1 u2 u6 u7 u8 u9 u10 u11 u12 u13 : Value} (w : World) (A B : World → Prop)
    (hS : (fun W => Cap W bd dv ∧ Cap W bp (.string p) ∧ Cap W bq (.string q)) w.drew) (hm : Calls Tryz.prog 60 #[dv, .string p, .string q] w.drew fun e w' => e = .returned (.int .i64 (r : Nat)) ∧ A w') (hAS : ∀ W, A W → (fun W => Cap W bd dv ∧ Cap W bp (.string p) ∧ Cap W bq (.string q)) W)
    (hst : ∀ W, A W → Calls Tryz.prog 44 #[dv, .int .i64 (r : Nat), .func (.func 61) #[] #[.pointer (some ⟨bd, 0, none⟩), .pointer (some ⟨bp, 0, none⟩), .pointer (some ⟨bq, 0, none⟩)]] W fun e w' => e = .returned (.int .i64 (X : Nat)) ∧ B w') (hBS : ∀ W, B W → (fun W => Cap W bd dv ∧ Cap W bp (.string p) ∧ Cap W bq (.string q)) W) :
    (Code.region id ops true).wp Tryz.prog (Rg.Only fun a' w' => a' = ⟨#[u0, u1, u2, (.pointer (some ⟨bd, 0, none⟩)), (.pointer (some ⟨bp, 0, none⟩)), (.pointer (some ⟨bq, 0, none⟩)), (.int .i64 (X : Nat)), dv, dv, (.string p), (.string q), (.int .i64 (r : Nat)), .func (Fn.func 61) #[] #[(.pointer (some ⟨bd, 0, none⟩)), (.pointer (some ⟨bp, 0, none⟩)), (.pointer (some ⟨bq, 0, none⟩))], (.int .i64 (X : Nat))], []⟩ ∧ B w') ⟨#[u0, u1, u2, (.pointer (some ⟨bd, 0, none⟩)), (.pointer (some ⟨bp, 0, none⟩)), (.pointer (some ⟨bq, 0, none⟩)), u6, u7, u8, u9, u10, u11, u12, u13], []⟩ w := by
  subst hops
  have hNS : Region.noSelect (Rg.opsOf Tryz.f21 1) = true := by kernel_rfl
  refine wp_region_held_drew (S := (fun W => Cap W bd dv ∧ Cap W bp (.string p) ∧ Cap W bq (.string q))) (by kernel_rfl) hS (fun hHeld => ?_)
  rw [show (Rg.opsOf Tryz.f21 1).size = 8 by kernel_rfl]
  refine Rg.take (ops := (Rg.opsOf Tryz.f21 1)) 0 (some 7) (dv) hNS (by kernel_rfl) (by kernel_rfl) (by kernel_rfl) (by kernel_rfl) (by kernel_rfl) hHeld (Rg.y_load (T := 23) (x := (Operand.tmp 3)) (vx := (.pointer (some ⟨bd, 0, none⟩))) (by kernel_rfl) (by kernel_rfl) ?_) ?_
  · (intro w hSw; obtain ⟨s0, s1, s2⟩ := hSw; unfold Cap at *; go_simp)
  refine Rg.take (ops := (Rg.opsOf Tryz.f21 1)) 1 (some 8) (dv) hNS (by kernel_rfl) (by kernel_rfl) (by kernel_rfl) (by kernel_rfl) (by kernel_rfl) hHeld (Rg.y_load (T := 23) (x := (Operand.tmp 3)) (vx := (.pointer (some ⟨bd, 0, none⟩))) (by kernel_rfl) (by kernel_rfl) ?_) ?_
  · (intro w hSw; obtain ⟨s0, s1, s2⟩ := hSw; unfold Cap at *; go_simp)
  refine Rg.take (ops := (Rg.opsOf Tryz.f21 1)) 2 (some 9) ((.string p)) hNS (by kernel_rfl) (by kernel_rfl) (by kernel_rfl) (by kernel_rfl) (by kernel_rfl) hHeld (Rg.y_load (T := 9) (x := (Operand.tmp 4)) (vx := (.pointer (some ⟨bp, 0, none⟩))) (by kernel_rfl) (by kernel_rfl) ?_) ?_
  · (intro w hSw; obtain ⟨s0, s1, s2⟩ := hSw; unfold Cap at *; go_simp)
  refine Rg.take (ops := (Rg.opsOf Tryz.f21 1)) 3 (some 10) ((.string q)) hNS (by kernel_rfl) (by kernel_rfl) (by kernel_rfl) (by kernel_rfl) (by kernel_rfl) hHeld (Rg.y_load (T := 9) (x := (Operand.tmp 5)) (vx := (.pointer (some ⟨bq, 0, none⟩))) (by kernel_rfl) (by kernel_rfl) ?_) ?_
  · (intro w hSw; obtain ⟨s0, s1, s2⟩ := hSw; unfold Cap at *; go_simp)
  refine Rg.take (ops := (Rg.opsOf Tryz.f21 1)) 5 (some 12) (.func (Fn.func 61) #[] #[(.pointer (some ⟨bd, 0, none⟩)), (.pointer (some ⟨bp, 0, none⟩)), (.pointer (some ⟨bq, 0, none⟩))]) hNS (by kernel_rfl) (by kernel_rfl) (by kernel_rfl) (by kernel_rfl) (by kernel_rfl) hHeld (Rg.y_func (f := Fn.func 61) (xs := #[]) (ys := #[Operand.tmp 3, Operand.tmp 4, Operand.tmp 5]) (vs := #[]) (us := #[(.pointer (some ⟨bd, 0, none⟩)), (.pointer (some ⟨bp, 0, none⟩)), (.pointer (some ⟨bq, 0, none⟩))]) (by kernel_rfl) (by kernel_rfl) (by kernel_rfl)) ?_
  refine Rg.call (ops := (Rg.opsOf Tryz.f21 1)) (fn := Tryz.f60) (xs := #[Operand.tmp 8, Operand.tmp 9, Operand.tmp 10]) (ats := #[23, 9, 9]) 4 (some 11) 60 #[dv, (.string p), (.string q)] (by kernel_rfl) (by kernel_rfl) (by kernel_rfl) (by kernel_rfl) (by kernel_rfl) Tryz.func60 (by kernel_rfl) (by kernel_rfl) (by kernel_rfl) ?_
  refine hm.mono ?_
  rintro e w5 ⟨rfl, hA5⟩
  refine ⟨_, rfl, hAS _ hA5, fun hHeld => ?_⟩
  refine Rg.call (ops := (Rg.opsOf Tryz.f21 1)) (fn := Tryz.f44) (xs := #[Operand.tmp 7, Operand.tmp 11, Operand.tmp 12]) (ats := #[23, 39, 1]) 6 (some 13) 44 #[dv, (.int .i64 (r : Nat)), .func (Fn.func 61) #[] #[(.pointer (some ⟨bd, 0, none⟩)), (.pointer (some ⟨bp, 0, none⟩)), (.pointer (some ⟨bq, 0, none⟩))]] (by kernel_rfl) (by kernel_rfl) (by kernel_rfl) (by kernel_rfl) (by kernel_rfl) Tryz.func44 (by kernel_rfl) (by kernel_rfl) (by kernel_rfl) ?_
  refine (hst _ hA5).mono ?_
  rintro e w6 ⟨rfl, hB6⟩
  refine ⟨_, rfl, hBS _ hB6, fun hHeld => ?_⟩
  refine Rg.take (ops := (Rg.opsOf Tryz.f21 1)) 7 (some 6) ((.int .i64 (X : Nat))) hNS (by kernel_rfl) (by kernel_rfl) (by kernel_rfl) (by kernel_rfl) (by kernel_rfl) hHeld (Rg.y_move (x := (Operand.tmp 13)) (Or.inr (by kernel_rfl)) (by kernel_rfl)) ?_
  refine Rg.done (ops := (Rg.opsOf Tryz.f21 1)) (by kernel_rfl) ?_
  exact ⟨by kernel_rfl, hB6⟩

set_option maxRecDepth 100000 in
set_option maxHeartbeats 2000000 in
theorem regSync (ops : Array Oper) (hops : ops = (Rg.opsOf Tryz.f23 1)) (id : Nat) (bd bp : Nat) (dv : Value) (p : ByteArray) (r X : Nat) {u0 u1 u4 u5 u6 u7 u8 u9 u10 : Value} (w : World) (A B : World → Prop)
    (hS : (fun W => Cap W bd dv ∧ Cap W bp (.string p)) w.drew) (hm : Calls Tryz.prog 63 #[dv, .string p] w.drew fun e w' => e = .returned (.int .i64 (r : Nat)) ∧ A w') (hAS : ∀ W, A W → (fun W => Cap W bd dv ∧ Cap W bp (.string p)) W)
    (hst : ∀ W, A W → Calls Tryz.prog 44 #[dv, .int .i64 (r : Nat), .func (.func 64) #[] #[.pointer (some ⟨bd, 0, none⟩), .pointer (some ⟨bp, 0, none⟩)]] W fun e w' => e = .returned (.int .i64 (X : Nat)) ∧ B w') (hBS : ∀ W, B W → (fun W => Cap W bd dv ∧ Cap W bp (.string p)) W) :
    (Code.region id ops true).wp Tryz.prog (Rg.Only fun a' w' => a' = ⟨#[u0, u1, (.pointer (some ⟨bd, 0, none⟩)), (.pointer (some ⟨bp, 0, none⟩)), (.int .i64 (X : Nat)), dv, dv, (.string p), (.int .i64 (r : Nat)), .func (Fn.func 64) #[] #[(.pointer (some ⟨bd, 0, none⟩)), (.pointer (some ⟨bp, 0, none⟩))], (.int .i64 (X : Nat))], []⟩ ∧ B w') ⟨#[u0, u1, (.pointer (some ⟨bd, 0, none⟩)), (.pointer (some ⟨bp, 0, none⟩)), u4, u5, u6, u7, u8, u9, u10], []⟩ w := by
  subst hops
  have hNS : Region.noSelect (Rg.opsOf Tryz.f23 1) = true := by kernel_rfl
  refine wp_region_held_drew (S := (fun W => Cap W bd dv ∧ Cap W bp (.string p))) (by kernel_rfl) hS (fun hHeld => ?_)
  rw [show (Rg.opsOf Tryz.f23 1).size = 7 by kernel_rfl]
  refine Rg.take (ops := (Rg.opsOf Tryz.f23 1)) 0 (some 5) (dv) hNS (by kernel_rfl) (by kernel_rfl) (by kernel_rfl) (by kernel_rfl) (by kernel_rfl) hHeld (Rg.y_load (T := 23) (x := (Operand.tmp 2)) (vx := (.pointer (some ⟨bd, 0, none⟩))) (by kernel_rfl) (by kernel_rfl) ?_) ?_
  · (intro w hSw; obtain ⟨s0, s1⟩ := hSw; unfold Cap at *; go_simp)
  refine Rg.take (ops := (Rg.opsOf Tryz.f23 1)) 1 (some 6) (dv) hNS (by kernel_rfl) (by kernel_rfl) (by kernel_rfl) (by kernel_rfl) (by kernel_rfl) hHeld (Rg.y_load (T := 23) (x := (Operand.tmp 2)) (vx := (.pointer (some ⟨bd, 0, none⟩))) (by kernel_rfl) (by kernel_rfl) ?_) ?_
  · (intro w hSw; obtain ⟨s0, s1⟩ := hSw; unfold Cap at *; go_simp)
  refine Rg.take (ops := (Rg.opsOf Tryz.f23 1)) 2 (some 7) ((.string p)) hNS (by kernel_rfl) (by kernel_rfl) (by kernel_rfl) (by kernel_rfl) (by kernel_rfl) hHeld (Rg.y_load (T := 9) (x := (Operand.tmp 3)) (vx := (.pointer (some ⟨bp, 0, none⟩))) (by kernel_rfl) (by kernel_rfl) ?_) ?_
  · (intro w hSw; obtain ⟨s0, s1⟩ := hSw; unfold Cap at *; go_simp)
  refine Rg.take (ops := (Rg.opsOf Tryz.f23 1)) 4 (some 9) (.func (Fn.func 64) #[] #[(.pointer (some ⟨bd, 0, none⟩)), (.pointer (some ⟨bp, 0, none⟩))]) hNS (by kernel_rfl) (by kernel_rfl) (by kernel_rfl) (by kernel_rfl) (by kernel_rfl) hHeld (Rg.y_func (f := Fn.func 64) (xs := #[]) (ys := #[Operand.tmp 2, Operand.tmp 3]) (vs := #[]) (us := #[(.pointer (some ⟨bd, 0, none⟩)), (.pointer (some ⟨bp, 0, none⟩))]) (by kernel_rfl) (by kernel_rfl) (by kernel_rfl)) ?_
  refine Rg.call (ops := (Rg.opsOf Tryz.f23 1)) (fn := Tryz.f63) (xs := #[Operand.tmp 6, Operand.tmp 7]) (ats := #[23, 9]) 3 (some 8) 63 #[dv, (.string p)] (by kernel_rfl) (by kernel_rfl) (by kernel_rfl) (by kernel_rfl) (by kernel_rfl) Tryz.func63 (by kernel_rfl) (by kernel_rfl) (by kernel_rfl) ?_
  refine hm.mono ?_
  rintro e w5 ⟨rfl, hA5⟩
  refine ⟨_, rfl, hAS _ hA5, fun hHeld => ?_⟩
  refine Rg.call (ops := (Rg.opsOf Tryz.f23 1)) (fn := Tryz.f44) (xs := #[Operand.tmp 5, Operand.tmp 8, Operand.tmp 9]) (ats := #[23, 39, 1]) 5 (some 10) 44 #[dv, (.int .i64 (r : Nat)), .func (Fn.func 64) #[] #[(.pointer (some ⟨bd, 0, none⟩)), (.pointer (some ⟨bp, 0, none⟩))]] (by kernel_rfl) (by kernel_rfl) (by kernel_rfl) (by kernel_rfl) (by kernel_rfl) Tryz.func44 (by kernel_rfl) (by kernel_rfl) (by kernel_rfl) ?_
  refine (hst _ hA5).mono ?_
  rintro e w6 ⟨rfl, hB6⟩
  refine ⟨_, rfl, hBS _ hB6, fun hHeld => ?_⟩
  refine Rg.take (ops := (Rg.opsOf Tryz.f23 1)) 6 (some 4) ((.int .i64 (X : Nat))) hNS (by kernel_rfl) (by kernel_rfl) (by kernel_rfl) (by kernel_rfl) (by kernel_rfl) hHeld (Rg.y_move (x := (Operand.tmp 10)) (Or.inr (by kernel_rfl)) (by kernel_rfl)) ?_
  refine Rg.done (ops := (Rg.opsOf Tryz.f23 1)) (by kernel_rfl) ?_
  exact ⟨by kernel_rfl, hB6⟩

set_option maxRecDepth 100000 in
set_option maxHeartbeats 2000000 in
theorem regRename (ops : Array Oper) (hops : ops = (Rg.opsOf Tryz.f16 1)) (id : Nat) (bd bp bq : Nat) (dv : Value) (p q : ByteArray) (r X : Nat) {u0 u1 u2 u6 u7 u8 u9 u10 u11 u12 u13 : Value} (w : World) (A B : World → Prop)
    (hS : (fun W => Cap W bd dv ∧ Cap W bp (.string p) ∧ Cap W bq (.string q)) w.drew) (hm : Calls Tryz.prog 50 #[dv, .string p, .string q] w.drew fun e w' => e = .returned (.int .i64 (r : Nat)) ∧ A w') (hAS : ∀ W, A W → (fun W => Cap W bd dv ∧ Cap W bp (.string p) ∧ Cap W bq (.string q)) W)
    (hst : ∀ W, A W → Calls Tryz.prog 44 #[dv, .int .i64 (r : Nat), .func (.func 51) #[] #[.pointer (some ⟨bd, 0, none⟩), .pointer (some ⟨bp, 0, none⟩), .pointer (some ⟨bq, 0, none⟩)]] W fun e w' => e = .returned (.int .i64 (X : Nat)) ∧ B w') (hBS : ∀ W, B W → (fun W => Cap W bd dv ∧ Cap W bp (.string p) ∧ Cap W bq (.string q)) W) :
    (Code.region id ops true).wp Tryz.prog (Rg.Only fun a' w' => a' = ⟨#[u0, u1, u2, (.pointer (some ⟨bd, 0, none⟩)), (.pointer (some ⟨bp, 0, none⟩)), (.pointer (some ⟨bq, 0, none⟩)), (.int .i64 (X : Nat)), dv, dv, (.string p), (.string q), (.int .i64 (r : Nat)), .func (Fn.func 51) #[] #[(.pointer (some ⟨bd, 0, none⟩)), (.pointer (some ⟨bp, 0, none⟩)), (.pointer (some ⟨bq, 0, none⟩))], (.int .i64 (X : Nat))], []⟩ ∧ B w') ⟨#[u0, u1, u2, (.pointer (some ⟨bd, 0, none⟩)), (.pointer (some ⟨bp, 0, none⟩)), (.pointer (some ⟨bq, 0, none⟩)), u6, u7, u8, u9, u10, u11, u12, u13], []⟩ w := by
  subst hops
  have hNS : Region.noSelect (Rg.opsOf Tryz.f16 1) = true := by kernel_rfl
  refine wp_region_held_drew (S := (fun W => Cap W bd dv ∧ Cap W bp (.string p) ∧ Cap W bq (.string q))) (by kernel_rfl) hS (fun hHeld => ?_)
  rw [show (Rg.opsOf Tryz.f16 1).size = 8 by kernel_rfl]
  refine Rg.take (ops := (Rg.opsOf Tryz.f16 1)) 0 (some 7) (dv) hNS (by kernel_rfl) (by kernel_rfl) (by kernel_rfl) (by kernel_rfl) (by kernel_rfl) hHeld (Rg.y_load (T := 23) (x := (Operand.tmp 3)) (vx := (.pointer (some ⟨bd, 0, none⟩))) (by kernel_rfl) (by kernel_rfl) ?_) ?_
  · (intro w hSw; obtain ⟨s0, s1, s2⟩ := hSw; unfold Cap at *; go_simp)
  refine Rg.take (ops := (Rg.opsOf Tryz.f16 1)) 1 (some 8) (dv) hNS (by kernel_rfl) (by kernel_rfl) (by kernel_rfl) (by kernel_rfl) (by kernel_rfl) hHeld (Rg.y_load (T := 23) (x := (Operand.tmp 3)) (vx := (.pointer (some ⟨bd, 0, none⟩))) (by kernel_rfl) (by kernel_rfl) ?_) ?_
  · (intro w hSw; obtain ⟨s0, s1, s2⟩ := hSw; unfold Cap at *; go_simp)
  refine Rg.take (ops := (Rg.opsOf Tryz.f16 1)) 2 (some 9) ((.string p)) hNS (by kernel_rfl) (by kernel_rfl) (by kernel_rfl) (by kernel_rfl) (by kernel_rfl) hHeld (Rg.y_load (T := 9) (x := (Operand.tmp 4)) (vx := (.pointer (some ⟨bp, 0, none⟩))) (by kernel_rfl) (by kernel_rfl) ?_) ?_
  · (intro w hSw; obtain ⟨s0, s1, s2⟩ := hSw; unfold Cap at *; go_simp)
  refine Rg.take (ops := (Rg.opsOf Tryz.f16 1)) 3 (some 10) ((.string q)) hNS (by kernel_rfl) (by kernel_rfl) (by kernel_rfl) (by kernel_rfl) (by kernel_rfl) hHeld (Rg.y_load (T := 9) (x := (Operand.tmp 5)) (vx := (.pointer (some ⟨bq, 0, none⟩))) (by kernel_rfl) (by kernel_rfl) ?_) ?_
  · (intro w hSw; obtain ⟨s0, s1, s2⟩ := hSw; unfold Cap at *; go_simp)
  refine Rg.take (ops := (Rg.opsOf Tryz.f16 1)) 5 (some 12) (.func (Fn.func 51) #[] #[(.pointer (some ⟨bd, 0, none⟩)), (.pointer (some ⟨bp, 0, none⟩)), (.pointer (some ⟨bq, 0, none⟩))]) hNS (by kernel_rfl) (by kernel_rfl) (by kernel_rfl) (by kernel_rfl) (by kernel_rfl) hHeld (Rg.y_func (f := Fn.func 51) (xs := #[]) (ys := #[Operand.tmp 3, Operand.tmp 4, Operand.tmp 5]) (vs := #[]) (us := #[(.pointer (some ⟨bd, 0, none⟩)), (.pointer (some ⟨bp, 0, none⟩)), (.pointer (some ⟨bq, 0, none⟩))]) (by kernel_rfl) (by kernel_rfl) (by kernel_rfl)) ?_
  refine Rg.call (ops := (Rg.opsOf Tryz.f16 1)) (fn := Tryz.f50) (xs := #[Operand.tmp 8, Operand.tmp 9, Operand.tmp 10]) (ats := #[23, 9, 9]) 4 (some 11) 50 #[dv, (.string p), (.string q)] (by kernel_rfl) (by kernel_rfl) (by kernel_rfl) (by kernel_rfl) (by kernel_rfl) Tryz.func50 (by kernel_rfl) (by kernel_rfl) (by kernel_rfl) ?_
  refine hm.mono ?_
  rintro e w5 ⟨rfl, hA5⟩
  refine ⟨_, rfl, hAS _ hA5, fun hHeld => ?_⟩
  refine Rg.call (ops := (Rg.opsOf Tryz.f16 1)) (fn := Tryz.f44) (xs := #[Operand.tmp 7, Operand.tmp 11, Operand.tmp 12]) (ats := #[23, 39, 1]) 6 (some 13) 44 #[dv, (.int .i64 (r : Nat)), .func (Fn.func 51) #[] #[(.pointer (some ⟨bd, 0, none⟩)), (.pointer (some ⟨bp, 0, none⟩)), (.pointer (some ⟨bq, 0, none⟩))]] (by kernel_rfl) (by kernel_rfl) (by kernel_rfl) (by kernel_rfl) (by kernel_rfl) Tryz.func44 (by kernel_rfl) (by kernel_rfl) (by kernel_rfl) ?_
  refine (hst _ hA5).mono ?_
  rintro e w6 ⟨rfl, hB6⟩
  refine ⟨_, rfl, hBS _ hB6, fun hHeld => ?_⟩
  refine Rg.take (ops := (Rg.opsOf Tryz.f16 1)) 7 (some 6) ((.int .i64 (X : Nat))) hNS (by kernel_rfl) (by kernel_rfl) (by kernel_rfl) (by kernel_rfl) (by kernel_rfl) hHeld (Rg.y_move (x := (Operand.tmp 13)) (Or.inr (by kernel_rfl)) (by kernel_rfl)) ?_
  refine Rg.done (ops := (Rg.opsOf Tryz.f16 1)) (by kernel_rfl) ?_
  exact ⟨by kernel_rfl, hB6⟩

set_option maxRecDepth 100000 in
set_option maxHeartbeats 2000000 in
theorem regRemove (ops : Array Oper) (hops : ops = (Rg.opsOf Tryz.f26 1)) (id : Nat) (bd bp : Nat) (dv : Value) (p : ByteArray) (r X : Nat) {u0 u1 u4 u5 u6 u7 u8 u9 u10 : Value} (w : World) (A B : World → Prop)
    (hS : (fun W => Cap W bd dv ∧ Cap W bp (.string p)) w.drew) (hm : Calls Tryz.prog 67 #[dv, .string p] w.drew fun e w' => e = .returned (.int .i64 (r : Nat)) ∧ A w') (hAS : ∀ W, A W → (fun W => Cap W bd dv ∧ Cap W bp (.string p)) W)
    (hst : ∀ W, A W → Calls Tryz.prog 44 #[dv, .int .i64 (r : Nat), .func (.func 68) #[] #[.pointer (some ⟨bd, 0, none⟩), .pointer (some ⟨bp, 0, none⟩)]] W fun e w' => e = .returned (.int .i64 (X : Nat)) ∧ B w') (hBS : ∀ W, B W → (fun W => Cap W bd dv ∧ Cap W bp (.string p)) W) :
    (Code.region id ops true).wp Tryz.prog (Rg.Only fun a' w' => a' = ⟨#[u0, u1, (.pointer (some ⟨bd, 0, none⟩)), (.pointer (some ⟨bp, 0, none⟩)), (.int .i64 (X : Nat)), dv, dv, (.string p), (.int .i64 (r : Nat)), .func (Fn.func 68) #[] #[(.pointer (some ⟨bd, 0, none⟩)), (.pointer (some ⟨bp, 0, none⟩))], (.int .i64 (X : Nat))], []⟩ ∧ B w') ⟨#[u0, u1, (.pointer (some ⟨bd, 0, none⟩)), (.pointer (some ⟨bp, 0, none⟩)), u4, u5, u6, u7, u8, u9, u10], []⟩ w := by
  subst hops
  have hNS : Region.noSelect (Rg.opsOf Tryz.f26 1) = true := by kernel_rfl
  refine wp_region_held_drew (S := (fun W => Cap W bd dv ∧ Cap W bp (.string p))) (by kernel_rfl) hS (fun hHeld => ?_)
  rw [show (Rg.opsOf Tryz.f26 1).size = 7 by kernel_rfl]
  refine Rg.take (ops := (Rg.opsOf Tryz.f26 1)) 0 (some 5) (dv) hNS (by kernel_rfl) (by kernel_rfl) (by kernel_rfl) (by kernel_rfl) (by kernel_rfl) hHeld (Rg.y_load (T := 23) (x := (Operand.tmp 2)) (vx := (.pointer (some ⟨bd, 0, none⟩))) (by kernel_rfl) (by kernel_rfl) ?_) ?_
  · (intro w hSw; obtain ⟨s0, s1⟩ := hSw; unfold Cap at *; go_simp)
  refine Rg.take (ops := (Rg.opsOf Tryz.f26 1)) 1 (some 6) (dv) hNS (by kernel_rfl) (by kernel_rfl) (by kernel_rfl) (by kernel_rfl) (by kernel_rfl) hHeld (Rg.y_load (T := 23) (x := (Operand.tmp 2)) (vx := (.pointer (some ⟨bd, 0, none⟩))) (by kernel_rfl) (by kernel_rfl) ?_) ?_
  · (intro w hSw; obtain ⟨s0, s1⟩ := hSw; unfold Cap at *; go_simp)
  refine Rg.take (ops := (Rg.opsOf Tryz.f26 1)) 2 (some 7) ((.string p)) hNS (by kernel_rfl) (by kernel_rfl) (by kernel_rfl) (by kernel_rfl) (by kernel_rfl) hHeld (Rg.y_load (T := 9) (x := (Operand.tmp 3)) (vx := (.pointer (some ⟨bp, 0, none⟩))) (by kernel_rfl) (by kernel_rfl) ?_) ?_
  · (intro w hSw; obtain ⟨s0, s1⟩ := hSw; unfold Cap at *; go_simp)
  refine Rg.take (ops := (Rg.opsOf Tryz.f26 1)) 4 (some 9) (.func (Fn.func 68) #[] #[(.pointer (some ⟨bd, 0, none⟩)), (.pointer (some ⟨bp, 0, none⟩))]) hNS (by kernel_rfl) (by kernel_rfl) (by kernel_rfl) (by kernel_rfl) (by kernel_rfl) hHeld (Rg.y_func (f := Fn.func 68) (xs := #[]) (ys := #[Operand.tmp 2, Operand.tmp 3]) (vs := #[]) (us := #[(.pointer (some ⟨bd, 0, none⟩)), (.pointer (some ⟨bp, 0, none⟩))]) (by kernel_rfl) (by kernel_rfl) (by kernel_rfl)) ?_
  refine Rg.call (ops := (Rg.opsOf Tryz.f26 1)) (fn := Tryz.f67) (xs := #[Operand.tmp 6, Operand.tmp 7]) (ats := #[23, 9]) 3 (some 8) 67 #[dv, (.string p)] (by kernel_rfl) (by kernel_rfl) (by kernel_rfl) (by kernel_rfl) (by kernel_rfl) Tryz.func67 (by kernel_rfl) (by kernel_rfl) (by kernel_rfl) ?_
  refine hm.mono ?_
  rintro e w5 ⟨rfl, hA5⟩
  refine ⟨_, rfl, hAS _ hA5, fun hHeld => ?_⟩
  refine Rg.call (ops := (Rg.opsOf Tryz.f26 1)) (fn := Tryz.f44) (xs := #[Operand.tmp 5, Operand.tmp 8, Operand.tmp 9]) (ats := #[23, 39, 1]) 5 (some 10) 44 #[dv, (.int .i64 (r : Nat)), .func (Fn.func 68) #[] #[(.pointer (some ⟨bd, 0, none⟩)), (.pointer (some ⟨bp, 0, none⟩))]] (by kernel_rfl) (by kernel_rfl) (by kernel_rfl) (by kernel_rfl) (by kernel_rfl) Tryz.func44 (by kernel_rfl) (by kernel_rfl) (by kernel_rfl) ?_
  refine (hst _ hA5).mono ?_
  rintro e w6 ⟨rfl, hB6⟩
  refine ⟨_, rfl, hBS _ hB6, fun hHeld => ?_⟩
  refine Rg.take (ops := (Rg.opsOf Tryz.f26 1)) 6 (some 4) ((.int .i64 (X : Nat))) hNS (by kernel_rfl) (by kernel_rfl) (by kernel_rfl) (by kernel_rfl) (by kernel_rfl) hHeld (Rg.y_move (x := (Operand.tmp 10)) (Or.inr (by kernel_rfl)) (by kernel_rfl)) ?_
  refine Rg.done (ops := (Rg.opsOf Tryz.f26 1)) (by kernel_rfl) ?_
  exact ⟨by kernel_rfl, hB6⟩

end Go.Proofs.YtcbnpdognadilaaGreat.Dk

/- What the closures of Write, Append, Sync, Rename, Remove do. -/
namespace Go.Proofs.YtcbnpdognadilaaGreat.Dk
open Go.RowKit Tx Pm Pl Pr
set_option linter.unusedVariables false

theorem Mp.put {w : World} {bi : Nat} {L : List It} (h : Mp w bi L) {x : It} {p : ByteArray} {v : Value} (hx : x.path = p) (hv : iv3 x = v) (hp : p.size ≤ 8000000000000) (hn : L.length ≤ 1000000000) :
    ∃ w', (Instr.mapUpdate 44 (.map (some bi)) (.string p) v).run Tryz.prog w = .ok () w' ∧ Mp w' bi (ins L x) ∧ w.mapTurned w' bi := by
  subst hx
  subst hv
  exact h.store (maxLen_of hp) (by unfold maxLen; omega)
theorem kOf_file {x : It} (h : x.dir = false) : kOf x = 2 := by unfold kOf; rw [h]; rfl
set_option maxRecDepth 100000 in
set_option maxHeartbeats 1000000 in
theorem iWriteC_any (b bi bl bd bp bq : Nat) (l : Int) (s : St) (p d : ByteArray) (w : World) (h : Ia b bi bl l w s) (hd : Cap w bd (.pointer (some ⟨b, 0, none⟩))) (hp : Cap w bp (.string p)) (hq : Cap w bq (.string d)) (hps : p.size ≤ 8000000000000) (hn : s.L.length ≤ 1000000000) (hst : s.stamps ≤ 1000000000000)
    (ho : (old s.L p).dir = false) :
    Calls Tryz.prog 48 #[.pointer (some ⟨bd, 0, none⟩), .pointer (some ⟨bp, 0, none⟩), .pointer (some ⟨bq, 0, none⟩)] w fun e w' => e = .returned (.tuple #[]) ∧ Ip b bi bl w (putS s { old s.L p with data := d, loose := true, anew := true }) w' := by
  obtain ⟨c0, _⟩ := h.cell
  unfold Cap at hd hp hq
  have h0 := h.below (Below.refl _ w).drew
  have hl := h0.look (maxLen_of hps)
  have cs := iSet_any b bi bl l s { old s.L p with data := d, loose := true, anew := true } 0 p w.drew h0 (old_path _ _) hps hn hst
  have e1 : kOf { old s.L p with data := d, loose := true, anew := true } = 2 := kOf_file ho
  rw [e1] at cs
  have cs : Calls Tryz.prog 49 #[.pointer (some ⟨b, 0, none⟩), .string p, .agg #[.int .i64 2, .string d, .string (old s.L p).kept, .int .i64 2, .int .i64 0]] w.drew fun e w' => e = .returned (.tuple #[]) ∧ Ip b bi bl w.drew (putS s { old s.L p with data := d, loose := true, anew := true }) w' := cs
  have hf2 := fld2
  have hend : ∀ w', Ip b bi bl w.drew (putS s { old s.L p with data := d, loose := true, anew := true }) w' → Ip b bi bl w (putS s { old s.L p with data := d, loose := true, anew := true }) w' := fun w' hh => Ip.after (Below.refl _ w).drew hh
  have HE := Lib.hid hend
  generalize (putS s { old s.L p with data := d, loose := true, anew := true }) = s' at cs HE ⊢
  generalize (old s.L p).kept = X1 at cs hl
  generalize stOf (old s.L p) = X2 at hl
  clear h h0 hend e1 ho
  go_enter Tryz.func48, Tryz.ntmps48
  go_wp2
  go_still_tail 11, (by kernel_rfl)
  change wpList _ _ _ _ _ w.drew
  go_wp2_with (go_at_call 49; refine cs.mono ?_; rintro e w5 ⟨rfl, h5⟩)
  go_end0
  exact ⟨rfl, HE.out _ h5⟩
set_option maxRecDepth 100000 in
theorem iRemoveC_any (b bi bl bd bp : Nat) (l : Int) (s : St) (p : ByteArray) (w : World) (h : Ia b bi bl l w s) (hR : Rises s.L) (hd : Cap w bd (.pointer (some ⟨b, 0, none⟩))) (hp : Cap w bp (.string p)) (hps : p.size ≤ 8000000000000) :
    Calls Tryz.prog 68 #[.pointer (some ⟨bd, 0, none⟩), .pointer (some ⟨bp, 0, none⟩)] w fun e w' => e = .returned (.tuple #[]) ∧ Ip b bi bl w { s with L := drop s.L p } w' := by
  obtain ⟨c0, _⟩ := h.cell
  unfold Cap at hd hp
  have h0 := h.below (Below.refl _ w).drew
  obtain ⟨w1, hrun, hm, ht⟩ := h0.items.del hR (maxLen_of hps) 0
  have HE := Lib.hid (show Ip b bi bl w { s with L := drop s.L p } w1 from ⟨l, h0.turned hm ht, (Chg.of_below (Below.refl _ w).drew).then ((turned_chg ht).mono ft_i)⟩)
  clear h h0 hm ht
  go_enter Tryz.func68, Tryz.ntmps68
  go_region
  all_goals (go_end0; exact ⟨rfl, HE.out⟩)
set_option maxRecDepth 100000 in
set_option maxHeartbeats 1000000 in
theorem iSyncC_any (b bi bl bd bp : Nat) (l : Int) (s : St) (p : ByteArray) (w : World) (h : Ia b bi bl l w s) (hd : Cap w bd (.pointer (some ⟨b, 0, none⟩))) (hp : Cap w bp (.string p)) (hps : p.size ≤ 8000000000000) (hn : s.L.length ≤ 1000000000)
    (ho : kind s.L p = 2) :
    Calls Tryz.prog 64 #[.pointer (some ⟨bd, 0, none⟩), .pointer (some ⟨bp, 0, none⟩)] w fun e w' => e = .returned (.tuple #[]) ∧ Ip b bi bl w { s with L := ins s.L { old s.L p with kept := (old s.L p).data, loose := false, anew := false } } w' := by
  obtain ⟨c0, _⟩ := h.cell
  unfold Cap at hd hp
  have hl := (h.below (Below.refl _ w).drew).look (maxLen_of hps)
  have hl2 := fun o => (h.below ((Below.refl _ w).alloc (Nat.le_refl _) o).drew).look (maxLen_of hps)
  rw [ho] at hl hl2
  have hod : (old s.L p).dir = false := old_dir (by omega)
  have hbd : bd < w.heap.size := World.block_lt_of_cell? w _ hd
  have hbp : bp < w.heap.size := World.block_lt_of_cell? w _ hp
  have hb : b < w.heap.size := h.lt b (.inl rfl)
  generalize hX0 : (old s.L p).data = X0 at hl hl2
  have hB2 := ((Below.refl _ w).alloc (Nat.le_refl _) (.cells #[.int .i64 2, .string X0, .string X0, .int .i64 0, .int .i64 (old s.L p).stamp] 65)).drew.drew
  have a2 := h.below hB2
  have e1 : iv3 { old s.L p with kept := X0, loose := false, anew := false } = .agg #[.int .i64 2, .string X0, .string X0, .int .i64 0, .int .i64 (old s.L p).stamp] := by
    unfold iv3
    rw [show kOf { old s.L p with kept := X0, loose := false, anew := false } = 2 from kOf_file hod, ← hX0]
    rfl
  obtain ⟨w3, hrun, hm, ht⟩ := a2.items.put (x := { old s.L p with kept := X0, loose := false, anew := false }) (old_path s.L p) e1 hps hn
  have HE := Lib.hid (show Ip b bi bl w { s with L := ins s.L { old s.L p with kept := X0, loose := false, anew := false } } w3 from ⟨l, a2.turned hm ht, (Chg.of_below hB2).then ((turned_chg ht).mono ft_i)⟩)
  generalize stOf (old s.L p) = X2 at hl hl2
  generalize ((old s.L p).stamp : Int) = X3 at hl hl2 hrun
  generalize (old s.L p).kept = X4 at hl hl2
  clear h hB2 a2 hm ht e1 hod ho hX0
  go_enter Tryz.func64, Tryz.ntmps64
  go_wp2
  go_region
  all_goals go_wp2
  all_goals go_region
  all_goals (go_end0; exact ⟨rfl, HE.out⟩)
end Go.Proofs.YtcbnpdognadilaaGreat.Dk

/- What the closures of Append and Rename do. -/
namespace Go.Proofs.YtcbnpdognadilaaGreat.Dk
open Go.RowKit Tx Pm Pl Pr
set_option linter.unusedVariables false

set_option maxRecDepth 100000 in
set_option maxHeartbeats 2000000 in
theorem iAppendC_any (b bi bl bd bp bq : Nat) (l : Int) (s : St) (p d : ByteArray) (w : World) (h : Ia b bi bl l w s) (hd : Cap w bd (.pointer (some ⟨b, 0, none⟩))) (hp : Cap w bp (.string p)) (hq : Cap w bq (.string d)) (hps : p.size ≤ 8000000000000) (hn : s.L.length ≤ 1000000000) (hst : s.stamps ≤ 1000000000000)
    (ho : kind s.L p = 2) (hca : (old s.L p).loose = false → (old s.L p).anew = false) (hsz : (old s.L p).data.size + d.size ≤ 100000000000000) :
    Calls Tryz.prog 61 #[.pointer (some ⟨bd, 0, none⟩), .pointer (some ⟨bp, 0, none⟩), .pointer (some ⟨bq, 0, none⟩)] w fun e w' => e = .returned (.tuple #[]) ∧ Ip b bi bl w (putS s { old s.L p with data := (old s.L p).data ++ d, loose := true }) w' := by
  obtain ⟨c0, _⟩ := h.cell
  unfold Cap at hd hp hq
  have hbd : bd < w.heap.size := World.block_lt_of_cell? w _ hd
  have hbp : bp < w.heap.size := World.block_lt_of_cell? w _ hp
  have hbq : bq < w.heap.size := World.block_lt_of_cell? w _ hq
  have hb : b < w.heap.size := h.lt b (.inl rfl)
  have hl := (h.below (Below.refl _ w).drew).look (maxLen_of hps)
  have hl2 := fun o => (h.below ((Below.refl _ w).alloc (Nat.le_refl _) o).drew).look (maxLen_of hps)
  rw [ho] at hl hl2
  have hod : (old s.L p).dir = false := old_dir (by omega)
  have hst2 : stOf { old s.L p with data := (old s.L p).data ++ d, loose := true } = if stOf (old s.L p) = 0 then 1 else stOf (old s.L p) := by
    unfold stOf
    cases hlo : (old s.L p).loose with
    | false =>
      rw [hca hlo]
      rfl
    | true => cases (old s.L p).anew <;> rfl
  have hst3 : stOf (old s.L p) = 0 ∨ stOf (old s.L p) = 1 ∨ stOf (old s.L p) = 2 := by
    unfold stOf
    cases (old s.L p).loose <;> cases (old s.L p).anew <;> simp
  have cs := fun W (hW : Below w.heap.size w W) => iSet_any b bi bl l s { old s.L p with data := (old s.L p).data ++ d, loose := true } (old s.L p).stamp p W (h.below hW) (old_path _ _) hps hn hst
  rw [show kOf { old s.L p with data := (old s.L p).data ++ d, loose := true } = 2 from kOf_file hod, hst2] at cs
  simp only at cs
  have HE := Lib.hid (fun W w' (hW : Below w.heap.size w W) (hh : Ip b bi bl W (putS s { old s.L p with data := (old s.L p).data ++ d, loose := true }) w') => Ip.after hW hh)
  generalize (putS s { old s.L p with data := (old s.L p).data ++ d, loose := true }) = s' at cs HE ⊢
  generalize (old s.L p).data = X0 at hl hl2 cs hsz
  generalize (old s.L p).kept = X1 at hl hl2 cs
  generalize ((old s.L p).stamp : Int) = X3 at hl hl2 cs
  generalize stOf (old s.L p) = X2 at hl hl2 cs hst3
  clear h ho hca hod hst2
  have hBW : ∀ o, Below w.heap.size w (w.alloc o).drew := fun o => ((Below.refl _ w).alloc (Nat.le_refl _) o).drew
  have HC := Lib.hid cs
  have HB := Lib.hid hBW
  clear cs hBW
  rcases hst3 with rfl | rfl | rfl
  · go_enter Tryz.func61, Tryz.ntmps61
    go_wp2
    go_region
    all_goals go_wp2_with (go_at_call 49; refine (HC.out _ (HB.out _)).mono ?_; rintro e w5 ⟨rfl, h5⟩)
    all_goals (go_end0; exact ⟨rfl, HE.out _ _ (HB.out _) h5⟩)
  · go_enter Tryz.func61, Tryz.ntmps61
    go_wp2
    go_region
    all_goals go_wp2_with (go_at_call 49; refine (HC.out _ (HB.out _)).mono ?_; rintro e w5 ⟨rfl, h5⟩)
    all_goals (go_end0; exact ⟨rfl, HE.out _ _ (HB.out _) h5⟩)
  · go_enter Tryz.func61, Tryz.ntmps61
    go_wp2
    go_region
    all_goals go_wp2_with (go_at_call 49; refine (HC.out _ (HB.out _)).mono ?_; rintro e w5 ⟨rfl, h5⟩)
    all_goals (go_end0; exact ⟨rfl, HE.out _ _ (HB.out _) h5⟩)
theorem turned_cell {w w' : World} {b i : Nat} (h : w.mapTurned w' b) (hi : i ≠ b) (o : Nat) : w'.cell? ⟨i, o, none⟩ = w.cell? ⟨i, o, none⟩ := by
  unfold World.cell?
  simp only [turned_block h hi]
theorem cell_ne {w : World} {bi : Nat} {L : List It} (h : Mp w bi L) {g : Nat} {o : Nat} {v : Value} (hc : w.cell? ⟨g, o, none⟩ = some v) : g ≠ bi := by
  rintro rfl
  obtain ⟨D, ⟨es, clock, hb, _⟩, _⟩ := h
  unfold World.cell? at hc
  simp [hb] at hc
set_option maxRecDepth 100000 in
set_option maxHeartbeats 2000000 in
theorem iRenameC_any (b bi bl bd bp bq : Nat) (l : Int) (s : St) (f t : ByteArray) (w : World) (h : Ia b bi bl l w s) (hR : Rises s.L) (hd : Cap w bd (.pointer (some ⟨b, 0, none⟩))) (hp : Cap w bp (.string f)) (hq : Cap w bq (.string t)) (hfs : f.size ≤ 8000000000000) (hts : t.size ≤ 8000000000000) (hn : s.L.length ≤ 1000000000) (hst : s.stamps ≤ 1000000000000)
    (ho : kind s.L f = 2) :
    Calls Tryz.prog 51 #[.pointer (some ⟨bd, 0, none⟩), .pointer (some ⟨bp, 0, none⟩), .pointer (some ⟨bq, 0, none⟩)] w fun e w' => e = .returned (.tuple #[]) ∧ Ip b bi bl w (putS { s with L := drop s.L f } { old s.L f with path := t }) w' := by
  obtain ⟨c0, _⟩ := h.cell
  unfold Cap at hd hp hq
  have hbd : bd < w.heap.size := World.block_lt_of_cell? w _ hd
  have hbp : bp < w.heap.size := World.block_lt_of_cell? w _ hp
  have hbq : bq < w.heap.size := World.block_lt_of_cell? w _ hq
  have hb : b < w.heap.size := h.lt b (.inl rfl)
  have nd := cell_ne h.items hd
  have np := cell_ne h.items hp
  have nq := cell_ne h.items hq
  have nb := h.nb.1
  have nn : w.heap.size ≠ bi := fun e => by have := h.items.lt; omega
  have hl := (h.below (Below.refl _ w).drew).look (maxLen_of hfs)
  have hl2 := fun o => (h.below ((Below.refl _ w).alloc (Nat.le_refl _) o).drew).look (maxLen_of hfs)
  rw [ho] at hl hl2
  have hod : (old s.L f).dir = false := old_dir (by omega)
  have hB2 := ((Below.refl _ w).alloc (Nat.le_refl _) (.cells #[.int .i64 2, .string (old s.L f).data, .string (old s.L f).kept, .int .i64 (stOf (old s.L f)), .int .i64 (old s.L f).stamp] 65)).drew.drew
  have a2 := h.below hB2
  obtain ⟨w3, hrun, hm, ht⟩ := a2.items.del hR (maxLen_of hfs) 0
  have a3 : Ia b bi bl l w3 { s with L := drop s.L f } := a2.turned hm ht
  have hc3 : Chg (Ft b bi bl) w w3 := (Chg.of_below hB2).then ((turned_chg ht).mono ft_i)
  have hbox : w3.cell? ⟨w.heap.size, 0, none⟩ = some (.int .i64 2) ∧ w3.cell? ⟨w.heap.size, 1, none⟩ = some (.string (old s.L f).data) ∧ w3.cell? ⟨w.heap.size, 2, none⟩ = some (.string (old s.L f).kept) ∧ w3.cell? ⟨w.heap.size, 3, none⟩ = some (.int .i64 (stOf (old s.L f))) ∧ w3.cell? ⟨w.heap.size, 4, none⟩ = some (.int .i64 (old s.L f).stamp) := by
    refine ⟨?_, ?_, ?_, ?_, ?_⟩ <;> · rw [turned_cell ht nn]; exact World.cell?_alloc_at _ _ _ _ rfl
  have g0 : w3.cell? ⟨bd, 0, none⟩ = some (.pointer (some ⟨b, 0, none⟩)) := (turned_cell ht nd 0).trans ((World.cell?_alloc_past _ _ _ hbd).trans hd)
  have g1 : w3.cell? ⟨bq, 0, none⟩ = some (.string t) := (turned_cell ht nq 0).trans ((World.cell?_alloc_past _ _ _ hbq).trans hq)
  have cs := iSet_any b bi bl l { s with L := drop s.L f } { old s.L f with path := t } (old s.L f).stamp t w3 a3 rfl hts (Nat.le_trans (drop_in s.L f).2 hn) hst
  rw [show kOf { old s.L f with path := t } = 2 from kOf_file hod] at cs
  have cs : Calls Tryz.prog 49 #[.pointer (some ⟨b, 0, none⟩), .string t, .agg #[.int .i64 2, .string (old s.L f).data, .string (old s.L f).kept, .int .i64 (stOf (old s.L f)), .int .i64 (old s.L f).stamp]] w3 fun e w' => e = .returned (.tuple #[]) ∧ Ip b bi bl w3 (putS { s with L := drop s.L f } { old s.L f with path := t }) w' := cs
  have hfin : ∀ w', Ip b bi bl w3 (putS { s with L := drop s.L f } { old s.L f with path := t }) w' → Ip b bi bl w (putS { s with L := drop s.L f } { old s.L f with path := t }) w' := fun w' ⟨l2, h1, h2⟩ => ⟨l2, h1, hc3.then h2⟩
  have HE := Lib.hid hfin
  clear h ho hod hB2 a2 a3 hm ht hc3 hfin
  generalize (putS { s with L := drop s.L f } { old s.L f with path := t }) = s' at cs HE ⊢
  generalize (old s.L f).data = X0 at hl hl2 cs hrun hbox
  generalize (old s.L f).kept = X1 at hl hl2 cs hrun hbox
  generalize ((old s.L f).stamp : Int) = X3 at hl hl2 cs hrun hbox
  generalize stOf (old s.L f) = X2 at hl hl2 cs hrun hbox
  obtain ⟨k0, k1, k2, k3, k4⟩ := hbox
  go_enter Tryz.func51, Tryz.ntmps51
  go_wp2
  go_region
  all_goals go_wp2
  all_goals go_region
  all_goals go_wp2_with (go_at_call 49; refine cs.mono ?_; rintro e w5 ⟨rfl, h5⟩)
  all_goals (go_end0; exact ⟨rfl, HE.out _ h5⟩)
end Go.Proofs.YtcbnpdognadilaaGreat.Dk

/- Package disk's Mkdir, Write, Append, Sync, Rename: as the document says. -/
namespace Go.Proofs.YtcbnpdognadilaaGreat.Dk
open Go.RowKit Tx Pm Pl Pr
set_option linter.unusedVariables false

theorem cap_chg {w w1 : World} {F : Nat → Prop} {g : Nat} {v : Value} (h : Cap w g v) (hc : Chg F w w1) (hn : ¬ F g) : Cap w1 g v := by
  have hg := World.block_lt_of_cell? w _ h
  unfold Cap World.cell? at *
  rw [hc.block g hg hn]
  exact h
theorem cap_below {w w1 : World} {g : Nat} {v : Value} (h : Cap w g v) (hb : Below w.heap.size w w1) : Cap w1 g v := cap_chg (F := fun _ => False) h ⟨hb.os, hb.tape, hb.output, hb.size, fun i hi _ => hb.block i hi⟩ id
theorem cap_new (w : World) (v : Value) (T : TypeId) : Cap (w.alloc (.cells #[v] T)) w.heap.size v := by
  unfold Cap
  rw [World.cell?_alloc_at _ _ _ _ rfl]
  rfl
theorem first_down {s : St} {p : ByteArray} {m : Nat} (h : first s p m = 0) : s.down = false := by
  unfold first at h
  cases hd : s.down with
  | false => rfl
  | true => rw [hd] at h; cases h
theorem mkdir_step (s : St) (p : ByteArray) : mkdirS s p = stepR s (mayMkdirS s p) { (done s).2 with L := ins (done s).2.L ⟨p, true, ⟨#[]⟩, ⟨#[]⟩, false, false, 0⟩ } := by
  unfold mkdirS mayMkdirS stepR
  by_cases h1 : first s p 0 ≠ 0
  · rw [if_pos h1, if_pos h1, if_pos h1]
  · rw [if_neg h1, if_neg h1]
    by_cases h2 : home s.L p = false
    · rw [if_pos h2, if_pos h2, if_pos (by decide)]
    · rw [if_neg h2, if_neg h2]
      by_cases h3 : kind s.L p = 2
      · rw [if_pos h3, if_pos h3, if_pos (by decide)]
      · rw [if_neg h3, if_neg h3]
        rfl
theorem mayMkdir_down {s : St} {p : ByteArray} (h : mayMkdirS s p = 0) : s.down = false := by
  unfold mayMkdirS at h
  split at h
  · rename_i h1; exact absurd h h1
  · rename_i h1; exact first_down (p := p) (m := 0) (by omega)
theorem write_step {s : St} (hg : Good s) (p d : ByteArray) : writeS s p d = stepR s (mayWriteS s p d) (putS (done s).2 { old s.L p with data := d, loose := true, anew := true }) := by
  unfold writeS mayWriteS stepR
  rw [fits_full hg]
  by_cases h1 : first s p 1 ≠ 0
  · rw [if_pos h1, if_pos h1, if_pos h1]
  · rw [if_neg h1, if_neg h1]
    by_cases h2 : home s.L p = false
    · rw [if_pos h2, if_pos h2, if_pos (by decide)]
    · rw [if_neg h2, if_neg h2]
      by_cases h3 : kind s.L p = 1
      · rw [if_pos h3, if_pos h3, if_pos (by decide)]
      · rw [if_neg h3, if_neg h3]
        cases full s (vol p) ((d.size : Int) - (old s.L p).data.size) with
        | true => rfl
        | false => rfl
theorem mayWrite_ok {s : St} {p d : ByteArray} (h : mayWriteS s p d = 0) : s.down = false ∧ kind s.L p ≠ 1 := by
  unfold mayWriteS at h
  split at h
  · rename_i h1; exact absurd h h1
  rename_i h1
  split at h
  · cases h
  split at h
  · cases h
  rename_i h3
  exact ⟨first_down (p := p) (m := 1) (by omega), h3⟩
theorem append_step {s : St} (hg : Good s) (p d : ByteArray) : appendS s p d = stepR s (mayAppendS s p d) (putS (done s).2 { old s.L p with data := (old s.L p).data ++ d, loose := true }) := by
  unfold appendS mayAppendS stepR
  rw [fits_full hg]
  by_cases h1 : there s p ≠ 0
  · rw [if_pos h1, if_pos h1, if_pos h1]
  · rw [if_neg h1, if_neg h1]
    cases full s (vol p) (d.size : Int) with
    | true => rfl
    | false => rfl
theorem there_kind {s : St} {p : ByteArray} (h : there s p = 0) : s.down = false ∧ kind s.L p = 2 := by
  unfold there at h
  split at h
  · rename_i h1; exact absurd h h1
  rename_i h1
  split at h
  · cases h
  split at h
  · cases h
  rename_i h2 h3
  refine ⟨first_down (p := p) (m := 1) (by omega), ?_⟩
  rcases kind_le s.L p with e | e | e
  · exact absurd e h2
  · exact absurd e h3
  · exact e
theorem mayAppend_ok {s : St} {p d : ByteArray} (h : mayAppendS s p d = 0) : s.down = false ∧ kind s.L p = 2 := by
  unfold mayAppendS at h
  split at h
  · rename_i h1; exact absurd h h1
  · rename_i h1; exact there_kind (by omega)
theorem sync_step (s : St) (p : ByteArray) : syncS s p = stepR s (there s p) { (done s).2 with L := ins (done s).2.L { old s.L p with kept := (old s.L p).data, loose := false, anew := false } } := rfl
theorem rename_step {s : St} (hg : Good s) (f t : ByteArray) : renameS s f t = stepR s (mayRenS s f t) (putS { (done s).2 with L := drop (done s).2.L f } { old s.L f with path := t }) := by
  unfold renameS mayRenS stepR firstR
  by_cases h1 : first s f 1 ≠ 0
  · rw [if_pos h1, if_pos h1, if_pos h1, if_pos h1]
  rw [if_neg h1, if_neg h1]
  by_cases h2 : first s t 1 ≠ 0
  · rw [if_pos h2, if_pos h2, if_pos h2]
  rw [if_neg h2, if_neg h2]
  by_cases h3 : kind s.L f = 0
  · rw [if_pos (.inl h3), if_pos h3, if_pos (by decide)]
  rw [if_neg h3]
  by_cases h4 : home s.L t = false
  · rw [if_pos (.inr h4), if_pos h4, if_pos (by decide)]
  rw [if_neg (by rintro (h | h) <;> contradiction), if_neg h4]
  by_cases h5 : kind s.L f = 1
  · rw [if_pos (.inl h5), if_pos h5, if_pos (by decide)]
  rw [if_neg h5]
  by_cases h6 : kind s.L t = 1
  · rw [if_pos (.inr h6), if_pos h6, if_pos (by decide)]
  rw [if_neg (by rintro (h | h) <;> contradiction), if_neg h6]
  have e : (f ≠ t ∧ fits s t (moreS s.L f t) = false) ↔ (vol f ≠ vol t ∧ full s (vol t) (((old s.L f).data.size : Int) - (old s.L t).data.size) = true) := by
    rw [fits_full hg]
    by_cases hv : vol f = vol t
    · have hm : moreS s.L f t ≤ 0 := by
        unfold moreS
        rw [if_pos hv]
        split <;> omega
      have hf : full s (vol t) (moreS s.L f t) = false := by
        unfold full
        cases roomOf s.rooms (vol t) with
        | none => rfl
        | some r => simp only; rw [decide_eq_false (by omega), Bool.false_and]
      constructor
      · rintro ⟨_, h⟩
        rw [hf] at h
        cases h
      · rintro ⟨h, _⟩
        exact absurd hv h
    · have hft : f ≠ t := fun e => hv (by rw [e])
      have hm : moreS s.L f t = ((old s.L f).data.size : Int) - (old s.L t).data.size := by
        unfold moreS
        rw [if_neg hv]
        rcases kind_le s.L t with k | k | k
        · have ho : old s.L t = mk t := by
            unfold old
            cases hx : find s.L t with
            | none => rfl
            | some x =>
              unfold kind at k
              rw [hx] at k
              unfold kindOf at k
              simp only at k
              split at k <;> cases k
          rw [if_neg (by omega), ho]
          rfl
        · exact absurd k h6
        · rw [if_pos k]
      rw [hm]
      constructor
      · rintro ⟨_, h⟩
        refine ⟨hv, ?_⟩
        cases hb : full s (vol t) (((old s.L f).data.size : Int) - (old s.L t).data.size) with
        | true => rfl
        | false => rw [hb] at h; cases h
      · rintro ⟨_, h⟩
        refine ⟨hft, ?_⟩
        rw [h]
        rfl
  by_cases h7 : f ≠ t ∧ fits s t (moreS s.L f t) = false
  · rw [if_pos h7, if_pos (e.1 h7), if_pos (by decide)]
  · rw [if_neg h7, if_neg (fun h => h7 (e.2 h))]
    rfl
theorem mayRen_ok {s : St} {f t : ByteArray} (h : mayRenS s f t = 0) : s.down = false ∧ kind s.L f = 2 := by
  unfold mayRenS at h
  split at h
  · rename_i h1; exact absurd h h1
  rename_i h1
  split at h
  · cases h
  rename_i h2
  split at h
  · cases h
  split at h
  · cases h
  rename_i h3
  have hf : first s f 1 = 0 := by
    unfold firstR at h1
    by_cases hq : first s f 1 = 0
    · exact hq
    · rw [if_pos hq] at h1
      omega
  refine ⟨first_down hf, ?_⟩
  rcases kind_le s.L f with e | e | e
  · exact absurd e h2
  · exact absurd e h3
  · exact e

set_option maxRecDepth 100000 in
set_option maxHeartbeats 2000000 in
theorem iMkdir_any (b bi bl : Nat) (l : Int) (s : St) (p : ByteArray) (w : World) (h : Ia b bi bl l w s) (hg : Good s) (ok : Ok s) (hp : p.size ≤ 8000000000000) :
    Calls Tryz.prog 14 #[.pointer (some ⟨b, 0, none⟩), .string p] w fun e w' => e = .returned (.int .i64 ((mkdirS s p).1 : Nat)) ∧ Ip b bi bl w (mkdirS s p).2 w' := by
  have hft := h.lt
  have hn := ok.fit.1
  have hst : (done s).2.stamps ≤ 1000000000000 := by rw [done_stamps]; exact ok.stamps
  have eL := done_L s
  rw [mkdir_step]
  obtain ⟨S', hS'⟩ : ∃ S', S' = { (done s).2 with L := ins (done s).2.L ⟨p, true, ⟨#[]⟩, ⟨#[]⟩, false, false, 0⟩ } := ⟨_, rfl⟩
  rw [← hS']
  have hb1 := (Below.refl w.heap.size w).alloc (Nat.le_refl _) (.cells #[.pointer (some ⟨b, 0, none⟩)] 23)
  have k1 := cap_new w (.pointer (some ⟨b, 0, none⟩)) 23
  have k2 := cap_new (w.alloc (.cells #[.pointer (some ⟨b, 0, none⟩)] 23)) (.string p) 9
  have hs1 : (w.alloc (.cells #[.pointer (some ⟨b, 0, none⟩)] 23)).heap.size = w.heap.size + 1 := by simp
  rw [hs1] at k2
  have hb2 := hb1.alloc (by simp) (.cells #[.string p] 9)
  have k1 := cap_below k1 ((Below.refl _ _).alloc (Nat.le_refl _) (.cells #[.string p] 9))
  obtain ⟨W1, hW1⟩ : ∃ W1, W1 = ((w.alloc (.cells #[.pointer (some ⟨b, 0, none⟩)] 23)).alloc (.cells #[.string p] 9)) := ⟨_, rfl⟩
  rw [← hW1] at k1 k2 hb2
  have hb3 : Below w.heap.size w W1.drew := hb2.drew
  have cm := iMayMkdir_any b bi bl l s p W1.drew (h.below hb3) hp
  have hen : ∀ W, (callFunc 46 #[.pointer (some ⟨w.heap.size, 0, none⟩), .pointer (some ⟨w.heap.size + 1, 0, none⟩)]).run Tryz.prog W = .ok (.enter 46 #[.pointer (some ⟨w.heap.size, 0, none⟩), .pointer (some ⟨w.heap.size + 1, 0, none⟩)]) W :=
    fun W => Rg.enters Tryz.func46 (by kernel_rfl) (by kernel_rfl) _ W
  have ct : ∀ W, Below W1.heap.size W1 W → Calls Tryz.prog 44 #[.pointer (some ⟨b, 0, none⟩), .int .i64 (mayMkdirS s p : Nat), .func (.func 46) #[] #[.pointer (some ⟨w.heap.size, 0, none⟩), .pointer (some ⟨w.heap.size + 1, 0, none⟩)]] W fun e w' => e = .returned (.int .i64 ((stepR s (mayMkdirS s p) S').1 : Nat)) ∧
      (Ip b bi bl w (stepR s (mayMkdirS s p) S').2 w' ∧ Cap w' w.heap.size (.pointer (some ⟨b, 0, none⟩)) ∧ Cap w' (w.heap.size + 1) (.string p)) := by
    intro W hW
    have hbW := below_call hb2 hW
    have j1 := cap_below k1 hW
    have j2 := cap_below k2 hW
    have hnf : ∀ k, ¬ Ft b bi bl (w.heap.size + k) := fun k hk => by have := hft _ hk; omega
    refine (iStep_any b bi bl l s _ _ _ S' W (h.below hbW) (fun e => mayMkdir_down e) ok.steps hen (fun l1 W2 hr _ hI hc => ?_)).mono ?_
    · have m1 := cap_chg j1 hc (fun e => by have := hft b (.inl rfl); omega)
      have m2 := cap_chg j2 hc (fun e => by have := hft b (.inl rfl); omega)
      rw [hS']
      exact iMkdirC_any b bi bl _ _ l1 _ p W2 hI m1 m2 hp (by rw [eL]; exact hn)
    · rintro e w' ⟨rfl, l5, h5, hc5⟩
      exact ⟨rfl, ⟨l5, h5, (Chg.of_below hbW).then hc5⟩, cap_chg j1 hc5 (hnf 0), cap_chg j2 hc5 (hnf 1)⟩
  generalize stepR s (mayMkdirS s p) S' = RES at ct ⊢
  generalize mayMkdirS s p = r at cm ct
  have HW1 := Lib.hid hW1
  clear h hg ok hS' hst eL hn hft hb1 hb2 hb3 hen
  go_enter Tryz.func14, Tryz.ntmps14
  go_wp2_with fail
  rw [← HW1.out]
  refine Rg.wp_only ?_ (regMkdir _ (by kernel_rfl) _ w.heap.size (w.heap.size + 1) (.pointer (some ⟨b, 0, none⟩)) p r RES.1 W1 (fun W => Below W1.heap.size W1 W) (fun W => Ip b bi bl w RES.2 W ∧ Cap W w.heap.size (.pointer (some ⟨b, 0, none⟩)) ∧ Cap W (w.heap.size + 1) (.string p)) ⟨k1, k2⟩ (cm.mono (fun e w' he => ⟨he.1, (Below.refl _ W1).drew.trans he.2⟩)) (fun W hW => ⟨cap_below k1 hW, cap_below k2 hW⟩) ct (fun W hW => hW.2))
  rintro _ w9 ⟨rfl, h9⟩
  go_wp2_with fail
  go_ret
  exact ⟨rfl, h9.1⟩

set_option maxRecDepth 100000 in
set_option maxHeartbeats 2000000 in
theorem iWrite_any (b bi bl : Nat) (l : Int) (s : St) (p q : ByteArray) (w : World) (h : Ia b bi bl l w s) (hg : Good s) (ok : Ok s) (hp : p.size ≤ 8000000000000) (hq : q.size ≤ 1000000000000000000) :
    Calls Tryz.prog 15 #[.pointer (some ⟨b, 0, none⟩), .string p, .string q] w fun e w' => e = .returned (.int .i64 ((writeS s p q).1 : Nat)) ∧ Ip b bi bl w (writeS s p q).2 w' := by
  have hft := h.lt
  have hn := ok.fit.1
  have hst : (done s).2.stamps ≤ 1000000000000 := by rw [done_stamps]; exact ok.stamps
  have eL := done_L s
  rw [write_step hg]
  obtain ⟨S', hS'⟩ : ∃ S', S' = putS (done s).2 { old s.L p with data := q, loose := true, anew := true } := ⟨_, rfl⟩
  rw [← hS']
  have hb1 := (Below.refl w.heap.size w).alloc (Nat.le_refl _) (.cells #[.pointer (some ⟨b, 0, none⟩)] 23)
  have k1 := cap_new w (.pointer (some ⟨b, 0, none⟩)) 23
  have k2 := cap_new (w.alloc (.cells #[.pointer (some ⟨b, 0, none⟩)] 23)) (.string p) 9
  have hs1 : (w.alloc (.cells #[.pointer (some ⟨b, 0, none⟩)] 23)).heap.size = w.heap.size + 1 := by simp
  rw [hs1] at k2
  have hb2 := hb1.alloc (by simp) (.cells #[.string p] 9)
  have k1 := cap_below k1 ((Below.refl _ _).alloc (Nat.le_refl _) (.cells #[.string p] 9))
  have k3 := cap_new ((w.alloc (.cells #[.pointer (some ⟨b, 0, none⟩)] 23)).alloc (.cells #[.string p] 9)) (.string q) 9
  have hs2 : ((w.alloc (.cells #[.pointer (some ⟨b, 0, none⟩)] 23)).alloc (.cells #[.string p] 9)).heap.size = w.heap.size + 1 + 1 := by simp
  rw [hs2] at k3
  have hb2 := hb2.alloc (by simp; omega) (.cells #[.string q] 9)
  have k1 := cap_below k1 ((Below.refl _ _).alloc (Nat.le_refl _) (.cells #[.string q] 9))
  have k2 := cap_below k2 ((Below.refl _ _).alloc (Nat.le_refl _) (.cells #[.string q] 9))
  obtain ⟨W1, hW1⟩ : ∃ W1, W1 = ((w.alloc (.cells #[.pointer (some ⟨b, 0, none⟩)] 23)).alloc (.cells #[.string p] 9)).alloc (.cells #[.string q] 9) := ⟨_, rfl⟩
  rw [← hW1] at k1 k2 k3 hb2
  have hb3 : Below w.heap.size w W1.drew := hb2.drew
  have cm := iMayWrite_any b bi bl l s p q W1.drew (h.below hb3) hg.rises ok.fit hp hq
  have hen : ∀ W, (callFunc 48 #[.pointer (some ⟨w.heap.size, 0, none⟩), .pointer (some ⟨w.heap.size + 1, 0, none⟩), .pointer (some ⟨w.heap.size + 1 + 1, 0, none⟩)]).run Tryz.prog W = .ok (.enter 48 #[.pointer (some ⟨w.heap.size, 0, none⟩), .pointer (some ⟨w.heap.size + 1, 0, none⟩), .pointer (some ⟨w.heap.size + 1 + 1, 0, none⟩)]) W :=
    fun W => Rg.enters Tryz.func48 (by kernel_rfl) (by kernel_rfl) _ W
  have ct : ∀ W, Below W1.heap.size W1 W → Calls Tryz.prog 44 #[.pointer (some ⟨b, 0, none⟩), .int .i64 (mayWriteS s p q : Nat), .func (.func 48) #[] #[.pointer (some ⟨w.heap.size, 0, none⟩), .pointer (some ⟨w.heap.size + 1, 0, none⟩), .pointer (some ⟨w.heap.size + 1 + 1, 0, none⟩)]] W fun e w' => e = .returned (.int .i64 ((stepR s (mayWriteS s p q) S').1 : Nat)) ∧
      (Ip b bi bl w (stepR s (mayWriteS s p q) S').2 w' ∧ Cap w' w.heap.size (.pointer (some ⟨b, 0, none⟩)) ∧ Cap w' (w.heap.size + 1) (.string p) ∧ Cap w' (w.heap.size + 1 + 1) (.string q)) := by
    intro W hW
    have hbW := below_call hb2 hW
    have j1 := cap_below k1 hW
    have j2 := cap_below k2 hW
    have j3 := cap_below k3 hW
    have hnf : ∀ k, ¬ Ft b bi bl (w.heap.size + k) := fun k hk => by have := hft _ hk; omega
    refine (iStep_any b bi bl l s _ _ _ S' W (h.below hbW) (fun e => (mayWrite_ok e).1) ok.steps hen (fun l1 W2 hr _ hI hc => ?_)).mono ?_
    · have m1 := cap_chg j1 hc (fun e => by have := hft b (.inl rfl); omega)
      have m2 := cap_chg j2 hc (fun e => by have := hft b (.inl rfl); omega)
      have m3 := cap_chg j3 hc (fun e => by have := hft b (.inl rfl); omega)
      rw [hS']
      have c9 := iWriteC_any b bi bl _ _ _ l1 _ p q W2 hI m1 m2 m3 hp (by rw [eL]; exact hn) hst (by rw [eL]; exact old_dir (mayWrite_ok hr).2)
      rw [eL] at c9
      exact c9
    · rintro e w' ⟨rfl, l5, h5, hc5⟩
      exact ⟨rfl, ⟨l5, h5, (Chg.of_below hbW).then hc5⟩, cap_chg j1 hc5 (hnf 0), cap_chg j2 hc5 (hnf 1), cap_chg j3 hc5 (hnf 2)⟩
  generalize stepR s (mayWriteS s p q) S' = RES at ct ⊢
  generalize mayWriteS s p q = r at cm ct
  have HW1 := Lib.hid hW1
  clear h hg ok hS' hst eL hn hft hb1 hb2 hb3 hen
  go_enter Tryz.func15, Tryz.ntmps15
  go_wp2_with fail
  rw [← HW1.out]
  refine Rg.wp_only ?_ (regWrite _ (by kernel_rfl) _ w.heap.size (w.heap.size + 1) (w.heap.size + 1 + 1) (.pointer (some ⟨b, 0, none⟩)) p q r RES.1 W1 (fun W => Below W1.heap.size W1 W) (fun W => Ip b bi bl w RES.2 W ∧ Cap W w.heap.size (.pointer (some ⟨b, 0, none⟩)) ∧ Cap W (w.heap.size + 1) (.string p) ∧ Cap W (w.heap.size + 1 + 1) (.string q)) ⟨k1, k2, k3⟩ (cm.mono (fun e w' he => ⟨he.1, (Below.refl _ W1).drew.trans he.2⟩)) (fun W hW => ⟨cap_below k1 hW, cap_below k2 hW, cap_below k3 hW⟩) ct (fun W hW => hW.2))
  rintro _ w9 ⟨rfl, h9⟩
  go_wp2_with fail
  go_ret
  exact ⟨rfl, h9.1⟩

set_option maxRecDepth 100000 in
set_option maxHeartbeats 2000000 in
theorem iAppend_any (b bi bl : Nat) (l : Int) (s : St) (p q : ByteArray) (w : World) (h : Ia b bi bl l w s) (hg : Good s) (ok : Ok s) (hp : p.size ≤ 8000000000000) (hq : q.size ≤ 100000000000000) (hsz : (old s.L p).data.size + q.size ≤ 100000000000000) :
    Calls Tryz.prog 21 #[.pointer (some ⟨b, 0, none⟩), .string p, .string q] w fun e w' => e = .returned (.int .i64 ((appendS s p q).1 : Nat)) ∧ Ip b bi bl w (appendS s p q).2 w' := by
  have hft := h.lt
  have hn := ok.fit.1
  have hst : (done s).2.stamps ≤ 1000000000000 := by rw [done_stamps]; exact ok.stamps
  have eL := done_L s
  rw [append_step hg]
  obtain ⟨S', hS'⟩ : ∃ S', S' = putS (done s).2 { old s.L p with data := (old s.L p).data ++ q, loose := true } := ⟨_, rfl⟩
  rw [← hS']
  have hb1 := (Below.refl w.heap.size w).alloc (Nat.le_refl _) (.cells #[.pointer (some ⟨b, 0, none⟩)] 23)
  have k1 := cap_new w (.pointer (some ⟨b, 0, none⟩)) 23
  have k2 := cap_new (w.alloc (.cells #[.pointer (some ⟨b, 0, none⟩)] 23)) (.string p) 9
  have hs1 : (w.alloc (.cells #[.pointer (some ⟨b, 0, none⟩)] 23)).heap.size = w.heap.size + 1 := by simp
  rw [hs1] at k2
  have hb2 := hb1.alloc (by simp) (.cells #[.string p] 9)
  have k1 := cap_below k1 ((Below.refl _ _).alloc (Nat.le_refl _) (.cells #[.string p] 9))
  have k3 := cap_new ((w.alloc (.cells #[.pointer (some ⟨b, 0, none⟩)] 23)).alloc (.cells #[.string p] 9)) (.string q) 9
  have hs2 : ((w.alloc (.cells #[.pointer (some ⟨b, 0, none⟩)] 23)).alloc (.cells #[.string p] 9)).heap.size = w.heap.size + 1 + 1 := by simp
  rw [hs2] at k3
  have hb2 := hb2.alloc (by simp; omega) (.cells #[.string q] 9)
  have k1 := cap_below k1 ((Below.refl _ _).alloc (Nat.le_refl _) (.cells #[.string q] 9))
  have k2 := cap_below k2 ((Below.refl _ _).alloc (Nat.le_refl _) (.cells #[.string q] 9))
  obtain ⟨W1, hW1⟩ : ∃ W1, W1 = ((w.alloc (.cells #[.pointer (some ⟨b, 0, none⟩)] 23)).alloc (.cells #[.string p] 9)).alloc (.cells #[.string q] 9) := ⟨_, rfl⟩
  rw [← hW1] at k1 k2 k3 hb2
  have hb3 : Below w.heap.size w W1.drew := hb2.drew
  have cm := iMayAppend_any b bi bl l s p q W1.drew (h.below hb3) hg.rises ok.fit hp (by omega)
  have hen : ∀ W, (callFunc 61 #[.pointer (some ⟨w.heap.size, 0, none⟩), .pointer (some ⟨w.heap.size + 1, 0, none⟩), .pointer (some ⟨w.heap.size + 1 + 1, 0, none⟩)]).run Tryz.prog W = .ok (.enter 61 #[.pointer (some ⟨w.heap.size, 0, none⟩), .pointer (some ⟨w.heap.size + 1, 0, none⟩), .pointer (some ⟨w.heap.size + 1 + 1, 0, none⟩)]) W :=
    fun W => Rg.enters Tryz.func61 (by kernel_rfl) (by kernel_rfl) _ W
  have ct : ∀ W, Below W1.heap.size W1 W → Calls Tryz.prog 44 #[.pointer (some ⟨b, 0, none⟩), .int .i64 (mayAppendS s p q : Nat), .func (.func 61) #[] #[.pointer (some ⟨w.heap.size, 0, none⟩), .pointer (some ⟨w.heap.size + 1, 0, none⟩), .pointer (some ⟨w.heap.size + 1 + 1, 0, none⟩)]] W fun e w' => e = .returned (.int .i64 ((stepR s (mayAppendS s p q) S').1 : Nat)) ∧
      (Ip b bi bl w (stepR s (mayAppendS s p q) S').2 w' ∧ Cap w' w.heap.size (.pointer (some ⟨b, 0, none⟩)) ∧ Cap w' (w.heap.size + 1) (.string p) ∧ Cap w' (w.heap.size + 1 + 1) (.string q)) := by
    intro W hW
    have hbW := below_call hb2 hW
    have j1 := cap_below k1 hW
    have j2 := cap_below k2 hW
    have j3 := cap_below k3 hW
    have hnf : ∀ k, ¬ Ft b bi bl (w.heap.size + k) := fun k hk => by have := hft _ hk; omega
    refine (iStep_any b bi bl l s _ _ _ S' W (h.below hbW) (fun e => (mayAppend_ok e).1) ok.steps hen (fun l1 W2 hr _ hI hc => ?_)).mono ?_
    · have m1 := cap_chg j1 hc (fun e => by have := hft b (.inl rfl); omega)
      have m2 := cap_chg j2 hc (fun e => by have := hft b (.inl rfl); omega)
      have m3 := cap_chg j3 hc (fun e => by have := hft b (.inl rfl); omega)
      rw [hS']
      have c9 := iAppendC_any b bi bl _ _ _ l1 _ p q W2 hI m1 m2 m3 hp (by rw [eL]; exact hn) hst (by rw [eL]; exact (mayAppend_ok hr).2) (by rw [eL]; exact calm_old hg p) (by rw [eL]; exact hsz)
      rw [eL] at c9
      exact c9
    · rintro e w' ⟨rfl, l5, h5, hc5⟩
      exact ⟨rfl, ⟨l5, h5, (Chg.of_below hbW).then hc5⟩, cap_chg j1 hc5 (hnf 0), cap_chg j2 hc5 (hnf 1), cap_chg j3 hc5 (hnf 2)⟩
  generalize stepR s (mayAppendS s p q) S' = RES at ct ⊢
  generalize mayAppendS s p q = r at cm ct
  have HW1 := Lib.hid hW1
  clear h hg ok hS' hst eL hn hft hb1 hb2 hb3 hen
  go_enter Tryz.func21, Tryz.ntmps21
  go_wp2_with fail
  rw [← HW1.out]
  refine Rg.wp_only ?_ (regAppend _ (by kernel_rfl) _ w.heap.size (w.heap.size + 1) (w.heap.size + 1 + 1) (.pointer (some ⟨b, 0, none⟩)) p q r RES.1 W1 (fun W => Below W1.heap.size W1 W) (fun W => Ip b bi bl w RES.2 W ∧ Cap W w.heap.size (.pointer (some ⟨b, 0, none⟩)) ∧ Cap W (w.heap.size + 1) (.string p) ∧ Cap W (w.heap.size + 1 + 1) (.string q)) ⟨k1, k2, k3⟩ (cm.mono (fun e w' he => ⟨he.1, (Below.refl _ W1).drew.trans he.2⟩)) (fun W hW => ⟨cap_below k1 hW, cap_below k2 hW, cap_below k3 hW⟩) ct (fun W hW => hW.2))
  rintro _ w9 ⟨rfl, h9⟩
  go_wp2_with fail
  go_ret
  exact ⟨rfl, h9.1⟩

set_option maxRecDepth 100000 in
set_option maxHeartbeats 2000000 in
theorem iSync_any (b bi bl : Nat) (l : Int) (s : St) (p : ByteArray) (w : World) (h : Ia b bi bl l w s) (hg : Good s) (ok : Ok s) (hp : p.size ≤ 8000000000000) :
    Calls Tryz.prog 23 #[.pointer (some ⟨b, 0, none⟩), .string p] w fun e w' => e = .returned (.int .i64 ((syncS s p).1 : Nat)) ∧ Ip b bi bl w (syncS s p).2 w' := by
  have hft := h.lt
  have hn := ok.fit.1
  have hst : (done s).2.stamps ≤ 1000000000000 := by rw [done_stamps]; exact ok.stamps
  have eL := done_L s
  rw [sync_step]
  obtain ⟨S', hS'⟩ : ∃ S', S' = { (done s).2 with L := ins (done s).2.L { old s.L p with kept := (old s.L p).data, loose := false, anew := false } } := ⟨_, rfl⟩
  rw [← hS']
  have hb1 := (Below.refl w.heap.size w).alloc (Nat.le_refl _) (.cells #[.pointer (some ⟨b, 0, none⟩)] 23)
  have k1 := cap_new w (.pointer (some ⟨b, 0, none⟩)) 23
  have k2 := cap_new (w.alloc (.cells #[.pointer (some ⟨b, 0, none⟩)] 23)) (.string p) 9
  have hs1 : (w.alloc (.cells #[.pointer (some ⟨b, 0, none⟩)] 23)).heap.size = w.heap.size + 1 := by simp
  rw [hs1] at k2
  have hb2 := hb1.alloc (by simp) (.cells #[.string p] 9)
  have k1 := cap_below k1 ((Below.refl _ _).alloc (Nat.le_refl _) (.cells #[.string p] 9))
  obtain ⟨W1, hW1⟩ : ∃ W1, W1 = ((w.alloc (.cells #[.pointer (some ⟨b, 0, none⟩)] 23)).alloc (.cells #[.string p] 9)) := ⟨_, rfl⟩
  rw [← hW1] at k1 k2 hb2
  have hb3 : Below w.heap.size w W1.drew := hb2.drew
  have cm := iMaySync_any b bi bl l s p W1.drew (h.below hb3) hp
  have hen : ∀ W, (callFunc 64 #[.pointer (some ⟨w.heap.size, 0, none⟩), .pointer (some ⟨w.heap.size + 1, 0, none⟩)]).run Tryz.prog W = .ok (.enter 64 #[.pointer (some ⟨w.heap.size, 0, none⟩), .pointer (some ⟨w.heap.size + 1, 0, none⟩)]) W :=
    fun W => Rg.enters Tryz.func64 (by kernel_rfl) (by kernel_rfl) _ W
  have ct : ∀ W, Below W1.heap.size W1 W → Calls Tryz.prog 44 #[.pointer (some ⟨b, 0, none⟩), .int .i64 (there s p : Nat), .func (.func 64) #[] #[.pointer (some ⟨w.heap.size, 0, none⟩), .pointer (some ⟨w.heap.size + 1, 0, none⟩)]] W fun e w' => e = .returned (.int .i64 ((stepR s (there s p) S').1 : Nat)) ∧
      (Ip b bi bl w (stepR s (there s p) S').2 w' ∧ Cap w' w.heap.size (.pointer (some ⟨b, 0, none⟩)) ∧ Cap w' (w.heap.size + 1) (.string p)) := by
    intro W hW
    have hbW := below_call hb2 hW
    have j1 := cap_below k1 hW
    have j2 := cap_below k2 hW
    have hnf : ∀ k, ¬ Ft b bi bl (w.heap.size + k) := fun k hk => by have := hft _ hk; omega
    refine (iStep_any b bi bl l s _ _ _ S' W (h.below hbW) (fun e => (there_kind e).1) ok.steps hen (fun l1 W2 hr _ hI hc => ?_)).mono ?_
    · have m1 := cap_chg j1 hc (fun e => by have := hft b (.inl rfl); omega)
      have m2 := cap_chg j2 hc (fun e => by have := hft b (.inl rfl); omega)
      rw [hS']
      have c9 := iSyncC_any b bi bl _ _ l1 _ p W2 hI m1 m2 hp (by rw [eL]; exact hn) (by rw [eL]; exact (there_kind hr).2)
      rw [eL] at c9 ⊢
      exact c9
    · rintro e w' ⟨rfl, l5, h5, hc5⟩
      exact ⟨rfl, ⟨l5, h5, (Chg.of_below hbW).then hc5⟩, cap_chg j1 hc5 (hnf 0), cap_chg j2 hc5 (hnf 1)⟩
  generalize stepR s (there s p) S' = RES at ct ⊢
  generalize there s p = r at cm ct
  have HW1 := Lib.hid hW1
  clear h hg ok hS' hst eL hn hft hb1 hb2 hb3 hen
  go_enter Tryz.func23, Tryz.ntmps23
  go_wp2_with fail
  rw [← HW1.out]
  refine Rg.wp_only ?_ (regSync _ (by kernel_rfl) _ w.heap.size (w.heap.size + 1) (.pointer (some ⟨b, 0, none⟩)) p r RES.1 W1 (fun W => Below W1.heap.size W1 W) (fun W => Ip b bi bl w RES.2 W ∧ Cap W w.heap.size (.pointer (some ⟨b, 0, none⟩)) ∧ Cap W (w.heap.size + 1) (.string p)) ⟨k1, k2⟩ (cm.mono (fun e w' he => ⟨he.1, (Below.refl _ W1).drew.trans he.2⟩)) (fun W hW => ⟨cap_below k1 hW, cap_below k2 hW⟩) ct (fun W hW => hW.2))
  rintro _ w9 ⟨rfl, h9⟩
  go_wp2_with fail
  go_ret
  exact ⟨rfl, h9.1⟩

set_option maxRecDepth 100000 in
set_option maxHeartbeats 2000000 in
theorem iRename_any (b bi bl : Nat) (l : Int) (s : St) (p q : ByteArray) (w : World) (h : Ia b bi bl l w s) (hg : Good s) (ok : Ok s) (hp : p.size ≤ 8000000000000) (hq : q.size ≤ 8000000000000) :
    Calls Tryz.prog 16 #[.pointer (some ⟨b, 0, none⟩), .string p, .string q] w fun e w' => e = .returned (.int .i64 ((renameS s p q).1 : Nat)) ∧ Ip b bi bl w (renameS s p q).2 w' := by
  have hft := h.lt
  have hn := ok.fit.1
  have hst : (done s).2.stamps ≤ 1000000000000 := by rw [done_stamps]; exact ok.stamps
  have eL := done_L s
  rw [rename_step hg]
  obtain ⟨S', hS'⟩ : ∃ S', S' = putS { (done s).2 with L := drop (done s).2.L p } { old s.L p with path := q } := ⟨_, rfl⟩
  rw [← hS']
  have hb1 := (Below.refl w.heap.size w).alloc (Nat.le_refl _) (.cells #[.pointer (some ⟨b, 0, none⟩)] 23)
  have k1 := cap_new w (.pointer (some ⟨b, 0, none⟩)) 23
  have k2 := cap_new (w.alloc (.cells #[.pointer (some ⟨b, 0, none⟩)] 23)) (.string p) 9
  have hs1 : (w.alloc (.cells #[.pointer (some ⟨b, 0, none⟩)] 23)).heap.size = w.heap.size + 1 := by simp
  rw [hs1] at k2
  have hb2 := hb1.alloc (by simp) (.cells #[.string p] 9)
  have k1 := cap_below k1 ((Below.refl _ _).alloc (Nat.le_refl _) (.cells #[.string p] 9))
  have k3 := cap_new ((w.alloc (.cells #[.pointer (some ⟨b, 0, none⟩)] 23)).alloc (.cells #[.string p] 9)) (.string q) 9
  have hs2 : ((w.alloc (.cells #[.pointer (some ⟨b, 0, none⟩)] 23)).alloc (.cells #[.string p] 9)).heap.size = w.heap.size + 1 + 1 := by simp
  rw [hs2] at k3
  have hb2 := hb2.alloc (by simp; omega) (.cells #[.string q] 9)
  have k1 := cap_below k1 ((Below.refl _ _).alloc (Nat.le_refl _) (.cells #[.string q] 9))
  have k2 := cap_below k2 ((Below.refl _ _).alloc (Nat.le_refl _) (.cells #[.string q] 9))
  obtain ⟨W1, hW1⟩ : ∃ W1, W1 = ((w.alloc (.cells #[.pointer (some ⟨b, 0, none⟩)] 23)).alloc (.cells #[.string p] 9)).alloc (.cells #[.string q] 9) := ⟨_, rfl⟩
  rw [← hW1] at k1 k2 k3 hb2
  have hb3 : Below w.heap.size w W1.drew := hb2.drew
  have cm := iMayRename_any b bi bl l s p q W1.drew (h.below hb3) hg.rises ok.fit hp hq
  have hen : ∀ W, (callFunc 51 #[.pointer (some ⟨w.heap.size, 0, none⟩), .pointer (some ⟨w.heap.size + 1, 0, none⟩), .pointer (some ⟨w.heap.size + 1 + 1, 0, none⟩)]).run Tryz.prog W = .ok (.enter 51 #[.pointer (some ⟨w.heap.size, 0, none⟩), .pointer (some ⟨w.heap.size + 1, 0, none⟩), .pointer (some ⟨w.heap.size + 1 + 1, 0, none⟩)]) W :=
    fun W => Rg.enters Tryz.func51 (by kernel_rfl) (by kernel_rfl) _ W
  have ct : ∀ W, Below W1.heap.size W1 W → Calls Tryz.prog 44 #[.pointer (some ⟨b, 0, none⟩), .int .i64 (mayRenS s p q : Nat), .func (.func 51) #[] #[.pointer (some ⟨w.heap.size, 0, none⟩), .pointer (some ⟨w.heap.size + 1, 0, none⟩), .pointer (some ⟨w.heap.size + 1 + 1, 0, none⟩)]] W fun e w' => e = .returned (.int .i64 ((stepR s (mayRenS s p q) S').1 : Nat)) ∧
      (Ip b bi bl w (stepR s (mayRenS s p q) S').2 w' ∧ Cap w' w.heap.size (.pointer (some ⟨b, 0, none⟩)) ∧ Cap w' (w.heap.size + 1) (.string p) ∧ Cap w' (w.heap.size + 1 + 1) (.string q)) := by
    intro W hW
    have hbW := below_call hb2 hW
    have j1 := cap_below k1 hW
    have j2 := cap_below k2 hW
    have j3 := cap_below k3 hW
    have hnf : ∀ k, ¬ Ft b bi bl (w.heap.size + k) := fun k hk => by have := hft _ hk; omega
    refine (iStep_any b bi bl l s _ _ _ S' W (h.below hbW) (fun e => (mayRen_ok e).1) ok.steps hen (fun l1 W2 hr _ hI hc => ?_)).mono ?_
    · have m1 := cap_chg j1 hc (fun e => by have := hft b (.inl rfl); omega)
      have m2 := cap_chg j2 hc (fun e => by have := hft b (.inl rfl); omega)
      have m3 := cap_chg j3 hc (fun e => by have := hft b (.inl rfl); omega)
      rw [hS']
      have c9 := iRenameC_any b bi bl _ _ _ l1 _ p q W2 hI (by rw [eL]; exact hg.rises) m1 m2 m3 hp hq (by rw [eL]; exact hn) hst (by rw [eL]; exact (mayRen_ok hr).2)
      rw [eL] at c9 ⊢
      exact c9
    · rintro e w' ⟨rfl, l5, h5, hc5⟩
      exact ⟨rfl, ⟨l5, h5, (Chg.of_below hbW).then hc5⟩, cap_chg j1 hc5 (hnf 0), cap_chg j2 hc5 (hnf 1), cap_chg j3 hc5 (hnf 2)⟩
  generalize stepR s (mayRenS s p q) S' = RES at ct ⊢
  generalize mayRenS s p q = r at cm ct
  have HW1 := Lib.hid hW1
  clear h hg ok hS' hst eL hn hft hb1 hb2 hb3 hen
  go_enter Tryz.func16, Tryz.ntmps16
  go_wp2_with fail
  rw [← HW1.out]
  refine Rg.wp_only ?_ (regRename _ (by kernel_rfl) _ w.heap.size (w.heap.size + 1) (w.heap.size + 1 + 1) (.pointer (some ⟨b, 0, none⟩)) p q r RES.1 W1 (fun W => Below W1.heap.size W1 W) (fun W => Ip b bi bl w RES.2 W ∧ Cap W w.heap.size (.pointer (some ⟨b, 0, none⟩)) ∧ Cap W (w.heap.size + 1) (.string p) ∧ Cap W (w.heap.size + 1 + 1) (.string q)) ⟨k1, k2, k3⟩ (cm.mono (fun e w' he => ⟨he.1, (Below.refl _ W1).drew.trans he.2⟩)) (fun W hW => ⟨cap_below k1 hW, cap_below k2 hW, cap_below k3 hW⟩) ct (fun W hW => hW.2))
  rintro _ w9 ⟨rfl, h9⟩
  go_wp2_with fail
  go_ret
  exact ⟨rfl, h9.1⟩
end Go.Proofs.YtcbnpdognadilaaGreat.Dk

/- The library's contracts, laid at this program (made by the kit's own commands). -/
namespace Go.Proofs
open Go.Shelf
def Tryz.sortS_ren : Go.Shelf.Ren := ⟨fun | 190 => 88 | 125 => 96 | 258 => 95 | 128 => 109 | 129 => 110 | 302 => 100 | 303 => 101 | 304 => 102 | 305 => 103 | 306 => 104 | 307 => 105 | 308 => 106 | 309 => 107 | 310 => 108 | 333 => 120 | 329 => 121 | 330 => 122 | 334 => 123 | 335 => 124 | 336 => 125 | 344 => 129 | n => n, fun | 31 => 59 | 9 => 9 | 3 => 3 | 46 => 89 | 0 => 0 | 51 => 103 | 53 => 79 | 4 => 4 | 183 => 96 | 182 => 95 | 131 => 91 | 5 => 5 | 218 => 106 | 222 => 110 | 228 => 114 | 229 => 115 | n => n, fun | n => n⟩
theorem Tryz.sortS : Go.Proofs.Lays.n190 Tryz.prog Tryz.sortS_ren := {
  mixed := by kernel_rfl
  f125 := Tryz.func96.trans (congrArg some (by kernel_rfl))
  f128 := Tryz.func109.trans (congrArg some (by kernel_rfl))
  f129 := Tryz.func110.trans (congrArg some (by kernel_rfl))
  f190 := Tryz.func88.trans (congrArg some (by kernel_rfl))
  f258 := Tryz.func95.trans (congrArg some (by kernel_rfl))
  f302 := Tryz.func100.trans (congrArg some (by kernel_rfl))
  f303 := Tryz.func101.trans (congrArg some (by kernel_rfl))
  f304 := Tryz.func102.trans (congrArg some (by kernel_rfl))
  f305 := Tryz.func103.trans (congrArg some (by kernel_rfl))
  f306 := Tryz.func104.trans (congrArg some (by kernel_rfl))
  f307 := Tryz.func105.trans (congrArg some (by kernel_rfl))
  f308 := Tryz.func106.trans (congrArg some (by kernel_rfl))
  f309 := Tryz.func107.trans (congrArg some (by kernel_rfl))
  f310 := Tryz.func108.trans (congrArg some (by kernel_rfl))
  f329 := Tryz.func121.trans (congrArg some (by kernel_rfl))
  f330 := Tryz.func122.trans (congrArg some (by kernel_rfl))
  f333 := Tryz.func120.trans (congrArg some (by kernel_rfl))
  f334 := Tryz.func123.trans (congrArg some (by kernel_rfl))
  f335 := Tryz.func124.trans (congrArg some (by kernel_rfl))
  f336 := Tryz.func125.trans (congrArg some (by kernel_rfl))
  f344 := Tryz.func129.trans (congrArg some (by kernel_rfl))
  t0 := Tryz.underlying0
  a0 := Tryz.isAgg0
  z0 := Tryz.sizeOf0
  v0 := Tryz.zeroValue0
  t3 := Tryz.underlying3
  a3 := Tryz.isAgg3
  z3 := Tryz.sizeOf3
  v3 := Tryz.zeroValue3
  t4 := Tryz.underlying4
  a4 := Tryz.isAgg4
  z4 := Tryz.sizeOf4
  v4 := Tryz.zeroValue4
  t5 := Tryz.underlying5
  a5 := Tryz.isAgg5
  z5 := Tryz.sizeOf5
  v5 := Tryz.zeroValue5
  t9 := Tryz.underlying9
  a9 := Tryz.isAgg9
  z9 := Tryz.sizeOf9
  v9 := Tryz.zeroValue9
  t31 := Tryz.underlying59
  a31 := Tryz.isAgg59
  z31 := Tryz.sizeOf59
  v31 := Tryz.zeroValue59
  t46 := Tryz.underlying89
  a46 := Tryz.isAgg89
  z46 := Tryz.sizeOf89
  v46 := Tryz.zeroValue89
  t51 := Tryz.underlying103
  a51 := Tryz.isAgg103
  z51 := Tryz.sizeOf103
  v51 := Tryz.zeroValue103
  t53 := Tryz.underlying79
  a53 := Tryz.isAgg79
  z53 := Tryz.sizeOf79
  v53 := Tryz.zeroValue79
  t131 := Tryz.underlying91
  a131 := Tryz.isAgg91
  z131 := Tryz.sizeOf91
  v131 := Tryz.zeroValue91
  t182 := Tryz.underlying95
  a182 := Tryz.isAgg95
  z182 := Tryz.sizeOf95
  v182 := Tryz.zeroValue95
  t183 := Tryz.underlying96
  a183 := Tryz.isAgg96
  z183 := Tryz.sizeOf96
  v183 := Tryz.zeroValue96
  t218 := Tryz.underlying106
  a218 := Tryz.isAgg106
  z218 := Tryz.sizeOf106
  v218 := Tryz.zeroValue106
  t222 := Tryz.underlying110
  a222 := Tryz.isAgg110
  z222 := Tryz.sizeOf110
  v222 := Tryz.zeroValue110
  t228 := Tryz.underlying114
  a228 := Tryz.isAgg114
  z228 := Tryz.sizeOf114
  v228 := Tryz.zeroValue114
  t229 := Tryz.underlying115
  a229 := Tryz.isAgg115
  z229 := Tryz.sizeOf115
  v229 := Tryz.zeroValue115 }
end Go.Proofs

/- The library's sort of texts, at this program. -/
namespace Go.Proofs.YtcbnpdognadilaaGreat.Dk
open Go.RowKit Tx Pm Go.Sort Go.Lib Go.Shelf
set_option linter.unusedVariables false

theorem rising_perm : ∀ {ts l : List ByteArray}, ts.Perm l → ts.Pairwise (fun a b => Op.bytesLess b.toList a.toList = false) → l.Pairwise (fun a b => Op.bytesLess a.toList b.toList = true) → ts = l
  | ts, [], hp, _, _ => hp.eq_nil
  | [], x :: l, hp, _, _ => absurd hp.symm.eq_nil (by simp)
  | y :: t, x :: l, hp, h1, h2 => by
    obtain ⟨a1, a2⟩ := List.pairwise_cons.1 h1
    obtain ⟨b1, b2⟩ := List.pairwise_cons.1 h2
    have hyx : y = x := by
      rcases List.mem_cons.1 (hp.mem_iff.1 (List.mem_cons_self : y ∈ y :: t)) with e | hy
      · exact e
      · rcases List.mem_cons.1 (hp.mem_iff.2 (List.mem_cons_self : x ∈ x :: l)) with e | hx
        · exact e.symm
        · have := a1 x hx
          rw [b1 y hy] at this
          cases this
    subst hyx
    rw [rising_perm (List.Perm.cons_inv hp) a2 b2]
theorem less_iffS (a b : ByteArray) : Op.bytesLess a.toList b.toList = decide (a.data.toList < b.data.toList) := by
  rw [bytesLess_eq, ByteArray.toList_eq, ByteArray.toList_eq]
theorem merge_sortedS (l : List (List UInt8)) : (l.mergeSort fun x y => decide (x ≤ y)).Pairwise (fun a b => ¬ b < a) := by
  have h := List.pairwise_mergeSort (le := fun x y : List UInt8 => decide (x ≤ y)) (fun a b c h1 h2 => decide_eq_true (List.le_trans (of_decide_eq_true h1) (of_decide_eq_true h2))) (fun a b => by
    rcases List.le_total a b with h | h
    · simp [h]
    · simp [h]) l
  exact h.imp (fun hab => of_decide_eq_true hab)
theorem encSS (l : List ByteArray) : (l.map (·.data.toList)).map encStr = l.map sv := by
  rw [List.map_map]
  refine List.map_congr_left (fun x _ => ?_)
  rfl
theorem encTS (l : List (List UInt8)) : l.map encStr = (l.map tb).map sv := by
  rw [List.map_map]
  rfl
theorem below_sortSS {w : World} {B g q : Nat} {d : Array (List UInt8)} {os : Array Obj} (hg : B ≤ g) (hB : B ≤ w.heap.size) : RowKit.Below B w (grow (putRow encStr (Sort.ahead w q) g 0 d) os) := by
  have h1 : RowKit.Below B w (putRow encStr (Sort.ahead w q) g 0 d) := Lib.below_putRow (RowKit.Below.refl B w) hg
  refine ⟨h1.os, h1.tape, h1.output, by simp, fun k hk => ?_⟩
  rw [heap_grow_old _ _ (by have h2 : (putRow encStr (Sort.ahead w q) g 0 d).heap.size = w.heap.size := by simp
                            omega)]
  exact h1.block k hk
set_option maxRecDepth 100000 in
set_option maxHeartbeats 1000000 in
theorem sortS_any (v : Value) (ss : List ByteArray) (w : World) (B : Nat) (hT : Texts w B v ss) (hB : B ≤ w.heap.size) (hn : ss.length ≤ 4000000000) :
    Calls Tryz.prog 88 #[v] w fun e w' => e = .returned (.tuple #[]) ∧ ∃ ts : List ByteArray, ts.Perm ss ∧ ts.Pairwise (fun a b => Op.bytesLess b.toList a.toList = false) ∧ Texts w' B v ts ∧ RowKit.Below B w w' := by
  have hT2 := hT
  obtain ⟨hlen, h2⟩ := hT2
  rcases h2 with ⟨hv, h0⟩ | ⟨g, cap, cur, hv, hb, hg, hc, hm, hs, ht⟩
  · subst hv
    obtain rfl : ss = [] := List.length_eq_zero_iff.1 h0
    have h := Any.slices_Sort_string_none Tryz.sortS none 0 w
    change Calls Tryz.prog 88 _ _ _ at h
    refine h.mono ?_
    rintro e w' ⟨rfl, rfl⟩
    exact ⟨rfl, [], List.Perm.refl _, List.Pairwise.nil, hT, RowKit.Below.refl _ _⟩
  · subst hv
    have hlt : g < w.heap.size := (Array.getElem?_eq_some_iff.1 hg).1
    obtain ⟨zs, hz⟩ : ∃ zs, zs = ss.map (·.data.toList) := ⟨_, rfl⟩
    have hzl : zs.length = ss.length := by rw [hz, List.length_map]
    have hH : Holds encStr w g 0 zs.toArray := holds_of_block hg (by
      rw [Nat.mul_one] at ht
      rw [hzl, ht, hz, encSS])
    have h := Any.slices_Sort_string Tryz.sortS g 0 cap zs w hH hlt (by omega)
    change Calls Tryz.prog 88 _ _ _ at h
    rw [hzl] at h
    refine h.mono ?_
    rintro e w' ⟨rfl, q, os, rfl⟩
    have hml : (zs.mergeSort fun x y => decide (x ≤ y)).length = zs.length := List.length_mergeSort zs
    refine ⟨rfl, (zs.mergeSort fun x y => decide (x ≤ y)).map tb, ?_, ?_, ?_, below_sortSS hb hB⟩
    · have h1 := (List.mergeSort_perm zs (fun x y => decide (x ≤ y))).map tb
      have h2 : zs.map tb = ss := by
        rw [hz, List.map_map]
        conv => rhs; rw [← List.map_id ss]
        exact List.map_congr_left (fun x _ => tb_of x)
      rwa [h2] at h1
    · rw [List.pairwise_map]
      refine (merge_sortedS zs).imp (fun hab => ?_)
      rw [less_iffS]
      exact decide_eq_false hab
    · have h1 := ownsRow_sorted (ss := zs) (ts := zs.mergeSort fun x y => decide (x ≤ y)) (n := q) (os := os) hml hb hg (by rw [hzl]; exact hc) hm hs
      unfold Texts
      rw [List.length_map, hml, ← encTS, hzl]
      rw [hzl] at h1
      exact h1
end Go.Proofs.YtcbnpdognadilaaGreat.Dk

/- Package disk's paths: the paths of the items that hold to a rule, rising. -/
namespace Go.Proofs.YtcbnpdognadilaaGreat.Dk
open Go.RowKit Tx Pm Pl Pr
set_option linter.unusedVariables false

theorem own_base {w : World} {B C n size : Nat} {e : TypeId} {v : Value} {xs : List Value} (h : w.ownsRow C e size v n xs) (hB : B ≤ C) : w.ownsRow B e size v n xs := by
  refine ⟨h.1, ?_⟩
  rcases h.2 with h0 | ⟨g, cap, cur, hv, hg, hh, r⟩
  · exact .inl h0
  · exact .inr ⟨g, cap, cur, hv, Nat.le_trans hB hg, hh, r⟩
theorem grown_below {w w1 : World} (h : Below w.heap.size w w1) : w.grownBy w1 none := ⟨h.os, h.tape, h.output, h.size, fun i hi _ => h.block i hi⟩
theorem own_belowT {w w1 : World} {B n size : Nat} {e : TypeId} {v : Value} {xs : List Value} (h : w.ownsRow B e size v n xs) (hb : Below w.heap.size w w1) : w1.ownsRow B e size v n xs := own_kept h (fun g hg => hb.block g (h.lt g hg).2)
def xv (x : It) : Value := .agg #[.int .i64 (kOf x), .string x.data, .string x.kept, .int .i64 (stOf x), .int .i64 x.stamp]
/-- The paths of those that hold to a rule. -/
def held (φ : It → Bool) (l : List It) : List ByteArray := (l.filter φ).map (·.path)
theorem held_cons (φ : It → Bool) (x : It) (l : List It) : held φ (x :: l) = (if φ x = true then [x.path] else []) ++ held φ l := by
  unfold held
  cases h : φ x <;> simp [h]
theorem held_perm {φ : It → Bool} {a b : List It} (h : a.Perm b) : (held φ a).Perm (held φ b) := (h.filter φ).map _
theorem held_rises {φ : It → Bool} {l : List It} (h : Rises l) : (held φ l).Pairwise (fun a b => Op.bytesLess a.toList b.toList = true) := by
  unfold held
  rw [List.pairwise_map]
  exact List.Pairwise.filter _ h
theorem held_len (φ : It → Bool) (l : List It) : (held φ l).length ≤ l.length := by
  unfold held
  rw [List.length_map]
  exact List.length_filter_le _ _
set_option maxRecDepth 100000 in
set_option maxHeartbeats 2000000 in
theorem iPaths_any (b bi bl : Nat) (l : Int) (s : St) (f : FuncId) (cap : Array Value) (φ : It → Bool) (w : World) (h : Ia b bi bl l w s) (hR : Rises s.L) (hn : s.L.length ≤ 1000000000) (hps : ∀ x ∈ s.L, x.path.size ≤ 8000000000000)
    (hen : ∀ a1 a2 W, (callFunc f (#[a1, a2] ++ cap)).run Tryz.prog W = .ok (.enter f (#[a1, a2] ++ cap)) W)
    (cf : ∀ W x, Below w.heap.size w W → x ∈ s.L → Calls Tryz.prog f (#[.string x.path, .agg #[.int .i64 (kOf x), .string x.data, .string x.kept, .int .i64 (stOf x), .int .i64 x.stamp]] ++ cap) W fun e w' => e = .returned (.bool (φ x)) ∧ Below W.heap.size W w') :
    Calls Tryz.prog 71 #[.pointer (some ⟨b, 0, none⟩), .func (.func f) #[] cap] w (ListTo (held φ s.L) w) := by
  obtain ⟨i0, hi, hz0, hz1, hz2⟩ := info_parts info9
  obtain ⟨c0, _⟩ := h.cell
  have hm := h.items
  go_enter Tryz.func71, Tryz.ntmps71
  go_wp2_with (at_range; refine range_items _ rfl _ rfl bi s.L rfl hm ?_; intro D w0 hD hrg0 hg0 hs0)
  go_frame
  have HD := Lib.hid hD
  have HR := Lib.hid hR
  have HP := Lib.hid hps
  have HF := Lib.hid cf
  have HH := Lib.hid (fun left => Nat.le_trans (held_len φ (came s.L left)) (List.Sublist.length_le (came_sub s.L left)))
  have hsm : w.heap.size < w0.heap.size := by omega
  have HS := Lib.hid hs0
  clear hD hR hps hs0 cf
  go_loopw [5] (fun v wr => ∃ (left : Lit → Bool) (cnt T : Nat) (out : List ByteArray), wr.ranges Tryz.prog 9 itemR bi w.heap.size s.L.length D left cnt ∧ Hid (out.Perm (held φ (came s.L left))) ∧ Hid (out.length = T) ∧ T ≤ 1000000000 ∧ wr.ownsRow (w.heap.size + 1) 9 1 v T (out.map sv) ∧ Below w.heap.size w wr ∧ w.heap.size < wr.heap.size) (fun _ wr => wr.rangeLeft bi w.heap.size)
  case atStart => exact ⟨_, _, 0, [], hrg0, by show List.Perm _ _; rw [came_start HD.out]; exact List.Perm.refl _, rfl, by omega, World.ownsRow_nil _ _ _ _, (Below.refl _ _).grown hg0 (Nat.le_refl _) (fun j hj => by cases hj), hsm⟩
  case round =>
    obtain ⟨left, cnt, T, out, hrg, hout, hlen, hT, hown, hB, hlt⟩ := hrel
    go_wp2_with (at_next; refine next_items _ rfl _ rfl bi w.heap.size s.L.length D left cnt s.L rfl hrg HD.out ?_ ?_)
    · intro hl
      have hp := hout.out
      rw [came_end s.L hl] at hp
      have hO : Texts wr w.heap.size _ out := own_toT (own_base hown (Nat.le_succ _)) hlen.out
      have hol : out.length ≤ 4000000000 := by rw [hlen.out]; omega
      have cs := sortS_any _ out wr w.heap.size hO hB.size hol
      have HPM := Lib.hid hp
      clear hl hp hO hrg h hout hlen hown hol
      go_wp2_with (go_at_call 88; refine cs.mono ?_; rintro e w5 ⟨rfl, ts, hts, hso, htx, hb5⟩)
      go_ret
      obtain rfl : ts = held φ s.L := rising_perm (hts.trans HPM.out) hso (held_rises HR.out)
      exact ⟨_, rfl, htx, hB.trans hb5⟩
    · intro x w1 cnt1 hx hlx hrg1 hlt1 hg1 hs1 hen1
      have hst := held_perm (φ := φ) (came_step hlx HR.out hx)
      rw [held_cons] at hst
      have hbd := HH.out (less left x.path)
      have hlen2 := hst.length_eq
      have hme : cnt1 < wr.rangeLeft bi w.heap.size := by rw [hrg.left_eq]; exact hlt1
      have hb1 : Below w.heap.size w w1 := below_grown hB hg1 (Nat.le_of_lt hlt) (Nat.le_refl _)
      have hs2 : w.heap.size < w1.heap.size := by omega
      have hrg2 := hrg1.alloc (.cells #[.int .i64 (kOf x), .string x.data, .string x.kept, .int .i64 (stOf x), .int .i64 x.stamp] 65)
      have hb3 := hb1.alloc (Nat.le_of_lt hs2) (.cells #[.int .i64 (kOf x), .string x.data, .string x.kept, .int .i64 (stOf x), .int .i64 x.stamp] 65)
      have cx := HF.out _ x hb3 hx
      have hown1 := hown.kept hg1 (.inr (fun e => by have := (hown.lt _ e).1; omega))
      have HME := Lib.hid hme
      have HS1 := Lib.hid hs1
      clear hs1
      cases hφ : φ x with
      | true =>
        rw [hφ] at cx
        rw [hφ, if_pos rfl, List.length_append, List.length_singleton] at hlen2
        rw [hφ, if_pos rfl] at hst
        have hT2 : T + 1 ≤ 1000000000 := by have := hout.out.length_eq; have := hlen.out; omega
        have hpm : (out ++ [x.path]).Perm (held φ (came s.L (less left x.path))) := (List.perm_append_comm.trans (hout.out.append_left [x.path])).trans hst.symm
        have HPM := Lib.hid hpm
        have HSZ := Lib.hid (show w.heap.size + 1 ≤ w1.heap.size by omega)
        have HLN := Lib.hid (show (out ++ [x.path]).length = T + 1 by rw [List.length_append, hlen.out]; rfl)
        have HB3 := Lib.hid hb3
        clear hst hlen2 hbd hlx hx hpm hout hlen hrg hrg1 hlt1 hg1 hme hown h
        go_wp2_with fail
        refine cx.mono ?_
        rintro e w5 ⟨rfl, hb5⟩
        have hown5 := own_belowT (hown1.alloc (.cells #[.int .i64 (kOf x), .string x.data, .string x.kept, .int .i64 (stOf x), .int .i64 x.stamp] 65)) hb5
        have hB5 := below_call HB3.out hb5
        have hrg5 := hrg2.kept (grown_below hb5) (by simp) (by simp)
        have hz5 : w1.heap.size + 1 ≤ w5.heap.size := by have := hb5.size; simpa using this
        have hS := HSZ.out
        go_wp2_with (at_builtin; refine wpList_append_own _ rfl _ _ 59 rfl (w.heap.size + 1) 9 i0 (.string ⟨#[]⟩) 1 16 Tryz.underlying59 hi hz0 hz1 hz2 rfl (by decide) _ _ _ rfl (hown5.alloc _) ⟨w5.heap.size, 0, none⟩ 1 1 [sv x.path] rfl rfl ?c1_2 ?c2_2 ?c3_2 ?c4_2 ?c5_2 ?_)
        case c1_2 => exact cell_one_new _ _ _
        case c2_2 => exact sv_one [x.path]
        case c3_2 => unfold maxLen; omega
        case c4_2 => omega
        case c5_2 => first | (simp; omega) | omega
        intro v' w6 hown' hgrow _
        have ho6 : w6.ownsRow (w.heap.size + 1) 9 1 v' (T + 1) ((out ++ [x.path]).map sv) := by
          rw [List.map_append]
          exact hown'
        have hB6 : Below w.heap.size w w6 := (hB5.alloc hB5.size _).grown hgrow (by have := hB5.size; simp; omega) (fun k hk => by have := (hown5.lt k hk).1; omega)
        have hlb : bi < w.heap.size := hm.lt
        have hrg6 := (hrg5.alloc (.cells #[.string x.path] 9)).kept hgrow (fun e => by have := (hown5.lt _ e.symm).1; omega) (fun e => by have := (hown5.lt _ e.symm).1; omega)
        have hle6 : w.heap.size < w6.heap.size := by have := hgrow.size; simp at this; omega
        have hme6 : w6.rangeLeft bi w.heap.size < wr.rangeLeft bi w.heap.size := by rw [hrg6.left_eq]; exact HME.out
        have HM6 := Lib.hid hme6
        have HO6 := Lib.hid ho6
        clear hown5 hrg5 hown' hgrow hme6 hown1 hrg2 ho6
        go_wp2_with fail
        go_roundw
        case rel => exact ⟨less left x.path, cnt1, T + 1, out ++ [x.path], hrg6, HPM, HLN, hT2, HO6.out, hB6, hle6⟩
        case measure => exact HM6.out
      | false =>
        rw [hφ] at cx
        rw [hφ, if_neg (by decide), List.nil_append] at hst
        have hpm : out.Perm (held φ (came s.L (less left x.path))) := hout.out.trans hst.symm
        have HPM := Lib.hid hpm
        have HB3 := Lib.hid hb3
        clear hst hlen2 hbd hlx hx hpm hout hrg hrg1 hlt1 hg1 hme hown h
        go_wp2_with fail
        refine cx.mono ?_
        rintro e w5 ⟨rfl, hb5⟩
        have hown5 := own_belowT (hown1.alloc (.cells #[.int .i64 (kOf x), .string x.data, .string x.kept, .int .i64 (stOf x), .int .i64 x.stamp] 65)) hb5
        have hB5 := below_call HB3.out hb5
        have hrg5 := hrg2.kept (grown_below hb5) (by simp) (by simp)
        have hz5 : w1.heap.size + 1 ≤ w5.heap.size := by have := hb5.size; simpa using this
        have hme5 : w5.rangeLeft bi w.heap.size < wr.rangeLeft bi w.heap.size := by rw [hrg5.left_eq]; exact HME.out
        have HM5 := Lib.hid hme5
        clear hme5 hown1 hrg2
        go_wp2_with fail
        go_roundw
        case rel => exact ⟨less left x.path, cnt1, T, out, hrg5, HPM, hlen, hT, hown5, hB5, by omega⟩
        case measure => exact HM5.out
/-- What List looks for. -/
def inP (p : ByteArray) (x : It) : Bool := decide (tb (par x.path.data.toList) = p)
theorem held_list (l : List It) (p : ByteArray) : held (inP p) l = list l p := rfl
set_option maxRecDepth 100000 in
set_option maxHeartbeats 1000000 in
theorem iParent_any (s : ByteArray) (w : World) (hs : s.size ≤ 562949953421312) :
    Calls Tryz.prog 79 #[.string s] w fun e w' => e = .returned (.string (tb (par s.data.toList))) ∧ w' = w := by
  have cl := fun W => lastStroke_any s W hs
  have hL := lastN_le s.data.toList
  rw [len_l] at hL
  rw [← par_ext]
  obtain ⟨L, hLe⟩ : ∃ L, L = lastN s.data.toList := ⟨_, rfl⟩
  rw [← hLe] at cl hL ⊢
  clear hLe
  by_cases h0 : L = 0
  · subst h0
    go_enter Tryz.func79, Tryz.ntmps79
    go_wp2_with (go_at_call 90; refine (cl _).mono ?_; rintro e w1 ⟨rfl, rfl⟩)
    go_ret
    exact ⟨by simp; exact .inl (by decide), rfl⟩
  · obtain ⟨K, rfl⟩ : ∃ K, L = K + 1 := ⟨L - 1, by omega⟩
    have e1 : ((K + 1 : Nat) : Int) - 1 = K := by omega
    rw [e1] at cl
    rw [Nat.add_sub_cancel]
    clear h0
    go_enter Tryz.func79, Tryz.ntmps79
    go_wp2_with (go_at_call 90; refine (cl _).mono ?_; rintro e w1 ⟨rfl, rfl⟩)
    go_ret
    exact ⟨rfl, rfl⟩
set_option maxRecDepth 100000 in
set_option maxHeartbeats 1000000 in
theorem iListC_any (g : Nat) (p : ByteArray) (x : It) (w : World) (hp : w.cell? ⟨g, 0, none⟩ = some (.string p)) (hx : x.path.size ≤ 8000000000000) :
    Calls Tryz.prog 78 #[.string x.path, .agg #[.int .i64 (kOf x), .string x.data, .string x.kept, .int .i64 (stOf x), .int .i64 x.stamp], .pointer (some ⟨g, 0, none⟩)] w fun e w' => e = .returned (.bool (inP p x)) ∧ Below w.heap.size w w' := by
  have cp := fun W => iParent_any x.path W (by omega)
  have hg := World.block_lt_of_cell? w _ hp
  unfold inP
  generalize tb (par x.path.data.toList) = V at cp ⊢
  have hb := fun o n => below_call ((Below.refl _ w).alloc (Nat.le_refl _) o) (below_drewN _ n)
  have HB := Lib.hid hb
  clear hb
  by_cases hv : V = p
  · have e1 : (V.toList == p.toList) = true := by rw [hv]; exact beq_self_eq_true _
    rw [decide_eq_true hv]
    clear hv
    go_enter Tryz.func78, Tryz.ntmps78
    go_wp2_with fail
    go_quiet ((go_at_call 79; exact Calls.quiet_of_same (cp _)))
    go_wp2
    go_ret
    exact ⟨rfl, HB.out _ _⟩
  · have e1 : (V.toList == p.toList) = false := bytes_ne hv
    rw [decide_eq_false hv]
    clear hv
    go_enter Tryz.func78, Tryz.ntmps78
    go_wp2_with fail
    go_quiet ((go_at_call 79; exact Calls.quiet_of_same (cp _)))
    go_wp2
    go_ret
    exact ⟨rfl, HB.out _ _⟩
set_option maxRecDepth 100000 in
theorem iRestC_any (x : It) (w : World) :
    Calls Tryz.prog 72 #[.string x.path, .agg #[.int .i64 (kOf x), .string x.data, .string x.kept, .int .i64 (stOf x), .int .i64 x.stamp]] w fun e w' => e = .returned (.bool x.loose) ∧ Below w.heap.size w w' := by
  have HB := Lib.hid (fun o => (Below.refl _ w).alloc (Nat.le_refl _) o)
  have hs : (x.loose = false ∧ stOf x = 0) ∨ (x.loose = true ∧ (stOf x = 1 ∨ stOf x = 2)) := by
    unfold stOf
    cases x.loose <;> cases x.anew <;> simp
  generalize stOf x = T at hs ⊢
  rcases hs with ⟨h1, rfl⟩ | ⟨h1, rfl | rfl⟩ <;> rw [h1]
  all_goals
    clear h1
    go_enter Tryz.func72, Tryz.ntmps72
    go_wp2
    go_ret
    exact ⟨rfl, HB.out _⟩
set_option maxRecDepth 100000 in
set_option maxHeartbeats 1000000 in
theorem iList_any (b bi bl : Nat) (l : Int) (s : St) (p : ByteArray) (w : World) (h : Ia b bi bl l w s) (hR : Rises s.L) (hn : s.L.length ≤ 1000000000) (hps : ∀ x ∈ s.L, x.path.size ≤ 8000000000000) :
    Calls Tryz.prog 36 #[.pointer (some ⟨b, 0, none⟩), .string p] w (ListTo (list s.L p) w) := by
  have hb := (Below.refl _ w).alloc (Nat.le_refl _) (.cells #[.string p] 9)
  have hc : (w.alloc (.cells #[.string p] 9)).cell? ⟨w.heap.size, 0, none⟩ = some (.string p) := by rw [World.cell?_alloc_at _ _ _ _ rfl]; rfl
  have cp := iPaths_any b bi bl l s 78 #[.pointer (some ⟨w.heap.size, 0, none⟩)] (inP p) _ (h.below hb) hR hn hps (fun a1 a2 W => Rg.enters Tryz.func78 (by kernel_rfl) (by kernel_rfl) _ W)
    (fun W x hW hx => iListC_any w.heap.size p x W ((hW.cell (p := ⟨w.heap.size, 0, none⟩) (by simp)).trans hc) (hps x hx))
  rw [held_list] at cp
  clear hc h
  go_enter Tryz.func36, Tryz.ntmps36
  go_wp2_with (go_at_call 71; refine cp.mono ?_; rintro e w1 ⟨v, rfl, hT, hb1⟩)
  go_ret
  exact ⟨_, rfl, own_base hT (by simp), below_call hb hb1⟩
end Go.Proofs.YtcbnpdognadilaaGreat.Dk

/- Package disk's mayRemove. -/
namespace Go.Proofs.YtcbnpdognadilaaGreat.Dk
open Go.RowKit Tx Pm Pl Pr
set_option linter.unusedVariables false

def mayRemoveS (s : St) (p : ByteArray) : Nat := if first s p 0 ≠ 0 then first s p 0 else if kind s.L p = 0 then 11 else if list s.L p ≠ [] then 12 else 0
set_option maxRecDepth 100000 in
set_option maxHeartbeats 1000000 in
theorem iMayRemove_any (b bi bl : Nat) (l : Int) (s : St) (p : ByteArray) (w : World) (h : Ia b bi bl l w s) (hR : Rises s.L) (hf : Fit s) (hp : p.size ≤ 8000000000000) :
    Calls Tryz.prog 67 #[.pointer (some ⟨b, 0, none⟩), .string p] w fun e w' => e = .returned (.int .i64 (mayRemoveS s p : Nat)) ∧ Below w.heap.size w w' := by
  have c1 := ready1 b bi bl 0 1 l s p w h (by omega) rfl hp
  have c2 := fun W (hW : Below w.heap.size w W) => iList_any b bi bl l s p W (h.below hW) hR hf.1 hf.2.1
  have HL := Lib.hid (fun W (hW : Below w.heap.size w W) => (h.below hW).look (maxLen_of hp))
  have HC := Lib.hid (fun W (hW : Below w.heap.size w W) => (h.below hW).cell.1)
  have hll : (list s.L p).length ≤ 1000000000 := Nat.le_trans (held_len (inP p) s.L) hf.1
  have f0 := fld0
  unfold mayRemoveS
  generalize first s p 0 = E at c1 ⊢
  generalize kind s.L p = K at HL ⊢
  generalize list s.L p = LL at c2 hll ⊢
  clear h hR hf
  by_cases hE : E = 0
  · subst hE
    rw [if_neg (by decide)]
    by_cases hK : K = 0
    · subst hK
      rw [if_pos rfl]
      go_enter Tryz.func67, Tryz.ntmps67
      go_wp2_with (first | (go_at_call 81; refine c1.mono ?_; rintro e w1 ⟨rfl, hb1⟩; have l0 := HL.out _ hb1; have g0 := HC.out _ hb1) | (go_at_call 36; refine (c2 _ hb1).mono ?_; rintro e w2 ⟨v, rfl, hT, hb2⟩; obtain ⟨a2, k2, rfl, _, _, _⟩ := hT.form; clear hT))
      go_ret
      exact ⟨rfl, hb1⟩
    · rw [if_neg hK]
      have e1 := ne_eq hK
      clear hK
      cases LL with
      | nil =>
        rw [if_neg (fun e => e rfl)]
        go_enter Tryz.func67, Tryz.ntmps67
        go_wp2_with (first | (go_at_call 81; refine c1.mono ?_; rintro e w1 ⟨rfl, hb1⟩; have l0 := HL.out _ hb1; have g0 := HC.out _ hb1) | (go_at_call 36; refine (c2 _ hb1).mono ?_; rintro e w2 ⟨v, rfl, hT, hb2⟩; obtain ⟨a2, k2, rfl, _, _, _⟩ := hT.form; clear hT))
        go_ret
        exact ⟨rfl, below_call hb1 hb2⟩
      | cons q LL =>
        rw [if_pos (by simp)]
        obtain ⟨m, hm⟩ : ∃ m, m = (q :: LL).length := ⟨_, rfl⟩
        have hm1 : 0 < m := by rw [hm]; simp
        rw [← hm] at hll
        have HM := Lib.hid hm
        clear hm
        go_enter Tryz.func67, Tryz.ntmps67
        go_wp2_with (first | (go_at_call 81; refine c1.mono ?_; rintro e w1 ⟨rfl, hb1⟩; have l0 := HL.out _ hb1; have g0 := HC.out _ hb1) | (go_at_call 36; refine (c2 _ hb1).mono ?_; rintro e w2 ⟨v, rfl, hT, hb2⟩; obtain ⟨a2, k2, rfl, _, _, _⟩ := hT.form; rw [← HM.out]; clear hT))
        go_ret
        exact ⟨rfl, below_call hb1 hb2⟩
  · rw [if_pos hE]
    have e1 := ne_eq hE
    clear hE
    go_enter Tryz.func67, Tryz.ntmps67
    go_wp2_with (first | (go_at_call 81; refine c1.mono ?_; rintro e w1 ⟨rfl, hb1⟩; have l0 := HL.out _ hb1; have g0 := HC.out _ hb1) | (go_at_call 36; refine (c2 _ hb1).mono ?_; rintro e w2 ⟨v, rfl, hT, hb2⟩; obtain ⟨a2, k2, rfl, _, _, _⟩ := hT.form; clear hT))
    go_ret
    exact ⟨rfl, hb1⟩
end Go.Proofs.YtcbnpdognadilaaGreat.Dk

/- Package disk's Remove: as the document says. -/
namespace Go.Proofs.YtcbnpdognadilaaGreat.Dk
open Go.RowKit Tx Pm Pl Pr
set_option linter.unusedVariables false

theorem remove_step (s : St) (p : ByteArray) : removeS s p = stepR s (mayRemoveS s p) { (done s).2 with L := drop (done s).2.L p } := by
  unfold removeS mayRemoveS stepR
  by_cases h1 : first s p 0 ≠ 0
  · rw [if_pos h1, if_pos h1, if_pos h1]
  · rw [if_neg h1, if_neg h1]
    by_cases h2 : kind s.L p = 0
    · rw [if_pos h2, if_pos h2, if_pos (by decide)]
    · rw [if_neg h2, if_neg h2]
      by_cases h3 : list s.L p ≠ []
      · rw [if_pos h3, if_pos h3, if_pos (by decide)]
      · rw [if_neg h3, if_neg h3]
        rfl
theorem mayRemove_down {s : St} {p : ByteArray} (h : mayRemoveS s p = 0) : s.down = false := by
  unfold mayRemoveS at h
  split at h
  · rename_i h1; exact absurd h h1
  · rename_i h1; exact first_down (p := p) (m := 0) (by omega)

set_option maxRecDepth 100000 in
set_option maxHeartbeats 2000000 in
theorem iRemove_any (b bi bl : Nat) (l : Int) (s : St) (p : ByteArray) (w : World) (h : Ia b bi bl l w s) (hg : Good s) (ok : Ok s) (hp : p.size ≤ 8000000000000) :
    Calls Tryz.prog 26 #[.pointer (some ⟨b, 0, none⟩), .string p] w fun e w' => e = .returned (.int .i64 ((removeS s p).1 : Nat)) ∧ Ip b bi bl w (removeS s p).2 w' := by
  have hft := h.lt
  have hn := ok.fit.1
  have hst : (done s).2.stamps ≤ 1000000000000 := by rw [done_stamps]; exact ok.stamps
  have eL := done_L s
  rw [remove_step]
  obtain ⟨S', hS'⟩ : ∃ S', S' = { (done s).2 with L := drop (done s).2.L p } := ⟨_, rfl⟩
  rw [← hS']
  have hb1 := (Below.refl w.heap.size w).alloc (Nat.le_refl _) (.cells #[.pointer (some ⟨b, 0, none⟩)] 23)
  have k1 := cap_new w (.pointer (some ⟨b, 0, none⟩)) 23
  have k2 := cap_new (w.alloc (.cells #[.pointer (some ⟨b, 0, none⟩)] 23)) (.string p) 9
  have hs1 : (w.alloc (.cells #[.pointer (some ⟨b, 0, none⟩)] 23)).heap.size = w.heap.size + 1 := by simp
  rw [hs1] at k2
  have hb2 := hb1.alloc (by simp) (.cells #[.string p] 9)
  have k1 := cap_below k1 ((Below.refl _ _).alloc (Nat.le_refl _) (.cells #[.string p] 9))
  obtain ⟨W1, hW1⟩ : ∃ W1, W1 = ((w.alloc (.cells #[.pointer (some ⟨b, 0, none⟩)] 23)).alloc (.cells #[.string p] 9)) := ⟨_, rfl⟩
  rw [← hW1] at k1 k2 hb2
  have hb3 : Below w.heap.size w W1.drew := hb2.drew
  have cm := iMayRemove_any b bi bl l s p W1.drew (h.below hb3) hg.rises ok.fit hp
  have hen : ∀ W, (callFunc 68 #[.pointer (some ⟨w.heap.size, 0, none⟩), .pointer (some ⟨w.heap.size + 1, 0, none⟩)]).run Tryz.prog W = .ok (.enter 68 #[.pointer (some ⟨w.heap.size, 0, none⟩), .pointer (some ⟨w.heap.size + 1, 0, none⟩)]) W :=
    fun W => Rg.enters Tryz.func68 (by kernel_rfl) (by kernel_rfl) _ W
  have ct : ∀ W, Below W1.heap.size W1 W → Calls Tryz.prog 44 #[.pointer (some ⟨b, 0, none⟩), .int .i64 (mayRemoveS s p : Nat), .func (.func 68) #[] #[.pointer (some ⟨w.heap.size, 0, none⟩), .pointer (some ⟨w.heap.size + 1, 0, none⟩)]] W fun e w' => e = .returned (.int .i64 ((stepR s (mayRemoveS s p) S').1 : Nat)) ∧
      (Ip b bi bl w (stepR s (mayRemoveS s p) S').2 w' ∧ Cap w' w.heap.size (.pointer (some ⟨b, 0, none⟩)) ∧ Cap w' (w.heap.size + 1) (.string p)) := by
    intro W hW
    have hbW := below_call hb2 hW
    have j1 := cap_below k1 hW
    have j2 := cap_below k2 hW
    have hnf : ∀ k, ¬ Ft b bi bl (w.heap.size + k) := fun k hk => by have := hft _ hk; omega
    refine (iStep_any b bi bl l s _ _ _ S' W (h.below hbW) (fun e => mayRemove_down e) ok.steps hen (fun l1 W2 hr _ hI hc => ?_)).mono ?_
    · have m1 := cap_chg j1 hc (fun e => by have := hft b (.inl rfl); omega)
      have m2 := cap_chg j2 hc (fun e => by have := hft b (.inl rfl); omega)
      rw [hS']
      exact iRemoveC_any b bi bl _ _ l1 _ p W2 hI (by rw [eL]; exact hg.rises) m1 m2 hp
    · rintro e w' ⟨rfl, l5, h5, hc5⟩
      exact ⟨rfl, ⟨l5, h5, (Chg.of_below hbW).then hc5⟩, cap_chg j1 hc5 (hnf 0), cap_chg j2 hc5 (hnf 1)⟩
  generalize stepR s (mayRemoveS s p) S' = RES at ct ⊢
  generalize mayRemoveS s p = r at cm ct
  have HW1 := Lib.hid hW1
  clear h hg ok hS' hst eL hn hft hb1 hb2 hb3 hen
  go_enter Tryz.func26, Tryz.ntmps26
  go_wp2_with fail
  rw [← HW1.out]
  refine Rg.wp_only ?_ (regRemove _ (by kernel_rfl) _ w.heap.size (w.heap.size + 1) (.pointer (some ⟨b, 0, none⟩)) p r RES.1 W1 (fun W => Below W1.heap.size W1 W) (fun W => Ip b bi bl w RES.2 W ∧ Cap W w.heap.size (.pointer (some ⟨b, 0, none⟩)) ∧ Cap W (w.heap.size + 1) (.string p)) ⟨k1, k2⟩ (cm.mono (fun e w' he => ⟨he.1, (Below.refl _ W1).drew.trans he.2⟩)) (fun W hW => ⟨cap_below k1 hW, cap_below k2 hW⟩) ct (fun W hW => hW.2))
  rintro _ w9 ⟨rfl, h9⟩
  go_wp2_with fail
  go_ret
  exact ⟨rfl, h9.1⟩
end Go.Proofs.YtcbnpdognadilaaGreat.Dk

/- Package disk's New, Limit, Arm, Read. -/
namespace Go.Proofs.YtcbnpdognadilaaGreat.Dk
open Go.RowKit Tx Pm Pl Pr
set_option linter.unusedVariables false

theorem read_old {s : St} (hg : Good s) (p : ByteArray) (hd : s.down = false) : readS s p = ((old s.L p).data, mbf s.L p) := by
  unfold readS mbf kind old
  rw [hd, if_neg (by decide)]
  cases hf : find s.L p with
  | none => rfl
  | some x =>
    unfold kindOf
    simp only [Option.getD_some]
    by_cases hx : x.dir = true
    · rw [(hg.dirs x (find_mem hf).1 hx).1]
      simp [hx]
    · simp [hx]
set_option maxRecDepth 100000 in
set_option maxHeartbeats 1000000 in
theorem iRead_any (b bi bl : Nat) (l : Int) (s : St) (p : ByteArray) (w : World) (h : Ia b bi bl l w s) (hg : Good s) (hp : p.size ≤ 8000000000000) :
    Calls Tryz.prog 11 #[.pointer (some ⟨b, 0, none⟩), .string p] w fun e w' => e = .returned (.tuple #[.string (readS s p).1, .int .i64 ((readS s p).2 : Nat)]) ∧ Below w.heap.size w w' := by
  have cm := fun n => iMbf_any b bi bl l s p (w.drewN n) (h.below (below_drewN _ _)) hp
  have hl := fun n => (h.below (below_drewN w n)).look (maxLen_of hp)
  obtain ⟨c0, c1, c2, c3, c4, c5⟩ := h.cell
  have hro := read_old hg p
  have hrd : s.down = true → readS s p = (⟨#[]⟩, 14) := fun e => by unfold readS; rw [if_pos e]
  have f1 := fld1
  generalize (old s.L p).data = X0 at hl hro
  generalize (old s.L p).kept = X1 at hl
  generalize stOf (old s.L p) = X2 at hl
  generalize ((old s.L p).stamp : Int) = X3 at hl
  generalize kind s.L p = K at hl
  generalize mbf s.L p = M at cm hro
  generalize readS s p = R at hro hrd ⊢
  generalize s.down = D at c5 hro hrd
  clear h hg c1 c2 c3 c4
  have HB := Lib.hid (fun n => below_drewN w n)
  cases D with
  | true =>
    rw [hrd rfl]
    clear hro hrd cm hl
    go_enter Tryz.func11, Tryz.ntmps11
    go_wp2
    go_ret2
    exact ⟨rfl, Below.refl _ _⟩
  | false =>
    rw [hro rfl]
    clear hro hrd
    go_enter Tryz.func11, Tryz.ntmps11
    go_wp2_with fail
    have hl0 := hl
    go_quiet ((go_at_call 43; exact (cm _).mono (fun _ _ ⟨he, hw⟩ => ⟨he, _, hw.symm⟩)))
    go_wp2
    go_ret2
    exact ⟨rfl, HB.out _⟩

theorem cutA_whole : ∀ l : List UInt8, 47 ∉ l → cutA l = l
  | [], _ => rfl
  | c :: r, h => by
    have hc : c ≠ 47 := fun e => h (by rw [e]; exact List.mem_cons_self)
    unfold cutA
    rw [if_neg hc, cutA_whole r (fun e => h (List.mem_cons_of_mem _ e))]
theorem chk_name (l : List UInt8) : (chk l 1 = 0 ↔ isName l = true) := by
  have hc := spl_cut l
  unfold chk isPath
  by_cases h47 : 47 ∈ l
  · have hs : hasSt l = true := by unfold hasSt; simpa using h47
    have hn : isName l = false := by
      unfold isName
      rw [Bool.and_eq_false_iff]
      right
      rw [List.all_eq_false]
      exact ⟨47, h47, by decide⟩
    rw [hs, if_pos rfl] at hc
    have hne : 1 ≤ (spl (cutB l)).length := by
      cases hb : spl (cutB l) with
      | nil =>
        have := spl_cut (cutB l)
        rw [hb] at this
        cases this
      | cons y r => simp
    rw [hc, List.length_cons, decide_eq_false (by omega), Bool.false_and, hn]
    simp
  · have hs : hasSt l = false := by unfold hasSt; simpa using h47
    have hcut := cutA_whole l h47
    rw [hs, if_neg (by decide), hcut] at hc
    rw [hc]
    simp
theorem chk_le (l : List UInt8) (d : Int) : chk l d = 0 ∨ chk l d = 10 := by unfold chk; split <;> simp
set_option maxRecDepth 100000 in
set_option maxHeartbeats 1000000 in
theorem iLimit_any (b bi bl : Nat) (l : Int) (s : St) (v : ByteArray) (m : Int) (w : World) (h : Ia b bi bl l w s) (hv : v.size ≤ 8000000000000) (hm : -9223372036854775808 ≤ m ∧ m ≤ 9223372036854775807) (hr : s.rooms.length ≤ 1000000000) :
    Calls Tryz.prog 28 #[.pointer (some ⟨b, 0, none⟩), .string v, .int .i64 m] w fun e w' => e = .returned (.int .i64 ((limitS s v m).1 : Nat)) ∧ Ip b bi bl w (limitS s v m).2 w' := by
  have cn := pName_any v w (by omega)
  have hch := chk_name v.data.toList
  have hself : ∀ w', Below w.heap.size w w' → Ip b bi bl w s w' := fun w' hb => Ip.of (h.below hb) hb
  unfold limitS
  by_cases h0 : m < 0
  · rw [if_pos h0]
    have HS := Lib.hid hself
    clear h hself hch cn
    go_enter Tryz.func28, Tryz.ntmps28
    go_wp2
    go_ret
    exact ⟨rfl, HS.out _ (Below.refl _ _)⟩
  · rw [if_neg h0]
    have h0' : 0 ≤ m := by omega
    rcases chk_le v.data.toList 1 with hc | hc
    · rw [hc, if_neg (by decide)]
      rw [hch.1 hc] at cn
      have HM := Lib.hid (fun w1 (hb : Below w.heap.size w w1) => (h.below hb).limits.store (maxLen_of hv) (by unfold maxLen; omega) (WalkArith.wf_i64 (n := m) (by omega)))
      have HE := Lib.hid (fun w1 w2 (hb : Below w.heap.size w w1) (hl : Lm w2 bl (setRm s.rooms v m)) (ht : w1.mapTurned w2 bl) => (show Ip b bi bl w { s with rooms := setRm s.rooms v m } w2 from ⟨l, (h.below hb).limited hl ht, (Chg.of_below hb).then ((turned_chg ht).mono ft_l)⟩))
      have HC := Lib.hid (fun w1 (hb : Below w.heap.size w w1) => (h.below hb).cell.2.1)
      clear h hself hch hc h0
      go_enter Tryz.func28, Tryz.ntmps28
      go_wp2_with (go_at_call 69; refine cn.mono ?_; rintro e w1 ⟨rfl, hb1⟩; have g0 := HC.out _ hb1; obtain ⟨w3, hrun, hl3, ht3⟩ := HM.out _ hb1)
      go_ret
      exact ⟨rfl, HE.out _ _ hb1 hl3 ht3⟩
    · rw [hc, if_pos (by decide)]
      have hn : isName v.data.toList = false := by
        cases hx : isName v.data.toList with
        | false => rfl
        | true => rw [hch.2 hx] at hc; cases hc
      rw [hn] at cn
      have HS := Lib.hid hself
      clear h hself hch hc hn h0
      go_enter Tryz.func28, Tryz.ntmps28
      go_wp2_with (go_at_call 69; refine cn.mono ?_; rintro e w1 ⟨rfl, hb1⟩)
      go_ret
      exact ⟨rfl, HS.out _ hb1⟩
set_option maxRecDepth 100000 in
theorem iArm_any (b bi bl : Nat) (l : Int) (s : St) (m : Int) (w : World) (h : Ia b bi bl l w s) (hm : -9223372036854775808 ≤ m ∧ m ≤ 9223372036854775807) :
    Calls Tryz.prog 30 #[.pointer (some ⟨b, 0, none⟩), .int .i64 m] w fun e w' => e = .returned (.tuple #[]) ∧ Ip b bi bl w { s with armed := if m < 0 then -1 else m } w' := by
  have hc := h.cell
  have hw := h.warm
  have hlow := h.low
  obtain ⟨A, hA⟩ : ∃ A : Int, A = if m < 0 then -1 else m := ⟨_, rfl⟩
  have hAm : A = max m (-1) := by rw [hA]; split <;> omega
  rw [← hA]
  have a1 : Ia b bi bl A (w.setCell ⟨b, 2, none⟩ (.int .i64 A)) { s with armed := A } := h.poke (chg_set _) (own_cells h 2 _ rfl) rfl rfl (.inr rfl) (by omega)
  rw [hAm] at a1 ⊢
  have HE := Lib.hid (show Ip b bi bl w { s with armed := max m (-1) } (w.setCell ⟨b, 2, none⟩ (.int .i64 (max m (-1)))) from ⟨_, a1, (chg_set _).mono ft_b⟩)
  clear a1 h hA hAm
  obtain ⟨c0, c1, c2, c3, c4, c5⟩ := hc
  go_enter Tryz.func30, Tryz.ntmps30
  go_wp2
  go_end0
  exact ⟨rfl, HE.out⟩
set_option maxRecDepth 100000 in
theorem iNew_any (w : World) : Calls Tryz.prog 5 #[] w fun e w' => ∃ b bi bl, e = .returned (.pointer (some ⟨b, 0, none⟩)) ∧ Ia b bi bl (-1) w' newS ∧ (∀ i, Ft b bi bl i → w.heap.size ≤ i) ∧ Below w.heap.size w w' := by
  have hmm := @run_makeMap Tryz.prog
  have b1 := (Below.refl w.heap.size w).alloc (Nat.le_refl _) (.map #[] 0)
  have b2 := b1.alloc (by simp) (.map #[] 0)
  have b3 := b2.alloc (by simp; omega) (.cells #[.map (some w.heap.size), .map (some (w.heap.size + 1)), .int .i64 (-1), .int .i64 0, .int .i64 0, .bool false] 47)
  have hI : Ia (w.heap.size + 1 + 1) w.heap.size (w.heap.size + 1) (-1) (((w.alloc (.map #[] 0)).alloc (.map #[] 0)).alloc (.cells #[.map (some w.heap.size), .map (some (w.heap.size + 1)), .int .i64 (-1), .int .i64 0, .int .i64 0, .bool false] 47)) newS := by
    refine ⟨new_at _ _ (by simp), ?_, ?_, by omega, .inr rfl, by omega⟩
    · refine (mp_made w).kept ?_
      have := (((Below.refl _ (w.alloc (.map #[] 0))).alloc (Nat.le_refl _) (.map #[] 0)).alloc (by simp) (.cells #[.map (some w.heap.size), .map (some (w.heap.size + 1)), .int .i64 (-1), .int .i64 0, .int .i64 0, .bool false] 47)).block w.heap.size (by simp)
      exact this
    · have hl := lm_made (w.alloc (.map #[] 0))
      have e : (w.alloc (.map #[] 0)).heap.size = w.heap.size + 1 := by simp
      rw [e] at hl
      refine hl.kept ?_
      have := ((Below.refl _ ((w.alloc (.map #[] 0)).alloc (.map #[] 0))).alloc (Nat.le_refl _) (.cells #[.map (some w.heap.size), .map (some (w.heap.size + 1)), .int .i64 (-1), .int .i64 0, .int .i64 0, .bool false] 47)).block (w.heap.size + 1) (by simp)
      exact this
  have HE := Lib.hid (show ∃ b bi bl, (Ending.returned (.pointer (some ⟨w.heap.size + 1 + 1, 0, none⟩))) = .returned (.pointer (some ⟨b, 0, none⟩)) ∧ Ia b bi bl (-1) (((w.alloc (.map #[] 0)).alloc (.map #[] 0)).alloc (.cells #[.map (some w.heap.size), .map (some (w.heap.size + 1)), .int .i64 (-1), .int .i64 0, .int .i64 0, .bool false] 47)) newS ∧ (∀ i, Ft b bi bl i → w.heap.size ≤ i) ∧ Below w.heap.size w (((w.alloc (.map #[] 0)).alloc (.map #[] 0)).alloc (.cells #[.map (some w.heap.size), .map (some (w.heap.size + 1)), .int .i64 (-1), .int .i64 0, .int .i64 0, .bool false] 47)) from
    ⟨_, _, _, rfl, hI, fun i hi => by rcases hi with rfl | rfl | rfl <;> omega, b3⟩)
  clear hI b1 b2 b3
  go_enter Tryz.func5, Tryz.ntmps5
  go_wp2
  go_ret
  exact HE.out
end Go.Proofs.YtcbnpdognadilaaGreat.Dk

/- Package disk's mix, rest, lost. -/
namespace Go.Proofs.YtcbnpdognadilaaGreat.Dk
open Go.RowKit Tx Pm
set_option linter.unusedVariables false

theorem div_nat (x d : Nat) : (x : Int) / (d : Int) = ((x / d : Nat) : Int) := (Int.natCast_ediv x d).symm
set_option maxRecDepth 100000 in
set_option maxHeartbeats 1000000 in
theorem iMix_any (loss : Int) (i : Nat) (w : World) (hl : -9223372036854775808 ≤ loss ∧ loss ≤ 9223372036854775807) (hi : i ≤ 2000000000) :
    Calls Tryz.prog 74 #[.int .i64 loss, .int .i64 (i : Nat)] w fun e w' => e = .returned (.int .u64 (mix (u64 loss) i : Nat)) ∧ w' = w := by
  go_enter Tryz.func74, Tryz.ntmps74
  go_wp2
  go_ret
  refine ⟨?_, rfl⟩
  have hA : IntKind.u64.wrap (IntKind.u64.wrap loss + IntKind.u64.wrap ((i : Int) * 11400714819323198485)) = ((mixA (u64 loss) i : Nat) : Int) := by
    have hu := u64_eq loss
    have hlt := u64_lt loss
    rw [hu]
    generalize u64 loss = a at hlt
    rw [IntKind.wrap_u64, IntKind.wrap_u64]
    unfold mixA
    omega
  have q1 := div_nat (mixA (u64 loss) i) 1073741824
  have x1 := xor_div (mixA (u64 loss) i) 1073741824 (mixA_lt _ i)
  have k1 := mul_nat (mixA (u64 loss) i ^^^ mixA (u64 loss) i / 1073741824) 13787848793156543929
  have q2 := div_nat (mixB (mixA (u64 loss) i)) 134217728
  have x2 := xor_div (mixB (mixA (u64 loss) i)) 134217728 (mixB_lt _)
  have k2 := mul_nat (mixB (mixA (u64 loss) i) ^^^ mixB (mixA (u64 loss) i) / 134217728) 10723151780598845931
  have q3 := div_nat (mixC (mixB (mixA (u64 loss) i))) 2147483648
  have x3 := xor_div (mixC (mixB (mixA (u64 loss) i))) 2147483648 (mixC_lt _)
  rw [show ((mixA (u64 loss) i ^^^ mixA (u64 loss) i / 1073741824) * 13787848793156543929 % 18446744073709551616) = mixB (mixA (u64 loss) i) from rfl] at k1
  rw [show ((mixB (mixA (u64 loss) i) ^^^ mixB (mixA (u64 loss) i) / 134217728) * 10723151780598845931 % 18446744073709551616) = mixC (mixB (mixA (u64 loss) i)) from rfl] at k2
  show Ending.returned (Value.int .u64 _) = _
  rw [hA]
  rw [show ((1073741824 : Nat) : Int) = 1073741824 from rfl] at q1
  rw [show ((134217728 : Nat) : Int) = 134217728 from rfl] at q2
  rw [show ((2147483648 : Nat) : Int) = 2147483648 from rfl] at q3
  rw [show ((13787848793156543929 : Nat) : Int) = 13787848793156543929 from rfl] at k1
  rw [show ((10723151780598845931 : Nat) : Int) = 10723151780598845931 from rfl] at k2
  rw [q1, x1, k1, q2, x2, k2, q3, x3]
  rfl
set_option maxRecDepth 100000 in
theorem iRest_any (m by_ : Nat) (w : World) (hm : m < 18446744073709551616) (h0 : 0 < by_) (h1 : by_ ≤ 4000000000000000000) :
    Calls Tryz.prog 89 #[.int .u64 (m : Nat), .int .i64 (by_ : Nat)] w fun e w' => e = .returned (.int .i64 (m % by_ : Nat)) ∧ w = w' := by
  have hlt : m % by_ < by_ := Nat.mod_lt _ h0
  have e1 : (m : Int).tmod (by_ : Int) = ((m % by_ : Nat) : Int) := (Int.ofNat_tmod m by_).symm
  have e2 : IntKind.u64.wrap ((m % by_ : Nat) : Int) = ((m % by_ : Nat) : Int) := by rw [wrap_nat, Nat.mod_eq_of_lt (by omega)]
  go_enter Tryz.func89, Tryz.ntmps89
  go_wp2
  go_ret
  exact ⟨ret_int (by rw [Int.natCast_emod]), rfl⟩
/-- What is left of a loose file. -/
def loseR (X Y : ByteArray) (an : Bool) (m : Nat) : ByteArray := if an then (if m % (X.size + 2) = 0 then Y else X.extract 0 (m % (X.size + 2) - 1)) else X.extract 0 (Y.size + m % (X.size - Y.size + 1))
theorem lose_R (m : Nat) (x : It) : (lose m x).data = loseR x.data x.kept x.anew m ∧ (lose m x).kept = loseR x.data x.kept x.anew m := by
  unfold lose loseR
  exact ⟨rfl, rfl⟩
theorem infoIt : (Tryz.prog.info? 65).map (·.size) = some 5 := by kernel_rfl
set_option maxRecDepth 100000 in
set_option maxHeartbeats 1000000 in
theorem iLost_any (X Y : ByteArray) (an : Bool) (K T N : Int) (m : Nat) (w : World) (hT : T = if an then 2 else 1) (hX : X.size ≤ 140737488355328) (hY : an = false → Y.size ≤ X.size) (hm : m < 18446744073709551616) :
    Calls Tryz.prog 73 #[.agg #[.int .i64 K, .string X, .string Y, .int .i64 T, .int .i64 N], .int .u64 (m : Nat)] w fun e w' => e = .returned (.agg #[.int .i64 K, .string (loseR X Y an m), .string (loseR X Y an m), .int .i64 0, .int .i64 N]) ∧ Below w.heap.size w w' := by
  have hb := fun o o2 => ((Below.refl _ w).alloc (Nat.le_refl _) o).alloc (by simp) o2
  have HB := Lib.hid hb
  clear hb
  cases an with
  | true =>
    obtain rfl : T = 2 := hT
    have cr := fun W => iRest_any m (X.size + 2) W hm (by omega) (by omega)
    rw [show ((X.size + 2 : Nat) : Int) = (X.size : Int) + 2 by omega] at cr
    have hk := Nat.mod_lt m (show 0 < X.size + 2 by omega)
    obtain ⟨R, hR⟩ : ∃ R, R = loseR X Y true m := ⟨_, rfl⟩
    rw [← hR]
    unfold loseR at hR
    rw [if_pos rfl] at hR
    generalize m % (X.size + 2) = k at cr hk hR
    clear hY hm
    by_cases h0 : k = 0
    · subst h0
      rw [if_pos rfl] at hR
      subst hR
      go_enter Tryz.func73, Tryz.ntmps73
      go_wp2_with (go_at_call 89; refine (cr _).mono ?_; rintro e w' ⟨rfl, rfl⟩)
      refine bodyPost_ret (results_cell_row rfl _ _ _ _ _ _ _ rfl (new_at _ _ (by simp)) Tryz.underlying65 rfl infoIt) rfl ?_
      exact ⟨rfl, HB.out _ _⟩
    · rw [if_neg h0] at hR
      obtain ⟨j, rfl⟩ : ∃ j, k = j + 1 := ⟨k - 1, by omega⟩
      rw [Nat.add_sub_cancel] at hR
      have e0 := ne_eq h0
      have e1 : ((j + 1 : Nat) : Int) - 1 = j := by omega
      have HR := Lib.hid hR
      clear h0 hR
      go_enter Tryz.func73, Tryz.ntmps73
      go_wp2_with (go_at_call 89; refine (cr _).mono ?_; rintro e w' ⟨rfl, rfl⟩)
      refine bodyPost_ret (results_cell_row rfl _ _ _ _ _ _ _ rfl (new_at _ _ (by simp)) Tryz.underlying65 rfl infoIt) rfl ?_
      rw [HR.out]
      exact ⟨rfl, HB.out _ _⟩
  | false =>
    obtain rfl : T = 1 := hT
    have hYX := hY rfl
    have cr := fun W => iRest_any m (X.size - Y.size + 1) W hm (by omega) (by omega)
    rw [show ((X.size - Y.size + 1 : Nat) : Int) = (X.size : Int) - (Y.size : Int) + 1 by omega] at cr
    have hk := Nat.mod_lt m (show 0 < X.size - Y.size + 1 by omega)
    obtain ⟨R, hR⟩ : ∃ R, R = loseR X Y false m := ⟨_, rfl⟩
    rw [← hR]
    unfold loseR at hR
    rw [if_neg (by decide)] at hR
    generalize m % (X.size - Y.size + 1) = k at cr hk hR
    clear hY hm
    have HR := Lib.hid hR
    clear hR
    go_enter Tryz.func73, Tryz.ntmps73
    go_wp2_with (go_at_call 89; refine (cr _).mono ?_; rintro e w' ⟨rfl, rfl⟩)
    refine bodyPost_ret (results_cell_row rfl _ _ _ _ _ _ _ rfl (new_at _ _ (by simp)) Tryz.underlying65 rfl infoIt) rfl ?_
    rw [HR.out]
    exact ⟨rfl, HB.out _ _⟩
end Go.Proofs.YtcbnpdognadilaaGreat.Dk

/- What the package's own Turn answers: contract. -/
namespace Go.Proofs.YtcbnpdognadilaaGreat.Fr
open Go.RowKit Wm Wr Fm
set_option linter.unusedVariables false

/-- The world in which s's bytes are laid. -/
def made (w : World) (s : ByteArray) (c : Nat) : World := w.drew.alloc (.cells (bytesRow s c) 5 ((bytesRow s c).size, (bytesRow s c).size + 1))
theorem row_size (s : ByteArray) (c : Nat) : s.size ≤ (bytesRow s c).size := by
  unfold bytesRow
  simp
theorem made_cell (w : World) (s : ByteArray) (c k : Nat) (h : k < s.size) : (made w s c).cell? ⟨w.heap.size, k, none⟩ = some (bv (s.data.toList.getD k 0)) := by
  have h1 := World.cell?_alloc_mark w.drew (bytesRow s c) 5 ((bytesRow s c).size, (bytesRow s c).size + 1) k
  have h2 := bytesRow_at s c k h
  have h3 : (made w s c).cell? ⟨w.heap.size, k, none⟩ = (bytesRow s c)[k]? := h1
  rw [h3, h2, bv, List.getD_eq_getElem?_getD, List.getElem?_eq_getElem (by rw [len_l]; exact h)]
  simp
theorem made_at (w : World) (s : ByteArray) (c k : Nat) (h : k < s.size) : (made w s c).cell? ⟨w.heap.size, k, none⟩ = some (bv (s.data.toList.getD k 0)) ∧ (made w s c).frozen? ⟨w.heap.size, k, none⟩ = false := by
  refine ⟨made_cell w s c k h, ?_⟩
  have h1 := World.frozen?_alloc_mark w.drew (bytesRow s c) 5 (bytesRow s c).size ((bytesRow s c).size + 1) k
  have h3 : (made w s c).frozen? ⟨w.heap.size, k, none⟩ = (decide ((bytesRow s c).size ≤ k) && decide (k < (bytesRow s c).size + 1)) := h1
  have h4 := row_size s c
  rw [h3]
  simp
  omega
theorem made_below (w : World) (s : ByteArray) (c : Nat) : Below w.heap.size w (made w s c) := ((Below.refl _ w).drew).alloc (Nat.le_refl _) _
theorem add_zero_at (b j : Nat) : (⟨b, 0, none⟩ : Addr).add j = ⟨b, j, none⟩ := by
  unfold Addr.add
  split
  · next h => rw [h]
  · rw [Nat.zero_add]
/-- Read back with one byte put. -/
theorem made_back (w : World) (s : ByteArray) (c B : Nat) (h : B / 8 < s.size) (W : World) (hW : W.heap = ((made w s c).setCell ⟨w.heap.size, B / 8, none⟩ (bv (UInt8.ofNat (flip (s.data.toList.getD (B / 8) 0).toNat (B % 8))))).heap) :
    (convert 90 9 (.slice (some ⟨w.heap.size, 0, none⟩) s.size c)).run Tryz.prog W = .ok (.string (trn s B)) W := by
  have hl := trn_list s B h
  have hsz : (trn s B).data.toList.length = s.size := by rw [hl, List.length_set, len_l]
  have hcv := run_convert_bytes_back (P := Tryz.prog) W 90 9 5 ⟨w.heap.size, 0, none⟩ c (trn s B).data.toList Tryz.underlying90 Tryz.underlying5 Tryz.underlying9 (fun j hj => by
    have hj' : j < s.size := by rw [hsz] at hj; exact hj
    have e1 : W.cell? ((⟨w.heap.size, 0, none⟩ : Addr).add j) = ((made w s c).setCell ⟨w.heap.size, B / 8, none⟩ (bv (UInt8.ofNat (flip (s.data.toList.getD (B / 8) 0).toNat (B % 8))))).cell? ⟨w.heap.size, j, none⟩ := by
      rw [add_zero_at]
      unfold World.cell?
      rw [hW]
    rw [e1]
    have e2 : (trn s B).data.toList[j]? = some ((trn s B).data.toList[j]) := List.getElem?_eq_getElem hj
    have e3 : ((trn s B).data.toList)[j]? = (s.data.toList.set (B / 8) (UInt8.ofNat (flip (s.data.toList.getD (B / 8) 0).toNat (B % 8))))[j]? := by rw [hl]
    rw [e3, List.getElem?_set] at e2
    by_cases hjB : B / 8 = j
    · subst hjB
      rw [World.cell?_setCell_same _ _ _ (made_cell w s c (B / 8) h)]
      rw [if_pos rfl, if_pos (by rw [len_l]; exact h)] at e2
      injection e2 with e2
      rw [← e2]
      rfl
    · rw [if_neg hjB] at e2
      rw [World.cell?_setCell_other _ _ _ _ (by intro hh; injection hh with _ hh _; exact hjB hh), made_cell w s c j hj', bv, List.getD_eq_getElem?_getD, e2]
      rfl)
  rw [hsz] at hcv
  exact hcv

theorem flip_lt' (c i : Nat) (hc : c < 256) (hi : i < 8) : flip c i < 256 := (flip_all c hc i hi).2.1
theorem pow_lt8 (B : Nat) : 2 ^ (B % 8) < 256 := by
  have := pow_small (B % 8) (Nat.mod_lt _ (by omega))
  omega

set_option maxRecDepth 100000 in
set_option maxHeartbeats 1000000 in
theorem fTurn_any (s : ByteArray) (bit : Int) (w : World) (hs : s.size ≤ 140737488355328) (h1 : -9223372036854775808 ≤ bit) (h2 : bit ≤ 9223372036854775807) :
    Calls Tryz.prog 76 #[.string s, .int .i64 bit] w fun e w' => e = .returned (.string (tn s bit)) ∧ Below w.heap.size w w' := by
  by_cases h0 : s.size = 0
  · rw [tn, if_pos h0]
    obtain rfl : s = ⟨#[]⟩ := by
      apply ByteArray.ext
      exact Array.size_eq_zero_iff.1 h0
    go_enter Tryz.func76, Tryz.ntmps76
    go_wp2
    go_ret
    exact ⟨rfl, Below.refl _ _⟩
  · have e0 : s.toList.isEmpty = false := by
      rw [ByteArray.toList_eq]
      cases hc : s.data.toList with
      | nil => exact absurd (by rw [← len_l, hc]; rfl) h0
      | cons a l => rfl
    rw [tn, if_neg h0]
    obtain ⟨B, hB, hBl⟩ : ∃ B : Nat, (B : Int) = bit % (8 * s.size : Nat) ∧ B < 8 * s.size := by
      have h3 := Int.emod_nonneg bit (show ((8 * s.size : Nat) : Int) ≠ 0 by omega)
      have h4 := Int.emod_lt_of_pos bit (show (0 : Int) < ((8 * s.size : Nat) : Int) by omega)
      obtain ⟨M, hM⟩ : ∃ M, M = bit % ((8 * s.size : Nat) : Int) := ⟨_, rfl⟩
      rw [← hM] at h3 h4 ⊢
      exact ⟨M.toNat, Int.toNat_of_nonneg h3, by omega⟩
    rw [← hB, Int.toNat_natCast]
    have hcast : ((8 * s.size : Nat) : Int) = 8 * (s.size : Int) := by omega
    have hcases : (bit.tmod (8 * (s.size : Int)) = B) ∨ (bit.tmod (8 * (s.size : Int)) < 0 ∧ bit.tmod (8 * (s.size : Int)) + 8 * (s.size : Int) = B) := by
      rw [← hcast, hB]
      by_cases hn : 0 ≤ bit
      · left; exact rem_pos hn
      · rcases rem_neg (n := 8 * s.size) (by omega) (show bit < 0 by omega) with ⟨h3, h4⟩ | h3
        · left; rw [h3, h4]
        · right; exact h3
    clear hB hcast h0
    obtain ⟨R, hR⟩ : ∃ R, R = bit.tmod (8 * (s.size : Int)) := ⟨_, rfl⟩
    rw [← hR] at hcases
    have hR' : bit.tmod (8 * (s.size : Int)) = R := hR.symm
    clear hR
    have hsz : 1 ≤ (s.size : Int) := by omega
    rcases hcases with rfl | ⟨hneg, hsum⟩
    all_goals
      have hb1 := run_bytes_of_string (P := Tryz.prog) w 9 90 5 s Tryz.underlying9 Tryz.underlying90 Tryz.underlying5
      have hat := made_at w s (grownCap w s.size 0 5) (B / 8) (by omega)
      have hbk := made_back w s (grownCap w s.size 0 5) B (by omega)
      have hbel := made_below w s (grownCap w s.size 0 5)
      obtain ⟨W1, hW1⟩ : ∃ W1, W1 = made w s (grownCap w s.size 0 5) := ⟨_, rfl⟩
      rw [show w.drew.alloc _ = made w s (grownCap w s.size 0 5) from rfl, ← hW1] at hb1
      rw [← hW1] at hat hbk hbel
      obtain ⟨C, hC⟩ : ∃ C, C = grownCap w s.size 0 5 := ⟨_, rfl⟩
      rw [← hC] at hb1 hbk
      clear hW1 hC
      obtain ⟨ha1, ha2⟩ := hat
      obtain ⟨c, hc⟩ : ∃ c, c = (s.data.toList.getD (B / 8) 0).toNat := ⟨_, rfl⟩
      rw [bv, ← hc] at ha1
      rw [← hc] at hbk
      have hcl : c < 256 := by rw [hc]; exact (s.data.toList.getD (B / 8) 0).toNat_lt
      have hf := flip_lt' c (B % 8) hcl (by omega)
      have hxor := u8_xor_nat c (2 ^ (B % 8)) hcl (pow_lt8 B)
      rw [show c ^^^ 2 ^ (B % 8) = flip c (B % 8) from rfl] at hxor
      obtain ⟨V, hV⟩ : ∃ V, V = flip c (B % 8) := ⟨_, rfl⟩
      rw [← hV] at hbk hf hxor
      have ebv : bv (UInt8.ofNat V) = .int .u8 (V : Int) := by rw [bv]; congr 1; simp; omega
      rw [ebv] at hbk
      have hp8 := pow_lt8 B
      obtain ⟨D, hD⟩ : ∃ D, D = 2 ^ (B % 8) := ⟨_, rfl⟩
      rw [← hD] at hxor
      have g1 : (B : Int).tdiv 8 = ((B / 8 : Nat) : Int) := by rw [Int.tdiv_eq_ediv_of_nonneg (by omega)]; omega
      have g2 : IntKind.i64.wrap ((B / 8 : Nat) : Int) = ((B / 8 : Nat) : Int) := IntWalk.i64_in _ (by omega)
      have g3 : (B : Int).tmod 8 = ((B % 8 : Nat) : Int) := by rw [Int.tmod_eq_emod_of_nonneg (by omega)]; omega
      have g4 : IntKind.i64.wrap ((B % 8 : Nat) : Int) = ((B % 8 : Nat) : Int) := IntWalk.i64_in _ (by omega)
      have g5 : ((B / 8 : Nat) : Int) < s.size := by omega
      have g6 : (B % 8 : Nat) < 8 := by omega
      obtain ⟨K, hK⟩ : ∃ K, K = B / 8 := ⟨_, rfl⟩
      obtain ⟨M, hM⟩ : ∃ M, M = B % 8 := ⟨_, rfl⟩
      rw [← hK] at g1 g2 g5 ha1 ha2 hbk
      rw [← hM] at g3 g4 g6 hD hp8
      have hpm : (2 : Int) ^ M % 256 = (D : Int) := by
        rw [show (2 : Int) ^ M = ((2 ^ M : Nat) : Int) by push_cast; rfl, ← hD]
        omega
      have HP := Lib.hid hpm
      have hc2 := hbk (W1.setCell ⟨w.heap.size, K, none⟩ (.int .u8 (V : Int))).drew rfl
      have hset : Below w.heap.size w (W1.setCell ⟨w.heap.size, K, none⟩ (.int .u8 (V : Int))).drew := (hbel.setCell (Nat.le_refl _) _).drew
      clear hc hV ebv hK hM hbk hpm
      go_enter Tryz.func76, Tryz.ntmps76
      go_wp2
      go_region
      all_goals
        rw [HP.out, hxor]
        go_wp2
        go_ret
        exact ⟨rfl, hset⟩

end Go.Proofs.YtcbnpdognadilaaGreat.Fr

/- Package disk's Rot and Restart. -/
namespace Go.Proofs.YtcbnpdognadilaaGreat.Dk
open Go.RowKit Tx Pm Pl Pr
set_option linter.unusedVariables false

/-! Restart: the next loose file -/
def lse (x : It) : Bool := x.loose
theorem next_loose {s : St} {U j st : Nat} {p : ByteArray} {r : List ByteArray} : ∀ (m k : Nat) (pre : List It), s.L.length - k ≤ m → Through s U k j pre st → held lse (s.L.drop k) = p :: r →
    ∃ k2 pre2 x, Through s U k2 j pre2 st ∧ mid s k2 pre2 st = mid s k pre st ∧ s.L[k2]? = some x ∧ x.loose = true ∧ x.path = p ∧ held lse (s.L.drop (k2 + 1)) = r
  | 0, k, pre, hm, h, he => by
    rw [List.drop_of_length_le (by omega)] at he
    cases he
  | m + 1, k, pre, hm, h, he => by
    by_cases hk : k < s.L.length
    · have hx : s.L[k]? = some s.L[k] := List.getElem?_eq_getElem hk
      rw [List.drop_eq_getElem_cons hk, held_cons] at he
      cases hl : s.L[k].loose with
      | true =>
        have hl2 : lse s.L[k] = true := hl
        rw [if_pos hl2, List.singleton_append] at he
        injection he with he1 he2
        exact ⟨k, pre, s.L[k], h, rfl, hx, hl, he1, he2⟩
      | false =>
        have hl2 : ¬ lse s.L[k] = true := by unfold lse; rw [hl]; decide
        rw [if_neg hl2, List.nil_append] at he
        obtain ⟨k2, pre2, x, h1, h2, h3⟩ := next_loose m (k + 1) (pre ++ [s.L[k]]) (by omega) (through_calm h hx hl) he
        exact ⟨k2, pre2, x, h1, h2.trans (mid_calm h hx), h3⟩
    · rw [List.drop_of_length_le (by omega)] at he
      cases he
theorem end_loose {s : St} {U j st : Nat} : ∀ (m k : Nat) (pre : List It), s.L.length - k ≤ m → Through s U k j pre st → held lse (s.L.drop k) = [] →
    ∃ pre2, Through s U s.L.length j pre2 st ∧ mid s s.L.length pre2 st = mid s k pre st
  | 0, k, pre, hm, h, he => by
    have := h.le
    obtain rfl : k = s.L.length := by omega
    exact ⟨pre, h, rfl⟩
  | m + 1, k, pre, hm, h, he => by
    by_cases hk : k < s.L.length
    · have hx : s.L[k]? = some s.L[k] := List.getElem?_eq_getElem hk
      rw [List.drop_eq_getElem_cons hk, held_cons] at he
      cases hl : s.L[k].loose with
      | true =>
        have hl2 : lse s.L[k] = true := hl
        rw [if_pos hl2] at he
        cases he
      | false =>
        have hl2 : ¬ lse s.L[k] = true := by unfold lse; rw [hl]; decide
        rw [if_neg hl2, List.nil_append] at he
        obtain ⟨pre2, h1, h2⟩ := end_loose m (k + 1) (pre ++ [s.L[k]]) (by omega) (through_calm h hx hl) he
        exact ⟨pre2, h1, h2.trans (mid_calm h hx)⟩
    · have := h.le
      obtain rfl : k = s.L.length := by omega
      exact ⟨pre, h, rfl⟩
theorem restart_mid {s : St} {U j st : Nat} {pre : List It} {loss : Int} (hU : U = u64 loss) (h : Through s U s.L.length j pre st) : restartS s loss = { mid s s.L.length pre st with down := false, armed := -1 } := by
  have := through_end h
  unfold restartS mid
  rw [← hU, this, List.drop_of_length_le (Nat.le_refl _), List.append_nil]
theorem ne_dir {s : St} (hg : Good s) {x : It} (hx : x ∈ s.L) (hl : x.loose = true) : x.dir = false := by
  cases hd : x.dir with
  | false => rfl
  | true =>
    have := (hg.dirs x hx hd).2.2.1
    rw [hl] at this
    cases this
theorem mid_old {s : St} {U k j st : Nat} {pre : List It} {x : It} (hr : Rises s.L) (h : Through s U k j pre st) (hx : s.L[k]? = some x) (hd : x.dir = false) :
    old (mid s k pre st).L x.path = x ∧ kind (mid s k pre st).L x.path = 2 := by
  obtain ⟨e1, e2⟩ := mid_at h hx
  have hf := find_paths (mid_rises h hr) (List.mem_of_getElem? e2)
  refine ⟨by rw [old, hf]; rfl, ?_⟩
  unfold kind kindOf
  rw [hf]
  simp only
  rw [if_neg (by rw [hd]; decide)]
theorem mid_set {s : St} {U k j st : Nat} {pre : List It} {x : It} (hr : Rises s.L) (h : Through s U k j pre st) (hx : s.L[k]? = some x) (pick : Nat) :
    putS (mid s k pre st) (lose pick x) = mid s (k + 1) (pre ++ [{ lose pick x with stamp := st + 1 }]) (st + 1) :=
  mid_put h hr hx (x' := { lose pick x with stamp := st + 1 }) rfl

set_option maxRecDepth 100000 in
set_option maxHeartbeats 4000000 in
theorem iRestart_any (b bi bl : Nat) (l : Int) (s : St) (loss : Int) (w : World) (h : Ia b bi bl l w s) (hg : Good s) (hs : Sound s) (hn : s.L.length ≤ 1000000000) (hps : ∀ x ∈ s.L, x.path.size ≤ 8000000000000) (hl : -9223372036854775808 ≤ loss ∧ loss ≤ 9223372036854775807) :
    Calls Tryz.prog 31 #[.pointer (some ⟨b, 0, none⟩), .int .i64 loss] w fun e w' => e = .returned (.int .i64 ((0 : Nat) : Int)) ∧ Ip b bi bl w (restartS s loss) w' := by
  obtain ⟨U, hU⟩ : ∃ U, U = u64 loss := ⟨_, rfl⟩
  have cp := iPaths_any b bi bl l s 72 #[] lse w h hg.rises hn hps (fun a1 a2 W => Rg.enters Tryz.func72 (by kernel_rfl) (by kernel_rfl) _ W) (fun W x _ _ => iRestC_any x W)
  have hll := held_len lse s.L
  have HH := Lib.hid h
  have HG := Lib.hid hg
  have HS := Lib.hid hs
  have HN := Lib.hid hn
  have HP := Lib.hid hps
  have hft := h.lt
  have HF := Lib.hid hft
  clear h hg hs hps hft
  go_enter Tryz.func31, Tryz.ntmps31
  go_wp2_with fail
  go_at_call 71
  refine cp.mono ?_
  rintro e w1 ⟨v, rfl, hT, hb1⟩
  have hlen : (held lse s.L).length ≤ 1000000000 := Nat.le_trans hll HN.out
  obtain ⟨a, c, hv, hstr, _, _⟩ := hT.form
  have hge : ∀ bb off, a = some ⟨bb, off, none⟩ → w.heap.size ≤ bb ∨ (held lse s.L).length = 0 := by
    intro bb off ha
    rcases hT.2 with ⟨hv2, h0⟩ | ⟨g, cap, cur, hv2, hgg, _⟩
    · exact .inr h0
    · rw [hv, ha] at hv2
      cases hv2
      exact .inl hgg
  have hstr2 : ∀ W, Chg (Ft b bi bl) w1 W → ∀ j p, (held lse s.L)[j]? = some p → ∃ bb off, a = some ⟨bb, off, none⟩ ∧ W.cell? ⟨bb, off + j, none⟩ = some (.string p) := by
    intro W hW j p hj
    have hjl : j < (held lse s.L).length := (List.getElem?_eq_some_iff.1 hj).1
    rcases hstr.2 with h0 | ⟨bb, off, ha, hbb, hcc⟩
    · omega
    · refine ⟨bb, off, ha, ?_⟩
      have hgb := (hge bb off ha).resolve_right (by omega)
      have hx := hcc j p hj
      unfold World.cell? at *
      rw [hW.block bb hbb (fun hf => by have := HF.out bb hf; omega)]
      exact hx
  subst hv
  have HST := Lib.hid hstr2
  have hIA : Ia b bi bl l w1 (mid s 0 [] s.stamps) := HH.out.below hb1
  have HIA := Lib.hid hIA
  obtain ⟨n, hn2⟩ : ∃ n, n = (held lse s.L).length := ⟨_, rfl⟩
  rw [← hn2] at hlen
  have HN2 := Lib.hid hn2
  rw [← hn2]
  have HT := Lib.hid hT
  clear hstr hge hstr2 hIA hT cp hll hn2
  go_wp2_with fail
  go_loopw [14] (fun i wr => ∃ (j k st : Nat) (pre : List It) (l2 : Int), j ≤ n ∧ i = .int .i64 j ∧ Hid (Through s U k j pre st ∧ (held lse s.L).drop j = held lse (s.L.drop k)) ∧ Ia b bi bl l2 wr (mid s k pre st) ∧ Chg (Ft b bi bl) w1 wr) (fun i _ => n - (intOf i).toNat)
  case atStart => exact ⟨0, 0, s.stamps, [], l, Nat.zero_le _, rfl, ⟨through_zero s U, rfl⟩, HIA.out, Chg.refl _ _⟩
  case round =>
    obtain ⟨j, k, st, pre, l2, hj, rfl, hT2, hI, hC⟩ := hrel
    by_cases hlt : j < n
    · obtain ⟨p, hp⟩ : ∃ p, (held lse s.L)[j]? = some p := ⟨_, List.getElem?_eq_getElem (by rw [← HN2.out]; exact hlt)⟩
      obtain ⟨bb, off, ha, hcl⟩ := HST.out _ hC j p hp
      obtain ⟨hjl, hpe⟩ := List.getElem?_eq_some_iff.1 hp
      have hcons : held lse (s.L.drop k) = p :: (held lse s.L).drop (j + 1) := by rw [← hT2.out.2, List.drop_eq_getElem_cons hjl, hpe]
      obtain ⟨k2, pre2, x, hth, hmid, hx, hlo, hxp, hrest⟩ := next_loose _ k pre (Nat.le_refl _) hT2.out.1 hcons
      rw [← hmid] at hI
      have hxm := List.mem_of_getElem? hx
      have hd := ne_dir HG.out hxm hlo
      obtain ⟨ho, hk⟩ := mid_old HG.out.rises hth hx hd
      have hpx := HP.out x hxm
      have hsz := HS.out.size x hxm
      have hkp := HS.out.kept x hxm
      have hpl := mix_lt U (j + 1)
      have hnk := hth.num
      have hkl := hth.le
      have hss := hth.stamp
      have hsb := HS.out.stamps
      have cm := fun W => iMix_any loss (j + 1) W hl (by omega)
      rw [← hU] at cm
      have cl := fun W => iLost_any x.data x.kept x.anew 2 (stOf x) x.stamp (mix U (j + 1)) W (by unfold stOf; rw [hlo]; rfl) hsz.1 hkp hpl
      have cs := fun W (hW : Ia b bi bl l2 W (mid s k2 pre2 st)) => iSet_any b bi bl l2 (mid s k2 pre2 st) (lose (mix U (j + 1)) x) x.stamp p W hW hxp (by rw [← hxp]; exact hpx) (by rw [mid_len hth]; exact HN.out) (by show st ≤ _; omega)
      rw [mid_set HG.out.rises hth hx] at cs
      obtain ⟨q1, q2⟩ := lose_R (mix U (j + 1)) x
      rw [q1, q2, show kOf (lose (mix U (j + 1)) x) = 2 from kOf_file hd, show stOf (lose (mix U (j + 1)) x) = 0 from rfl] at cs
      have hlk := fun W (hW : Ia b bi bl l2 W (mid s k2 pre2 st)) => hW.look (p := p) (by rw [← hxp]; exact maxLen_of hpx)
      rw [hxp] at ho hk
      rw [ho, hk] at hlk
      have HTN := Lib.hid (And.intro (through_loose hth hx hlo) hrest.symm)
      generalize loseR x.data x.kept x.anew (mix U (j + 1)) = Z at cl cs
      generalize mix U (j + 1) = PK at cm cl hpl
      subst ha
      have hadd : IntKind.i64.wrap ((j : Int) + 1) = ((j + 1 : Nat) : Int) := IntWalk.i64_in _ (by omega)
      have HAD := Lib.hid hadd
      have HI := Lib.hid hI
      have HLK := Lib.hid hlk
      clear hadd hI hlk hth hx hlo hxp hrest hmid ho hk hpx hsz hkp hpl hnk hkl hss hsb q1 q2 hd hxm hcons hp hpe hjl hT2
      go_wp2_with fail
      refine Rg.wp_only ?_ (regRestart _ (by kernel_rfl) _ b bi bl j PK l2 loss 2 (stOf x) x.stamp (mid s k2 pre2 st) _ p x.data x.kept Z _ HI.out HLK.out HAD.out cm cl cs)
      rintro _ w9 ⟨rfl, l9, hI9, hC9⟩
      go_wp2_with fail
      go_roundw
      case rel => exact ⟨j + 1, k2 + 1, st + 1, _, l9, by omega, by go_num, HTN, hI9, hC.then hC9⟩
      case measure => simp [intOf]; omega
    · obtain rfl : j = n := by omega
      have hnil : held lse (s.L.drop k) = [] := by rw [← hT2.out.2, List.drop_of_length_le (by rw [HN2.out]; exact Nat.le_refl _)]
      obtain ⟨pre3, h3, h4⟩ := end_loose _ k pre (Nat.le_refl _) hT2.out.1 hnil
      have hres := restart_mid hU h3
      rw [h4] at hres
      have HRS := Lib.hid hres
      have hc9 := hI.cell
      have hw9 := hI.warm
      have hb1' : (wr.setCell ⟨b, 5, none⟩ (.bool false)).heap[b]? = some (.cells #[.map (some bi), .map (some bl), .int .i64 l2, .int .i64 (mid s k pre st).steps, .int .i64 (mid s k pre st).stamps, .bool false] 47 (0, 0)) := own_cells hI 5 _ rfl
      have hb2' : ((wr.setCell ⟨b, 5, none⟩ (.bool false)).setCell ⟨b, 2, none⟩ (.int .i64 (-1))).heap[b]? = some (.cells #[.map (some bi), .map (some bl), .int .i64 (-1), .int .i64 (mid s k pre st).steps, .int .i64 (mid s k pre st).stamps, .bool false] 47 (0, 0)) := set_block hb1' _
      have hc2 : Chg (· = b) wr ((wr.setCell ⟨b, 5, none⟩ (.bool false)).setCell ⟨b, 2, none⟩ (.int .i64 (-1))) := (chg_set _).then (chg_set _)
      have a2 : Ia b bi bl (-1) _ { mid s k pre st with down := false, armed := -1 } := hI.poke hc2 hb2' rfl rfl (.inr rfl) (by omega)
      have HE := Lib.hid (show Ip b bi bl w { mid s k pre st with down := false, armed := -1 } _ from ⟨-1, a2, ((Chg.of_below hb1).then hC).then (hc2.mono ft_b)⟩)
      have g2 : (wr.setCell ⟨b, 5, none⟩ (.bool false)).cell? ⟨b, 2, none⟩ = some (.int .i64 l2) := by unfold World.cell?; rw [hb1']; rfl
      obtain ⟨c0, c1, c2, c3, c4, c5⟩ := hc9
      clear hI hT2 hnil h3 h4 hres hb1' hb2' hc2 a2 hC
      go_wp2
      go_ret
      exact ⟨rfl, by rw [HRS.out]; exact HE.out⟩
end Go.Proofs.YtcbnpdognadilaaGreat.Dk

/- Package disk's Rot. -/
namespace Go.Proofs.YtcbnpdognadilaaGreat.Dk
open Go.RowKit Tx Pm Pl Pr
set_option linter.unusedVariables false

set_option maxRecDepth 100000 in
set_option maxHeartbeats 2000000 in
theorem iRot_any (b bi bl : Nat) (l : Int) (s : St) (p : ByteArray) (bit : Int) (w : World) (h : Ia b bi bl l w s) (ok : Ok s) (hp : p.size ≤ 8000000000000) (hbit : -9223372036854775808 ≤ bit ∧ bit ≤ 9223372036854775807)
    (hsz : (old s.L p).data.size ≤ 140737488355328 ∧ (old s.L p).kept.size ≤ 140737488355328) :
    Calls Tryz.prog 33 #[.pointer (some ⟨b, 0, none⟩), .string p, .int .i64 bit] w fun e w' => e = .returned (.int .i64 ((rotS s p bit).1 : Nat)) ∧ Ip b bi bl w (rotS s p bit).2 w' := by
  have c1 := iMaySync_any b bi bl l s p w h hp
  have hself : ∀ w', Below w.heap.size w w' → Ip b bi bl w s w' := fun w' hb => Ip.of (h.below hb) hb
  unfold rotS
  by_cases h1 : there s p ≠ 0
  · rw [if_pos h1]
    have HS := Lib.hid hself
    have e1 := ne_eq h1
    generalize there s p = E at c1 e1 ⊢
    clear h hself h1
    go_enter Tryz.func33, Tryz.ntmps33
    go_wp2_with (go_at_call 63; refine c1.mono ?_; rintro e w1 ⟨rfl, hb1⟩)
    go_ret
    exact ⟨rfl, HS.out _ hb1⟩
  · rw [if_neg h1]
    have h0 : there s p = 0 := by omega
    rw [h0] at c1
    have hk := (there_kind h0).2
    have hod : (old s.L p).dir = false := (old_file h0).1
    have ct1 := fun W => Fr.fTurn_any (old s.L p).data bit W hsz.1 hbit.1 hbit.2
    have ct2 := fun W => Fr.fTurn_any (old s.L p).kept bit W hsz.2 hbit.1 hbit.2
    have cs := fun W (hW : Ia b bi bl l W s) => iSet_any b bi bl l s { old s.L p with data := Fr.tn (old s.L p).data bit, kept := Fr.tn (old s.L p).kept bit } (old s.L p).stamp p W hW (old_path _ _) hp ok.fit.1 ok.stamps
    rw [show kOf { old s.L p with data := Fr.tn (old s.L p).data bit, kept := Fr.tn (old s.L p).kept bit } = 2 from kOf_file hod, show stOf { old s.L p with data := Fr.tn (old s.L p).data bit, kept := Fr.tn (old s.L p).kept bit } = stOf (old s.L p) from rfl] at cs
    simp only at cs
    have hlk := fun W (hW : Below w.heap.size w W) => (h.below hW).look (p := p) (maxLen_of hp)
    rw [hk] at hlk
    have HLK := Lib.hid hlk
    have HC := Lib.hid (fun W (hW : Below w.heap.size w W) => (h.below hW).cell.1)
    have HI := Lib.hid (fun W (hW : Below w.heap.size w W) => h.below hW)
    have hft := h.lt
    have HF := Lib.hid hft
    generalize putS s { old s.L p with data := Fr.tn (old s.L p).data bit, kept := Fr.tn (old s.L p).kept bit } = s2 at cs ⊢
    generalize Fr.tn (old s.L p).data bit = TX at ct1 cs
    generalize Fr.tn (old s.L p).kept bit = TY at ct2 cs
    generalize (old s.L p).data = X at ct1 HLK
    generalize (old s.L p).kept = Y at ct2 HLK
    generalize stOf (old s.L p) = T at HLK cs
    generalize ((old s.L p).stamp : Int) = M at HLK cs
    clear h hself h1 h0 hk hod hlk hft hsz ok
    go_enter Tryz.func33, Tryz.ntmps33
    go_wp2_with (go_at_call 63; refine c1.mono ?_; rintro e w1 ⟨rfl, hb1⟩; have g0 := HC.out _ hb1; have l0 := HLK.out _ hb1; have l1 := fun o => HLK.out _ (below_call hb1 ((Below.refl _ w1).alloc (Nat.le_refl _) o)))
    have hbx : Box5 (w1.alloc (.cells #[.int .i64 2, .string X, .string Y, .int .i64 T, .int .i64 M] 65)) w1.heap.size 2 X Y T M := box5_of (new_at w1 _ rfl)
    have hblk := new_at w1 (.cells #[.int .i64 2, .string X, .string Y, .int .i64 T, .int .i64 M] 65) rfl
    have hwm : ∀ W, Below (w1.alloc (.cells #[.int .i64 2, .string X, .string Y, .int .i64 T, .int .i64 M] 65)).heap.size (w1.alloc (.cells #[.int .i64 2, .string X, .string Y, .int .i64 T, .int .i64 M] 65)) W → ∀ k, W.frozen? ⟨w1.heap.size, k, none⟩ = false := by
      intro W hW k
      unfold World.frozen?
      rw [hW.block _ (by simp), hblk]
      simp
    refine Rg.wp_only ?_ (regRot _ (by kernel_rfl) _ w1.heap.size X Y TX TY 2 T M bit _ hbx hwm ct1 ct2)
    rintro _ w9 ⟨rfl, w4, hb4, rfl⟩
    have hbox4 := hbx.below hb4
    have hI4 := HI.out _ (below_call (below_call hb1 ((Below.refl _ w1).alloc (Nat.le_refl _) _)) hb4)
    have hnf : ∀ i, Ft b bi bl i → i ≠ w1.heap.size := fun i hi => by have := HF.out i hi; have := hb1.size; omega
    have hI5 := (hI4.chg (F := (· = w1.heap.size)) (chg_set (b := w1.heap.size) (k := 1) (.string TX)) (fun i hi => hnf i hi)).chg (F := (· = w1.heap.size)) (chg_set (b := w1.heap.size) (k := 2) (.string TY)) (fun i hi => hnf i hi)
    have hcg : Chg (Ft b bi bl) w ((w4.setCell ⟨w1.heap.size, 1, none⟩ (.string TX)).setCell ⟨w1.heap.size, 2, none⟩ (.string TY)) := by
      have hb5 := below_call (below_call hb1 ((Below.refl _ w1).alloc (Nat.le_refl _) (.cells #[.int .i64 2, .string X, .string Y, .int .i64 T, .int .i64 M] 65))) hb4
      have hz := hb1.size
      exact Chg.of_below ((hb5.setCell (by exact hz) _).setCell (by exact hz) _)
    have HCG := Lib.hid hcg
    have cs5 := cs _ hI5
    obtain ⟨hlt4, m0, m1, m2, m3, m4⟩ := hbox4
    have hw4 := fun k => hwm _ hb4 k
    clear hI4 hI5 hcg cs hbx hblk hwm l1
    go_wp2_with fail
    refine cs5.mono ?_
    rintro e w6 ⟨rfl, l6, hI6, hC6⟩
    go_wp2_with fail
    go_ret
    exact ⟨rfl, l6, hI6, HCG.out.then hC6⟩
end Go.Proofs.YtcbnpdognadilaaGreat.Dk

/- Package disk's disk, in the laws' words. -/
namespace Go.Proofs.YtcbnpdognadilaaGreat.Dk
open Go.RowKit Tx Pm Pl Pr
set_option linter.unusedVariables false

theorem does_of {b bi bl : Nat} {w w' : World} {F : Nat → Prop} {r : Nat × St} {e : Ending} (hg : Good r.2) (hF : ∀ i, F i ↔ Ft b bi bl i) (h : e = .returned (.int .i64 (r.1 : Nat)) ∧ Ip b bi bl w r.2 w') : Does (ImpAt b) w F r e w' := ⟨h.1, h.2.left hg hF⟩
theorem far_old {s : St} {i T : Nat} (hf : Far s i T) (p : ByteArray) : (old s.L p).data.size ≤ 1048576000 ∧ (old s.L p).kept.size ≤ 1048576000 := by
  have hT := hf.T
  rcases old_cases s.L p with e | ⟨hm, _⟩
  · rw [e]
    exact ⟨Nat.zero_le _, Nat.zero_le _⟩
  · have := hf.inv.size _ hm
    omega
theorem imp_works (b : Nat) : Works (ImpAt b) (.pointer (some ⟨b, 0, none⟩)) impF where
  kind := imp_kind b
  mkdir := fun P h hf hP => by
    obtain ⟨bi, bl, l, hI, hg, hF⟩ := h
    exact (iMkdir_any b bi bl l _ P _ hI hg (hf.inv.ok hf.i hf.T) (by omega)).mono fun e w' ht => does_of (good_mkdir hg) hF ht
  write := fun P Q h hf hP hQ => by
    obtain ⟨bi, bl, l, hI, hg, hF⟩ := h
    exact (iWrite_any b bi bl l _ P Q _ hI hg (hf.inv.ok hf.i hf.T) (by omega) (by omega)).mono fun e w' ht => does_of (good_write hg) hF ht
  append := fun P Q h hf hP hQ => by
    obtain ⟨bi, bl, l, hI, hg, hF⟩ := h
    exact (iAppend_any b bi bl l _ P Q _ hI hg (hf.inv.ok hf.i hf.T) (by omega) (by omega) (by have := far_old hf P; omega)).mono fun e w' ht => does_of (good_append hg) hF ht
  sync := fun P h hf hP => by
    obtain ⟨bi, bl, l, hI, hg, hF⟩ := h
    exact (iSync_any b bi bl l _ P _ hI hg (hf.inv.ok hf.i hf.T) (by omega)).mono fun e w' ht => does_of (good_sync hg) hF ht
  rename := fun P Q h hf hP hQ => by
    obtain ⟨bi, bl, l, hI, hg, hF⟩ := h
    exact (iRename_any b bi bl l _ P Q _ hI hg (hf.inv.ok hf.i hf.T) (by omega) (by omega)).mono fun e w' ht => does_of (good_rename hg) hF ht
  remove := fun P h hf hP => by
    obtain ⟨bi, bl, l, hI, hg, hF⟩ := h
    exact (iRemove_any b bi bl l _ P _ hI hg (hf.inv.ok hf.i hf.T) (by omega)).mono fun e w' ht => does_of (good_remove hg) hF ht
  limit := fun P M h hf hP hM => by
    obtain ⟨bi, bl, l, hI, hg, hF⟩ := h
    exact (iLimit_any b bi bl l _ P M _ hI (by omega) hM (hf.inv.ok hf.i hf.T).rooms).mono fun e w' ht => does_of (good_limit hg) hF ht
  restart := fun M h hf hM => by
    obtain ⟨bi, bl, l, hI, hg, hF⟩ := h
    exact (iRestart_any b bi bl l _ M _ hI hg (hf.inv.sound hf.i hf.T) (hf.inv.ok hf.i hf.T).fit.1 (hf.inv.ok hf.i hf.T).fit.2.1 hM).mono fun e w' ht => does_of (good_restart hg) hF ht
  rot := fun P M h hf hP hM => by
    obtain ⟨bi, bl, l, hI, hg, hF⟩ := h
    exact (iRot_any b bi bl l _ P M _ hI (hf.inv.ok hf.i hf.T) (by omega) hM (by have := far_old hf P; omega)).mono fun e w' ht => does_of (good_rot hg) hF ht
theorem same_below {w w' : World} (h : w = w') : Below w.heap.size w w' := by
  subst h
  exact Below.refl _ _
theorem imp_reads (b : Nat) : Reads (ImpAt b) (.pointer (some ⟨b, 0, none⟩)) impR where
  read := fun P h hf hP => by
    obtain ⟨bi, bl, l, hI, hg, hF⟩ := h
    exact iRead_any b bi bl l _ P _ hI hg (by omega)
  kind := fun P h hf hP => by
    obtain ⟨bi, bl, l, hI, hg, hF⟩ := h
    exact (iKind_any b bi bl l _ P _ hI (by omega)).mono fun e w' ht => ⟨ht.1, same_below ht.2⟩
  stamp := fun P h hf hP => by
    obtain ⟨bi, bl, l, hI, hg, hF⟩ := h
    exact (iStamp_any b bi bl l _ P _ hI (by omega)).mono fun e w' ht => ⟨ht.1, same_below ht.2⟩
  used := fun P h hf hP => by
    obtain ⟨bi, bl, l, hI, hg, hF⟩ := h
    exact iUsed_any b bi bl l _ P _ hI hg.rises (hf.inv.ok hf.i hf.T).fit
  list := fun P h hf hP => by
    obtain ⟨bi, bl, l, hI, hg, hF⟩ := h
    exact iList_any b bi bl l _ P _ hI hg.rises (hf.inv.ok hf.i hf.T).fit.1 (hf.inv.ok hf.i hf.T).fit.2.1
theorem imp_impl : Impl ImpAt where
  works := imp_works
  reads := imp_reads
  arm := fun b {w F s i T} M h hf hM => by
    obtain ⟨bi, bl, l, hI, hg, hF⟩ := h
    exact (iArm_any b bi bl l s M w hI hM).mono fun e w' ht => ⟨⟨_, ht.1⟩, ht.2.left (good_of hg rfl rfl) hF⟩
  steps := fun b {w F s i T} h hf => by
    obtain ⟨bi, bl, l, hI, hg, hF⟩ := h
    exact (iSteps_any b bi bl l s w hI).mono fun e w' ht => ⟨ht.1, same_below ht.2⟩
  down := fun b {w F s i T} h hf => by
    obtain ⟨bi, bl, l, hI, hg, hF⟩ := h
    exact (iDown_any b bi bl l s w hI).mono fun e w' ht => ⟨ht.1, same_below ht.2⟩
  new := fun w => (iNew_any w).mono fun e w' ⟨b, bi, bl, he, hI, hF, hb⟩ => ⟨b, Ft b bi bl, he, ⟨bi, bl, -1, hI, good_new, fun _ => Iff.rfl⟩, hF, hb⟩
end Go.Proofs.YtcbnpdognadilaaGreat.Dk
