/- Texts of this seat, one behind the other. -/
import Derived.Test.YtnpobigombafoaaT1
import Derived.Test.YtnpobigombafoaaProg
import Derived.WalkKit
import Derived.Deep.RegionHeld3
import Derived.Laws.AppendOwn
import Derived.Deep.QuietTactic
import Derived.BigQuiet
namespace Go.Proofs.Ytnpobigombafoaa.Rg
open Go.RowKit
set_option linter.unusedVariables false
def Only (R : Act → World → Prop) : Exit → Act → World → Prop
  | .normal, a, w => R a w
  | _, _, _ => False
theorem wp_only {P : Program} {c : Code} {Q : Exit → Act → World → Prop} {R : Act → World → Prop} {a : Act} {w : World} (hR : ∀ a w, R a w → Q .normal a w) (h : c.wp P (Only R) a w) : c.wp P Q a w :=
  Code.wp_mono (fun e a w h => by cases e <;> first | exact hR _ _ h | exact (h : False).elim) h
def regOps (n : Nat) : Code → Option (Array Oper)
  | .region id ops _ => if id = n then some ops else none
  | .seq a b => (match regOps n a with | some x => some x | none => regOps n b)
  | .cond _ a b => (match regOps n a with | some x => some x | none => regOps n b)
  | .block _ a => regOps n a
  | .loop a => regOps n a
  | .scope a => regOps n a
  | .rangeFunc _ _ a b => (match regOps n a with | some x => some x | none => regOps n b)
  | _ => none
def opsOf (f : Func) (n : Nat) : Array Oper := match f.body with | some c => (regOps n c).getD #[] | none => #[]
def opOf (ops : Array Oper) (i : Nat) : Oper := (ops[i]?).getD default
section
variable {P : Program} {ops : Array Oper} {R : Act → World → Prop} {S : World → Prop}
theorem opOf_some {i : Nat} (h : decide (i < ops.size) = true) : ops[i]? = some (opOf ops i) := by
  have h := of_decide_eq_true h
  rw [opOf, Array.getElem?_eq_getElem h]
  rfl
theorem take (i : Nat) (d : Option Tmp) (v : Value) {fuel : Nat} {listed : Array Bool} {a : Act} {w : World} (hs : Region.noSelect ops = true)
    (hi : decide (i < ops.size) = true) (hd : (opOf ops i).dst = d) (hf : Region.free .any ops listed i = true) (hr : (Region.ready .any ops listed).contains i = true)
    (hw : Region.wanted (opOf ops i) (yielded ops a.tmps) = true) (hS : S w)
    (hy : ∀ w, S w → (execOp a.eval (opOf ops i)).run P w = .ok (.value v) w)
    (h : wpAnyH P .any ops (Only R) S fuel (listed.setIfInBounds i true) (a.put d v) w) : wpAnyH P .any ops (Only R) S (fuel + 1) listed a w := by
  subst hd
  exact wpAnyH_take (opOf_some hi) hs hf hr (fun _ _ _ h => h) (Or.inl ⟨hw, hy⟩) hS h
theorem skip (i : Nat) (d : Option Tmp) {fuel : Nat} {listed : Array Bool} {a : Act} {w : World} (hs : Region.noSelect ops = true)
    (hi : decide (i < ops.size) = true) (hd : (opOf ops i).dst = d) (hf : Region.free .any ops listed i = true) (hr : (Region.ready .any ops listed).contains i = true)
    (hw : Region.wanted (opOf ops i) (yielded ops a.tmps) = false) (hS : S w)
    (h : wpAnyH P .any ops (Only R) S fuel (listed.setIfInBounds i true) (a.put d undef) w) : wpAnyH P .any ops (Only R) S (fuel + 1) listed a w := by
  subst hd
  exact wpAnyH_take (opOf_some hi) hs hf hr (fun _ _ _ h => h) (Or.inr ⟨hw, rfl⟩) hS h
theorem enters {f : FuncId} {fn : Func} (hf : P.funcs[f]? = some fn) (hn : (fn.name == "runtime.NumGoroutine") = false) (hb : fn.body.isNone = false) (args : Array Value) (w : World) : (callFunc f args).run P w = .ok (.enter f args) w := by
  have h1 : fn.name ≠ "runtime.NumGoroutine" := by simpa using hn
  have h2 : fn.body ≠ none := fun h => by rw [h] at hb; cases hb
  simp [callFunc, hf, h1, h2]
theorem call (i : Nat) (d : Option Tmp) (f : FuncId) (args : Array Value) {fn : Func} {xs : Array Operand} {ats : Array TypeId} {fuel : Nat} {listed : Array Bool} {a : Act} {w : World}
    (hi : decide (i < ops.size) = true) (hd : (opOf ops i).dst = d) (hr : Region.ready .any ops listed = [i])
    (hw : Region.wanted (opOf ops i) (yielded ops a.tmps) = true) (ho : (opOf ops i).op = .call { callee := .value (.func f), args := xs, argTypes := ats })
    (hf : P.funcs[f]? = some fn) (hn : (fn.name == "runtime.NumGoroutine") = false) (hb : fn.body.isNone = false) (hx : xs.map a.eval = args)
    (h : Calls P f args w fun e w' => ∃ v, e = .returned v ∧ S w' ∧ (S w' → wpAnyH P .any ops (Only R) S fuel (listed.setIfInBounds i true) (a.put d v) w')) :
    wpAnyH P .any ops (Only R) S (fuel + 1) listed a w := by
  subst hd
  refine wpAnyH_all hr (by simp) fun j hj => ?_
  obtain rfl : j = i := by simpa using hj
  unfold wpOp
  rw [opOf_some hi]
  simp only [hw, if_true]
  refine .inl ?_
  have he : execOp a.eval (opOf ops j) = callFunc f args := by
    rw [← hx]
    generalize opOf ops j = o at ho
    obtain ⟨dst, op, ty, pos, after, guard⟩ := o
    subst ho
    have := execOp_call_go a dst f xs ats ty pos after guard
    simpa using this
  unfold Oper.wp
  rw [he, enters hf hn hb]
  refine Calls.mono h fun e w' hh => ?_
  obtain ⟨v, rfl, hS, hh⟩ := hh
  exact ⟨hS, hh hS⟩
theorem done {fuel : Nat} {listed : Array Bool} {a : Act} {w : World} (hr : Region.ready .any ops listed = []) (h : R a w) : wpAnyH P .any ops (Only R) S fuel listed a w :=
  wpAnyH_done hr h fuel
theorem y_move {o : Oper} {a : Act} {x : Operand} {v : Value} (ho : o.op = .move x ∨ o.op = .assign x) (hv : a.eval x = v) : ∀ w, S w → (execOp a.eval o).run P w = .ok (.value v) w := by
  intro w _
  obtain ⟨dst, op, ty, pos, after, guard⟩ := o
  rcases ho with ho | ho <;> (simp only at ho; subst ho; rw [← hv]; rfl)
theorem y_bin {o : Oper} {a : Act} {b : BinOp} {T R' : TypeId} {x y : Operand} {vx vy v : Value} (ho : o.op = .binOp b T x y R') (hx : a.eval x = vx) (hy : a.eval y = vy)
    (hv : ∀ w, S w → (do eqGuard b T x y vx vy; binOp b T vx vy : Sem Value).run P w = .ok v w) : ∀ w, S w → (execOp a.eval o).run P w = .ok (.value v) w := by
  intro w hw
  obtain ⟨dst, op, ty, pos, after, guard⟩ := o
  simp only at ho
  subst ho
  have := hv w hw
  simp only [execOp, hx, hy]
  simp only [Sem.run_bind] at this ⊢
  rw [this]
  rfl
theorem y_un {o : Oper} {a : Act} {b : UnOp} {T : TypeId} {x : Operand} {vx v : Value} (ho : o.op = .unOp b T x) (hx : a.eval x = vx)
    (hv : ∀ w, S w → (Op.unary b vx).run P w = .ok v w) : ∀ w, S w → (execOp a.eval o).run P w = .ok (.value v) w := by
  intro w hw
  obtain ⟨dst, op, ty, pos, after, guard⟩ := o
  simp only at ho
  subst ho
  have := hv w hw
  simp only [execOp, hx, Sem.run_bind]
  rw [this]
  rfl
theorem y_at {o : Oper} {a : Act} {T : TypeId} {x y : Operand} {vx vy v : Value} (ho : o.op = .indexAddr T x y) (hx : a.eval x = vx) (hy : a.eval y = vy)
    (hv : ∀ w, S w → (Instr.indexAt T vx vy).run P w = .ok v w) : ∀ w, S w → (execOp a.eval o).run P w = .ok (.value v) w := by
  intro w hw
  obtain ⟨dst, op, ty, pos, after, guard⟩ := o
  simp only at ho
  subst ho
  have := hv w hw
  simp only [execOp, hx, hy, Sem.run_bind]
  rw [this]
  rfl
theorem y_load {o : Oper} {a : Act} {T : TypeId} {x : Operand} {vx v : Value} (ho : o.op = .load T x) (hx : a.eval x = vx)
    (hv : ∀ w, S w → (Instr.loadAt T vx).run P w = .ok v w) : ∀ w, S w → (execOp a.eval o).run P w = .ok (.value v) w := by
  intro w hw
  obtain ⟨dst, op, ty, pos, after, guard⟩ := o
  simp only at ho
  subst ho
  have := hv w hw
  simp only [execOp, hx, Sem.run_bind]
  rw [this]
  rfl
theorem y_pick {o : Oper} {a : Act} {c x y : Operand} {b : Bool} {v : Value} (ho : o.op = .pick c x y) (hc : a.eval c = .bool b) (hv : (if b then a.eval x else a.eval y) = v) :
    ∀ w, S w → (execOp a.eval o).run P w = .ok (.value v) w := by
  intro w hw
  obtain ⟨dst, op, ty, pos, after, guard⟩ := o
  simp only at ho
  subst ho
  rw [← hv]
  simp only [execOp, hc]
  rfl
theorem y_field {o : Oper} {a : Act} {T k : Nat} {x : Operand} {vx v : Value} (ho : o.op = .fieldAddr T x k) (hx : a.eval x = vx)
    (hv : ∀ w, S w → (Instr.fieldAt T vx k).run P w = .ok v w) : ∀ w, S w → (execOp a.eval o).run P w = .ok (.value v) w := by
  intro w hw
  obtain ⟨dst, op, ty, pos, after, guard⟩ := o
  simp only at ho
  subst ho
  have := hv w hw
  simp only [execOp, hx, Sem.run_bind]
  rw [this]
  rfl
theorem y_len {o : Oper} {a : Act} {x : Operand} {ats : Array TypeId} {vx : Value} {n : Nat} (ho : o.op = .call { callee := .builtin .len, args := #[x], argTypes := ats }) (hx : a.eval x = vx)
    (hv : ∀ ty w, S w → (Builtin.len_ ats ty #[vx]).run P w = .ok (.int .i64 n) w) : ∀ w, S w → (execOp a.eval o).run P w = .ok (.value (.int .i64 n)) w := by
  intro w hw
  obtain ⟨dst, op, ty, pos, after, guard⟩ := o
  simp only at ho
  subst ho
  have h2 := hv ty w hw
  rw [← hx] at h2
  generalize a.eval = ρ at h2 ⊢
  simp [go_sem, h2]
theorem store (i : Nat) {T : TypeId} {x y : Operand} {vx vy : Value} {w1 : World} {fuel : Nat} {listed : Array Bool} {a : Act} {w : World}
    (hi : decide (i < ops.size) = true) (hd : (opOf ops i).dst = none) (hr : Region.ready .any ops listed = [i])
    (hw : Region.wanted (opOf ops i) (yielded ops a.tmps) = true) (ho : (opOf ops i).op = .store T x y) (hx : a.eval x = vx) (hy : a.eval y = vy)
    (hv : (Instr.storeAt T vx vy).run P w = .ok () w1) (hS : S w1)
    (h : S w1 → wpAnyH P .any ops (Only R) S fuel (listed.setIfInBounds i true) a w1) :
    wpAnyH P .any ops (Only R) S (fuel + 1) listed a w := by
  refine wpAnyH_all hr (by simp) fun j hj => ?_
  obtain rfl : j = i := by simpa using hj
  unfold wpOp
  rw [opOf_some hi]
  simp only [hw, if_true]
  refine .inl ?_
  have he : (execOp a.eval (opOf ops j)).run P w = .ok .skip w1 := by
    generalize opOf ops j = o at ho
    obtain ⟨dst, op, ty, pos, after, guard⟩ := o
    simp only at ho
    subst ho
    simp only [execOp, hx, hy, Sem.run_bind]
    rw [hv]
    rfl
  unfold Oper.wp
  rw [he, Oper.upon_skip, hd]
  exact ⟨hS, h hS⟩
theorem op_alloc (i : Nat) (d : Option Tmp) {T : TypeId} {v : Value} {w1 : World} {fuel : Nat} {listed : Array Bool} {a : Act} {w : World}
    (hi : decide (i < ops.size) = true) (hd : (opOf ops i).dst = d)
    (hw : Region.wanted (opOf ops i) (yielded ops a.tmps) = true) (ho : (opOf ops i).op = .alloc T)
    (hv : (Instr.alloc T true (.tuple #[])).run P w = .ok v w1) (hS : S w1)
    (h : S w1 → wpAnyH P .any ops (Only R) S fuel (listed.setIfInBounds i true) (a.put d v) w1) :
    wpOp P ops (Only R) i (fun a' w' => S w' ∧ wpAnyH P .any ops (Only R) S fuel (listed.setIfInBounds i true) a' w') a w := by
  subst hd
  unfold wpOp
  rw [opOf_some hi]
  simp only [hw, if_true]
  refine .inl ?_
  have he : (execOp a.eval (opOf ops i)).run P w = .ok (.value v) w1 := by
    generalize opOf ops i = o at ho
    obtain ⟨dst, op, ty, pos, after, guard⟩ := o
    simp only at ho
    subst ho
    simp only [execOp, Sem.run_bind]
    rw [hv]
    rfl
  unfold Oper.wp
  rw [he, Oper.upon_value]
  exact ⟨hS, h hS⟩
theorem one {i : Nat} {fuel : Nat} {listed : Array Bool} {a : Act} {w : World} (hr : Region.ready .any ops listed = [i])
    (h : wpOp P ops (Only R) i (fun a' w' => S w' ∧ wpAnyH P .any ops (Only R) S fuel (listed.setIfInBounds i true) a' w') a w) : wpAnyH P .any ops (Only R) S (fuel + 1) listed a w :=
  wpAnyH_all hr (by simp) fun j hj => by obtain rfl : j = i := by simpa using hj
                                         exact h
theorem two {i j : Nat} {fuel : Nat} {listed : Array Bool} {a : Act} {w : World} (hr : Region.ready .any ops listed = [i, j])
    (h1 : wpOp P ops (Only R) i (fun a' w' => S w' ∧ wpAnyH P .any ops (Only R) S fuel (listed.setIfInBounds i true) a' w') a w)
    (h2 : wpOp P ops (Only R) j (fun a' w' => S w' ∧ wpAnyH P .any ops (Only R) S fuel (listed.setIfInBounds j true) a' w') a w) : wpAnyH P .any ops (Only R) S (fuel + 1) listed a w :=
  wpAnyH_all hr (by simp) fun k hk => by
    rcases (by simpa using hk : k = i ∨ k = j) with rfl | rfl
    · exact h1
    · exact h2
end
end Go.Proofs.Ytnpobigombafoaa.Rg

namespace Go.Proofs.Ytnpobigombafoaa.Rg
open Go.RowKit
set_option linter.unusedVariables false
section
variable {P : Program} {S : World → Prop}
end
section
variable {P : Program} {ops : Array Oper} {R : Act → World → Prop} {S : World → Prop}
theorem bld (i : Nat) (d : Option Tmp) {T : TypeId} {len : Nat} {parts : Array (Nat × Operand)} {vs : Array (Nat × Value)} {v : Value} {w1 : World} {fuel : Nat} {listed : Array Bool} {a : Act} {w : World}
    (hi : decide (i < ops.size) = true) (hd : (opOf ops i).dst = d) (hr : Region.ready .any ops listed = [i])
    (hw : Region.wanted (opOf ops i) (yielded ops a.tmps) = true) (ho : (opOf ops i).op = .buildSlice T len parts) (hx : (parts.map fun (i, x) => (i, a.eval x)) = vs)
    (hv : (Instr.buildSlice T len vs).run P w = .ok v w1) (hS : S w1)
    (h : S w1 → wpAnyH P .any ops (Only R) S fuel (listed.setIfInBounds i true) (a.put d v) w1) : wpAnyH P .any ops (Only R) S (fuel + 1) listed a w := by
  refine one hr ?_
  subst hd
  unfold wpOp
  rw [opOf_some hi]
  simp only [hw, if_true]
  refine .inl ?_
  have he : (execOp a.eval (opOf ops i)).run P w = .ok (.value v) w1 := by
    generalize opOf ops i = o at ho
    obtain ⟨dst, op, ty, pos, after, guard⟩ := o
    simp only at ho
    subst ho
    simp only [execOp, Sem.run_bind]
    rw [hx, hv]
    rfl
  unfold Oper.wp
  rw [he, Oper.upon_value]
  exact ⟨hS, h hS⟩
end
end Go.Proofs.Ytnpobigombafoaa.Rg

namespace Go.Proofs.Ytnpobigombafoaa.Rg
open Go.RowKit
set_option linter.unusedVariables false
set_option linter.unusedSimpArgs false
set_option linter.unnecessarySimpa false
section
variable {P : Program} {ops : Array Oper} {R : Act → World → Prop} {S : World → Prop}
theorem app1 (i : Nat) (d : Option Tmp) {T : TypeId} {x y : Operand} {vx vy : Value} {fuel : Nat} {listed : Array Bool} {a : Act} {w : World}
    (hi : decide (i < ops.size) = true) (hd : (opOf ops i).dst = d) (hr : Region.ready .any ops listed = [i])
    (hw : Region.wanted (opOf ops i) (yielded ops a.tmps) = true) (ho : (opOf ops i).op = .call { callee := .builtin .append, args := #[x, y], argTypes := #[T, T] }) (hx : a.eval x = vx) (hy : a.eval y = vy)
    (h : ∀ ty, ∃ v w1, (Builtin.append_ #[T, T] ty #[vx, vy]).run P w = .ok v w1 ∧ S w1 ∧ (S w1 → wpAnyH P .any ops (Only R) S fuel (listed.setIfInBounds i true) (a.put d v) w1)) :
    wpAnyH P .any ops (Only R) S (fuel + 1) listed a w := by
  refine one hr ?_
  subst hd
  unfold wpOp
  rw [opOf_some hi]
  simp only [hw, if_true]
  refine .inl ?_
  obtain ⟨v, w1, hrun, hS, hk⟩ := h (opOf ops i).type
  generalize opOf ops i = o at ho hrun hk ⊢
  obtain ⟨dst, op, ty, pos, after, guard⟩ := o
  simp only at ho hrun hk ⊢
  subst ho
  unfold Oper.wp
  simp only [execOp, resolve, invoke, builtin, Sem.run_bind, Sem.run_pure, Result.andThen_ok, List.map_toArray, List.map_cons, List.map_nil, hx, hy, hrun]
  exact ⟨hS, hk hS⟩
theorem op_bld (i : Nat) (d : Option Tmp) {T : TypeId} {len : Nat} {parts : Array (Nat × Operand)} {vs : Array (Nat × Value)} {v : Value} {w1 : World} {fuel : Nat} {listed : Array Bool} {a : Act} {w : World}
    (hi : decide (i < ops.size) = true) (hd : (opOf ops i).dst = d)
    (hw : Region.wanted (opOf ops i) (yielded ops a.tmps) = true) (ho : (opOf ops i).op = .buildSlice T len parts) (hx : (parts.map fun (i, x) => (i, a.eval x)) = vs)
    (hv : (Instr.buildSlice T len vs).run P w = .ok v w1) (hS : S w1)
    (h : S w1 → wpAnyH P .any ops (Only R) S fuel (listed.setIfInBounds i true) (a.put d v) w1) :
    wpOp P ops (Only R) i (fun a' w' => S w' ∧ wpAnyH P .any ops (Only R) S fuel (listed.setIfInBounds i true) a' w') a w := by
  subst hd
  unfold wpOp
  rw [opOf_some hi]
  simp only [hw, if_true]
  refine .inl ?_
  have he : (execOp a.eval (opOf ops i)).run P w = .ok (.value v) w1 := by
    generalize opOf ops i = o at ho
    obtain ⟨dst, op, ty, pos, after, guard⟩ := o
    simp only at ho
    subst ho
    simp only [execOp, Sem.run_bind]
    rw [hx, hv]
    rfl
  unfold Oper.wp
  rw [he, Oper.upon_value]
  exact ⟨hS, h hS⟩
end
end Go.Proofs.Ytnpobigombafoaa.Rg

namespace Go.Proofs.Ytnpobigombafoaa.Rg
open Go.RowKit
set_option linter.unusedVariables false
section
variable {P : Program} {S : World → Prop}
theorem y_build {o : Oper} {a : Act} {T : TypeId} {parts : Array (Nat × Operand)} {vs : Array (Nat × Value)} {v : Value} (ho : o.op = .build T parts) (hx : (parts.map fun (i, x) => (i, a.eval x)) = vs)
    (hv : ∀ w, S w → (Instr.build T vs).run P w = .ok v w) : ∀ w, S w → (execOp a.eval o).run P w = .ok (.value v) w := by
  intro w hw
  obtain ⟨dst, op, ty, pos, after, guard⟩ := o
  simp only at ho
  subst ho
  have := hv w hw
  simp only [execOp, Sem.run_bind]
  rw [hx, this]
  rfl
theorem y_sl2 {o : Oper} {a : Act} {T : TypeId} {x l h : Operand} {vx vl vh v : Value} (ho : o.op = .slice T x (some l) (some h) none) (hx : a.eval x = vx) (hl : a.eval l = vl) (hh : a.eval h = vh)
    (hv : ∀ w, S w → (Instr.sliceAt T vx (some vl) (some vh) none).run P w = .ok v w) : ∀ w, S w → (execOp a.eval o).run P w = .ok (.value v) w := by
  intro w hw
  obtain ⟨dst, op, ty, pos, after, guard⟩ := o
  simp only at ho
  subst ho
  have := hv w hw
  simp only [execOp, hx, hl, hh, Option.map_some, Option.map_none, Sem.run_bind]
  rw [this]
  rfl
end
end Go.Proofs.Ytnpobigombafoaa.Rg
namespace Go.Proofs.Ytnpobigombafoaa.Mg
open Go.RowKit Tx
set_option linter.unusedVariables false
set_option maxRecDepth 100000 in
set_option maxHeartbeats 4000000 in
theorem stableReg (ops : Array Oper) (hops : ops = (Rg.opsOf Try.f26 11)) (id : Nat) (gx ox gy oy nx ny cx cy i k p q s : Nat) (vL : Value) {u0 u1 u2 u3 u4 u5 u6 u8 u10 u14 u15 u16 u17 u18 u19 u20 u21 u22 u23 u24 u25 u26 u27 u28 u29 u30 u31 u32 u33 u34 u35 u36 u37 u38 u39 u40 u41 u42 u43 u44 u45 u46 u47 u48 u49 u50 u51 u52 u53 u54 u55 u56 u57 u58 u59 u60 u61 u62 u63 u64 u65 u66 u67 u68 : Value} (w : World) (hi : (i : Int) < (nx : Int)) (hk : (k : Int) < (ny : Int)) (X : World → Prop) (Z : Value → World → Prop)
    (hX : ∀ W, X W → W.cell? ⟨gx, ox + i * 2, none⟩ = some (.int .i64 (p : Int)) ∧ W.cell? ⟨gx, ox + i * 2 + 1, none⟩ = some (.int .i64 (q : Int)) ∧ W.cell? ⟨gy, oy + k * 2 + 1, none⟩ = some (.int .i64 (s : Int))) (hw : X w.drew)
    (hX2 : X (w.drew.alloc (.cells #[.int .i64 (p : Int), .int .i64 (q : Int), .int .i64 (s : Int)] 51)))
    (hE : ∀ ty, ∃ v8 w8, (Builtin.append_ #[57, 57] ty #[vL, .slice (some ⟨w.heap.size, 0, none⟩) 1 1]).run Try.prog (w.drew.alloc (.cells #[.int .i64 (p : Int), .int .i64 (q : Int), .int .i64 (s : Int)] 51)) = .ok v8 w8 ∧ X w8 ∧ Z v8 w8) :
    (Code.region id ops true).wp Try.prog (Rg.Only fun a' w' => ∃ v8 : Value, a' = ⟨#[u0, u1, u2, u3, u4, u5, u6, (.slice (some ⟨gx, ox, none⟩) nx cx), u8, (.slice (some ⟨gy, oy, none⟩) ny cy), u10, v8, (.int .i64 (i : Int)), (.int .i64 (k : Int)), u14, u15, u16, u17, u18, u19, u20, u21, u22, u23, u24, u25, u26, u27, u28, u29, u30, u31, u32, u33, u34, u35, u36, u37, u38, u39, u40, u41, u42, u43, u44, u45, u46, u47, u48, vL, (.slice (some ⟨gx, ox, none⟩) nx cx), (.int .i64 (i : Int)), (.pointer (some ⟨gx, ox + i * 2, none⟩)), (.pointer (some ⟨gx, ox + i * 2, none⟩)), (.int .i64 (p : Int)), (.slice (some ⟨gx, ox, none⟩) nx cx), (.int .i64 (i : Int)), (.pointer (some ⟨gx, ox + i * 2, none⟩)), (.pointer (some ⟨gx, ox + i * 2 + 1, none⟩)), (.int .i64 (q : Int)), (.slice (some ⟨gy, oy, none⟩) ny cy), (.int .i64 (k : Int)), (.pointer (some ⟨gy, oy + k * 2, none⟩)), (.pointer (some ⟨gy, oy + k * 2 + 1, none⟩)), (.int .i64 (s : Int)), (.agg #[.int .i64 (p : Int), .int .i64 (q : Int), .int .i64 (s : Int)]), (.slice (some ⟨w.heap.size, 0, none⟩) 1 1), v8, u68], []⟩ ∧ Z v8 w') ⟨#[u0, u1, u2, u3, u4, u5, u6, (.slice (some ⟨gx, ox, none⟩) nx cx), u8, (.slice (some ⟨gy, oy, none⟩) ny cy), u10, vL, (.int .i64 (i : Int)), (.int .i64 (k : Int)), u14, u15, u16, u17, u18, u19, u20, u21, u22, u23, u24, u25, u26, u27, u28, u29, u30, u31, u32, u33, u34, u35, u36, u37, u38, u39, u40, u41, u42, u43, u44, u45, u46, u47, u48, u49, u50, u51, u52, u53, u54, u55, u56, u57, u58, u59, u60, u61, u62, u63, u64, u65, u66, u67, u68], []⟩ w := by
  subst hops
  have hNS : Region.noSelect (Rg.opsOf Try.f26 11) = true := by kernel_rfl
  refine wp_region_held_drew (S := X) (by kernel_rfl) hw (fun hHeld => ?_)
  rw [show (Rg.opsOf Try.f26 11).size = 20 by kernel_rfl]
  refine Rg.take (ops := (Rg.opsOf Try.f26 11)) 0 (some 49) (vL) hNS (by kernel_rfl) (by kernel_rfl) (by kernel_rfl) (by kernel_rfl) (by kernel_rfl) hHeld (Rg.y_move (x := (Operand.tmp 11)) (Or.inl (by kernel_rfl)) (by kernel_rfl)) ?_
  refine Rg.take (ops := (Rg.opsOf Try.f26 11)) 1 (some 50) ((.slice (some ⟨gx, ox, none⟩) nx cx)) hNS (by kernel_rfl) (by kernel_rfl) (by kernel_rfl) (by kernel_rfl) (by kernel_rfl) hHeld (Rg.y_move (x := (Operand.tmp 7)) (Or.inl (by kernel_rfl)) (by kernel_rfl)) ?_
  refine Rg.take (ops := (Rg.opsOf Try.f26 11)) 2 (some 51) ((.int .i64 (i : Int))) hNS (by kernel_rfl) (by kernel_rfl) (by kernel_rfl) (by kernel_rfl) (by kernel_rfl) hHeld (Rg.y_move (x := (Operand.tmp 12)) (Or.inl (by kernel_rfl)) (by kernel_rfl)) ?_
  refine Rg.take (ops := (Rg.opsOf Try.f26 11)) 3 (some 52) ((.pointer (some ⟨gx, ox + i * 2, none⟩))) hNS (by kernel_rfl) (by kernel_rfl) (by kernel_rfl) (by kernel_rfl) (by kernel_rfl) hHeld (Rg.y_at (T := 76) (x := (Operand.tmp 50)) (y := (Operand.tmp 51)) (vx := (.slice (some ⟨gx, ox, none⟩) nx cx)) (vy := (.int .i64 (i : Int))) (by kernel_rfl) (by kernel_rfl) (by kernel_rfl) ?_) ?_
  · (intro W hSw; clear hSw hHeld; go_simp)
  refine Rg.take (ops := (Rg.opsOf Try.f26 11)) 4 (some 53) ((.pointer (some ⟨gx, ox + i * 2, none⟩))) hNS (by kernel_rfl) (by kernel_rfl) (by kernel_rfl) (by kernel_rfl) (by kernel_rfl) hHeld (Rg.y_at (T := 79) (x := (Operand.tmp 52)) (y := (Operand.const (Value.int IntKind.i64 0))) (vx := (.pointer (some ⟨gx, ox + i * 2, none⟩))) (vy := (Value.int IntKind.i64 0)) (by kernel_rfl) (by kernel_rfl) (by kernel_rfl) ?_) ?_
  · (intro W hSw; clear hSw hHeld; go_simp)
  refine Rg.take (ops := (Rg.opsOf Try.f26 11)) 5 (some 54) ((.int .i64 (p : Int))) hNS (by kernel_rfl) (by kernel_rfl) (by kernel_rfl) (by kernel_rfl) (by kernel_rfl) hHeld (Rg.y_load (T := 3) (x := (Operand.tmp 53)) (vx := (.pointer (some ⟨gx, ox + i * 2, none⟩))) (by kernel_rfl) (by kernel_rfl) ?_) ?_
  · (intro W hSw; obtain ⟨s0, s1, s2⟩ := hX _ hSw; clear hSw hHeld; go_simp)
  refine Rg.take (ops := (Rg.opsOf Try.f26 11)) 6 (some 55) ((.slice (some ⟨gx, ox, none⟩) nx cx)) hNS (by kernel_rfl) (by kernel_rfl) (by kernel_rfl) (by kernel_rfl) (by kernel_rfl) hHeld (Rg.y_move (x := (Operand.tmp 7)) (Or.inl (by kernel_rfl)) (by kernel_rfl)) ?_
  refine Rg.take (ops := (Rg.opsOf Try.f26 11)) 7 (some 56) ((.int .i64 (i : Int))) hNS (by kernel_rfl) (by kernel_rfl) (by kernel_rfl) (by kernel_rfl) (by kernel_rfl) hHeld (Rg.y_move (x := (Operand.tmp 12)) (Or.inl (by kernel_rfl)) (by kernel_rfl)) ?_
  refine Rg.take (ops := (Rg.opsOf Try.f26 11)) 8 (some 57) ((.pointer (some ⟨gx, ox + i * 2, none⟩))) hNS (by kernel_rfl) (by kernel_rfl) (by kernel_rfl) (by kernel_rfl) (by kernel_rfl) hHeld (Rg.y_at (T := 76) (x := (Operand.tmp 55)) (y := (Operand.tmp 56)) (vx := (.slice (some ⟨gx, ox, none⟩) nx cx)) (vy := (.int .i64 (i : Int))) (by kernel_rfl) (by kernel_rfl) (by kernel_rfl) ?_) ?_
  · (intro W hSw; clear hSw hHeld; go_simp)
  refine Rg.take (ops := (Rg.opsOf Try.f26 11)) 9 (some 58) ((.pointer (some ⟨gx, ox + i * 2 + 1, none⟩))) hNS (by kernel_rfl) (by kernel_rfl) (by kernel_rfl) (by kernel_rfl) (by kernel_rfl) hHeld (Rg.y_at (T := 79) (x := (Operand.tmp 57)) (y := (Operand.const (Value.int IntKind.i64 1))) (vx := (.pointer (some ⟨gx, ox + i * 2, none⟩))) (vy := (Value.int IntKind.i64 1)) (by kernel_rfl) (by kernel_rfl) (by kernel_rfl) ?_) ?_
  · (intro W hSw; clear hSw hHeld; go_simp)
  refine Rg.take (ops := (Rg.opsOf Try.f26 11)) 10 (some 59) ((.int .i64 (q : Int))) hNS (by kernel_rfl) (by kernel_rfl) (by kernel_rfl) (by kernel_rfl) (by kernel_rfl) hHeld (Rg.y_load (T := 3) (x := (Operand.tmp 58)) (vx := (.pointer (some ⟨gx, ox + i * 2 + 1, none⟩))) (by kernel_rfl) (by kernel_rfl) ?_) ?_
  · (intro W hSw; obtain ⟨s0, s1, s2⟩ := hX _ hSw; clear hSw hHeld; go_simp)
  refine Rg.take (ops := (Rg.opsOf Try.f26 11)) 11 (some 60) ((.slice (some ⟨gy, oy, none⟩) ny cy)) hNS (by kernel_rfl) (by kernel_rfl) (by kernel_rfl) (by kernel_rfl) (by kernel_rfl) hHeld (Rg.y_move (x := (Operand.tmp 9)) (Or.inl (by kernel_rfl)) (by kernel_rfl)) ?_
  refine Rg.take (ops := (Rg.opsOf Try.f26 11)) 12 (some 61) ((.int .i64 (k : Int))) hNS (by kernel_rfl) (by kernel_rfl) (by kernel_rfl) (by kernel_rfl) (by kernel_rfl) hHeld (Rg.y_move (x := (Operand.tmp 13)) (Or.inl (by kernel_rfl)) (by kernel_rfl)) ?_
  refine Rg.take (ops := (Rg.opsOf Try.f26 11)) 13 (some 62) ((.pointer (some ⟨gy, oy + k * 2, none⟩))) hNS (by kernel_rfl) (by kernel_rfl) (by kernel_rfl) (by kernel_rfl) (by kernel_rfl) hHeld (Rg.y_at (T := 76) (x := (Operand.tmp 60)) (y := (Operand.tmp 61)) (vx := (.slice (some ⟨gy, oy, none⟩) ny cy)) (vy := (.int .i64 (k : Int))) (by kernel_rfl) (by kernel_rfl) (by kernel_rfl) ?_) ?_
  · (intro W hSw; clear hSw hHeld; go_simp)
  refine Rg.take (ops := (Rg.opsOf Try.f26 11)) 14 (some 63) ((.pointer (some ⟨gy, oy + k * 2 + 1, none⟩))) hNS (by kernel_rfl) (by kernel_rfl) (by kernel_rfl) (by kernel_rfl) (by kernel_rfl) hHeld (Rg.y_at (T := 79) (x := (Operand.tmp 62)) (y := (Operand.const (Value.int IntKind.i64 1))) (vx := (.pointer (some ⟨gy, oy + k * 2, none⟩))) (vy := (Value.int IntKind.i64 1)) (by kernel_rfl) (by kernel_rfl) (by kernel_rfl) ?_) ?_
  · (intro W hSw; clear hSw hHeld; go_simp)
  refine Rg.take (ops := (Rg.opsOf Try.f26 11)) 15 (some 64) ((.int .i64 (s : Int))) hNS (by kernel_rfl) (by kernel_rfl) (by kernel_rfl) (by kernel_rfl) (by kernel_rfl) hHeld (Rg.y_load (T := 3) (x := (Operand.tmp 63)) (vx := (.pointer (some ⟨gy, oy + k * 2 + 1, none⟩))) (by kernel_rfl) (by kernel_rfl) ?_) ?_
  · (intro W hSw; obtain ⟨s0, s1, s2⟩ := hX _ hSw; clear hSw hHeld; go_simp)
  refine Rg.take (ops := (Rg.opsOf Try.f26 11)) 16 (some 65) ((.agg #[.int .i64 (p : Int), .int .i64 (q : Int), .int .i64 (s : Int)])) hNS (by kernel_rfl) (by kernel_rfl) (by kernel_rfl) (by kernel_rfl) (by kernel_rfl) hHeld (Rg.y_build (T := 51) (parts := #[(0, Operand.tmp 54), (1, Operand.tmp 59), (2, Operand.tmp 64)]) (vs := #[(0, (.int .i64 (p : Int))), (1, (.int .i64 (q : Int))), (2, (.int .i64 (s : Int)))]) (by kernel_rfl) (by kernel_rfl) ?_) ?_
  · (intro W hSw; clear hSw hHeld; go_simp)
  refine Rg.bld (ops := (Rg.opsOf Try.f26 11)) 17 (some 66) (T := 57) (len := 1) (parts := #[(0, Operand.tmp 65)]) (vs := #[(0, (.agg #[.int .i64 (p : Int), .int .i64 (q : Int), .int .i64 (s : Int)]))]) (v := (.slice (some ⟨w.heap.size, 0, none⟩) 1 1)) (w1 := w.drew.alloc (.cells #[.int .i64 (p : Int), .int .i64 (q : Int), .int .i64 (s : Int)] 51)) (by kernel_rfl) (by kernel_rfl) (by kernel_rfl) (by kernel_rfl) (by kernel_rfl) (by kernel_rfl) ?_ (hX2) (fun hHeld => ?_)
  · (clear hHeld hE; go_simp)
  refine Rg.app1 (ops := (Rg.opsOf Try.f26 11)) 18 (some 67) (T := 57) (x := (Operand.tmp 49)) (y := (Operand.tmp 66)) (vx := vL) (vy := (.slice (some ⟨w.heap.size, 0, none⟩) 1 1)) (by kernel_rfl) (by kernel_rfl) (by kernel_rfl) (by kernel_rfl) (by kernel_rfl) (by kernel_rfl) (by kernel_rfl) ?_
  intro ty
  obtain ⟨v8, w8, e8, h8, h9⟩ := hE ty
  refine ⟨v8, w8, e8, h8, fun hHeld => ?_⟩
  refine Rg.take (ops := (Rg.opsOf Try.f26 11)) 19 (some 11) (v8) hNS (by kernel_rfl) (by kernel_rfl) (by kernel_rfl) (by kernel_rfl) (by kernel_rfl) hHeld (Rg.y_move (x := (Operand.tmp 67)) (Or.inr (by kernel_rfl)) (by kernel_rfl)) ?_
  refine Rg.done (ops := (Rg.opsOf Try.f26 11)) (by kernel_rfl) ?_
  exact ⟨v8, by kernel_rfl, h9⟩
end Go.Proofs.Ytnpobigombafoaa.Mg

namespace Go.Proofs.Ytnpobigombafoaa.Mg
open Go.RowKit Go.ChangeShapes Go.WideShapes Tx Um Ud Aq Km Kd Lm Ln
set_option linter.unusedVariables false
theorem infoT : (Try.prog.info? 51).map (fun i => (i.zero, i.size, i.bytes)) = some (some (.agg #[.int .i64 0, .int .i64 0, .int .i64 0]), 3, 24) := by kernel_rfl
def c3 (t : Nat × Nat × Nat) : List Value := [iv t.1, iv t.2.1, iv t.2.2]
theorem c3_one (t : Nat × Nat × Nat) : ∀ u ∈ c3 t, u.oneCell' = true := by
  intro u hu
  simp only [c3, List.mem_cons, List.not_mem_nil, or_false] at hu
  rcases hu with rfl | rfl | rfl <;> rfl
theorem flatt_get (l : List (Nat × Nat × Nat)) (k : Nat) (x : Nat × Nat × Nat) (h : l[k]? = some x) : (l.flatMap c3)[k * 3]? = some (iv x.1) ∧ (l.flatMap c3)[k * 3 + 1]? = some (iv x.2.1) ∧ (l.flatMap c3)[k * 3 + 2]? = some (iv x.2.2) := by
  induction l generalizing k with
  | nil => cases h
  | cons y l ih =>
    rw [List.flatMap_cons]
    cases k with
    | zero =>
      injection h with h
      subst h
      exact ⟨rfl, rfl, rfl⟩
    | succ k =>
      obtain ⟨k1, k2, k3⟩ := ih k h
      have e : (c3 y).length = 3 := rfl
      rw [List.getElem?_append_right (by omega), List.getElem?_append_right (by omega), List.getElem?_append_right (by omega), e, show (k + 1) * 3 - 3 = k * 3 by omega, show (k + 1) * 3 + 1 - 3 = k * 3 + 1 by omega, show (k + 1) * 3 + 2 - 3 = k * 3 + 2 by omega]
      exact ⟨k1, k2, k3⟩
def T3 (w : World) (B : Nat) (v : Value) (l : List (Nat × Nat × Nat)) : Prop := w.ownsRow B 51 3 v l.length (l.flatMap c3)
theorem T3.below {w w1 : World} {B : Nat} {v : Value} {l : List (Nat × Nat × Nat)} (h : T3 w B v l) (hb : Below w.heap.size w w1) : T3 w1 B v l := by
  refine ⟨h.1, ?_⟩
  rcases h.2 with h0 | ⟨g', cap', cur, hv, hg, hh, r⟩
  · exact .inl h0
  · exact .inr ⟨g', cap', cur, hv, hg, (hb.block g' (Array.getElem?_eq_some_iff.1 hh).1).trans hh, r⟩
theorem T3.form {w : World} {B : Nat} {v : Value} {l : List (Nat × Nat × Nat)} (h : T3 w B v l) : ∃ a c, v = .slice a l.length c ∧ (l.length = 0 ∨ ∃ g, a = some ⟨g, 0, none⟩ ∧ B ≤ g ∧ g < w.heap.size ∧
    ∀ (k : Nat) x, l[k]? = some x → w.cell? ⟨g, k * 3, none⟩ = some (iv x.1) ∧ w.cell? ⟨g, k * 3 + 1, none⟩ = some (iv x.2.1) ∧ w.cell? ⟨g, k * 3 + 2, none⟩ = some (iv x.2.2)) := by
  have hh := h
  rcases h.2 with ⟨rfl, h0⟩ | ⟨g, cap, cur, rfl, hg, hh2, hn, hc, _⟩
  · exact ⟨none, 0, by rw [h0], .inl h0⟩
  · refine ⟨some ⟨g, 0, none⟩, cap, rfl, .inr ⟨g, rfl, hg, (Array.getElem?_eq_some_iff.1 hh2).1, fun k x hx => ?_⟩⟩
    obtain ⟨h1, h2, h3⟩ := flatt_get l k x hx
    have e1 := hh.cells (g := g) rfl _ _ h1
    have e2 := hh.cells (g := g) rfl _ _ h2
    have e3 := hh.cells (g := g) rfl _ _ h3
    rw [WideShapes.add_plain, Nat.zero_add] at e1 e2 e3
    exact ⟨e1, e2, e3⟩
def row3 (p : Nat × Nat) (y : List (Nat × Nat)) : List (Nat × Nat × Nat) := (y.filter fun q => decide (q.1 = p.1)).map fun q => (p.1, p.2, q.2)
theorem trip_take {x y : List (Nat × Nat)} {i : Nat} {p : Nat × Nat} (h : x[i]? = some p) : trip (x.take (i + 1)) y = trip (x.take i) y ++ row3 p y := by
  rw [List.take_add_one, h, trip_app]
  congr 1
  show trip [p] y = _
  rw [trip_cons]
  exact List.append_nil _
theorem row3_take {p q : Nat × Nat} {y : List (Nat × Nat)} {k : Nat} (h : y[k]? = some q) : row3 p (y.take (k + 1)) = row3 p (y.take k) ++ if q.1 = p.1 then [(p.1, p.2, q.2)] else [] := by
  unfold row3
  rw [List.take_add_one, h, List.filter_append, List.map_append]
  congr 1
  show List.map _ (List.filter _ [q]) = _
  by_cases e : q.1 = p.1
  · rw [if_pos e, List.filter_cons_of_pos (by simpa using e)]; rfl
  · rw [if_neg e, List.filter_cons_of_neg (by simpa using e)]; rfl
theorem row3_len (p : Nat × Nat) (y : List (Nat × Nat)) : (row3 p y).length ≤ y.length := by
  unfold row3
  rw [List.length_map]
  exact List.length_filter_le _ _
theorem trip_len (x y : List (Nat × Nat)) : (trip x y).length ≤ x.length * y.length := by
  induction x with
  | nil => exact Nat.zero_le _
  | cons p x ih =>
    have h := row3_len p y
    unfold row3 at h
    rw [trip_cons, List.length_append, List.length_cons, Nat.add_mul]
    omega
set_option maxRecDepth 100000 in
set_option maxHeartbeats 4000000 in
theorem stable_any (A B C : Option Addr) (ca cb cc : Nat) (o a b : List ByteArray) (w : World) (hA : Strs w A o.length o) (hB : Strs w B a.length a) (hC : Strs w C b.length b) (ho : o.length ≤ 400) (ha : a.length ≤ 400) (hb : b.length ≤ 400) :
    Calls Try.prog 26 #[.slice A o.length ca, .slice B a.length cb, .slice C b.length cc] w fun e w' => ∃ v, e = .returned v ∧ T3 w' w.heap.size v (trip (pairs 0 0 (steps o a)) (pairs 0 0 (steps o b))) ∧ Below w.heap.size w w' := by
  obtain ⟨iT, hI, hI0, hI1, hI2⟩ := info_parts infoT
  have kk : ∀ l : List ByteArray, l.length ≤ 400 → kep o l = pairs 0 0 (steps o l) ∧ err o l = 0 ∧ (pairs 0 0 (steps o l)).length ≤ 400 := fun l hl => by
    have h0 : lng o l = false := by unfold lng; rw [decide_eq_false (by omega), decide_eq_false (by omega)]; rfl
    refine ⟨by unfold kep; rw [h0]; rfl, by unfold err; rw [h0]; rfl, ?_⟩
    have := pairs_len (steps o l) 0 0
    have := kept o l
    have := lcs_le_left o l
    omega
  obtain ⟨x1, x2, x3⟩ := kk a ha
  obtain ⟨y1, y2, y3⟩ := kk b hb
  have k1 := refKept_any A B ca cb o a w hA hB
  have k2 := fun w1 (hb : Below w.heap.size w w1) => refKept_any A C ca cc o b w1 (hA.below hb) (hC.below hb)
  unfold PrsTo at k1 k2
  rw [x1, x2] at k1
  rw [y1, y2] at k2
  obtain ⟨X, hX⟩ : ∃ X, X = pairs 0 0 (steps o a) := ⟨_, rfl⟩
  obtain ⟨Y, hY⟩ : ∃ Y, Y = pairs 0 0 (steps o b) := ⟨_, rfl⟩
  rw [← hX] at k1 x3 ⊢
  rw [← hY] at k2 y3 ⊢
  have K1 := Lib.hid k1
  have K2 := Lib.hid k2
  clear hA hB hC kk x1 x2 y1 y2 k1 k2 hX hY
  go_enter Try.func26, Try.ntmps26
  go_wp2_with fail
  go_at_call 40
  refine K1.out.mono ?_
  rintro e w1 ⟨v1, rfl, hv1, hb1⟩
  obtain ⟨ax, cx, rfl, hx⟩ := hv1.form
  have HB1 := Lib.hid hb1
  go_wp2_with fail
  go_at_call 40
  refine (K2.out _ HB1.out).mono ?_
  rintro e w2 ⟨v2, rfl, hv2, hb2⟩
  obtain ⟨ay, cy, rfl, hy⟩ := hv2.form
  have HX := Lib.hid (hx.below hb2)
  have HY := Lib.hid hy
  have HB2 : Hid (Below w.heap.size w w2) := below_call HB1.out hb2
  obtain ⟨NX, hNX⟩ : ∃ n, n = X.length := ⟨_, rfl⟩
  obtain ⟨NY, hNY⟩ : ∃ n, n = Y.length := ⟨_, rfl⟩
  rw [← hNX] at HX x3 ⊢
  rw [← hNY] at HY y3 ⊢
  have HNX := Lib.hid hNX
  have HNY := Lib.hid hNY
  clear hv1 hv2 hx hy hb1 hb2 HB1 K1 K2 hNX hNY
  go_wp2_with fail
  go_loopw [11, 12, 13] (fun v i _ wr => ∃ (n : Nat), i = .int .i64 (n : Int) ∧ n ≤ NX ∧ Hid (T3 wr w2.heap.size v (trip (X.take n) Y)) ∧ Hid (Below w2.heap.size w2 wr)) (fun _ i _ _ => NX - (intOf i).toNat)
  case atStart => exact ⟨0, rfl, Nat.zero_le _, World.ownsRow_nil _ _ _ _, Below.refl _ _⟩
  case round =>
    obtain ⟨n, rfl, hn, HT, HB⟩ := hrel
    by_cases hlt : n < NX
    · have e1 : (n : Int) < (NX : Int) := by omega
      obtain ⟨⟨p, q⟩, hp⟩ : ∃ p, X[n]? = some p := ⟨_, List.getElem?_eq_getElem (by rw [← HNX.out]; exact hlt)⟩
      obtain ⟨gx, ox, rfl, hgx, hcx⟩ := HX.out.2.resolve_left (by omega)
      obtain ⟨a0, a1⟩ := hcx n (p, q) hp
      have hT := trip_take (y := Y) hp
      have hTl := trip_len (X.take n) Y
      rw [List.length_take, ← HNY.out] at hTl
      have hTl2 : (trip (X.take n) Y).length ≤ 400 * 400 := Nat.le_trans hTl (Nat.mul_le_mul (by omega) y3)
      have HTT := Lib.hid hT
      have HTL := Lib.hid hTl2
      have HA0 := Lib.hid a0
      have HA1 := Lib.hid a1
      clear hcx a0 a1 hp hT hTl hTl2
      go_wp2_with fail
      go_loopw [11, 13] (fun v k wr => ∃ (m : Nat), k = .int .i64 (m : Int) ∧ m ≤ NY ∧ Hid (T3 wr w2.heap.size v (trip (X.take n) Y ++ row3 (p, q) (Y.take m))) ∧ Hid (Below w2.heap.size w2 wr)) (fun _ k _ => NY - (intOf k).toNat)
      case atStart =>
        refine ⟨0, rfl, Nat.zero_le _, ?_, HB⟩
        show T3 _ _ _ _
        have e : row3 (p, q) (Y.take 0) = [] := rfl
        rw [e, List.append_nil]
        exact HT.out
      case round =>
        clear HT HB
        obtain ⟨m, rfl, hm, HT, HB⟩ := hrel
        by_cases hml : m < NY
        · have e2 : (m : Int) < (NY : Int) := by omega
          obtain ⟨⟨r, s⟩, hr⟩ : ∃ r, Y[m]? = some r := ⟨_, List.getElem?_eq_getElem (by rw [← HNY.out]; exact hml)⟩
          obtain ⟨gy, oy, rfl, hgy, hcy⟩ := HY.out.2.resolve_left (by omega)
          obtain ⟨b0, b1⟩ := hcy m (r, s) hr
          have hR := row3_take (p := (p, q)) hr
          have hRl := row3_len (p, q) (Y.take m)
          rw [List.length_take, ← HNY.out] at hRl
          have d0 : wr.cell? ⟨gx, ox + n * 2, none⟩ = some (.int .i64 (p : Int)) := (HB.out.cell (p := ⟨gx, _, none⟩) hgx).trans HA0.out
          have d1 : wr.cell? ⟨gy, oy + m * 2, none⟩ = some (.int .i64 (r : Int)) := (HB.out.cell (p := ⟨gy, _, none⟩) hgy).trans b0
          have HX3 : Hid (∀ W, Below w2.heap.size w2 W → W.cell? ⟨gx, ox + n * 2, none⟩ = some (.int .i64 (p : Int)) ∧ W.cell? ⟨gx, ox + n * 2 + 1, none⟩ = some (.int .i64 (q : Int)) ∧ W.cell? ⟨gy, oy + m * 2 + 1, none⟩ = some (.int .i64 (s : Int))) := fun W hb =>
            ⟨(hb.cell (p := ⟨gx, _, none⟩) hgx).trans HA0.out, (hb.cell (p := ⟨gx, _, none⟩) hgx).trans HA1.out, (hb.cell (p := ⟨gy, _, none⟩) hgy).trans b1⟩
          by_cases he : p = r
          · have e3 : ((p : Int) == (r : Int)) = true := beq_iff_eq.2 (by omega)
            rw [if_pos he.symm] at hR
            obtain ⟨U, hU⟩ : ∃ U, U = trip (X.take n) Y ++ row3 (p, q) (Y.take m) := ⟨_, rfl⟩
            have hUl : U.length ≤ 200000 := by rw [hU, List.length_append]; have := HTL.out; omega
            have hU2 : trip (X.take n) Y ++ row3 (p, q) (Y.take (m + 1)) = U ++ [(p, q, s)] := by rw [hR, hU, List.append_assoc]
            rw [← hU] at HT
            have HU2 := Lib.hid hU2
            clear hcy b0 b1 hr hR hRl hU hU2 he
            go_wp2_with fail
            go_region
            have hown : wr.drew.drew.ownsRow w2.heap.size 51 3 u11 U.length (U.flatMap c3) := (HT.out.drew).drew
            have hbd := HB.out.drew
            have hbd2 := hbd.drew
            have hszd : w2.heap.size ≤ wr.drew.drew.heap.size := hbd2.size
            have hX2 : Below w2.heap.size w2 (wr.drew.drew.alloc (.cells #[.int .i64 (p : Int), .int .i64 (q : Int), .int .i64 (s : Int)] 51)) := hbd2.alloc hszd _
            have HE8 : Hid (∀ ty, ∃ v8 w8, (Builtin.append_ #[57, 57] ty #[u11, .slice (some ⟨wr.drew.heap.size, 0, none⟩) 1 1]).run Try.prog (wr.drew.drew.alloc (.cells #[.int .i64 (p : Int), .int .i64 (q : Int), .int .i64 (s : Int)] 51)) = .ok v8 w8 ∧ Below w2.heap.size w2 w8 ∧ (Below w2.heap.size w2 w8 ∧ T3 w8 w2.heap.size v8 (U ++ [(p, q, s)]))) := by
              intro ty
              obtain ⟨v8, w8, h1, h2, h3', _⟩ := run_append_own (P := Try.prog) (wr.drew.drew.alloc (.cells #[.int .i64 (p : Int), .int .i64 (q : Int), .int .i64 (s : Int)] 51)) w2.heap.size 57 ty 51 iT (.agg #[.int .i64 0, .int .i64 0, .int .i64 0]) 3 24 Try.underlying57 hI hI0 hI1 hI2 rfl (by decide) u11 U.length (U.flatMap c3) (hown.alloc _) ⟨wr.drew.drew.heap.size, 0, none⟩ 1 1 (c3 (p, q, s)) rfl (cell_three_new _ _ _ _ _) (c3_one _) (by unfold maxLen; omega) (by omega) hX2.size
              refine ⟨v8, w8, h1, ?_, ?_, ?_⟩
              · exact hX2.grown h3' hX2.size (fun q hq => (hown.lt q hq).1)
              · exact hX2.grown h3' hX2.size (fun q hq => (hown.lt q hq).1)
              · unfold T3
                rw [List.length_append, List.flatMap_append]
                simpa using h2
            clear hown hszd
            go_wp2_with fail
            refine Rg.wp_only ?_ (stableReg _ (by kernel_rfl) _ gx ox gy oy NX NY cx cy n m p q s u11 _ e1 e2 (Below w2.heap.size w2) (fun v8 W => Below w2.heap.size w2 W ∧ T3 W w2.heap.size v8 (U ++ [(p, q, s)])) HX3.out hbd2 hX2 HE8.out)
            rintro _ w9 ⟨v9, rfl, h9, ht9⟩
            have HT9 : Hid (T3 w9 w2.heap.size v9 (trip (X.take n) Y ++ row3 (p, q) (Y.take (m + 1)))) := by
              show T3 _ _ _ _
              rw [HU2.out]
              exact ht9
            clear ht9 HE8 HX3 hX2 hbd hbd2 HT HB
            go_wp2_with fail
            go_roundw
            case rel => exact ⟨m + 1, by go_num, by omega, HT9, h9⟩
            case measure => simp only [intOf]; omega
          · have e3 : ((p : Int) == (r : Int)) = false := beq_eq_false_iff_ne.2 (by omega)
            rw [if_neg (fun e => he e.symm), List.append_nil] at hR
            have HT2 : Hid (T3 wr w2.heap.size u11 (trip (X.take n) Y ++ row3 (p, q) (Y.take (m + 1)))) := by show T3 _ _ _ _; rw [hR]; exact HT.out
            clear hcy b0 b1 hr hR hRl HX3 HT
            go_wp2_with fail
            go_region
            go_wp2_with fail
            go_roundw
            case rel => exact ⟨m + 1, by go_num, by omega, HT2.out.drew, HB.out.drew⟩
            case measure => simp only [intOf]; omega
        · have e2 : ¬ (m : Int) < (NY : Int) := by omega
          have HT2 : Hid (T3 wr w2.heap.size u11 (trip (X.take (n + 1)) Y)) := by
            have h := HT.out
            rw [show Y.take m = Y from List.take_of_length_le (by rw [← HNY.out]; omega), ← HTT.out] at h
            exact h
          clear HT
          go_wp2_with fail
          go_roundw
          case rel => exact ⟨n + 1, by go_num, by omega, HT2, HB⟩
          case measure => simp only [intOf]; omega
    · have hnN : n = NX := by omega
      have e1 : ¬ (n : Int) < (NX : Int) := by omega
      have hE : Hid (T3 wr w2.heap.size u11 (trip X Y)) := by
        have h := HT.out
        rw [List.take_of_length_le (by rw [← HNX.out]; omega)] at h
        exact h
      clear HT hnN
      go_wp2_with fail
      go_ret
      exact ⟨_, rfl, own_base hE.out HB2.out.size, HB2.out.trans (HB.out.mono HB2.out.size)⟩
end Go.Proofs.Ytnpobigombafoaa.Mg

namespace Go.Proofs.Ytnpobigombafoaa.Mg
open Go.RowKit Go.ChangeShapes Go.WideShapes Tx Um Ud Aq Km Kd Lm Ln
set_option linter.unusedVariables false
def mks (l m : List UInt8) : Nat := (l.map fun x => m.count x).sum
theorem mks_snoc (l m : List UInt8) (x : UInt8) : mks (l ++ [x]) m = mks l m + m.count x := by unfold mks; rw [List.map_append, List.sum_append]; simp
theorem mks_take {l m : List UInt8} {i : Nat} (h : i < l.length) : mks (l.take (i + 1)) m = mks (l.take i) m + m.count l[i] := by
  rw [List.take_succ_eq_append_getElem h, mks_snoc]
theorem mks_cb (s : ByteArray) (m : List UInt8) : mks s.data.toList m = (m.map fun c => cb c s).sum := by
  unfold cb
  induction m with
  | nil =>
    unfold mks
    induction s.data.toList with
    | nil => rfl
    | cons x l ih => rw [List.map_cons, List.sum_cons, ih]; rfl
  | cons c m ih =>
    rw [List.map_cons, List.sum_cons, ← ih]
    unfold mks
    induction s.data.toList with
    | nil => rfl
    | cons x l ihl =>
      rw [List.map_cons, List.sum_cons, ihl, List.map_cons, List.sum_cons, List.count_cons, List.count_cons]
      have : (if (c == x) = true then 1 else 0) = (if (x == c) = true then 1 else 0) := by
        by_cases h : c = x
        · subst h; rfl
        · have h1 : (c == x) = false := beq_eq_false_iff_ne.2 h
          have h2 : (x == c) = false := beq_eq_false_iff_ne.2 (fun e => h e.symm)
          rw [h1, h2]
      omega
theorem ne_byte {x y : UInt8} (h : x ≠ y) : ((x.toNat : Int) == (y.toNat : Int)) = false := beq_eq_false_iff_ne.2 fun e => h (UInt8.toNat_inj.1 (by omega))
set_option maxRecDepth 100000 in
set_option maxHeartbeats 1000000 in
theorem marks_any (s m : ByteArray) (w : World) (hs : s.size ≤ 1125899906842624) (hm : m.size ≤ 3) :
    Calls Try.prog 20 #[.string s, .string m] w fun e w' => e = .returned (.int .i64 (mks s.data.toList m.data.toList : Nat)) ∧ Below w.heap.size w w' := by
  have hsl : s.data.toList.length = s.size := len_l s
  have hml : m.data.toList.length = m.size := len_l m
  obtain ⟨ls, hls⟩ : ∃ ls, ls = s.data.toList := ⟨_, rfl⟩
  obtain ⟨lm, hlm⟩ : ∃ lm, lm = m.data.toList := ⟨_, rfl⟩
  rw [← hls] at hsl ⊢
  rw [← hlm] at hml ⊢
  have HS := Lib.hid hsl
  have HM := Lib.hid hml
  have GS : Hid (∀ i (h1 : i < s.size) (h2 : i < ls.length), s[i] = ls[i]) := fun i h1 h2 => by subst hls; rfl
  have GM : Hid (∀ i (h1 : i < m.size) (h2 : i < lm.length), m[i] = lm[i]) := fun i h1 h2 => by subst hlm; rfl
  clear hsl hml hls hlm
  go_enter Try.func20, Try.ntmps20
  go_wp2_with fail
  go_loopw [5, 6, 7] (fun n i _ wr => ∃ (b c : Nat), b ≤ s.size ∧ i = .int .i64 (b : Int) ∧ n = .int .i64 (c : Int) ∧ Hid (c = mks (ls.take b) lm) ∧ c ≤ b * 3 ∧ Hid (Below w.heap.size w wr)) (fun _ i _ _ => s.size - (intOf i).toNat)
  case atStart => exact ⟨0, 0, Nat.zero_le _, rfl, rfl, rfl, Nat.zero_le _, Below.refl _ _⟩
  case round =>
    obtain ⟨b, c, hb, rfl, rfl, HC, hcb, HB⟩ := hrel
    by_cases hlt : b < s.size
    · have hlt' : (b : Int) < (s.size : Int) := by omega
      have hbl : b < ls.length := by rw [HS.out]; exact hlt
      obtain ⟨x, hx⟩ : ∃ x, x = s[b] := ⟨_, rfl⟩
      have HX : Hid (x = ls[b]) := by show _ = _; rw [hx]; exact GS.out b hlt hbl
      have hT := mks_take (m := lm) hbl
      rw [← HX.out, ← HC.out] at hT
      have HT := Lib.hid hT
      clear hT HC
      go_wp2_with fail
      go_loopw [5, 7] (fun n k wr => ∃ (j d : Nat), j ≤ m.size ∧ k = .int .i64 (j : Int) ∧ n = .int .i64 (d : Int) ∧ Hid (d = c + (lm.take j).count x) ∧ d ≤ b * 3 + j ∧ Hid (Below w.heap.size w wr)) (fun _ k _ => m.size - (intOf k).toNat)
      case atStart => exact ⟨0, c, Nat.zero_le _, rfl, rfl, rfl, by omega, HB⟩
      case round =>
        clear HB
        obtain ⟨j, d, hj, rfl, rfl, HD, hdb, HB⟩ := hrel
        by_cases hjl : j < m.size
        · have hjl' : (j : Int) < (m.size : Int) := by omega
          have hjl2 : j < lm.length := by rw [HM.out]; exact hjl
          obtain ⟨y, hy⟩ : ∃ y, y = m[j] := ⟨_, rfl⟩
          have HY : Hid (y = lm[j]) := by show _ = _; rw [hy]; exact GM.out j hjl hjl2
          have hcn : (lm.take (j + 1)).count x = (lm.take j).count x + if (y == x) = true then 1 else 0 := by
            rw [List.take_succ_eq_append_getElem hjl2, List.count_append, ← HY.out, List.count_singleton]
          rw [hx, hy] at *
          by_cases he : s[b] = m[j]
          · have e4 : ((s[b].toNat : Int) == (m[j].toNat : Int)) = true := by rw [he]; exact beq_self_eq_true _
            have HD2 : Hid (d + 1 = c + (lm.take (j + 1)).count s[b]) := by
              show _ = _
              rw [hcn, if_pos (by rw [he]; exact beq_self_eq_true _), HD.out]
              omega
            have wd : IntKind.i64.wrap ((d : Int) + 1) = (d : Int) + 1 := IntWalk.i64_in _ (by omega)
            clear hcn HD he HY
            go_wp2_with fail
            go_quiet (fail)
            go_wp2_with fail
            go_roundw
            case rel => exact ⟨j + 1, d + 1, by omega, by go_num, by go_num, HD2, by omega, below_drewN HB.out _⟩
            case measure => simp only [intOf]; omega
          · have e4 : ((s[b].toNat : Int) == (m[j].toNat : Int)) = false := ne_byte he
            have HD2 : Hid (d = c + (lm.take (j + 1)).count s[b]) := by
              show _ = _
              rw [hcn, if_neg (by intro h; exact he (beq_iff_eq.1 h).symm), HD.out, Nat.add_zero]
            clear hcn HD he HY
            go_wp2_with fail
            go_quiet (fail)
            go_wp2_with fail
            go_roundw
            case rel => exact ⟨j + 1, d, by omega, by go_num, rfl, HD2, by omega, below_drewN HB.out _⟩
            case measure => simp only [intOf]; omega
        · have hjl' : ¬ (j : Int) < (m.size : Int) := by omega
          have HC2 : Hid (d = mks (ls.take (b + 1)) lm) := by
            show _ = _
            rw [HT.out, HD.out, List.take_of_length_le (by rw [HM.out]; omega)]
          clear HD HT
          go_wp2_with fail
          go_roundw
          case rel => exact ⟨b + 1, d, by omega, by go_num, rfl, HC2, by omega, HB⟩
          case measure => simp only [intOf]; omega
    · have hlt' : ¬ (b : Int) < (s.size : Int) := by omega
      have HE : Hid (c = mks ls lm) := by
        show _ = _
        rw [HC.out, List.take_of_length_le (by rw [HS.out]; omega)]
      clear HC
      go_wp2_with fail
      go_ret
      exact ⟨by rw [← HE.out]; rfl, HB.out⟩
theorem pie_len {α : Type} [DecidableEq α] (o a b : List α) : (pie o a b).length ≤ o.length + a.length + b.length := by
  have hp := pie_pcs o a b
  have key : ∀ r : List (Ck α), (∀ c, c ∈ r → 0 < c.b.length + c.l.length + c.r.length) → r.length ≤ ((r.map (·.b)).flatten).length + ((r.map (·.l)).flatten).length + ((r.map (·.r)).flatten).length := by
    intro r
    induction r with
    | nil => intro _; exact Nat.le_refl _
    | cons c r ih =>
      intro h
      have h1 := h c (by simp)
      have h2 := ih (fun d hd => h d (by simp [hd]))
      simp only [List.map_cons, List.flatten_cons, List.length_append, List.length_cons]
      omega
  have h := key (pie o a b).reverse (fun c hc => (hp.full c (List.mem_reverse.1 hc)).1)
  rw [List.length_reverse, pie_base, pie_left, pie_right] at h
  exact h
theorem clt_size (l : List ByteArray) : (cat (clt l)).size ≤ (cat l).size + 1 := by
  rcases List.eq_nil_or_concat l with rfl | ⟨k, y, rfl⟩
  · rw [clt_nil]; exact Nat.le_succ _
  · rw [List.concat_eq_append, clt_snoc, cat_app, cat_app, ByteArray.size_append, ByteArray.size_append]
    have e1 : (cat [clot y]).size = (clot y).size := by rw [cat_size]; simp
    have e2 : (cat [y]).size = y.size := by rw [cat_size]; simp
    rw [e1, e2]
    unfold clot
    split
    · omega
    · rw [ByteArray.size_append]
      show _ ≤ _
      have : (⟨#[10]⟩ : ByteArray).size = 1 := rfl
      omega
theorem tx_size (c : Ck ByteArray) : (tx c).size ≤ (cat c.l).size + (cat c.r).size + 26 := by
  unfold tx
  cases hp : pick c with
  | some l =>
    show (cat l).size ≤ _
    have hl2 : l = c.l ∨ l = c.r := by
      unfold pick at hp
      split at hp
      · injection hp with hp; exact .inl hp.symm
      · split at hp
        · injection hp with hp; exact .inr hp.symm
        · cases hp
    rcases hl2 with rfl | rfl <;> omega
  | none =>
    show (AH ++ cat (clt c.l) ++ MI ++ cat (clt c.r) ++ BH).size ≤ _
    rw [ByteArray.size_append, ByteArray.size_append, ByteArray.size_append, ByteArray.size_append]
    have h1 := clt_size c.l
    have h2 := clt_size c.r
    have e1 : AH.size = 8 := rfl
    have e2 : MI.size = 8 := rfl
    have e3 : BH.size = 8 := rfl
    omega
theorem cat_flat (L : List (List ByteArray)) : (cat L.flatten).size = (L.map fun l => (cat l).size).sum := by
  induction L with
  | nil => rfl
  | cons l L ih => rw [List.flatten_cons, cat_app, ByteArray.size_append, ih, List.map_cons, List.sum_cons]
theorem txs_size (s t u : ByteArray) : (txs (pcs3 s t u)).size ≤ t.size + u.size + 26 * (pcs3 s t u).length ∧ cfs (pcs3 s t u) ≤ (pcs3 s t u).length ∧ (pcs3 s t u).length ≤ (lns s).length + (lns t).length + (lns u).length := by
  have key : ∀ (L : List (Ck ByteArray)) (z : ByteArray), (L.foldl (fun s c => s ++ tx c) z).size ≤ z.size + (L.map fun c => (cat c.l).size).sum + (L.map fun c => (cat c.r).size).sum + 26 * L.length := by
    intro L
    induction L with
    | nil => intro z; show z.size ≤ z.size + 0 + 0 + 26 * 0; omega
    | cons c L ih =>
      intro z
      rw [List.foldl_cons]
      have h1 := ih (z ++ tx c)
      have h2 := tx_size c
      rw [ByteArray.size_append] at h1
      simp only [List.map_cons, List.sum_cons, List.length_cons]
      omega
  have h1 := key (pcs3 s t u) ⟨#[]⟩
  have e1 : ((pcs3 s t u).map fun c => (cat c.l).size).sum = t.size := by
    have := cat_flat ((pcs3 s t u).map (·.l))
    rw [show ((pcs3 s t u).map (·.l)).flatten = lns t from pie_left _ _ _, lns_cat, List.map_map] at this
    exact this.symm
  have e2 : ((pcs3 s t u).map fun c => (cat c.r).size).sum = u.size := by
    have := cat_flat ((pcs3 s t u).map (·.r))
    rw [show ((pcs3 s t u).map (·.r)).flatten = lns u from pie_right _ _ _, lns_cat, List.map_map] at this
    exact this.symm
  rw [e1, e2] at h1
  refine ⟨?_, ?_, ?_⟩
  · unfold txs
    have e0 : (⟨#[]⟩ : ByteArray).size = 0 := rfl
    omega
  · unfold cfs
    generalize pcs3 s t u = L
    induction L with
    | nil => exact Nat.le_refl _
    | cons c L ih =>
      have hc : cf c ≤ 1 := by unfold cf; cases pick c <;> simp
      rw [List.map_cons, List.sum_cons, List.length_cons]
      omega
  · unfold pcs3
    rw [List.length_reverse]
    exact pie_len _ _ _
theorem err_lines {s t u : ByteArray} (h : err3 s t u = 0) : txt s = 0 ∧ txt t = 0 ∧ txt u = 0 ∧ (lns s).length ≤ 400 ∧ (lns t).length ≤ 400 ∧ (lns u).length ≤ 400 := by
  unfold err3 at h
  have hs : txt s = 0 := by by_cases e : txt s = 0; exact e; rw [if_pos e] at h; exact h
  rw [if_neg (by omega)] at h
  have ht : txt t = 0 := by by_cases e : txt t = 0; exact e; rw [if_pos e] at h; exact h
  rw [if_neg (by omega)] at h
  have key : ∀ s, txt s = 0 → (lns s).length ≤ 400 := fun s h => by
    unfold txt at h
    split at h
    · cases h
    · split at h
      · cases h
      · omega
  exact ⟨hs, ht, h, key s hs, key t ht, key u h⟩
end Go.Proofs.Ytnpobigombafoaa.Mg

namespace Go.Proofs.Ytnpobigombafoaa.Mg
open Go.RowKit Go.ChangeShapes Go.WideShapes Tx Um Ud Aq Km Kd Lm Ln
set_option linter.unusedVariables false
theorem lo_rd {w : World} {B : Nat} {v : Value} {l : List ByteArray} (h : Lo w B v l) : Rd w v l := by
  have hh := h
  rcases h.2 with ⟨rfl, h0⟩ | ⟨g, cap, cur, rfl, hg, hb, hn, hc, _⟩
  · exact ⟨none, 0, by rw [h0], ⟨rfl, .inl h0⟩, fun _ => rfl⟩
  · refine ⟨some ⟨g, 0, none⟩, cap, rfl, ⟨rfl, .inr ⟨g, 0, rfl, (Array.getElem?_eq_some_iff.1 hb).1, fun k x hx => ?_⟩⟩, fun e => by cases e⟩
    have e1 := World.ownsRow.cells (g := g) hh rfl k (.string x) (by rw [List.getElem?_map, hx]; rfl)
    rw [WideShapes.add_plain] at e1
    exact e1
def Ty (w : World) (u : Value) : Prop := ∀ g, u.ownBlock = some g → ∃ cs fr, w.heap[g]? = some (.cells cs 9 fr)
def Kp (w w1 : World) : Prop := ∀ (g : Nat) (cs : Array Value) (fr : Nat × Nat), w.heap[g]? = some (Obj.cells cs 9 fr) → w1.heap[g]? = some (Obj.cells cs 9 fr)
theorem Kp.refl (w : World) : Kp w w := fun _ _ _ h => h
theorem Kp.trans {a b c : World} (h : Kp a b) (h2 : Kp b c) : Kp a c := fun g cs fr x => h2 g cs fr (h g cs fr x)
theorem Kp.of_below {w w1 : World} (h : Below w.heap.size w w1) : Kp w w1 := fun g cs fr x => (h.block g (Array.getElem?_eq_some_iff.1 x).1).trans x
theorem Ty.keep {w w1 : World} {u : Value} (h : Ty w u) (hk : Kp w w1) : Ty w1 u := fun g e => by
  obtain ⟨cs, fr, x⟩ := h g e
  exact ⟨cs, fr, hk g cs fr x⟩
theorem lo_ty {w : World} {B : Nat} {v : Value} {l : List ByteArray} (h : Lo w B v l) : Ty w v := by
  intro g e
  rcases h.2 with ⟨rfl, _⟩ | ⟨g1, cap, cur, rfl, _, hh, _⟩
  · cases e
  · obtain rfl : g1 = g := by simpa [Value.ownBlock] using e
    exact ⟨cur, (0, 0), hh⟩
theorem rd_keep {w w1 : World} {u : Value} {l : List ByteArray} (h : Rd w u l) (ht : Ty w u) (hk : Kp w w1) : Rd w1 u l := by
  obtain ⟨A, c, rfl, h1, h2⟩ := h
  refine ⟨A, c, rfl, ⟨rfl, ?_⟩, h2⟩
  rcases h1.2 with h0 | ⟨b, off, rfl, hlt, hc⟩
  · exact .inl h0
  · obtain ⟨cs, fr, x⟩ := ht b rfl
    have y := hk b cs fr x
    refine .inr ⟨b, off, rfl, (Array.getElem?_eq_some_iff.1 y).1, fun k z hz => ?_⟩
    exact (World.cell?_of_block (a := ⟨b, off + k, none⟩) (y.trans x.symm)).trans (hc k z hz)
theorem ty_sub {w : World} {A : Option Addr} {c n lo hi : Nat} (h : Ty w (.slice A n c)) : Ty w (sliced A lo hi c 1) := by
  intro g e
  unfold sliced at e
  cases A with
  | none => split at e <;> simp [Value.ownBlock] at e
  | some ad =>
    refine h g ?_
    split at e
    · exact e
    · by_cases hl : lo = 0
      · simpa [Value.ownBlock, Addr.add, hl] using e
      · simpa [Value.ownBlock, Addr.add, hl] using e
def IsS (w : World) : List Cc → List (Ck ByteArray) → Prop
  | [], [] => True
  | c :: cs, h :: hs => (c.1 = h.st ∧ (Rd w c.2.1 h.b ∧ Ty w c.2.1) ∧ (Rd w c.2.2.1 h.l ∧ Ty w c.2.2.1) ∧ (Rd w c.2.2.2 h.r ∧ Ty w c.2.2.2)) ∧ IsS w cs hs
  | _, _ => False
theorem IsS.isC {w : World} : ∀ {cs : List Cc} {hs : List (Ck ByteArray)}, IsS w cs hs → IsC w cs hs
  | [], [], _ => trivial
  | _ :: _, _ :: _, h => ⟨h.1.1, h.1.2.1.1, h.1.2.2.1.1, h.1.2.2.2.1, IsS.isC h.2⟩
theorem IsS.len {w : World} {cs : List Cc} {hs : List (Ck ByteArray)} (h : IsS w cs hs) : cs.length = hs.length := h.isC.len
theorem IsS.keep {w w1 : World} (hk : Kp w w1) : ∀ {cs : List Cc} {hs : List (Ck ByteArray)}, IsS w cs hs → IsS w1 cs hs
  | [], [], _ => trivial
  | _ :: _, _ :: _, ⟨⟨a, ⟨b1, b2⟩, ⟨c1, c2⟩, ⟨d1, d2⟩⟩, h⟩ => ⟨⟨a, ⟨rd_keep b1 b2 hk, b2.keep hk⟩, ⟨rd_keep c1 c2 hk, c2.keep hk⟩, ⟨rd_keep d1 d2 hk, d2.keep hk⟩⟩, IsS.keep hk h⟩
theorem IsS.snoc {w : World} {c : Cc} {x : Ck ByteArray} (h1 : c.1 = x.st ∧ (Rd w c.2.1 x.b ∧ Ty w c.2.1) ∧ (Rd w c.2.2.1 x.l ∧ Ty w c.2.2.1) ∧ (Rd w c.2.2.2 x.r ∧ Ty w c.2.2.2)) : ∀ {cs : List Cc} {hs : List (Ck ByteArray)}, IsS w cs hs → IsS w (cs ++ [c]) (hs ++ [x])
  | [], [], _ => ⟨h1, trivial⟩
  | _ :: _, _ :: _, h => ⟨h.1, IsS.snoc h1 h.2⟩
theorem IsS.unsnoc {w : World} {x : Ck ByteArray} : ∀ {cs : List Cc} {hs : List (Ck ByteArray)}, IsS w cs (hs ++ [x]) → ∃ cs' c, cs = cs' ++ [c] ∧ IsS w cs' hs ∧ c.1 = x.st ∧ (Rd w c.2.1 x.b ∧ Ty w c.2.1) ∧ (Rd w c.2.2.1 x.l ∧ Ty w c.2.2.1) ∧ (Rd w c.2.2.2 x.r ∧ Ty w c.2.2.2)
  | [], [], h => h.elim
  | [], _ :: _, h => h.elim
  | c :: [], [], h => ⟨[], c, rfl, trivial, h.1⟩
  | _ :: _ :: _, [], h => h.2.elim
  | c :: cs, y :: hs, h => by
    obtain ⟨cs', d, e, h1, h2⟩ := IsS.unsnoc (cs := cs) (hs := hs) h.2
    exact ⟨c :: cs', d, by rw [e]; rfl, ⟨h.1, h1⟩, h2⟩
theorem Cs.lt {w : World} {B : Nat} {v : Value} {cs : List Cc} (h : Cs w B v cs) : ∀ k, v.ownBlock = some k → B ≤ k ∧ k < w.heap.size := World.ownsRow.lt h
theorem Cs.kp {w w1 : World} {B : Nat} {v : Value} {cs : List Cc} (h : Cs w B v cs) (hg : w.grownBy w1 v.ownBlock) : Kp w w1 := by
  intro g cur fr x
  refine (hg.block g (Array.getElem?_eq_some_iff.1 x).1 fun e => ?_).trans x
  rcases h.2 with ⟨rfl, _⟩ | ⟨g1, cap, cur1, rfl, _, hh, _⟩
  · cases e
  · obtain rfl : g = g1 := by simpa [Value.ownBlock] using e
    rw [hh] at x
    injection x with x
    injection x with _ x _
    exact absurd x (by decide)
theorem kp_alloc (w : World) (o : Obj) : Kp w (w.alloc o) := Kp.of_below ((Below.refl _ w).alloc (Nat.le_refl _) o)
structure Ct (o a b : List ByteArray) (T : List (Nat × Nat × Nat)) (n i j k : Nat) (r : List (Ck ByteArray)) : Prop where
  le : n ≤ T.length
  same : cks o a b T 0 0 0 [] = cks o a b (T.drop n) i j k r
  rise : Pt3 o a b (T.drop n) i j k
  pcs : Pcs o a b i j k r
  kept : Kept1 r
  few : r.length ≤ 2 * n
theorem ct_start {o a b : List ByteArray} {T : List (Nat × Nat × Nat)} (h : Pt3 o a b T 0 0 0) : Ct o a b T 0 0 0 0 [] := ⟨Nat.zero_le _, rfl, h, pcs_start o a b, (fun c h => by cases h), Nat.le_refl _⟩
theorem gapc_yes {o a b : List ByteArray} {i j k p q s : Nat} {r : List (Ck ByteArray)} (h : i < p ∨ j < q ∨ k < s) : gapc o a b i j k p q s r = ⟨false, (o.take p).drop i, (a.take q).drop j, (b.take s).drop k⟩ :: r := by
  unfold gapc
  rw [if_pos h]
theorem gapc_no {o a b : List ByteArray} {i j k p q s : Nat} {r : List (Ck ByteArray)} (h : ¬ (i < p ∨ j < q ∨ k < s)) : gapc o a b i j k p q s r = r := by
  unfold gapc
  rw [if_neg h]
theorem gapc_len (o a b : List ByteArray) (i j k p q s : Nat) (r : List (Ck ByteArray)) : (gapc o a b i j k p q s r).length ≤ r.length + 1 := by
  unfold gapc
  split
  · exact Nat.le_refl _
  · exact Nat.le_succ _
theorem stab_len (x : ByteArray) (r : List (Ck ByteArray)) : (stab x r).length ≤ r.length + 1 := by
  cases r with
  | nil => exact Nat.le_refl _
  | cons c r =>
    rw [stab]
    split
    · simp
    · exact Nat.le_refl _
theorem ct_at {o a b : List ByteArray} {T : List (Nat × Nat × Nat)} {n i j k : Nat} {r : List (Ck ByteArray)} (h : Ct o a b T n i j k r) {t : Nat × Nat × Nat} (ht : T[n]? = some t) :
    i ≤ t.1 ∧ j ≤ t.2.1 ∧ k ≤ t.2.2 ∧ t.2.1 < a.length ∧ t.2.2 < b.length ∧ ∃ x, o[t.1]? = some x ∧ t.1 < o.length ∧ Ct o a b T (n + 1) (t.1 + 1) (t.2.1 + 1) (t.2.2 + 1) (stab x (gapc o a b i j k t.1 t.2.1 t.2.2 r)) := by
  have hn : n < T.length := (List.getElem?_eq_some_iff.1 ht).1
  have e : T.drop n = t :: T.drop (n + 1) := by
    rw [List.drop_eq_getElem_cons hn, (List.getElem?_eq_some_iff.1 ht).2]
  have h1 := h.same
  have h2 := h.rise
  rw [e] at h1 h2
  obtain ⟨k1, k2, k3, ⟨g1, g2, g3, e1, e2⟩, k4⟩ := h2
  rw [cks_cons g1] at h1
  refine ⟨k1, k2, k3, g2, g3, o[t.1], List.getElem?_eq_getElem g1, g1, ⟨hn, h1, k4, pcs_stab (pcs_gap h.pcs h.kept k1 k2 k3 (by omega) (by omega) (by omega)) g1 g2 g3 e1 e2, kept_stab _ _, ?_⟩⟩
  have q1 := gapc_len o a b i j k t.1 t.2.1 t.2.2 r
  have q2 := stab_len o[t.1] (gapc o a b i j k t.1 t.2.1 t.2.2 r)
  have := h.few
  omega
theorem ct_end {o a b : List ByteArray} {T : List (Nat × Nat × Nat)} {i j k : Nat} {r : List (Ck ByteArray)} (h : Ct o a b T T.length i j k r) :
    i ≤ o.length ∧ j ≤ a.length ∧ k ≤ b.length ∧ cks o a b T 0 0 0 [] = gapc o a b i j k o.length a.length b.length r := by
  have h1 := h.same
  have h2 := h.rise
  rw [List.drop_length] at h1 h2
  exact ⟨h2.1, h2.2.1, h2.2.2, h1⟩
theorem pcs_line {o a b : List ByteArray} {i j k : Nat} {c : Ck ByteArray} {r : List (Ck ByteArray)} (h : Pcs o a b i j k (c :: r)) (hs : c.st = true) : c.b ≠ [] ∧ c.b.length ≤ o.length := by
  obtain ⟨h1, h2⟩ := h.full c (by simp)
  obtain ⟨e1, e2⟩ := h2 hs
  constructor
  · intro e
    rw [← e1, ← e2, e] at h1
    simp at h1
  · have := congrArg List.length h.base
    rw [List.reverse_cons, List.map_append, List.flatten_append, List.length_append] at this
    simp only [List.map_cons, List.map_nil, List.flatten_cons, List.flatten_nil, List.append_nil, List.length_take] at this
    omega
set_option maxRecDepth 100000 in
theorem app_lo (W : World) (B : Nat) (v : Value) (l m : List ByteArray) (h : Lo W B v l) (g off c : Nat) (hm : ∀ (k : Nat) x, m[k]? = some x → W.cell? ⟨g, off + k, none⟩ = some (.string x)) (hl : l.length + m.length ≤ 1000000) (hB : B ≤ W.heap.size) :
    ∀ ty, ∃ v' W', (Builtin.append_ #[31, 31] ty #[v, .slice (some ⟨g, off, none⟩) m.length c]).run Try.prog W = .ok v' W' ∧ Lo W' B v' (l ++ m) ∧ W.grownBy W' v.ownBlock := by
  obtain ⟨i0, hi, hz0, hz1, hz2⟩ := info_parts info9
  intro ty
  obtain ⟨v', W', h1, h2, h3, _⟩ := run_append_own (P := Try.prog) W B 31 ty 9 i0 (.string ⟨#[]⟩) 1 16 Try.underlying31 hi hz0 hz1 hz2 rfl (by decide) v l.length (l.map sv) h ⟨g, off, none⟩ m.length c (m.map sv) (by rw [List.length_map, Nat.mul_one])
    (fun j u hj => by
      rw [List.getElem?_map] at hj
      cases hx : m[j]? with
      | none => rw [hx] at hj; cases hj
      | some x =>
        rw [hx] at hj
        injection hj with hj
        subst hj
        rw [WideShapes.add_plain]
        exact hm j x hx)
    (fun u hu => by obtain ⟨x, _, rfl⟩ := List.mem_map.1 hu; rfl) (by unfold maxLen; omega) (by omega) hB
  refine ⟨v', W', h1, ?_, h3⟩
  unfold Lo
  rw [List.length_append, List.map_append]
  exact h2
theorem own_new (w : World) (B : Nat) (hb : B ≤ w.heap.size) : Lo (w.alloc (.cells #[] 9)) B (.slice (some ⟨w.heap.size, 0, none⟩) 0 0) [] := World.ownsRow_lit w #[] 0 hb (Nat.zero_le _) rfl
theorem one_new (w : World) (B : Nat) (x : ByteArray) (hb : B ≤ w.heap.size) : Lo (w.alloc (.cells #[.string x] 9)) B (.slice (some ⟨w.heap.size, 0, none⟩) 1 1) [x] := World.ownsRow_lit w #[.string x] 1 hb (by unfold maxLen; omega) rfl
set_option maxRecDepth 100000 in
theorem app_cs (w : World) (B : Nat) (v : Value) (cs : List Cc) (h : Cs w B v cs) (c : Cc) (o1 : c.2.1.oneCell' = true) (o2 : c.2.2.1.oneCell' = true) (o3 : c.2.2.2.oneCell' = true) (hl : cs.length ≤ 1000000) (hB : B ≤ w.heap.size) :
    ∀ ty, ∃ v' W', (Builtin.append_ #[22, 22] ty #[v, .slice (some ⟨w.heap.size, 0, none⟩) 1 1]).run Try.prog (w.alloc (.cells #[.bool c.1, c.2.1, c.2.2.1, c.2.2.2] 33)) = .ok v' W' ∧ Cs W' B v' (cs ++ [c]) ∧ (w.alloc (.cells #[.bool c.1, c.2.1, c.2.2.1, c.2.2.2] 33)).grownBy W' v.ownBlock := by
  obtain ⟨i0, hi, hz0, hz1, hz2⟩ := info_parts infoC
  intro ty
  have hb2 : B ≤ (w.alloc (.cells #[.bool c.1, c.2.1, c.2.2.1, c.2.2.2] 33)).heap.size := by go_simp; omega
  obtain ⟨v', W', h1, h2, h3, _⟩ := run_append_own (P := Try.prog) (w.alloc (.cells #[.bool c.1, c.2.1, c.2.2.1, c.2.2.2] 33)) B 22 ty 33 i0 (.agg #[.bool false, .slice none 0 0, .slice none 0 0, .slice none 0 0]) 4 80 Try.underlying22 hi hz0 hz1 hz2 rfl (by decide) v cs.length (cs.flatMap h4) (h.alloc _) ⟨w.heap.size, 0, none⟩ 1 1 (h4 c) rfl (cell_four_new _ _ _ _ _ _)
    (fun u hu => by
      simp only [h4, List.mem_cons, List.not_mem_nil, or_false] at hu
      rcases hu with rfl | rfl | rfl | rfl
      · rfl
      · exact o1
      · exact o2
      · exact o3) (by unfold maxLen; omega) (by omega) hb2
  refine ⟨v', W', h1, ?_, h3⟩
  unfold Cs
  rw [List.length_append, List.flatMap_append]
  simpa using h2
theorem slice_run14 (A : Option Addr) (n c lo hi : Nat) (h1 : lo ≤ hi) (h2 : hi ≤ c) (W : World) : (Instr.slice 31 (.slice A n c) (some (.int .i64 (lo : Int))) (some (.int .i64 (hi : Int))) none).run Try.prog W = .ok (sliced A lo hi c 1) W := by
  rw [run_slice_lh W 31 A n c (by kernel_rfl) .i64 .i64 (lo : Int) (hi : Int) (by omega) (by omega) (by omega), Int.toNat_natCast, Int.toNat_natCast]
  have e : (sizeOf (Try.prog.elem 31)).run Try.prog W = .ok 1 W := by kernel_rfl
  rw [e]
  rfl
theorem lo_all {w : World} {B : Nat} {v : Value} {l : List ByteArray} (h : Lo w B v l) : ∃ A c, v = .slice A l.length c ∧ Strs w A l.length l ∧ (A = none → c = 0) ∧ l.length ≤ c ∧ Ty w v := by
  have ht := lo_ty h
  have hr := lo_rd h
  rcases h.2 with ⟨rfl, h0⟩ | ⟨g, cap, cur, rfl, hg, hb, hn, hc, _⟩
  · exact ⟨none, 0, by rw [h0], ⟨rfl, .inl h0⟩, fun _ => rfl, by omega, ht⟩
  · obtain ⟨A, c, e, h1, h2⟩ := hr
    injection e with e1 _ e3
    subst e1
    subst e3
    exact ⟨_, _, rfl, h1, h2, hn, ht⟩
def Reads (w : World) (c : Cc) (x : Ck ByteArray) : Prop := c.1 = x.st ∧ (Rd w c.2.1 x.b ∧ Ty w c.2.1) ∧ (Rd w c.2.2.1 x.l ∧ Ty w c.2.2.1) ∧ (Rd w c.2.2.2 x.r ∧ Ty w c.2.2.2)
theorem Reads.keep {w w1 : World} {c : Cc} {x : Ck ByteArray} (h : Reads w c x) (hk : Kp w w1) : Reads w1 c x := ⟨h.1, ⟨rd_keep h.2.1.1 h.2.1.2 hk, h.2.1.2.keep hk⟩, ⟨rd_keep h.2.2.1.1 h.2.2.1.2 hk, h.2.2.1.2.keep hk⟩, ⟨rd_keep h.2.2.2.1 h.2.2.2.2 hk, h.2.2.2.2.keep hk⟩⟩
def Row (w7 : World) (w : World) (v : Value) (r : List (Ck ByteArray)) : Prop := ∃ cs, Cs w w7.heap.size v cs ∧ IsS w cs r.reverse ∧ Below w7.heap.size w7 w
theorem Row.nil (w7 : World) : Row w7 w7 (.slice none 0 0) [] := ⟨[], cs_nil _ _, trivial, Below.refl _ _⟩
theorem Row.drew {w7 w : World} {v : Value} {r : List (Ck ByteArray)} (h : Row w7 w v r) : Row w7 w.drew v r := by
  obtain ⟨cs, h1, h2, h3⟩ := h
  exact ⟨cs, h1, h2.keep (show Kp w w.drew from fun _ _ _ x => x), h3.drew⟩
theorem Row.call {w7 w w1 : World} {v : Value} {r : List (Ck ByteArray)} (h : Row w7 w v r) (hb : Below w.heap.size w w1) : Row w7 w1 v r := by
  obtain ⟨cs, h1, h2, h3⟩ := h
  exact ⟨cs, h1.below hb, h2.keep (Kp.of_below hb), h3.trans (hb.mono h3.size)⟩
theorem Row.len {w7 w : World} {v : Value} {r : List (Ck ByteArray)} (h : Row w7 w v r) : ∃ a c, v = .slice a r.length c := by
  obtain ⟨cs, h1, h2, h3⟩ := h
  obtain ⟨a, c, e, _⟩ := h1.form h2.isC
  rw [List.length_reverse] at e
  exact ⟨a, c, e⟩
theorem Row.grown {w7 W w8 : World} {v v8 : Value} {cs : List Cc} {r : List (Ck ByteArray)} {c : Cc} {g : Ck ByteArray} (h1 : Cs W w7.heap.size v cs) (h2 : IsS W cs r.reverse) (h3 : Below w7.heap.size w7 W) (hc : Reads W c g) (h8 : Cs w8 w7.heap.size v8 (cs ++ [c])) (hg : W.grownBy w8 v.ownBlock) : Row w7 w8 v8 (g :: r) := by
  have hk := h1.kp hg
  refine ⟨cs ++ [c], h8, ?_, h3.grown hg h3.size (fun q e => (h1.lt q e).1)⟩
  rw [List.reverse_cons]
  exact IsS.snoc (hc.keep hk) (h2.keep hk)
theorem Row.put {w7 wr : World} {v : Value} {r : List (Ck ByteArray)} (h : Row w7 wr v r) (hl : r.length ≤ 1000000) {g : Ck ByteArray} (c : Cc) (hc : Reads wr c g) :
    ∀ ty, ∃ v8 w8, (Builtin.append_ #[22, 22] ty #[v, .slice (some ⟨wr.heap.size, 0, none⟩) 1 1]).run Try.prog (wr.drew.alloc (.cells #[.bool c.1, c.2.1, c.2.2.1, c.2.2.2] 33)) = .ok v8 w8 ∧ Below w7.heap.size w7 w8 ∧ Row w7 w8 v8 (g :: r) := by
  obtain ⟨cs, h1, h2, h3⟩ := h
  have hn := h2.len
  rw [List.length_reverse] at hn
  intro ty
  obtain ⟨v8, w8, e, k1, k2⟩ := app_cs wr.drew w7.heap.size v cs h1 c hc.2.1.1.one hc.2.2.1.1.one hc.2.2.2.1.one (by omega) h3.size ty
  have hkp : Kp wr (wr.drew.alloc (.cells #[.bool c.1, c.2.1, c.2.2.1, c.2.2.2] 33)) := Kp.trans (b := wr.drew) (fun _ _ _ x => x) (kp_alloc _ _)
  have hrow : Row w7 w8 v8 (g :: r) := Row.grown (W := wr.drew.alloc (.cells #[.bool c.1, c.2.1, c.2.2.1, c.2.2.2] 33)) (World.ownsRow.alloc (w := wr.drew) h1 _) (h2.keep hkp) (h3.drew.alloc h3.size _) (hc.keep hkp) k1 k2
  exact ⟨v8, w8, e, hrow.elim fun _ q => q.2.2, hrow⟩
end Go.Proofs.Ytnpobigombafoaa.Mg

namespace Go.Proofs.Ytnpobigombafoaa.Rg
open Go.RowKit
set_option linter.unusedVariables false
section
variable {P : Program} {S : World → Prop} {ops : Array Oper} {R : Act → World → Prop}
theorem op_app (i : Nat) (d : Option Tmp) {T : TypeId} {x y : Operand} {vx vy : Value} {fuel : Nat} {listed : Array Bool} {a : Act} {w : World}
    (hi : decide (i < ops.size) = true) (hd : (opOf ops i).dst = d)
    (hw : Region.wanted (opOf ops i) (yielded ops a.tmps) = true) (ho : (opOf ops i).op = .call { callee := .builtin .append, args := #[x, y], argTypes := #[T, T] }) (hx : a.eval x = vx) (hy : a.eval y = vy)
    (h : ∀ ty, ∃ v w1, (Builtin.append_ #[T, T] ty #[vx, vy]).run P w = .ok v w1 ∧ S w1 ∧ (S w1 → wpAnyH P .any ops (Only R) S fuel (listed.setIfInBounds i true) (a.put d v) w1)) :
    wpOp P ops (Only R) i (fun a' w' => S w' ∧ wpAnyH P .any ops (Only R) S fuel (listed.setIfInBounds i true) a' w') a w := by
  subst hd
  unfold wpOp
  rw [opOf_some hi]
  simp only [hw, if_true]
  refine .inl ?_
  obtain ⟨v, w1, hrun, hS, hk⟩ := h (opOf ops i).type
  generalize opOf ops i = o at ho hrun hk ⊢
  obtain ⟨dst, op, ty, pos, after, guard⟩ := o
  simp only at ho hrun hk ⊢
  subst ho
  unfold Oper.wp
  simp only [execOp, resolve, invoke, builtin, Sem.run_bind, Sem.run_pure, Result.andThen_ok, List.map_toArray, List.map_cons, List.map_nil, hx, hy, hrun]
  exact ⟨hS, hk hS⟩
end
end Go.Proofs.Ytnpobigombafoaa.Rg
namespace Go.Proofs.Ytnpobigombafoaa.Mg
open Go.RowKit Go.ChangeShapes Go.WideShapes Tx Um Ud Aq Km Kd Lm Ln
set_option linter.unusedVariables false
def Tri (gt n p q s : Nat) (W : World) : Prop := W.cell? ⟨gt, n * 3, none⟩ = some (.int .i64 (p : Int)) ∧ W.cell? ⟨gt, n * 3 + 1, none⟩ = some (.int .i64 (q : Int)) ∧ W.cell? ⟨gt, n * 3 + 2, none⟩ = some (.int .i64 (s : Int))
set_option maxRecDepth 100000 in
set_option maxHeartbeats 4000000 in
theorem gapReg (ops : Array Oper) (hops : ops = (Rg.opsOf Try.f10 15)) (id : Nat) (gt nt ct n p q s mo co ma ca mb cb i j k no do_ na da nb db : Nat) {u0 u1 u2 u3 u4 u5 u6 u7 u8 u9 u19 u20 u21 u22 u23 u24 u25 u26 u27 u28 u29 u30 u31 u32 u33 u34 u35 u36 u37 u38 u39 u40 u41 u42 u43 u44 u45 u46 u47 u48 u49 u50 u51 u52 u53 u54 u55 u56 u57 u58 u59 u60 u61 u62 u63 u64 u65 u66 u67 u68 u69 u70 u71 u72 u73 u74 u75 u76 u77 u78 u79 u80 u81 u82 u83 u84 u85 u86 u87 u88 u89 u90 u91 u92 u93 u94 u95 u96 u97 u98 u99 u100 u101 u102 u103 u104 u105 u106 u107 u108 u109 u110 u111 u112 u113 u114 u115 u116 u117 u118 u119 u120 u121 u122 u123 u124 u125 u126 u127 u128 u129 u130 u131 u132 u133 u134 u135 u136 u137 u138 u139 u140 u141 u142 u143 u144 u145 u146 u147 u148 u149 u150 u151 u152 u153 u154 u155 u156 u157 u158 u159 u160 u161 u162 u163 u164 u165 u166 u167 u168 u169 u170 u171 u172 u173 u174 u175 u176 u177 u178 u179 u180 u181 u182 u183 u184 u185 u186 u187 u188 : Value} (w : World) (hn : (n : Int) < (nt : Int)) (X : World → Prop)
    (hX : ∀ W, X W → Tri gt n p q s W) (hw : X w.drew) (Ao Aa Ab Bo Ba Bb : Option Addr) (vL : Value) (Z : Value → World → Prop)
    (S1 : ∀ W : World, (Instr.slice 31 (.slice Ao mo co) (some (.int .i64 (i : Int))) (some (.int .i64 (p : Int))) none).run Try.prog W = .ok (.slice Bo no do_) W)
    (S2 : ∀ W : World, (Instr.slice 31 (.slice Aa ma ca) (some (.int .i64 (j : Int))) (some (.int .i64 (q : Int))) none).run Try.prog W = .ok (.slice Ba na da) W)
    (S3 : ∀ W : World, (Instr.slice 31 (.slice Ab mb cb) (some (.int .i64 (k : Int))) (some (.int .i64 (s : Int))) none).run Try.prog W = .ok (.slice Bb nb db) W)
    (hX2 : X (w.drew.alloc (.cells #[.bool false, .slice Bo no do_, .slice Ba na da, .slice Bb nb db] 33)))
    (hE : ∀ ty, ∃ v8 w8, (Builtin.append_ #[22, 22] ty #[vL, .slice (some ⟨w.heap.size, 0, none⟩) 1 1]).run Try.prog (w.drew.alloc (.cells #[.bool false, .slice Bo no do_, .slice Ba na da, .slice Bb nb db] 33)) = .ok v8 w8 ∧ X w8 ∧ Z v8 w8) :
    (Code.region id ops true).wp Try.prog (Rg.Only fun a' w' => ∃ v8 : Value, a' = ⟨#[u0, u1, u2, u3, u4, u5, u6, u7, u8, u9, (.slice Ao mo co), (.slice Aa ma ca), (.slice Ab mb cb), (.slice (some ⟨gt, 0, none⟩) nt ct), v8, (.int .i64 (i : Int)), (.int .i64 (j : Int)), (.int .i64 (k : Int)), (.int .i64 (n : Int)), u19, u20, u21, u22, u23, u24, u25, u26, u27, u28, u29, u30, u31, u32, u33, u34, u35, u36, u37, u38, u39, u40, u41, u42, u43, u44, u45, u46, u47, u48, u49, u50, u51, u52, u53, u54, u55, u56, u57, u58, u59, u60, u61, u62, u63, u64, u65, u66, u67, u68, u69, u70, u71, u72, u73, u74, u75, u76, u77, u78, u79, u80, u81, u82, u83, u84, u85, u86, u87, u88, u89, vL, (.slice Ao mo co), (.int .i64 (i : Int)), (.slice (some ⟨gt, 0, none⟩) nt ct), (.int .i64 (n : Int)), (.pointer (some ⟨gt, n * 3, none⟩)), (.pointer (some ⟨gt, n * 3, none⟩)), (.int .i64 (p : Int)), (.slice Bo no do_), (.slice Aa ma ca), (.int .i64 (j : Int)), (.slice (some ⟨gt, 0, none⟩) nt ct), (.int .i64 (n : Int)), (.pointer (some ⟨gt, n * 3, none⟩)), (.pointer (some ⟨gt, n * 3 + 1, none⟩)), (.int .i64 (q : Int)), (.slice Ba na da), (.slice Ab mb cb), (.int .i64 (k : Int)), (.slice (some ⟨gt, 0, none⟩) nt ct), (.int .i64 (n : Int)), (.pointer (some ⟨gt, n * 3, none⟩)), (.pointer (some ⟨gt, n * 3 + 2, none⟩)), (.int .i64 (s : Int)), (.slice Bb nb db), (.agg #[.bool false, .slice Bo no do_, .slice Ba na da, .slice Bb nb db]), (.slice (some ⟨w.heap.size, 0, none⟩) 1 1), v8, u118, u119, u120, u121, u122, u123, u124, u125, u126, u127, u128, u129, u130, u131, u132, u133, u134, u135, u136, u137, u138, u139, u140, u141, u142, u143, u144, u145, u146, u147, u148, u149, u150, u151, u152, u153, u154, u155, u156, u157, u158, u159, u160, u161, u162, u163, u164, u165, u166, u167, u168, u169, u170, u171, u172, u173, u174, u175, u176, u177, u178, u179, u180, u181, u182, u183, u184, u185, u186, u187, u188], []⟩ ∧ Z v8 w') ⟨#[u0, u1, u2, u3, u4, u5, u6, u7, u8, u9, (.slice Ao mo co), (.slice Aa ma ca), (.slice Ab mb cb), (.slice (some ⟨gt, 0, none⟩) nt ct), vL, (.int .i64 (i : Int)), (.int .i64 (j : Int)), (.int .i64 (k : Int)), (.int .i64 (n : Int)), u19, u20, u21, u22, u23, u24, u25, u26, u27, u28, u29, u30, u31, u32, u33, u34, u35, u36, u37, u38, u39, u40, u41, u42, u43, u44, u45, u46, u47, u48, u49, u50, u51, u52, u53, u54, u55, u56, u57, u58, u59, u60, u61, u62, u63, u64, u65, u66, u67, u68, u69, u70, u71, u72, u73, u74, u75, u76, u77, u78, u79, u80, u81, u82, u83, u84, u85, u86, u87, u88, u89, u90, u91, u92, u93, u94, u95, u96, u97, u98, u99, u100, u101, u102, u103, u104, u105, u106, u107, u108, u109, u110, u111, u112, u113, u114, u115, u116, u117, u118, u119, u120, u121, u122, u123, u124, u125, u126, u127, u128, u129, u130, u131, u132, u133, u134, u135, u136, u137, u138, u139, u140, u141, u142, u143, u144, u145, u146, u147, u148, u149, u150, u151, u152, u153, u154, u155, u156, u157, u158, u159, u160, u161, u162, u163, u164, u165, u166, u167, u168, u169, u170, u171, u172, u173, u174, u175, u176, u177, u178, u179, u180, u181, u182, u183, u184, u185, u186, u187, u188], []⟩ w := by
  subst hops
  have hNS : Region.noSelect (Rg.opsOf Try.f10 15) = true := by kernel_rfl
  refine wp_region_held_drew (S := X) (by kernel_rfl) hw (fun hHeld => ?_)
  rw [show (Rg.opsOf Try.f10 15).size = 29 by kernel_rfl]
  refine Rg.take (ops := (Rg.opsOf Try.f10 15)) 0 (some 90) (vL) hNS (by kernel_rfl) (by kernel_rfl) (by kernel_rfl) (by kernel_rfl) (by kernel_rfl) hHeld (Rg.y_move (x := (Operand.tmp 14)) (Or.inl (by kernel_rfl)) (by kernel_rfl)) ?_
  refine Rg.take (ops := (Rg.opsOf Try.f10 15)) 1 (some 91) ((.slice Ao mo co)) hNS (by kernel_rfl) (by kernel_rfl) (by kernel_rfl) (by kernel_rfl) (by kernel_rfl) hHeld (Rg.y_move (x := (Operand.tmp 10)) (Or.inl (by kernel_rfl)) (by kernel_rfl)) ?_
  refine Rg.take (ops := (Rg.opsOf Try.f10 15)) 2 (some 92) ((.int .i64 (i : Int))) hNS (by kernel_rfl) (by kernel_rfl) (by kernel_rfl) (by kernel_rfl) (by kernel_rfl) hHeld (Rg.y_move (x := (Operand.tmp 15)) (Or.inl (by kernel_rfl)) (by kernel_rfl)) ?_
  refine Rg.take (ops := (Rg.opsOf Try.f10 15)) 3 (some 93) ((.slice (some ⟨gt, 0, none⟩) nt ct)) hNS (by kernel_rfl) (by kernel_rfl) (by kernel_rfl) (by kernel_rfl) (by kernel_rfl) hHeld (Rg.y_move (x := (Operand.tmp 13)) (Or.inl (by kernel_rfl)) (by kernel_rfl)) ?_
  refine Rg.take (ops := (Rg.opsOf Try.f10 15)) 4 (some 94) ((.int .i64 (n : Int))) hNS (by kernel_rfl) (by kernel_rfl) (by kernel_rfl) (by kernel_rfl) (by kernel_rfl) hHeld (Rg.y_move (x := (Operand.tmp 18)) (Or.inl (by kernel_rfl)) (by kernel_rfl)) ?_
  refine Rg.take (ops := (Rg.opsOf Try.f10 15)) 5 (some 95) ((.pointer (some ⟨gt, n * 3, none⟩))) hNS (by kernel_rfl) (by kernel_rfl) (by kernel_rfl) (by kernel_rfl) (by kernel_rfl) hHeld (Rg.y_at (T := 57) (x := (Operand.tmp 93)) (y := (Operand.tmp 94)) (vx := (.slice (some ⟨gt, 0, none⟩) nt ct)) (vy := (.int .i64 (n : Int))) (by kernel_rfl) (by kernel_rfl) (by kernel_rfl) ?_) ?_
  · (intro W hSw; clear hSw hHeld; go_simp)
  refine Rg.take (ops := (Rg.opsOf Try.f10 15)) 6 (some 96) ((.pointer (some ⟨gt, n * 3, none⟩))) hNS (by kernel_rfl) (by kernel_rfl) (by kernel_rfl) (by kernel_rfl) (by kernel_rfl) hHeld (Rg.y_at (T := 51) (x := (Operand.tmp 95)) (y := (Operand.const (Value.int IntKind.i64 0))) (vx := (.pointer (some ⟨gt, n * 3, none⟩))) (vy := (Value.int IntKind.i64 0)) (by kernel_rfl) (by kernel_rfl) (by kernel_rfl) ?_) ?_
  · (intro W hSw; clear hSw hHeld; go_simp)
  refine Rg.take (ops := (Rg.opsOf Try.f10 15)) 7 (some 97) ((.int .i64 (p : Int))) hNS (by kernel_rfl) (by kernel_rfl) (by kernel_rfl) (by kernel_rfl) (by kernel_rfl) hHeld (Rg.y_load (T := 3) (x := (Operand.tmp 96)) (vx := (.pointer (some ⟨gt, n * 3, none⟩))) (by kernel_rfl) (by kernel_rfl) ?_) ?_
  · (intro W hSw; obtain ⟨s0, s1, s2⟩ := hX _ hSw; clear hSw hHeld; go_simp)
  refine Rg.take (ops := (Rg.opsOf Try.f10 15)) 8 (some 98) ((.slice Bo no do_)) hNS (by kernel_rfl) (by kernel_rfl) (by kernel_rfl) (by kernel_rfl) (by kernel_rfl) hHeld (Rg.y_sl2 (T := 31) (x := (Operand.tmp 91)) (l := (Operand.tmp 92)) (h := (Operand.tmp 97)) (vx := (.slice Ao mo co)) (vl := (.int .i64 (i : Int))) (vh := (.int .i64 (p : Int))) (by kernel_rfl) (by kernel_rfl) (by kernel_rfl) (by kernel_rfl) ?_) ?_
  · (intro W hSw; clear hSw hHeld; rw [run_sliceAt_slice _ _ _ _ _ _ (by kernel_rfl)]; exact S1 W)
  refine Rg.take (ops := (Rg.opsOf Try.f10 15)) 9 (some 99) ((.slice Aa ma ca)) hNS (by kernel_rfl) (by kernel_rfl) (by kernel_rfl) (by kernel_rfl) (by kernel_rfl) hHeld (Rg.y_move (x := (Operand.tmp 11)) (Or.inl (by kernel_rfl)) (by kernel_rfl)) ?_
  refine Rg.take (ops := (Rg.opsOf Try.f10 15)) 10 (some 100) ((.int .i64 (j : Int))) hNS (by kernel_rfl) (by kernel_rfl) (by kernel_rfl) (by kernel_rfl) (by kernel_rfl) hHeld (Rg.y_move (x := (Operand.tmp 16)) (Or.inl (by kernel_rfl)) (by kernel_rfl)) ?_
  refine Rg.take (ops := (Rg.opsOf Try.f10 15)) 11 (some 101) ((.slice (some ⟨gt, 0, none⟩) nt ct)) hNS (by kernel_rfl) (by kernel_rfl) (by kernel_rfl) (by kernel_rfl) (by kernel_rfl) hHeld (Rg.y_move (x := (Operand.tmp 13)) (Or.inl (by kernel_rfl)) (by kernel_rfl)) ?_
  refine Rg.take (ops := (Rg.opsOf Try.f10 15)) 12 (some 102) ((.int .i64 (n : Int))) hNS (by kernel_rfl) (by kernel_rfl) (by kernel_rfl) (by kernel_rfl) (by kernel_rfl) hHeld (Rg.y_move (x := (Operand.tmp 18)) (Or.inl (by kernel_rfl)) (by kernel_rfl)) ?_
  refine Rg.take (ops := (Rg.opsOf Try.f10 15)) 13 (some 103) ((.pointer (some ⟨gt, n * 3, none⟩))) hNS (by kernel_rfl) (by kernel_rfl) (by kernel_rfl) (by kernel_rfl) (by kernel_rfl) hHeld (Rg.y_at (T := 57) (x := (Operand.tmp 101)) (y := (Operand.tmp 102)) (vx := (.slice (some ⟨gt, 0, none⟩) nt ct)) (vy := (.int .i64 (n : Int))) (by kernel_rfl) (by kernel_rfl) (by kernel_rfl) ?_) ?_
  · (intro W hSw; clear hSw hHeld; go_simp)
  refine Rg.take (ops := (Rg.opsOf Try.f10 15)) 14 (some 104) ((.pointer (some ⟨gt, n * 3 + 1, none⟩))) hNS (by kernel_rfl) (by kernel_rfl) (by kernel_rfl) (by kernel_rfl) (by kernel_rfl) hHeld (Rg.y_at (T := 51) (x := (Operand.tmp 103)) (y := (Operand.const (Value.int IntKind.i64 1))) (vx := (.pointer (some ⟨gt, n * 3, none⟩))) (vy := (Value.int IntKind.i64 1)) (by kernel_rfl) (by kernel_rfl) (by kernel_rfl) ?_) ?_
  · (intro W hSw; clear hSw hHeld; go_simp)
  refine Rg.take (ops := (Rg.opsOf Try.f10 15)) 15 (some 105) ((.int .i64 (q : Int))) hNS (by kernel_rfl) (by kernel_rfl) (by kernel_rfl) (by kernel_rfl) (by kernel_rfl) hHeld (Rg.y_load (T := 3) (x := (Operand.tmp 104)) (vx := (.pointer (some ⟨gt, n * 3 + 1, none⟩))) (by kernel_rfl) (by kernel_rfl) ?_) ?_
  · (intro W hSw; obtain ⟨s0, s1, s2⟩ := hX _ hSw; clear hSw hHeld; go_simp)
  refine Rg.take (ops := (Rg.opsOf Try.f10 15)) 16 (some 106) ((.slice Ba na da)) hNS (by kernel_rfl) (by kernel_rfl) (by kernel_rfl) (by kernel_rfl) (by kernel_rfl) hHeld (Rg.y_sl2 (T := 31) (x := (Operand.tmp 99)) (l := (Operand.tmp 100)) (h := (Operand.tmp 105)) (vx := (.slice Aa ma ca)) (vl := (.int .i64 (j : Int))) (vh := (.int .i64 (q : Int))) (by kernel_rfl) (by kernel_rfl) (by kernel_rfl) (by kernel_rfl) ?_) ?_
  · (intro W hSw; clear hSw hHeld; rw [run_sliceAt_slice _ _ _ _ _ _ (by kernel_rfl)]; exact S2 W)
  refine Rg.take (ops := (Rg.opsOf Try.f10 15)) 17 (some 107) ((.slice Ab mb cb)) hNS (by kernel_rfl) (by kernel_rfl) (by kernel_rfl) (by kernel_rfl) (by kernel_rfl) hHeld (Rg.y_move (x := (Operand.tmp 12)) (Or.inl (by kernel_rfl)) (by kernel_rfl)) ?_
  refine Rg.take (ops := (Rg.opsOf Try.f10 15)) 18 (some 108) ((.int .i64 (k : Int))) hNS (by kernel_rfl) (by kernel_rfl) (by kernel_rfl) (by kernel_rfl) (by kernel_rfl) hHeld (Rg.y_move (x := (Operand.tmp 17)) (Or.inl (by kernel_rfl)) (by kernel_rfl)) ?_
  refine Rg.take (ops := (Rg.opsOf Try.f10 15)) 19 (some 109) ((.slice (some ⟨gt, 0, none⟩) nt ct)) hNS (by kernel_rfl) (by kernel_rfl) (by kernel_rfl) (by kernel_rfl) (by kernel_rfl) hHeld (Rg.y_move (x := (Operand.tmp 13)) (Or.inl (by kernel_rfl)) (by kernel_rfl)) ?_
  refine Rg.take (ops := (Rg.opsOf Try.f10 15)) 20 (some 110) ((.int .i64 (n : Int))) hNS (by kernel_rfl) (by kernel_rfl) (by kernel_rfl) (by kernel_rfl) (by kernel_rfl) hHeld (Rg.y_move (x := (Operand.tmp 18)) (Or.inl (by kernel_rfl)) (by kernel_rfl)) ?_
  refine Rg.take (ops := (Rg.opsOf Try.f10 15)) 21 (some 111) ((.pointer (some ⟨gt, n * 3, none⟩))) hNS (by kernel_rfl) (by kernel_rfl) (by kernel_rfl) (by kernel_rfl) (by kernel_rfl) hHeld (Rg.y_at (T := 57) (x := (Operand.tmp 109)) (y := (Operand.tmp 110)) (vx := (.slice (some ⟨gt, 0, none⟩) nt ct)) (vy := (.int .i64 (n : Int))) (by kernel_rfl) (by kernel_rfl) (by kernel_rfl) ?_) ?_
  · (intro W hSw; clear hSw hHeld; go_simp)
  refine Rg.take (ops := (Rg.opsOf Try.f10 15)) 22 (some 112) ((.pointer (some ⟨gt, n * 3 + 2, none⟩))) hNS (by kernel_rfl) (by kernel_rfl) (by kernel_rfl) (by kernel_rfl) (by kernel_rfl) hHeld (Rg.y_at (T := 51) (x := (Operand.tmp 111)) (y := (Operand.const (Value.int IntKind.i64 2))) (vx := (.pointer (some ⟨gt, n * 3, none⟩))) (vy := (Value.int IntKind.i64 2)) (by kernel_rfl) (by kernel_rfl) (by kernel_rfl) ?_) ?_
  · (intro W hSw; clear hSw hHeld; go_simp)
  refine Rg.take (ops := (Rg.opsOf Try.f10 15)) 23 (some 113) ((.int .i64 (s : Int))) hNS (by kernel_rfl) (by kernel_rfl) (by kernel_rfl) (by kernel_rfl) (by kernel_rfl) hHeld (Rg.y_load (T := 3) (x := (Operand.tmp 112)) (vx := (.pointer (some ⟨gt, n * 3 + 2, none⟩))) (by kernel_rfl) (by kernel_rfl) ?_) ?_
  · (intro W hSw; obtain ⟨s0, s1, s2⟩ := hX _ hSw; clear hSw hHeld; go_simp)
  refine Rg.take (ops := (Rg.opsOf Try.f10 15)) 24 (some 114) ((.slice Bb nb db)) hNS (by kernel_rfl) (by kernel_rfl) (by kernel_rfl) (by kernel_rfl) (by kernel_rfl) hHeld (Rg.y_sl2 (T := 31) (x := (Operand.tmp 107)) (l := (Operand.tmp 108)) (h := (Operand.tmp 113)) (vx := (.slice Ab mb cb)) (vl := (.int .i64 (k : Int))) (vh := (.int .i64 (s : Int))) (by kernel_rfl) (by kernel_rfl) (by kernel_rfl) (by kernel_rfl) ?_) ?_
  · (intro W hSw; clear hSw hHeld; rw [run_sliceAt_slice _ _ _ _ _ _ (by kernel_rfl)]; exact S3 W)
  refine Rg.take (ops := (Rg.opsOf Try.f10 15)) 25 (some 115) ((.agg #[.bool false, .slice Bo no do_, .slice Ba na da, .slice Bb nb db])) hNS (by kernel_rfl) (by kernel_rfl) (by kernel_rfl) (by kernel_rfl) (by kernel_rfl) hHeld (Rg.y_build (T := 33) (parts := #[(1, Operand.tmp 98), (2, Operand.tmp 106), (3, Operand.tmp 114)]) (vs := #[(1, (.slice Bo no do_)), (2, (.slice Ba na da)), (3, (.slice Bb nb db))]) (by kernel_rfl) (by kernel_rfl) ?_) ?_
  · (intro W hSw; clear hSw hHeld; go_simp)
  refine Rg.bld (ops := (Rg.opsOf Try.f10 15)) 26 (some 116) (T := 22) (len := 1) (parts := #[(0, Operand.tmp 115)]) (vs := #[(0, (.agg #[.bool false, .slice Bo no do_, .slice Ba na da, .slice Bb nb db]))]) (v := (.slice (some ⟨w.heap.size, 0, none⟩) 1 1)) (w1 := w.drew.alloc (.cells #[.bool false, .slice Bo no do_, .slice Ba na da, .slice Bb nb db] 33)) (by kernel_rfl) (by kernel_rfl) (by kernel_rfl) (by kernel_rfl) (by kernel_rfl) (by kernel_rfl) ?_ (hX2) (fun hHeld => ?_)
  · (clear hHeld hE; go_simp)
  refine Rg.app1 (ops := (Rg.opsOf Try.f10 15)) 27 (some 117) (T := 22) (x := (Operand.tmp 90)) (y := (Operand.tmp 116)) (vx := vL) (vy := (.slice (some ⟨w.heap.size, 0, none⟩) 1 1)) (by kernel_rfl) (by kernel_rfl) (by kernel_rfl) (by kernel_rfl) (by kernel_rfl) (by kernel_rfl) (by kernel_rfl) ?_
  intro ty
  obtain ⟨v8, w8, e8, h8, h9⟩ := hE ty
  refine ⟨v8, w8, e8, h8, fun hHeld => ?_⟩
  refine Rg.take (ops := (Rg.opsOf Try.f10 15)) 28 (some 14) (v8) hNS (by kernel_rfl) (by kernel_rfl) (by kernel_rfl) (by kernel_rfl) (by kernel_rfl) hHeld (Rg.y_move (x := (Operand.tmp 117)) (Or.inr (by kernel_rfl)) (by kernel_rfl)) ?_
  refine Rg.done (ops := (Rg.opsOf Try.f10 15)) (by kernel_rfl) ?_
  exact ⟨v8, by kernel_rfl, h9⟩
set_option maxRecDepth 100000 in
set_option maxHeartbeats 4000000 in
theorem triReg (ops : Array Oper) (hops : ops = (Rg.opsOf Try.f10 16)) (id : Nat) (gt nt ct n p q s : Nat) {u0 u1 u2 u3 u4 u5 u6 u7 u8 u9 u10 u11 u12 u14 u15 u16 u17 u19 u20 u21 u22 u23 u24 u25 u26 u27 u28 u29 u30 u31 u32 u33 u34 u35 u36 u37 u38 u39 u40 u41 u42 u43 u44 u45 u46 u47 u48 u49 u50 u51 u52 u53 u54 u55 u56 u57 u58 u59 u60 u61 u62 u63 u64 u65 u66 u67 u68 u69 u70 u71 u72 u73 u74 u75 u76 u77 u78 u79 u80 u81 u82 u83 u84 u85 u86 u87 u88 u89 u90 u91 u92 u93 u94 u95 u96 u97 u98 u99 u100 u101 u102 u103 u104 u105 u106 u107 u108 u109 u110 u111 u112 u113 u114 u115 u116 u117 u118 u119 u120 u121 u122 u123 u124 u125 u126 u127 u128 u129 u130 u131 u132 u133 u134 u135 u136 u137 u138 u139 u140 u141 u142 u143 u144 u145 u146 u147 u148 u149 u150 u151 u152 u153 u154 u155 u156 u157 u158 u159 u160 u161 u162 u163 u164 u165 u166 u167 u168 u169 u170 u171 u172 u173 u174 u175 u176 u177 u178 u179 u180 u181 u182 u183 u184 u185 u186 u187 u188 : Value} (w : World) (hn : (n : Int) < (nt : Int)) (X : World → Prop)
    (hX : ∀ W, X W → Tri gt n p q s W) (hw : X w.drew) :
    (Code.region id ops true).wp Try.prog (Rg.Only fun a' w' => a' = ⟨#[u0, u1, u2, u3, u4, u5, u6, u7, u8, u9, u10, u11, u12, (.slice (some ⟨gt, 0, none⟩) nt ct), u14, (.int .i64 (p : Int)), (.int .i64 (q : Int)), (.int .i64 (s : Int)), (.int .i64 (n : Int)), u19, u20, u21, u22, u23, u24, u25, u26, u27, u28, u29, u30, u31, u32, u33, u34, u35, u36, u37, u38, u39, u40, u41, u42, u43, u44, u45, u46, u47, u48, u49, u50, u51, u52, u53, u54, u55, u56, u57, u58, u59, u60, u61, u62, u63, u64, u65, u66, u67, u68, u69, u70, u71, u72, u73, u74, u75, u76, u77, u78, u79, u80, u81, u82, u83, u84, u85, u86, u87, u88, u89, u90, u91, u92, u93, u94, u95, u96, u97, u98, u99, u100, u101, u102, u103, u104, u105, u106, u107, u108, u109, u110, u111, u112, u113, u114, u115, u116, u117, (.slice (some ⟨gt, 0, none⟩) nt ct), (.int .i64 (n : Int)), (.pointer (some ⟨gt, n * 3, none⟩)), (.pointer (some ⟨gt, n * 3, none⟩)), (.int .i64 (p : Int)), (.slice (some ⟨gt, 0, none⟩) nt ct), (.int .i64 (n : Int)), (.pointer (some ⟨gt, n * 3, none⟩)), (.pointer (some ⟨gt, n * 3 + 1, none⟩)), (.int .i64 (q : Int)), (.slice (some ⟨gt, 0, none⟩) nt ct), (.int .i64 (n : Int)), (.pointer (some ⟨gt, n * 3, none⟩)), (.pointer (some ⟨gt, n * 3 + 2, none⟩)), (.int .i64 (s : Int)), u133, u134, u135, u136, u137, u138, u139, u140, u141, u142, u143, u144, u145, u146, u147, u148, u149, u150, u151, u152, u153, u154, u155, u156, u157, u158, u159, u160, u161, u162, u163, u164, u165, u166, u167, u168, u169, u170, u171, u172, u173, u174, u175, u176, u177, u178, u179, u180, u181, u182, u183, u184, u185, u186, u187, u188], []⟩ ∧ X w') ⟨#[u0, u1, u2, u3, u4, u5, u6, u7, u8, u9, u10, u11, u12, (.slice (some ⟨gt, 0, none⟩) nt ct), u14, u15, u16, u17, (.int .i64 (n : Int)), u19, u20, u21, u22, u23, u24, u25, u26, u27, u28, u29, u30, u31, u32, u33, u34, u35, u36, u37, u38, u39, u40, u41, u42, u43, u44, u45, u46, u47, u48, u49, u50, u51, u52, u53, u54, u55, u56, u57, u58, u59, u60, u61, u62, u63, u64, u65, u66, u67, u68, u69, u70, u71, u72, u73, u74, u75, u76, u77, u78, u79, u80, u81, u82, u83, u84, u85, u86, u87, u88, u89, u90, u91, u92, u93, u94, u95, u96, u97, u98, u99, u100, u101, u102, u103, u104, u105, u106, u107, u108, u109, u110, u111, u112, u113, u114, u115, u116, u117, u118, u119, u120, u121, u122, u123, u124, u125, u126, u127, u128, u129, u130, u131, u132, u133, u134, u135, u136, u137, u138, u139, u140, u141, u142, u143, u144, u145, u146, u147, u148, u149, u150, u151, u152, u153, u154, u155, u156, u157, u158, u159, u160, u161, u162, u163, u164, u165, u166, u167, u168, u169, u170, u171, u172, u173, u174, u175, u176, u177, u178, u179, u180, u181, u182, u183, u184, u185, u186, u187, u188], []⟩ w := by
  subst hops
  have hNS : Region.noSelect (Rg.opsOf Try.f10 16) = true := by kernel_rfl
  refine wp_region_held_drew (S := X) (by kernel_rfl) hw (fun hHeld => ?_)
  rw [show (Rg.opsOf Try.f10 16).size = 18 by kernel_rfl]
  refine Rg.take (ops := (Rg.opsOf Try.f10 16)) 0 (some 118) ((.slice (some ⟨gt, 0, none⟩) nt ct)) hNS (by kernel_rfl) (by kernel_rfl) (by kernel_rfl) (by kernel_rfl) (by kernel_rfl) hHeld (Rg.y_move (x := (Operand.tmp 13)) (Or.inl (by kernel_rfl)) (by kernel_rfl)) ?_
  refine Rg.take (ops := (Rg.opsOf Try.f10 16)) 1 (some 119) ((.int .i64 (n : Int))) hNS (by kernel_rfl) (by kernel_rfl) (by kernel_rfl) (by kernel_rfl) (by kernel_rfl) hHeld (Rg.y_move (x := (Operand.tmp 18)) (Or.inl (by kernel_rfl)) (by kernel_rfl)) ?_
  refine Rg.take (ops := (Rg.opsOf Try.f10 16)) 2 (some 120) ((.pointer (some ⟨gt, n * 3, none⟩))) hNS (by kernel_rfl) (by kernel_rfl) (by kernel_rfl) (by kernel_rfl) (by kernel_rfl) hHeld (Rg.y_at (T := 57) (x := (Operand.tmp 118)) (y := (Operand.tmp 119)) (vx := (.slice (some ⟨gt, 0, none⟩) nt ct)) (vy := (.int .i64 (n : Int))) (by kernel_rfl) (by kernel_rfl) (by kernel_rfl) ?_) ?_
  · (intro W hSw; clear hSw hHeld; go_simp)
  refine Rg.take (ops := (Rg.opsOf Try.f10 16)) 3 (some 121) ((.pointer (some ⟨gt, n * 3, none⟩))) hNS (by kernel_rfl) (by kernel_rfl) (by kernel_rfl) (by kernel_rfl) (by kernel_rfl) hHeld (Rg.y_at (T := 51) (x := (Operand.tmp 120)) (y := (Operand.const (Value.int IntKind.i64 0))) (vx := (.pointer (some ⟨gt, n * 3, none⟩))) (vy := (Value.int IntKind.i64 0)) (by kernel_rfl) (by kernel_rfl) (by kernel_rfl) ?_) ?_
  · (intro W hSw; clear hSw hHeld; go_simp)
  refine Rg.take (ops := (Rg.opsOf Try.f10 16)) 4 (some 122) ((.int .i64 (p : Int))) hNS (by kernel_rfl) (by kernel_rfl) (by kernel_rfl) (by kernel_rfl) (by kernel_rfl) hHeld (Rg.y_load (T := 3) (x := (Operand.tmp 121)) (vx := (.pointer (some ⟨gt, n * 3, none⟩))) (by kernel_rfl) (by kernel_rfl) ?_) ?_
  · (intro W hSw; obtain ⟨s0, s1, s2⟩ := hX _ hSw; clear hSw hHeld; go_simp)
  refine Rg.take (ops := (Rg.opsOf Try.f10 16)) 5 (some 123) ((.slice (some ⟨gt, 0, none⟩) nt ct)) hNS (by kernel_rfl) (by kernel_rfl) (by kernel_rfl) (by kernel_rfl) (by kernel_rfl) hHeld (Rg.y_move (x := (Operand.tmp 13)) (Or.inl (by kernel_rfl)) (by kernel_rfl)) ?_
  refine Rg.take (ops := (Rg.opsOf Try.f10 16)) 6 (some 124) ((.int .i64 (n : Int))) hNS (by kernel_rfl) (by kernel_rfl) (by kernel_rfl) (by kernel_rfl) (by kernel_rfl) hHeld (Rg.y_move (x := (Operand.tmp 18)) (Or.inl (by kernel_rfl)) (by kernel_rfl)) ?_
  refine Rg.take (ops := (Rg.opsOf Try.f10 16)) 7 (some 125) ((.pointer (some ⟨gt, n * 3, none⟩))) hNS (by kernel_rfl) (by kernel_rfl) (by kernel_rfl) (by kernel_rfl) (by kernel_rfl) hHeld (Rg.y_at (T := 57) (x := (Operand.tmp 123)) (y := (Operand.tmp 124)) (vx := (.slice (some ⟨gt, 0, none⟩) nt ct)) (vy := (.int .i64 (n : Int))) (by kernel_rfl) (by kernel_rfl) (by kernel_rfl) ?_) ?_
  · (intro W hSw; clear hSw hHeld; go_simp)
  refine Rg.take (ops := (Rg.opsOf Try.f10 16)) 8 (some 126) ((.pointer (some ⟨gt, n * 3 + 1, none⟩))) hNS (by kernel_rfl) (by kernel_rfl) (by kernel_rfl) (by kernel_rfl) (by kernel_rfl) hHeld (Rg.y_at (T := 51) (x := (Operand.tmp 125)) (y := (Operand.const (Value.int IntKind.i64 1))) (vx := (.pointer (some ⟨gt, n * 3, none⟩))) (vy := (Value.int IntKind.i64 1)) (by kernel_rfl) (by kernel_rfl) (by kernel_rfl) ?_) ?_
  · (intro W hSw; clear hSw hHeld; go_simp)
  refine Rg.take (ops := (Rg.opsOf Try.f10 16)) 9 (some 127) ((.int .i64 (q : Int))) hNS (by kernel_rfl) (by kernel_rfl) (by kernel_rfl) (by kernel_rfl) (by kernel_rfl) hHeld (Rg.y_load (T := 3) (x := (Operand.tmp 126)) (vx := (.pointer (some ⟨gt, n * 3 + 1, none⟩))) (by kernel_rfl) (by kernel_rfl) ?_) ?_
  · (intro W hSw; obtain ⟨s0, s1, s2⟩ := hX _ hSw; clear hSw hHeld; go_simp)
  refine Rg.take (ops := (Rg.opsOf Try.f10 16)) 10 (some 128) ((.slice (some ⟨gt, 0, none⟩) nt ct)) hNS (by kernel_rfl) (by kernel_rfl) (by kernel_rfl) (by kernel_rfl) (by kernel_rfl) hHeld (Rg.y_move (x := (Operand.tmp 13)) (Or.inl (by kernel_rfl)) (by kernel_rfl)) ?_
  refine Rg.take (ops := (Rg.opsOf Try.f10 16)) 11 (some 129) ((.int .i64 (n : Int))) hNS (by kernel_rfl) (by kernel_rfl) (by kernel_rfl) (by kernel_rfl) (by kernel_rfl) hHeld (Rg.y_move (x := (Operand.tmp 18)) (Or.inl (by kernel_rfl)) (by kernel_rfl)) ?_
  refine Rg.take (ops := (Rg.opsOf Try.f10 16)) 12 (some 130) ((.pointer (some ⟨gt, n * 3, none⟩))) hNS (by kernel_rfl) (by kernel_rfl) (by kernel_rfl) (by kernel_rfl) (by kernel_rfl) hHeld (Rg.y_at (T := 57) (x := (Operand.tmp 128)) (y := (Operand.tmp 129)) (vx := (.slice (some ⟨gt, 0, none⟩) nt ct)) (vy := (.int .i64 (n : Int))) (by kernel_rfl) (by kernel_rfl) (by kernel_rfl) ?_) ?_
  · (intro W hSw; clear hSw hHeld; go_simp)
  refine Rg.take (ops := (Rg.opsOf Try.f10 16)) 13 (some 131) ((.pointer (some ⟨gt, n * 3 + 2, none⟩))) hNS (by kernel_rfl) (by kernel_rfl) (by kernel_rfl) (by kernel_rfl) (by kernel_rfl) hHeld (Rg.y_at (T := 51) (x := (Operand.tmp 130)) (y := (Operand.const (Value.int IntKind.i64 2))) (vx := (.pointer (some ⟨gt, n * 3, none⟩))) (vy := (Value.int IntKind.i64 2)) (by kernel_rfl) (by kernel_rfl) (by kernel_rfl) ?_) ?_
  · (intro W hSw; clear hSw hHeld; go_simp)
  refine Rg.take (ops := (Rg.opsOf Try.f10 16)) 14 (some 132) ((.int .i64 (s : Int))) hNS (by kernel_rfl) (by kernel_rfl) (by kernel_rfl) (by kernel_rfl) (by kernel_rfl) hHeld (Rg.y_load (T := 3) (x := (Operand.tmp 131)) (vx := (.pointer (some ⟨gt, n * 3 + 2, none⟩))) (by kernel_rfl) (by kernel_rfl) ?_) ?_
  · (intro W hSw; obtain ⟨s0, s1, s2⟩ := hX _ hSw; clear hSw hHeld; go_simp)
  refine Rg.take (ops := (Rg.opsOf Try.f10 16)) 15 (some 15) ((.int .i64 (p : Int))) hNS (by kernel_rfl) (by kernel_rfl) (by kernel_rfl) (by kernel_rfl) (by kernel_rfl) hHeld (Rg.y_move (x := (Operand.tmp 122)) (Or.inr (by kernel_rfl)) (by kernel_rfl)) ?_
  refine Rg.take (ops := (Rg.opsOf Try.f10 16)) 16 (some 16) ((.int .i64 (q : Int))) hNS (by kernel_rfl) (by kernel_rfl) (by kernel_rfl) (by kernel_rfl) (by kernel_rfl) hHeld (Rg.y_move (x := (Operand.tmp 127)) (Or.inr (by kernel_rfl)) (by kernel_rfl)) ?_
  refine Rg.take (ops := (Rg.opsOf Try.f10 16)) 17 (some 17) ((.int .i64 (s : Int))) hNS (by kernel_rfl) (by kernel_rfl) (by kernel_rfl) (by kernel_rfl) (by kernel_rfl) hHeld (Rg.y_move (x := (Operand.tmp 132)) (Or.inr (by kernel_rfl)) (by kernel_rfl)) ?_
  refine Rg.done (ops := (Rg.opsOf Try.f10 16)) (by kernel_rfl) ?_
  exact ⟨by kernel_rfl, hHeld⟩
theorem cell_one_new (w : World) (x : ByteArray) (e : TypeId) : (w.alloc (.cells #[.string x] e)).cell? ⟨w.heap.size, 0, none⟩ = some (.string x) := by go_simp
theorem one_cell {W : World} {g : Nat} {x : ByteArray} (h : W.cell? ⟨g, 0, none⟩ = some (.string x)) : ∀ (k : Nat) y, [x][k]? = some y → W.cell? ⟨g, 0 + k, none⟩ = some (.string y) := by
  intro k y hy
  cases k with
  | zero => injection hy with hy; subst hy; exact h
  | succ k => cases hy
set_option maxRecDepth 100000 in
set_option maxHeartbeats 4000000 in
theorem moreReg (ops : Array Oper) (hops : ops = (Rg.opsOf Try.f10 21)) (id : Nat) (go oo mo co gc nc cc i z gb ob cb B : Nat) (l : List ByteArray) (x : ByteArray) {u0 u1 u2 u3 u4 u5 u6 u7 u8 u9 u11 u12 u13 u16 u17 u18 u19 u21 u22 u23 u24 u25 u26 u27 u28 u29 u30 u31 u32 u33 u34 u35 u36 u37 u38 u39 u40 u41 u42 u43 u44 u45 u46 u47 u48 u49 u50 u51 u52 u53 u54 u55 u56 u57 u58 u59 u60 u61 u62 u63 u64 u65 u66 u67 u68 u69 u70 u71 u72 u73 u74 u75 u76 u77 u78 u79 u80 u81 u82 u83 u84 u85 u86 u87 u88 u89 u90 u91 u92 u93 u94 u95 u96 u97 u98 u99 u100 u101 u102 u103 u104 u105 u106 u107 u108 u109 u110 u111 u112 u113 u114 u115 u116 u117 u118 u119 u120 u121 u122 u123 u124 u125 u126 u127 u128 u129 u130 u131 u132 u133 u134 u135 u136 u137 u138 u139 u140 u141 u142 u143 u144 u145 u146 u147 u148 u149 u150 u151 u152 u153 u154 u155 u156 u157 u158 u159 u160 u161 u162 u163 u164 u165 u166 u167 u168 u169 u170 u171 u172 u173 u174 u175 u176 u177 u178 u179 u180 u181 u182 u183 u184 u185 u186 u187 u188 : Value} (w : World) (hi : (i : Int) < (mo : Int)) (hz : (z : Int) < (nc : Int)) (hl : l.length ≤ 400) (X : World → Prop)
    (hX : ∀ W, X W → W.cell? ⟨gc, z * 4 + 1, none⟩ = some (.slice (some ⟨gb, ob, none⟩) l.length cb) ∧ W.cell? ⟨go, oo + i, none⟩ = some (.string x) ∧ ∀ (k : Nat) y, l[k]? = some y → W.cell? ⟨gb, ob + k, none⟩ = some (.string y))
    (hw : X w.drew) (hAl : ∀ W o, X W → X (W.alloc o)) (hB0 : B ≤ w.drew.heap.size) (hB1 : B ≤ (w.drew.alloc (.cells #[.string x] 9)).heap.size)
    (hAp : ∀ (W W' : World) {row : Option Nat}, X W → W.grownBy W' row → (∀ q, row = some q → B ≤ q) → X W') :
    (Code.region id ops true).wp Try.prog (Rg.Only fun a' w' => ∃ p0 p1 p2 v8 : Value, a' = ⟨#[u0, u1, u2, u3, u4, u5, u6, u7, u8, u9, (.slice (some ⟨go, oo, none⟩) mo co), u11, u12, u13, (.slice (some ⟨gc, 0, none⟩) nc cc), (.int .i64 (i : Int)), u16, u17, u18, v8, (.int .i64 (z : Int)), u21, u22, u23, u24, u25, u26, u27, u28, u29, u30, u31, u32, u33, u34, u35, u36, u37, u38, u39, u40, u41, u42, u43, u44, u45, u46, u47, u48, u49, u50, u51, u52, u53, u54, u55, u56, u57, u58, u59, u60, u61, u62, u63, u64, u65, u66, u67, u68, u69, u70, u71, u72, u73, u74, u75, u76, u77, u78, u79, u80, u81, u82, u83, u84, u85, u86, u87, u88, u89, u90, u91, u92, u93, u94, u95, u96, u97, u98, u99, u100, u101, u102, u103, u104, u105, u106, u107, u108, u109, u110, u111, u112, u113, u114, u115, u116, u117, u118, u119, u120, u121, u122, u123, u124, u125, u126, u127, u128, u129, u130, u131, u132, u133, u134, u135, u136, u137, u138, u139, u140, u141, u142, u143, u144, u145, u146, u147, u148, u149, u150, u151, u152, u153, u154, p0, (.slice (some ⟨gc, 0, none⟩) nc cc), (.int .i64 (z : Int)), (.pointer (some ⟨gc, z * 4, none⟩)), (.pointer (some ⟨gc, z * 4 + 1, none⟩)), (.slice (some ⟨gb, ob, none⟩) l.length cb), p1, (.slice (some ⟨go, oo, none⟩) mo co), (.int .i64 (i : Int)), (.pointer (some ⟨go, oo + i, none⟩)), (.string x), p2, v8, u168, u169, u170, u171, u172, u173, u174, u175, u176, u177, u178, u179, u180, u181, u182, u183, u184, u185, u186, u187, u188], []⟩ ∧ Lo w' B v8 (l ++ [x]) ∧ X w') ⟨#[u0, u1, u2, u3, u4, u5, u6, u7, u8, u9, (.slice (some ⟨go, oo, none⟩) mo co), u11, u12, u13, (.slice (some ⟨gc, 0, none⟩) nc cc), (.int .i64 (i : Int)), u16, u17, u18, u19, (.int .i64 (z : Int)), u21, u22, u23, u24, u25, u26, u27, u28, u29, u30, u31, u32, u33, u34, u35, u36, u37, u38, u39, u40, u41, u42, u43, u44, u45, u46, u47, u48, u49, u50, u51, u52, u53, u54, u55, u56, u57, u58, u59, u60, u61, u62, u63, u64, u65, u66, u67, u68, u69, u70, u71, u72, u73, u74, u75, u76, u77, u78, u79, u80, u81, u82, u83, u84, u85, u86, u87, u88, u89, u90, u91, u92, u93, u94, u95, u96, u97, u98, u99, u100, u101, u102, u103, u104, u105, u106, u107, u108, u109, u110, u111, u112, u113, u114, u115, u116, u117, u118, u119, u120, u121, u122, u123, u124, u125, u126, u127, u128, u129, u130, u131, u132, u133, u134, u135, u136, u137, u138, u139, u140, u141, u142, u143, u144, u145, u146, u147, u148, u149, u150, u151, u152, u153, u154, u155, u156, u157, u158, u159, u160, u161, u162, u163, u164, u165, u166, u167, u168, u169, u170, u171, u172, u173, u174, u175, u176, u177, u178, u179, u180, u181, u182, u183, u184, u185, u186, u187, u188], []⟩ w := by
  subst hops
  have hNS : Region.noSelect (Rg.opsOf Try.f10 21) = true := by kernel_rfl
  refine wp_region_held_drew (S := X) (by kernel_rfl) hw (fun hHeld => ?_)
  rw [show (Rg.opsOf Try.f10 21).size = 14 by kernel_rfl]
  refine Rg.take (ops := (Rg.opsOf Try.f10 21)) 1 (some 156) ((.slice (some ⟨gc, 0, none⟩) nc cc)) hNS (by kernel_rfl) (by kernel_rfl) (by kernel_rfl) (by kernel_rfl) (by kernel_rfl) hHeld (Rg.y_move (x := (Operand.tmp 14)) (Or.inl (by kernel_rfl)) (by kernel_rfl)) ?_
  refine Rg.take (ops := (Rg.opsOf Try.f10 21)) 2 (some 157) ((.int .i64 (z : Int))) hNS (by kernel_rfl) (by kernel_rfl) (by kernel_rfl) (by kernel_rfl) (by kernel_rfl) hHeld (Rg.y_move (x := (Operand.tmp 20)) (Or.inl (by kernel_rfl)) (by kernel_rfl)) ?_
  refine Rg.take (ops := (Rg.opsOf Try.f10 21)) 3 (some 158) ((.pointer (some ⟨gc, z * 4, none⟩))) hNS (by kernel_rfl) (by kernel_rfl) (by kernel_rfl) (by kernel_rfl) (by kernel_rfl) hHeld (Rg.y_at (T := 22) (x := (Operand.tmp 156)) (y := (Operand.tmp 157)) (vx := (.slice (some ⟨gc, 0, none⟩) nc cc)) (vy := (.int .i64 (z : Int))) (by kernel_rfl) (by kernel_rfl) (by kernel_rfl) ?_) ?_
  · (intro W hSw; clear hSw hHeld; go_simp)
  refine Rg.take (ops := (Rg.opsOf Try.f10 21)) 4 (some 159) ((.pointer (some ⟨gc, z * 4 + 1, none⟩))) hNS (by kernel_rfl) (by kernel_rfl) (by kernel_rfl) (by kernel_rfl) (by kernel_rfl) hHeld (Rg.y_field (T := 33) (k := 1) (x := (Operand.tmp 158)) (vx := (.pointer (some ⟨gc, z * 4, none⟩))) (by kernel_rfl) (by kernel_rfl) ?_) ?_
  · (intro W hSw; clear hSw hHeld; go_simp)
  refine Rg.take (ops := (Rg.opsOf Try.f10 21)) 5 (some 160) ((.slice (some ⟨gb, ob, none⟩) l.length cb)) hNS (by kernel_rfl) (by kernel_rfl) (by kernel_rfl) (by kernel_rfl) (by kernel_rfl) hHeld (Rg.y_load (T := 31) (x := (Operand.tmp 159)) (vx := (.pointer (some ⟨gc, z * 4 + 1, none⟩))) (by kernel_rfl) (by kernel_rfl) ?_) ?_
  · (intro W hSw; obtain ⟨s0, s1⟩ := hX _ hSw; clear hSw hHeld; go_simp)
  refine Rg.take (ops := (Rg.opsOf Try.f10 21)) 7 (some 162) ((.slice (some ⟨go, oo, none⟩) mo co)) hNS (by kernel_rfl) (by kernel_rfl) (by kernel_rfl) (by kernel_rfl) (by kernel_rfl) hHeld (Rg.y_move (x := (Operand.tmp 10)) (Or.inl (by kernel_rfl)) (by kernel_rfl)) ?_
  refine Rg.take (ops := (Rg.opsOf Try.f10 21)) 8 (some 163) ((.int .i64 (i : Int))) hNS (by kernel_rfl) (by kernel_rfl) (by kernel_rfl) (by kernel_rfl) (by kernel_rfl) hHeld (Rg.y_move (x := (Operand.tmp 15)) (Or.inl (by kernel_rfl)) (by kernel_rfl)) ?_
  refine Rg.take (ops := (Rg.opsOf Try.f10 21)) 9 (some 164) ((.pointer (some ⟨go, oo + i, none⟩))) hNS (by kernel_rfl) (by kernel_rfl) (by kernel_rfl) (by kernel_rfl) (by kernel_rfl) hHeld (Rg.y_at (T := 31) (x := (Operand.tmp 162)) (y := (Operand.tmp 163)) (vx := (.slice (some ⟨go, oo, none⟩) mo co)) (vy := (.int .i64 (i : Int))) (by kernel_rfl) (by kernel_rfl) (by kernel_rfl) ?_) ?_
  · (intro W hSw; clear hSw hHeld; go_simp)
  refine Rg.take (ops := (Rg.opsOf Try.f10 21)) 10 (some 165) ((.string x)) hNS (by kernel_rfl) (by kernel_rfl) (by kernel_rfl) (by kernel_rfl) (by kernel_rfl) hHeld (Rg.y_load (T := 9) (x := (Operand.tmp 164)) (vx := (.pointer (some ⟨go, oo + i, none⟩))) (by kernel_rfl) (by kernel_rfl) ?_) ?_
  · (intro W hSw; obtain ⟨s0, s1⟩ := hX _ hSw; clear hSw hHeld; go_simp)
  refine Rg.two (ops := (Rg.opsOf Try.f10 21)) (i := 0) (j := 11) (by kernel_rfl) ?_ ?_
  · refine Rg.op_bld (ops := (Rg.opsOf Try.f10 21)) 0 (some 155) (T := 31) (len := 0) (parts := #[]) (vs := #[]) (v := (.slice (some ⟨w.drew.heap.size, 0, none⟩) 0 0)) (w1 := w.drew.alloc (.cells #[] 9)) (by kernel_rfl) (by kernel_rfl) (by kernel_rfl) (by kernel_rfl) (by kernel_rfl) ?_ (hAl _ _ hHeld) (fun hHeld => ?_)
    · (clear hHeld; go_simp)
    refine Rg.two (ops := (Rg.opsOf Try.f10 21)) (i := 6) (j := 11) (by kernel_rfl) ?_ ?_
    · refine Rg.op_app (ops := (Rg.opsOf Try.f10 21)) 6 (some 161) (T := 31) (x := (Operand.tmp 155)) (y := (Operand.tmp 160)) (vx := (.slice (some ⟨w.drew.heap.size, 0, none⟩) 0 0)) (vy := (.slice (some ⟨gb, ob, none⟩) l.length cb)) (by kernel_rfl) (by kernel_rfl) (by kernel_rfl) (by kernel_rfl) (by kernel_rfl) (by kernel_rfl) ?_
      intro ty
      have o0 : Lo (w.drew.alloc (.cells #[] 9)) B (.slice (some ⟨w.drew.heap.size, 0, none⟩) 0 0) [] := (own_new _ B hB0)
      obtain ⟨v6, w6, e6, o6, g6⟩ := app_lo (w.drew.alloc (.cells #[] 9)) B (.slice (some ⟨w.drew.heap.size, 0, none⟩) 0 0) [] l o0 gb ob cb (hX _ hHeld).2.2 (by simp only [List.length_nil]; omega) (Nat.le_trans hB0 (by go_simp <;> omega)) ty
      have x6 : X w6 := hAp _ _ hHeld g6 (fun q hq => (o0.lt q hq).1)
      refine ⟨v6, w6, e6, x6, fun hHeld => ?_⟩
      refine Rg.bld (ops := (Rg.opsOf Try.f10 21)) 11 (some 166) (T := 31) (len := 1) (parts := #[(0, Operand.tmp 165)]) (vs := #[(0, (.string x))]) (v := (.slice (some ⟨w6.heap.size, 0, none⟩) 1 1)) (w1 := w6.alloc (.cells #[.string x] 9)) (by kernel_rfl) (by kernel_rfl) (by kernel_rfl) (by kernel_rfl) (by kernel_rfl) (by kernel_rfl) ?_ (hAl _ _ hHeld) (fun hHeld => ?_)
      · (clear hHeld; go_simp)
      refine Rg.app1 (ops := (Rg.opsOf Try.f10 21)) 12 (some 167) (T := 31) (x := (Operand.tmp 161)) (y := (Operand.tmp 166)) (vx := v6) (vy := (.slice (some ⟨w6.heap.size, 0, none⟩) 1 1)) (by kernel_rfl) (by kernel_rfl) (by kernel_rfl) (by kernel_rfl) (by kernel_rfl) (by kernel_rfl) (by kernel_rfl) ?_
      intro ty
      have hm : ∀ (k : Nat) y, [x][k]? = some y → (w6.alloc (.cells #[.string x] 9)).cell? ⟨w6.heap.size, 0 + k, none⟩ = some (.string y) := one_cell (cell_one_new _ _ _)
      have hb : B ≤ (w6.alloc (.cells #[.string x] 9)).heap.size := Nat.le_trans hB0 (Nat.le_trans (Nat.le_trans (by go_simp <;> omega) g6.size) (by go_simp <;> omega))
      obtain ⟨v8, w8, e8, o8, g8⟩ := app_lo (w6.alloc (.cells #[.string x] 9)) B v6 l [x] (World.ownsRow.alloc o6 _) w6.heap.size 0 1 hm (by simp only [List.length_singleton]; omega) hb ty
      have x8 : X w8 := hAp _ _ hHeld g8 (fun q hq => (o6.lt q hq).1)
      refine ⟨v8, w8, e8, x8, fun hHeld => ?_⟩
      refine Rg.take (ops := (Rg.opsOf Try.f10 21)) 13 (some 19) (v8) hNS (by kernel_rfl) (by kernel_rfl) (by kernel_rfl) (by kernel_rfl) (by kernel_rfl) hHeld (Rg.y_move (x := (Operand.tmp 167)) (Or.inr (by kernel_rfl)) (by kernel_rfl)) ?_
      refine Rg.done (ops := (Rg.opsOf Try.f10 21)) (by kernel_rfl) ?_
      exact ⟨(.slice (some ⟨w.drew.heap.size, 0, none⟩) 0 0), v6, (.slice (some ⟨w6.heap.size, 0, none⟩) 1 1), v8, by kernel_rfl, by simpa using o8, hHeld⟩
    · refine Rg.op_bld (ops := (Rg.opsOf Try.f10 21)) 11 (some 166) (T := 31) (len := 1) (parts := #[(0, Operand.tmp 165)]) (vs := #[(0, (.string x))]) (v := (.slice (some ⟨(w.drew.alloc (.cells #[] 9)).heap.size, 0, none⟩) 1 1)) (w1 := (w.drew.alloc (.cells #[] 9)).alloc (.cells #[.string x] 9)) (by kernel_rfl) (by kernel_rfl) (by kernel_rfl) (by kernel_rfl) (by kernel_rfl) ?_ (hAl _ _ hHeld) (fun hHeld => ?_)
      · (clear hHeld; go_simp)
      refine Rg.app1 (ops := (Rg.opsOf Try.f10 21)) 6 (some 161) (T := 31) (x := (Operand.tmp 155)) (y := (Operand.tmp 160)) (vx := (.slice (some ⟨w.drew.heap.size, 0, none⟩) 0 0)) (vy := (.slice (some ⟨gb, ob, none⟩) l.length cb)) (by kernel_rfl) (by kernel_rfl) (by kernel_rfl) (by kernel_rfl) (by kernel_rfl) (by kernel_rfl) (by kernel_rfl) ?_
      intro ty
      have o0 : Lo ((w.drew.alloc (.cells #[] 9)).alloc (.cells #[.string x] 9)) B (.slice (some ⟨w.drew.heap.size, 0, none⟩) 0 0) [] := (by first | exact World.ownsRow.alloc (own_new _ B hB0) _ | exact own_new _ B hB1)
      obtain ⟨v6, w6, e6, o6, g6⟩ := app_lo ((w.drew.alloc (.cells #[] 9)).alloc (.cells #[.string x] 9)) B (.slice (some ⟨w.drew.heap.size, 0, none⟩) 0 0) [] l o0 gb ob cb (hX _ hHeld).2.2 (by simp only [List.length_nil]; omega) (Nat.le_trans hB0 (by go_simp <;> omega)) ty
      have x6 : X w6 := hAp _ _ hHeld g6 (fun q hq => (o0.lt q hq).1)
      refine ⟨v6, w6, e6, x6, fun hHeld => ?_⟩
      refine Rg.app1 (ops := (Rg.opsOf Try.f10 21)) 12 (some 167) (T := 31) (x := (Operand.tmp 161)) (y := (Operand.tmp 166)) (vx := v6) (vy := (.slice (some ⟨(w.drew.alloc (.cells #[] 9)).heap.size, 0, none⟩) 1 1)) (by kernel_rfl) (by kernel_rfl) (by kernel_rfl) (by kernel_rfl) (by kernel_rfl) (by kernel_rfl) (by kernel_rfl) ?_
      intro ty
      have hm : ∀ (k : Nat) y, [x][k]? = some y → w6.cell? ⟨(w.drew.alloc (.cells #[] 9)).heap.size, 0 + k, none⟩ = some (.string y) := one_cell ((World.cell?_of_block (a := ⟨(w.drew.alloc (.cells #[] 9)).heap.size, 0, none⟩) (g6.block _ (by go_simp) (by simp [Value.ownBlock]))).trans (by go_simp))
      have hb : B ≤ w6.heap.size := Nat.le_trans hB0 (Nat.le_trans (Nat.le_trans (by go_simp <;> omega) g6.size) (by go_simp <;> omega))
      obtain ⟨v8, w8, e8, o8, g8⟩ := app_lo w6 B v6 l [x] o6 (w.drew.alloc (.cells #[] 9)).heap.size 0 1 hm (by simp only [List.length_singleton]; omega) hb ty
      have x8 : X w8 := hAp _ _ hHeld g8 (fun q hq => (o6.lt q hq).1)
      refine ⟨v8, w8, e8, x8, fun hHeld => ?_⟩
      refine Rg.take (ops := (Rg.opsOf Try.f10 21)) 13 (some 19) (v8) hNS (by kernel_rfl) (by kernel_rfl) (by kernel_rfl) (by kernel_rfl) (by kernel_rfl) hHeld (Rg.y_move (x := (Operand.tmp 167)) (Or.inr (by kernel_rfl)) (by kernel_rfl)) ?_
      refine Rg.done (ops := (Rg.opsOf Try.f10 21)) (by kernel_rfl) ?_
      exact ⟨(.slice (some ⟨w.drew.heap.size, 0, none⟩) 0 0), v6, (.slice (some ⟨(w.drew.alloc (.cells #[] 9)).heap.size, 0, none⟩) 1 1), v8, by kernel_rfl, by simpa using o8, hHeld⟩
  · refine Rg.op_bld (ops := (Rg.opsOf Try.f10 21)) 11 (some 166) (T := 31) (len := 1) (parts := #[(0, Operand.tmp 165)]) (vs := #[(0, (.string x))]) (v := (.slice (some ⟨w.drew.heap.size, 0, none⟩) 1 1)) (w1 := w.drew.alloc (.cells #[.string x] 9)) (by kernel_rfl) (by kernel_rfl) (by kernel_rfl) (by kernel_rfl) (by kernel_rfl) ?_ (hAl _ _ hHeld) (fun hHeld => ?_)
    · (clear hHeld; go_simp)
    refine Rg.bld (ops := (Rg.opsOf Try.f10 21)) 0 (some 155) (T := 31) (len := 0) (parts := #[]) (vs := #[]) (v := (.slice (some ⟨(w.drew.alloc (.cells #[.string x] 9)).heap.size, 0, none⟩) 0 0)) (w1 := (w.drew.alloc (.cells #[.string x] 9)).alloc (.cells #[] 9)) (by kernel_rfl) (by kernel_rfl) (by kernel_rfl) (by kernel_rfl) (by kernel_rfl) (by kernel_rfl) ?_ (hAl _ _ hHeld) (fun hHeld => ?_)
    · (clear hHeld; go_simp)
    refine Rg.app1 (ops := (Rg.opsOf Try.f10 21)) 6 (some 161) (T := 31) (x := (Operand.tmp 155)) (y := (Operand.tmp 160)) (vx := (.slice (some ⟨(w.drew.alloc (.cells #[.string x] 9)).heap.size, 0, none⟩) 0 0)) (vy := (.slice (some ⟨gb, ob, none⟩) l.length cb)) (by kernel_rfl) (by kernel_rfl) (by kernel_rfl) (by kernel_rfl) (by kernel_rfl) (by kernel_rfl) (by kernel_rfl) ?_
    intro ty
    have o0 : Lo ((w.drew.alloc (.cells #[.string x] 9)).alloc (.cells #[] 9)) B (.slice (some ⟨(w.drew.alloc (.cells #[.string x] 9)).heap.size, 0, none⟩) 0 0) [] := (by first | exact World.ownsRow.alloc (own_new _ B hB0) _ | exact own_new _ B hB1)
    obtain ⟨v6, w6, e6, o6, g6⟩ := app_lo ((w.drew.alloc (.cells #[.string x] 9)).alloc (.cells #[] 9)) B (.slice (some ⟨(w.drew.alloc (.cells #[.string x] 9)).heap.size, 0, none⟩) 0 0) [] l o0 gb ob cb (hX _ hHeld).2.2 (by simp only [List.length_nil]; omega) (Nat.le_trans hB0 (by go_simp <;> omega)) ty
    have x6 : X w6 := hAp _ _ hHeld g6 (fun q hq => (o0.lt q hq).1)
    refine ⟨v6, w6, e6, x6, fun hHeld => ?_⟩
    refine Rg.app1 (ops := (Rg.opsOf Try.f10 21)) 12 (some 167) (T := 31) (x := (Operand.tmp 161)) (y := (Operand.tmp 166)) (vx := v6) (vy := (.slice (some ⟨w.drew.heap.size, 0, none⟩) 1 1)) (by kernel_rfl) (by kernel_rfl) (by kernel_rfl) (by kernel_rfl) (by kernel_rfl) (by kernel_rfl) (by kernel_rfl) ?_
    intro ty
    have hm : ∀ (k : Nat) y, [x][k]? = some y → w6.cell? ⟨w.drew.heap.size, 0 + k, none⟩ = some (.string y) := one_cell ((World.cell?_of_block (a := ⟨w.drew.heap.size, 0, none⟩) (g6.block _ (by go_simp) (by simp [Value.ownBlock]))).trans (by go_simp))
    have hb : B ≤ w6.heap.size := Nat.le_trans hB0 (Nat.le_trans (Nat.le_trans (by go_simp <;> omega) g6.size) (by go_simp <;> omega))
    obtain ⟨v8, w8, e8, o8, g8⟩ := app_lo w6 B v6 l [x] o6 w.drew.heap.size 0 1 hm (by simp only [List.length_singleton]; omega) hb ty
    have x8 : X w8 := hAp _ _ hHeld g8 (fun q hq => (o6.lt q hq).1)
    refine ⟨v8, w8, e8, x8, fun hHeld => ?_⟩
    refine Rg.take (ops := (Rg.opsOf Try.f10 21)) 13 (some 19) (v8) hNS (by kernel_rfl) (by kernel_rfl) (by kernel_rfl) (by kernel_rfl) (by kernel_rfl) hHeld (Rg.y_move (x := (Operand.tmp 167)) (Or.inr (by kernel_rfl)) (by kernel_rfl)) ?_
    refine Rg.done (ops := (Rg.opsOf Try.f10 21)) (by kernel_rfl) ?_
    exact ⟨(.slice (some ⟨(w.drew.alloc (.cells #[.string x] 9)).heap.size, 0, none⟩) 0 0), v6, (.slice (some ⟨w.drew.heap.size, 0, none⟩) 1 1), v8, by kernel_rfl, by simpa using o8, hHeld⟩
end Go.Proofs.Ytnpobigombafoaa.Mg

namespace Go.Proofs.Ytnpobigombafoaa.Mg
open Go.RowKit Go.ChangeShapes Go.WideShapes Tx Um Ud Aq Km Kd Lm Ln
set_option linter.unusedVariables false
theorem Row.last {w7 w : World} {v : Value} {r : List (Ck ByteArray)} {g : Ck ByteArray} (h : Row w7 w v (g :: r)) : ∃ gc cc u1, v = .slice (some ⟨gc, 0, none⟩) (r.length + 1) cc ∧ w7.heap.size ≤ gc ∧ gc < w.heap.size ∧ (∀ k, w.frozen? ⟨gc, k, none⟩ = false) ∧
    w.cell? ⟨gc, r.length * 4, none⟩ = some (.bool g.st) ∧ w.cell? ⟨gc, r.length * 4 + 1, none⟩ = some u1 ∧ Rd w u1 g.b ∧ Ty w u1 := by
  obtain ⟨cs, h1, h2, h3⟩ := h
  have hn := h2.len
  rw [List.reverse_cons] at h2
  obtain ⟨cs', c, rfl, k1, k2, k3, _⟩ := h2.unsnoc
  have hl := k1.len
  rw [List.length_reverse] at hl
  have hh := h1
  rcases h1.2 with ⟨rfl, h0⟩ | ⟨gc, cap, cur, rfl, hg, hh2, hn2, hc, _⟩
  · simp at h0
  · refine ⟨gc, cap, c.2.1, by rw [List.length_append, hl]; rfl, hg, (Array.getElem?_eq_some_iff.1 hh2).1, fun k => by simp [World.frozen?, hh2], ?_⟩
    obtain ⟨e1, e2, _⟩ := flat5_get (cs' ++ [c]) r.length c (by rw [List.getElem?_append_right (by omega), hl, Nat.sub_self]; rfl)
    have f1 := World.ownsRow.cells (g := gc) hh rfl _ _ e1
    have f2 := World.ownsRow.cells (g := gc) hh rfl _ _ e2
    rw [WideShapes.add_plain, Nat.zero_add] at f1 f2
    rw [k2] at f1
    exact ⟨f1, f2, k3⟩
theorem Row.four {w7 w : World} {gc cc R m : Nat} {r : List (Ck ByteArray)} {g : Ck ByteArray} (h : Row w7 w (.slice (some ⟨gc, 0, none⟩) m cc) (g :: r)) (hR : R = r.length) : ∃ m0 m1 m2 m3, w.cell? ⟨gc, R * 4, none⟩ = some m0 ∧ w.cell? ⟨gc, R * 4 + 1, none⟩ = some m1 ∧ w.cell? ⟨gc, R * 4 + 2, none⟩ = some m2 ∧ w.cell? ⟨gc, R * 4 + 3, none⟩ = some m3 := by
  obtain ⟨cs, h1, h2, h3⟩ := h
  rw [List.reverse_cons] at h2
  obtain ⟨cs', c, rfl, k1, _⟩ := h2.unsnoc
  have hl := k1.len
  rw [List.length_reverse, ← hR] at hl
  obtain ⟨e0, e1, e2, e3⟩ := flat5_get (cs' ++ [c]) R c (by rw [List.getElem?_append_right (by omega), hl, Nat.sub_self]; rfl)
  have f0 := World.ownsRow.cells (g := gc) h1 rfl _ _ e0
  have f1 := World.ownsRow.cells (g := gc) h1 rfl _ _ e1
  have f2 := World.ownsRow.cells (g := gc) h1 rfl _ _ e2
  have f3 := World.ownsRow.cells (g := gc) h1 rfl _ _ e3
  rw [WideShapes.add_plain, Nat.zero_add] at f0 f1 f2 f3
  exact ⟨_, _, _, _, f0, f1, f2, f3⟩
theorem flat5_set (cs : List Cc) (x y : Cc) : (((((cs ++ [x]).flatMap h4).set (cs.length * 4) (.bool y.1)).set (cs.length * 4 + 1) y.2.1).set (cs.length * 4 + 2) y.2.2.1).set (cs.length * 4 + 3) y.2.2.2 = (cs ++ [y]).flatMap h4 := by
  have e := flat5_len cs
  rw [List.flatMap_append, List.flatMap_append]
  rw [← e, List.set_append_right _ _ (by omega), List.set_append_right _ _ (by omega), List.set_append_right _ _ (by omega), List.set_append_right _ _ (by omega)]
  simp [h4]
theorem cs_set {w : World} {B gc c : Nat} {cs : List Cc} {x : Cc} (h : Cs w B (.slice (some ⟨gc, 0, none⟩) (cs.length + 1) c) (cs ++ [x])) (y : Cc) :
    Cs ((((w.setCell ⟨gc, cs.length * 4, none⟩ (.bool y.1)).setCell ⟨gc, cs.length * 4 + 1, none⟩ y.2.1).setCell ⟨gc, cs.length * 4 + 2, none⟩ y.2.2.1).setCell ⟨gc, cs.length * 4 + 3, none⟩ y.2.2.2) B (.slice (some ⟨gc, 0, none⟩) (cs.length + 1) c) (cs ++ [y]) ∧
    Kp w ((((w.setCell ⟨gc, cs.length * 4, none⟩ (.bool y.1)).setCell ⟨gc, cs.length * 4 + 1, none⟩ y.2.1).setCell ⟨gc, cs.length * 4 + 2, none⟩ y.2.2.1).setCell ⟨gc, cs.length * 4 + 3, none⟩ y.2.2.2) := by
  have l1 : (cs ++ [x]).length = cs.length + 1 := by simp
  have l2 : (cs ++ [y]).length = cs.length + 1 := by simp
  have h0 := h
  unfold Cs at h ⊢
  rw [l1] at h
  rw [l2, ← flat5_set cs x y]
  have a1 := own_put4 h (cs.length * 4) (.bool y.1)
  have a2 := own_put4 a1 (cs.length * 4 + 1) y.2.1
  have a3 := own_put4 a2 (cs.length * 4 + 2) y.2.2.1
  have a4 := own_put4 a3 (cs.length * 4 + 3) y.2.2.2
  refine ⟨a4, ?_⟩
  have kk : ∀ {W : World} {xs : List Value}, W.ownsRow B 33 4 (.slice (some ⟨gc, 0, none⟩) (cs.length + 1) c) (cs.length + 1) xs → ∀ k u, Kp W (W.setCell ⟨gc, k, none⟩ u) := by
    intro W xs hW k u g cur fr hx
    have hne : gc ≠ g := by
      rintro rfl
      rcases hW.2 with ⟨q0, _⟩ | ⟨g1, cap, cur1, e, _, hh, _⟩
      · cases q0
      · injection e with e
        injection e with e
        injection e with e
        subst e
        rw [hh] at hx
        injection hx with hx
        injection hx with _ hx _
        exact absurd hx (by decide)
    simp only [World.setCell]
    rw [Array.getElem?_modify, if_neg hne]
    exact hx
  exact ((kk h _ _).trans (kk a1 _ _)).trans ((kk a2 _ _).trans (kk a3 _ _))
theorem Row.set {w7 w : World} {gc cc : Nat} {r : List (Ck ByteArray)} {g g' : Ck ByteArray} (h : Row w7 w (.slice (some ⟨gc, 0, none⟩) (r.length + 1) cc) (g :: r)) (hB : w7.heap.size ≤ gc) (y : Cc) (hc : Reads w y g') :
    Row w7 ((((w.setCell ⟨gc, r.length * 4, none⟩ (.bool y.1)).setCell ⟨gc, r.length * 4 + 1, none⟩ y.2.1).setCell ⟨gc, r.length * 4 + 2, none⟩ y.2.2.1).setCell ⟨gc, r.length * 4 + 3, none⟩ y.2.2.2) (.slice (some ⟨gc, 0, none⟩) (r.length + 1) cc) (g' :: r) := by
  obtain ⟨cs, h1, h2, h3⟩ := h
  rw [List.reverse_cons] at h2
  obtain ⟨cs', c, rfl, k1, _⟩ := h2.unsnoc
  have hl := k1.len
  rw [List.length_reverse] at hl
  rw [← hl] at h1 ⊢
  obtain ⟨q1, q2⟩ := cs_set h1 y
  refine ⟨cs' ++ [y], q1, ?_, (((h3.setCell (p := ⟨gc, _, none⟩) hB _).setCell (p := ⟨gc, _, none⟩) hB _).setCell (p := ⟨gc, _, none⟩) hB _).setCell (p := ⟨gc, _, none⟩) hB _⟩
  rw [List.reverse_cons]
  exact IsS.snoc (hc.keep q2) (k1.keep q2)
end Go.Proofs.Ytnpobigombafoaa.Mg

namespace Go.Proofs.Ytnpobigombafoaa.Mg
open Go.RowKit Go.ChangeShapes Go.WideShapes Tx Um Ud Aq Km Kd Lm Ln
set_option linter.unusedVariables false
def CkTo (hs : List (Ck ByteArray)) (er : Nat) (w : World) (e : Ending) (w' : World) : Prop := ∃ v cs, e = .returned (.tuple #[v, .int .i64 (er : Int)]) ∧ Cs w' w.heap.size v cs ∧ IsC w' cs hs ∧ Below w.heap.size w w'
theorem lns_some {s t u x : ByteArray} {n : Nat} (h : [s, t, u][n]? = some x) : n = 0 ∧ x = s ∨ n = 1 ∧ x = t ∨ n = 2 ∧ x = u := by
  match n, h with
  | 0, h => injection h with h; exact .inl ⟨rfl, h.symm⟩
  | 1, h => injection h with h; exact .inr (.inl ⟨rfl, h.symm⟩)
  | 2, h => injection h with h; exact .inr (.inr ⟨rfl, h.symm⟩)
theorem err_at {s t u x : ByteArray} {n : Nat} (h : [s, t, u][n]? = some x) (hb : ∀ m y, m < n → [s, t, u][m]? = some y → txt y = 0) (hx : txt x ≠ 0) : err3 s t u = txt x := by
  unfold err3
  rcases lns_some h with ⟨rfl, rfl⟩ | ⟨rfl, rfl⟩ | ⟨rfl, rfl⟩
  · rw [if_pos hx]
  · rw [if_neg (fun e => e (hb 0 s (by omega) rfl)), if_pos hx]
  · rw [if_neg (fun e => e (hb 0 s (by omega) rfl)), if_neg (fun e => e (hb 1 t (by omega) rfl))]
theorem err_none {s t u : ByteArray} (hb : ∀ m y, m < 3 → [s, t, u][m]? = some y → txt y = 0) : err3 s t u = 0 := by
  unfold err3
  rw [if_neg (fun e => e (hb 0 s (by omega) rfl)), if_neg (fun e => e (hb 1 t (by omega) rfl))]
  exact hb 2 u (by omega) rfl
theorem cell_texts3 (w : World) (s t u : ByteArray) (e : TypeId) : ∀ (n : Nat) x, [s, t, u][n]? = some x → (w.alloc (.cells #[.string s, .string t, .string u] e)).cell? ⟨w.heap.size, n, none⟩ = some (.string x) := by
  intro n x h
  rcases lns_some h with ⟨rfl, rfl⟩ | ⟨rfl, rfl⟩ | ⟨rfl, rfl⟩ <;> go_simp
set_option maxRecDepth 100000 in
set_option maxHeartbeats 40000000 in
theorem refChunks_any (s t u : ByteArray) (w : World) (hs : s.size ≤ 8796093022207) (ht : t.size ≤ 8796093022207) (hu : u.size ≤ 8796093022207) :
    Calls Try.prog 10 #[.string s, .string t, .string u] w (CkTo (chs s t u) (err3 s t u) w) := by
  have hsz : ∀ (n : Nat) x, [s, t, u][n]? = some x → x.size ≤ 8796093022207 := fun n x h => by
    rcases lns_some h with ⟨_, rfl⟩ | ⟨_, rfl⟩ | ⟨_, rfl⟩ <;> assumption
  have HSZ := Lib.hid hsz
  clear hsz
  go_enter Try.func10, Try.ntmps10
  go_wp2_with fail
  have C0 := Lib.hid (cell_texts3 w s t u 9)
  have HW : Hid (Below w.heap.size w (w.alloc (.cells #[.string s, .string t, .string u] 9))) := (Below.refl _ w).alloc (Nat.le_refl _) _
  obtain ⟨w0, hw0⟩ : ∃ w0, w0 = w.alloc (.cells #[.string s, .string t, .string u] 9) := ⟨_, rfl⟩
  have hsz0 : w.heap.size < w0.heap.size := by rw [hw0]; go_simp <;> omega
  rw [← hw0] at C0 HW ⊢
  clear hw0
  go_loopw [9] (fun i wr => ∃ n : Nat, i = .int .i64 (n : Int) ∧ n ≤ 3 ∧ Hid (∀ m y, m < n → [s, t, u][m]? = some y → txt y = 0) ∧ Hid (Below w0.heap.size w0 wr)) (fun i _ => 3 - (intOf i).toNat)
  case atStart => exact ⟨0, rfl, by omega, fun m y hm => by omega, Below.refl _ _⟩
  case round =>
    obtain ⟨n, rfl, hn, HT, HB⟩ := hrel
    by_cases hlt : n < 3
    · have e1 : (n : Int) < (3 : Int) := by omega
      obtain ⟨x, hx⟩ : ∃ x, [s, t, u][n]? = some x := ⟨_, List.getElem?_eq_getElem (by simpa using hlt)⟩
      have c1 : wr.cell? ⟨w.heap.size, n, none⟩ = some (.string x) := (HB.out.cell (p := ⟨_, n, none⟩) hsz0).trans (C0.out n x hx)
      have k1 := fun W => refText_any x W (HSZ.out n x hx)
      have K1 := Lib.hid k1
      have HX := Lib.hid hx
      clear hx k1
      go_wp2_with fail
      go_at_call 24
      refine (K1.out _).mono ?_
      rintro e w2 ⟨rfl, hb2⟩
      by_cases hz : txt x = 0
      · have hN : ∀ m y, m < n + 1 → [s, t, u][m]? = some y → txt y = 0 := fun m y hm hy => by
          rcases Nat.lt_succ_iff_lt_or_eq.1 hm with h | rfl
          · exact HT.out m y h hy
          · have h1 := HX.out
            rw [hy] at h1
            injection h1 with h1
            rw [h1]
            exact hz
        have HN := Lib.hid hN
        have HB2 : Hid (Below w0.heap.size w0 w2) := below_call HB.out hb2
        rw [hz]
        clear hN hb2 HT HB hz
        go_wp2_with fail
        go_roundw
        case rel => exact ⟨n + 1, by go_num, by omega, HN, HB2⟩
        case measure => simp only [intOf]; omega
      · have hE : err3 s t u = txt x := err_at HX.out HT.out hz
        have hlw : w.heap.size < wr.heap.size := Nat.lt_of_lt_of_le hsz0 HB.out.size
        have c2 : w2.cell? ⟨w.heap.size, n, none⟩ = some (.string x) := (hb2.cell (p := ⟨_, n, none⟩) hlw).trans c1
        have HB2 : Hid (Below w0.heap.size w0 w2) := below_call HB.out hb2
        have hz2 : ¬ ((txt x : Nat) : Int) = 0 := by omega
        have HE := Lib.hid hE
        have HZ := Lib.hid hz
        clear hE HT HB hb2 hz
        go_wp2_with fail
        go_at_call 24
        refine (K1.out _).mono ?_
        rintro e w3 ⟨rfl, hb3⟩
        have HB3 : Hid (Below w0.heap.size w0 w3) := below_call HB2.out hb3
        clear hb3
        go_wp2_with fail
        go_ret2
        have hc : chs s t u = [] := by
          unfold chs
          rw [HE.out, if_neg HZ.out]
        rw [hc, HE.out]
        exact ⟨_, [], rfl, cs_nil _ _, trivial, HW.out.trans (HB3.out.mono HW.out.size)⟩
    · have e1 : ¬ (n : Int) < (3 : Int) := by omega
      have hn3 : n = 3 := by omega
      have hE : err3 s t u = 0 := err_none (fun m y hm => HT.out m y (by omega))
      obtain ⟨_, _, _, l1, l2, l3⟩ := err_lines hE
      have hch : chs s t u = (pie (lns s) (lns t) (lns u)).reverse := by unfold chs; rw [if_pos hE]; rfl
      have k1 := fun W => refSplit_any s W hs
      have k2 := fun W => refSplit_any t W ht
      have k3 := fun W => refSplit_any u W hu
      obtain ⟨o, ho⟩ : ∃ o, o = lns s := ⟨_, rfl⟩
      obtain ⟨a, ha⟩ : ∃ a, a = lns t := ⟨_, rfl⟩
      obtain ⟨b, hb⟩ : ∃ b, b = lns u := ⟨_, rfl⟩
      rw [← ho] at l1 k1 hch
      rw [← ha] at l2 k2 hch
      rw [← hb] at l3 k3 hch
      have HCH := Lib.hid hch
      have HE0 := Lib.hid hE
      have K1 := Lib.hid k1
      have K2 := Lib.hid k2
      have K3 := Lib.hid k3
      have HBr : Hid (Below w.heap.size w wr) := HW.out.trans (HB.out.mono HW.out.size)
      clear ho ha hb hch hE HT HB hn3 C0 HSZ HW k1 k2 k3 hs ht hu hsz0
      go_wp2_with fail
      go_at_call 25
      refine (K1.out _).mono ?_
      rintro e w3 ⟨v3, rfl, hv3, hb3⟩
      obtain ⟨Ao, co, rfl, so, zo, lo_, to⟩ := lo_all hv3
      have HB3 : Hid (Below w.heap.size w w3) := below_call HBr.out hb3
      clear hv3 hb3 HBr K1
      go_wp2_with fail
      go_at_call 25
      refine (K2.out _).mono ?_
      rintro e w4 ⟨v4, rfl, hv4, hb4⟩
      obtain ⟨Aa, ca, rfl, sa, za, la_, ta⟩ := lo_all hv4
      have HB4 : Hid (Below w.heap.size w w4) := below_call HB3.out hb4
      have so4 := so.below hb4
      have to4 := to.keep (Kp.of_below hb4)
      clear hv4 hb4 HB3 K2 so to
      go_wp2_with fail
      go_at_call 25
      refine (K3.out _).mono ?_
      rintro e w5 ⟨v5, rfl, hv5, hb5⟩
      obtain ⟨Ab, cb, rfl, sb, zb, lb_, tb⟩ := lo_all hv5
      have HB5 : Hid (Below w.heap.size w w5) := below_call HB4.out hb5
      have so5 := so4.below hb5
      have to5 := to4.keep (Kp.of_below hb5)
      have sa5 := sa.below hb5
      have ta5 := ta.keep (Kp.of_below hb5)
      clear hv5 hb5 HB4 K3 so4 to4 sa ta
      have CS := Lib.hid (stable_any Ao Aa Ab co ca cb o a b w5 so5 sa5 sb l1 l2 l3)
      obtain ⟨TT, hTT⟩ : ∃ TT, TT = trip (pairs 0 0 (steps o a)) (pairs 0 0 (steps o b)) := ⟨_, rfl⟩
      have hTl : TT.length ≤ 200000 := by
        have q0 := trip_len (pairs 0 0 (steps o a)) (pairs 0 0 (steps o b))
        have q1 := pairs_len (steps o a) 0 0
        have q2 := kept o a
        have q3 := lcs_le_left o a
        have q4 := pairs_len (steps o b) 0 0
        have q5 := kept o b
        have q6 := lcs_le_left o b
        rw [hTT]
        exact Nat.le_trans q0 (Nat.le_trans (Nat.mul_le_mul (show _ ≤ 400 by omega) (show _ ≤ 400 by omega)) (by omega))
      have HPT : Hid (Pt3 o a b TT 0 0 0) := by rw [hTT]; exact pie_pt3 o a b
      have HPI : Hid (pie o a b = cks o a b TT 0 0 0 []) := by rw [hTT]; rfl
      rw [← hTT] at CS
      have HSO := Lib.hid so5
      have HSA := Lib.hid sa5
      have HSB := Lib.hid sb
      have HTO := Lib.hid to5
      have HTA := Lib.hid ta5
      have HTB := Lib.hid tb
      have HZO := Lib.hid zo
      have HZA := Lib.hid za
      have HZB := Lib.hid zb
      clear so5 sa5 sb to5 ta5 tb zo za zb hTT
      go_wp2_with fail
      go_at_call 26
      refine CS.out.mono ?_
      rintro e w6 ⟨v6, rfl, hv6, hb6⟩
      obtain ⟨iT, hI, hI0, hI1, hI2⟩ := info_parts infoT
      have hown := hv6
      unfold T3 at hown
      have hszd := hb6.size
      clear hv6 CS
      go_wp2_with (at_builtin; refine wpList_append_own _ rfl _ _ 57 rfl w5.heap.size 51 iT (.agg #[.int .i64 0, .int .i64 0, .int .i64 0]) 3 24 Try.underlying57 hI hI0 hI1 hI2 rfl (by decide) _ _ _ rfl (hown.alloc _) ⟨w6.heap.size, 0, none⟩ 1 1 (c3 (o.length, a.length, b.length)) rfl rfl ?c1 ?c2 ?c3 ?c4 ?c5 ?_)
      case c1 => exact cell_three_new _ _ _ _ _
      case c2 => exact c3_one _
      case c3 => unfold maxLen; omega
      case c4 => omega
      case c5 => simp; omega
      intro v7 w7 hown7 hgrow _
      have hb7 : Below w5.heap.size w5 w7 := (hb6.alloc hszd _).grown hgrow (by simp; omega) (fun k hk => (hown.lt k hk).1)
      have ht7 : T3 w7 w5.heap.size v7 (TT ++ [(o.length, a.length, b.length)]) := by
        unfold T3
        rw [List.length_append, List.flatMap_append]
        simpa using hown7
      obtain ⟨at7, ct, rfl, hc7⟩ := ht7.form
      rw [show (TT ++ [(o.length, a.length, b.length)]).length = TT.length + 1 by simp] at hc7 ⊢
      obtain ⟨gt, rfl, _, hgt, hc7⟩ := hc7.resolve_left (by omega)
      obtain ⟨NT, hNT⟩ : ∃ NT, NT = TT.length := ⟨_, rfl⟩
      rw [← hNT] at hTl ⊢
      have HNT := Lib.hid hNT
      have HC7 := Lib.hid hc7
      have HB7 : Hid (Below w.heap.size w w7) := HB5.out.trans (hb7.mono HB5.out.size)
      have HSO7 : Hid (Strs w7 Ao o.length o) := HSO.out.below hb7
      have HSA7 : Hid (Strs w7 Aa a.length a) := HSA.out.below hb7
      have HSB7 : Hid (Strs w7 Ab b.length b) := HSB.out.below hb7
      have HTO7 : Hid (Ty w7 (.slice Ao o.length co)) := HTO.out.keep (Kp.of_below hb7)
      have HTA7 : Hid (Ty w7 (.slice Aa a.length ca)) := HTA.out.keep (Kp.of_below hb7)
      have HTB7 : Hid (Ty w7 (.slice Ab b.length cb)) := HTB.out.keep (Kp.of_below hb7)
      clear hown hown7 hgrow ht7 hc7 hNT hb7 hb6 hszd HSO HSA HSB HTO HTA HTB HB5 hI hI0 hI1 hI2
      go_wp2_with fail
      go_loopw [14, 15, 16, 17, 18, 19, 20] (fun v iv jv kv nv _ _ wr => ∃ (n i j k : Nat) (r : List (Ck ByteArray)), nv = .int .i64 (n : Int) ∧ iv = .int .i64 (i : Int) ∧ jv = .int .i64 (j : Int) ∧ kv = .int .i64 (k : Int) ∧ Hid (Ct o a b TT n i j k r) ∧ Hid (Row w7 wr v r)) (fun _ _ _ _ n _ _ _ => NT + 1 - (intOf n).toNat)
      case atStart => exact ⟨0, 0, 0, 0, [], rfl, rfl, rfl, rfl, ct_start HPT.out, Row.nil w7⟩
      case round =>
        clear e1
        obtain ⟨n, i, j, k, r, rfl, rfl, rfl, rfl, HCT, HR⟩ := hrel
        have hnl := HCT.out.le
        have hfew := HCT.out.few
        rw [← HNT.out] at hnl
        have e1 : (n : Int) < ((NT + 1 : Nat) : Int) := by omega
        obtain ⟨av, cv, hv⟩ := HR.out.len
        subst hv
        by_cases hlt : n < NT
        · obtain ⟨⟨p, q, y⟩, hx⟩ : ∃ z, TT[n]? = some z := ⟨_, List.getElem?_eq_getElem (by rw [← HNT.out]; exact hlt)⟩
          obtain ⟨d0, d1, d2⟩ := HC7.out n (p, q, y) (by rw [List.getElem?_append_left (by rw [← HNT.out]; exact hlt)]; exact hx)
          obtain ⟨hip, hjq, hky, hqa, hyb, x, hxo, hpo, hct⟩ := ct_at HCT.out hx
          unfold iv at d0 d1 d2
          simp only at hip hjq hky hqa hyb hxo hpo hct d0 d1 d2
          replace hqa : q ≤ a.length := by omega
          replace hyb : y ≤ b.length := by omega
          have hpl := hpo
          replace hpo : p ≤ o.length := by omega
          obtain ⟨go, oo, hAo, hgo, hco⟩ := HSO7.out.2.resolve_left (by omega)
          subst hAo
          have hcx : w7.cell? ⟨go, oo + p, none⟩ = some (.string x) := hco p x hxo
          have HCT2 := Lib.hid hct
          have wk : IntKind.i64.wrap (((NT + 1 : Nat) : Int) - 1) = (NT : Int) := (IntWalk.i64_in _ (by omega)).trans (by omega)
          have e2 : ((n : Int) == (NT : Int)) = false := beq_eq_false_iff_ne.2 (by omega)
          have wp1 : IntKind.i64.wrap ((p : Int) + 1) = (p : Int) + 1 := IntWalk.i64_in _ (by omega)
          have wq1 : IntKind.i64.wrap ((q : Int) + 1) = (q : Int) + 1 := IntWalk.i64_in _ (by omega)
          have wy1 : IntKind.i64.wrap ((y : Int) + 1) = (y : Int) + 1 := IntWalk.i64_in _ (by omega)
          clear hct hco hx hxo
          have hwr : Below w7.heap.size w7 wr := HR.out.elim fun _ x => x.2.2
          have c0 : wr.cell? ⟨gt, n * 3, none⟩ = some (.int .i64 (p : Int)) := (hwr.cell (p := ⟨gt, _, none⟩) hgt).trans d0
          have c1 : wr.cell? ⟨gt, n * 3 + 1, none⟩ = some (.int .i64 (q : Int)) := (hwr.cell (p := ⟨gt, _, none⟩) hgt).trans d1
          have c2 : wr.cell? ⟨gt, n * 3 + 2, none⟩ = some (.int .i64 (y : Int)) := (hwr.cell (p := ⟨gt, _, none⟩) hgt).trans d2
          have HTri : Hid (∀ W, Below w7.heap.size w7 W → Tri gt n p q y W) := fun W hb => ⟨(hb.cell (p := ⟨gt, _, none⟩) hgt).trans d0, (hb.cell (p := ⟨gt, _, none⟩) hgt).trans d1, (hb.cell (p := ⟨gt, _, none⟩) hgt).trans d2⟩
          have hsow := HSO7.out.below hwr
          have hsaw := HSA7.out.below hwr
          have hsbw := HSB7.out.below hwr
          have hkpw : Kp w7 wr := Kp.of_below hwr
          clear d0 d1 d2
          by_cases hgp : i < p ∨ j < q ∨ k < y
          · have HGP : Hid (gapc o a b i j k p q y r = ⟨false, (o.take p).drop i, (a.take q).drop j, (b.take y).drop k⟩ :: r) := gapc_yes hgp
            by_cases gg1 : i < p
            · have g1 : (i : Int) < (p : Int) := by omega
              obtain ⟨Bo, eo⟩ : ∃ Bo, sliced (some ⟨go, oo, none⟩) i p co 1 = .slice Bo (p - i) (co - i) := ⟨_, rfl⟩
              obtain ⟨Ba, ea⟩ : ∃ Ba, sliced Aa j q ca 1 = .slice Ba (q - j) (ca - j) := ⟨_, rfl⟩
              obtain ⟨Bb, eb⟩ : ∃ Bb, sliced Ab k y cb 1 = .slice Bb (y - k) (cb - k) := ⟨_, rfl⟩
              have S1 : ∀ W : World, (Instr.slice 31 (.slice (some ⟨go, oo, none⟩) o.length co) (some (.int .i64 (i : Int))) (some (.int .i64 (p : Int))) none).run Try.prog W = .ok (.slice Bo (p - i) (co - i)) W := fun W => by rw [← eo]; exact slice_run14 (some ⟨go, oo, none⟩) o.length co i p hip (by omega) W
              have S2 : ∀ W : World, (Instr.slice 31 (.slice Aa a.length ca) (some (.int .i64 (j : Int))) (some (.int .i64 (q : Int))) none).run Try.prog W = .ok (.slice Ba (q - j) (ca - j)) W := fun W => by rw [← ea]; exact slice_run14 Aa a.length ca j q hjq (by omega) W
              have S3 : ∀ W : World, (Instr.slice 31 (.slice Ab b.length cb) (some (.int .i64 (k : Int))) (some (.int .i64 (y : Int))) none).run Try.prog W = .ok (.slice Bb (y - k) (cb - k)) W := fun W => by rw [← eb]; exact slice_run14 Ab b.length cb k y hky (by omega) W
              have hrd : Reads wr (false, .slice Bo (p - i) (co - i), .slice Ba (q - j) (ca - j), .slice Bb (y - k) (cb - k)) ⟨false, (o.take p).drop i, (a.take q).drop j, (b.take y).drop k⟩ := by
                refine ⟨rfl, ⟨?_, ?_⟩, ⟨?_, ?_⟩, ⟨?_, ?_⟩⟩
                · show Rd wr (.slice Bo (p - i) (co - i)) _
                  rw [← eo]; exact rd_sub (hsow) hip hpo lo_ HZO.out
                · show Ty wr (.slice Bo (p - i) (co - i))
                  rw [← eo]; exact ty_sub (HTO7.out.keep hkpw)
                · show Rd wr (.slice Ba (q - j) (ca - j)) _
                  rw [← ea]; exact rd_sub (hsaw) hjq hqa la_ HZA.out
                · show Ty wr (.slice Ba (q - j) (ca - j))
                  rw [← ea]; exact ty_sub (HTA7.out.keep hkpw)
                · show Rd wr (.slice Bb (y - k) (cb - k)) _
                  rw [← eb]; exact rd_sub (hsbw) hky hyb lb_ HZB.out
                · show Ty wr (.slice Bb (y - k) (cb - k))
                  rw [← eb]; exact ty_sub (HTB7.out.keep hkpw)
              have HE := Lib.hid (HR.out.put (by omega) _ hrd)
              have hX2 : Below w7.heap.size w7 (wr.drew.alloc (.cells #[.bool false, .slice Bo (p - i) (co - i), .slice Ba (q - j) (ca - j), .slice Bb (y - k) (cb - k)] 33)) := hwr.drew.alloc hwr.size _
              have hwd := hwr.drew
              clear hrd eo ea eb
              go_wp2_with fail
              refine Rg.wp_only ?_ (gapReg _ (by kernel_rfl) _ gt (NT + 1) ct n p q y o.length co a.length ca b.length cb i j k (p - i) (co - i) (q - j) (ca - j) (y - k) (cb - k) wr e1 (Below w7.heap.size w7) HTri.out hwd (some ⟨go, oo, none⟩) Aa Ab Bo Ba Bb _ (fun v8 W => Row w7 W v8 (⟨false, (o.take p).drop i, (a.take q).drop j, (b.take y).drop k⟩ :: r)) S1 S2 S3 hX2 HE.out)
              rintro _ w9 ⟨v9, rfl, h9⟩
              have HR9 := Lib.hid h9
              obtain ⟨av1, cv1, hv1⟩ := h9.len
              rw [List.length_cons] at hv1
              subst hv1
              clear h9 HE S1 S2 S3 hX2 hwd HR c0 c1 c2 g1
              go_wp2_with fail
              refine Rg.wp_only ?_ (triReg _ (by kernel_rfl) _ gt (NT + 1) ct n p q y w9 e1 (fun W => Row w7 W (.slice av1 (r.length + 1) cv1) (⟨false, (o.take p).drop i, (a.take q).drop j, (b.take y).drop k⟩ :: r)) (fun W h => HTri.out W (h.elim fun _ x => x.2.2)) HR9.out.drew)
              rintro _ w10 ⟨rfl, h10⟩
              clear HR9
              obtain ⟨g, hg0⟩ : ∃ g, g = (⟨false, (o.take p).drop i, (a.take q).drop j, (b.take y).drop k⟩ : Ck ByteArray) := ⟨_, rfl⟩
              have hgs : g.st = false := by rw [hg0]
              rw [← hg0] at h10 HGP
              clear hg0
              obtain ⟨gc, cc, u1, hv9, hgcB, hgcl, hfz, k0, _⟩ := h10.last
              rw [hgs] at k0
              injection hv9 with ha9 _ hc9
              subst ha9
              subst hc9
              obtain ⟨R, hR⟩ : ∃ R, R = r.length := ⟨_, rfl⟩
              have HRR := Lib.hid hR
              rw [← hR] at h10 k0 hfew ⊢
              have wl : IntKind.i64.wrap (((R + 1 : Nat) : Int) - 1) = (R : Int) := (IntWalk.i64_in _ (by omega)).trans (by omega)
              have f1 : (0 : Int) ≤ (R : Int) := by omega
              have f2 : (R : Int) < ((R + 1 : Nat) : Int) := by omega
              have f3 : (p : Int) < (o.length : Int) := by omega
              have cx10 : w10.cell? ⟨go, oo + p, none⟩ = some (.string x) := ((h10.elim fun _ x => x.2.2).cell (p := ⟨go, _, none⟩) hgo).trans hcx
              have hgo10 : go < w10.heap.size := Nat.lt_of_lt_of_le hgo (h10.elim fun _ x => x.2.2).size
              have kk0 : (w10.alloc (.cells #[.string x] 9)).cell? ⟨gc, R * 4, none⟩ = some (.bool false) := (((Below.refl w10.heap.size w10).alloc (Nat.le_refl _) _).cell (p := ⟨gc, _, none⟩) hgcl).trans k0
              have HCT3 : Hid (Ct o a b TT (n + 1) (p + 1) (q + 1) (y + 1) (⟨true, [x], [x], [x]⟩ :: g :: r)) := by
                have h := HCT2.out
                rw [HGP.out, stab, if_neg (by rw [hgs]; decide)] at h
                exact h
              clear HCT2 HGP hfz hR
              have hrow11 : Row w7 (w10.alloc (.cells #[.string x] 9)) _ (g :: r) := h10.call ((Below.refl _ _).alloc (Nat.le_refl _) _)
              have hsz10 : w7.heap.size ≤ w10.heap.size := (h10.elim fun _ x => x.2.2).size
              obtain ⟨cs, q1, q2, q3⟩ := hrow11
              have hcl : cs.length = R + 1 := by
                have h := q2.len
                rw [List.length_reverse] at h
                rw [h, List.length_cons, HRR.out]
              have hown := q1
              unfold Cs at hown
              rw [hcl] at hown
              have L1 := one_new w10 w7.heap.size x hsz10
              have hone : Reads (w10.alloc (.cells #[.string x] 9)) (true, .slice (some ⟨w10.heap.size, 0, none⟩) 1 1, .slice (some ⟨w10.heap.size, 0, none⟩) 1 1, .slice (some ⟨w10.heap.size, 0, none⟩) 1 1) ⟨true, [x], [x], [x]⟩ := ⟨rfl, ⟨lo_rd L1, lo_ty L1⟩, ⟨lo_rd L1, lo_ty L1⟩, ⟨lo_rd L1, lo_ty L1⟩⟩
              have HQ1 := Lib.hid q1
              have HQ2 := Lib.hid q2
              have HQ3 := Lib.hid q3
              have HONE := Lib.hid hone
              have HCL := Lib.hid hcl
              obtain ⟨iC, hC, hC0, hC1, hC2⟩ := info_parts infoC
              clear q1 q2 q3 L1 hone hcl h10
              go_wp2_with (at_builtin; refine wpList_append_own _ rfl _ _ 22 rfl w7.heap.size 33 iC (.agg #[.bool false, .slice none 0 0, .slice none 0 0, .slice none 0 0]) 4 80 Try.underlying22 hC hC0 hC1 hC2 rfl (by decide) _ _ _ rfl (hown.alloc _) ⟨_, 0, none⟩ 1 1 (h4 (true, .slice (some ⟨w10.heap.size, 0, none⟩) 1 1, .slice (some ⟨w10.heap.size, 0, none⟩) 1 1, .slice (some ⟨w10.heap.size, 0, none⟩) 1 1)) rfl rfl ?c1 ?c2 ?c3 ?c4 ?c5 ?_)
              case c1 =>
                first
                | exact fun _ _ h => h
                | (intro z1 z2 z3
                   have h := cell_four_new (w10.alloc (.cells #[.string x] 9)) (.bool true) (.slice (some ⟨w10.heap.size, 0, none⟩) 1 1) (.slice (some ⟨w10.heap.size, 0, none⟩) 1 1) (.slice (some ⟨w10.heap.size, 0, none⟩) 1 1) 33 z1 z2 z3
                   have e : (w10.alloc (.cells #[.string x] 9)).heap.size = w10.heap.size + 1 := by go_simp
                   rw [e] at h
                   exact h)
              case c2 =>
                intro u hu
                simp only [h4, List.mem_cons, List.not_mem_nil, or_false] at hu
                rcases hu with rfl | rfl | rfl | rfl <;> rfl
              case c3 => unfold maxLen; omega
              case c4 => omega
              case c5 => first | omega | (simp; omega) | exact HQ3.out.size | exact Nat.le_trans HQ3.out.size (by simp)
              intro v12 w12 hown12 hgrow _
              have hrow12 : Hid (Row w7 w12 v12 (⟨true, [x], [x], [x]⟩ :: g :: r)) := Row.grown (World.ownsRow.alloc HQ1.out _) (HQ2.out.keep (kp_alloc _ _)) (HQ3.out.alloc HQ3.out.size _) (HONE.out.keep (kp_alloc _ _)) (by unfold Cs; rw [List.length_append, List.flatMap_append, HCL.out]; simpa using hown12) hgrow
              clear hown hown12 hgrow HQ1 HQ2 HQ3 HONE HCL hC hC0 hC1 hC2
              go_wp2_with fail
              go_roundw
              case rel => exact ⟨n + 1, p + 1, q + 1, y + 1, _, by go_num, by go_num, by go_num, by go_num, HCT3, hrow12⟩
              case measure => simp only [intOf]; omega
            · by_cases gg2 : j < q
              · have g1 : ¬ (i : Int) < (p : Int) := by omega
                have g2 : (j : Int) < (q : Int) := by omega
                obtain ⟨Bo, eo⟩ : ∃ Bo, sliced (some ⟨go, oo, none⟩) i p co 1 = .slice Bo (p - i) (co - i) := ⟨_, rfl⟩
                obtain ⟨Ba, ea⟩ : ∃ Ba, sliced Aa j q ca 1 = .slice Ba (q - j) (ca - j) := ⟨_, rfl⟩
                obtain ⟨Bb, eb⟩ : ∃ Bb, sliced Ab k y cb 1 = .slice Bb (y - k) (cb - k) := ⟨_, rfl⟩
                have S1 : ∀ W : World, (Instr.slice 31 (.slice (some ⟨go, oo, none⟩) o.length co) (some (.int .i64 (i : Int))) (some (.int .i64 (p : Int))) none).run Try.prog W = .ok (.slice Bo (p - i) (co - i)) W := fun W => by rw [← eo]; exact slice_run14 (some ⟨go, oo, none⟩) o.length co i p hip (by omega) W
                have S2 : ∀ W : World, (Instr.slice 31 (.slice Aa a.length ca) (some (.int .i64 (j : Int))) (some (.int .i64 (q : Int))) none).run Try.prog W = .ok (.slice Ba (q - j) (ca - j)) W := fun W => by rw [← ea]; exact slice_run14 Aa a.length ca j q hjq (by omega) W
                have S3 : ∀ W : World, (Instr.slice 31 (.slice Ab b.length cb) (some (.int .i64 (k : Int))) (some (.int .i64 (y : Int))) none).run Try.prog W = .ok (.slice Bb (y - k) (cb - k)) W := fun W => by rw [← eb]; exact slice_run14 Ab b.length cb k y hky (by omega) W
                have hrd : Reads wr (false, .slice Bo (p - i) (co - i), .slice Ba (q - j) (ca - j), .slice Bb (y - k) (cb - k)) ⟨false, (o.take p).drop i, (a.take q).drop j, (b.take y).drop k⟩ := by
                  refine ⟨rfl, ⟨?_, ?_⟩, ⟨?_, ?_⟩, ⟨?_, ?_⟩⟩
                  · show Rd wr (.slice Bo (p - i) (co - i)) _
                    rw [← eo]; exact rd_sub (hsow) hip hpo lo_ HZO.out
                  · show Ty wr (.slice Bo (p - i) (co - i))
                    rw [← eo]; exact ty_sub (HTO7.out.keep hkpw)
                  · show Rd wr (.slice Ba (q - j) (ca - j)) _
                    rw [← ea]; exact rd_sub (hsaw) hjq hqa la_ HZA.out
                  · show Ty wr (.slice Ba (q - j) (ca - j))
                    rw [← ea]; exact ty_sub (HTA7.out.keep hkpw)
                  · show Rd wr (.slice Bb (y - k) (cb - k)) _
                    rw [← eb]; exact rd_sub (hsbw) hky hyb lb_ HZB.out
                  · show Ty wr (.slice Bb (y - k) (cb - k))
                    rw [← eb]; exact ty_sub (HTB7.out.keep hkpw)
                have HE := Lib.hid (HR.out.put (by omega) _ hrd)
                have hX2 : Below w7.heap.size w7 (wr.drew.alloc (.cells #[.bool false, .slice Bo (p - i) (co - i), .slice Ba (q - j) (ca - j), .slice Bb (y - k) (cb - k)] 33)) := hwr.drew.alloc hwr.size _
                have hwd := hwr.drew
                clear hrd eo ea eb
                go_wp2_with fail
                refine Rg.wp_only ?_ (gapReg _ (by kernel_rfl) _ gt (NT + 1) ct n p q y o.length co a.length ca b.length cb i j k (p - i) (co - i) (q - j) (ca - j) (y - k) (cb - k) wr e1 (Below w7.heap.size w7) HTri.out hwd (some ⟨go, oo, none⟩) Aa Ab Bo Ba Bb _ (fun v8 W => Row w7 W v8 (⟨false, (o.take p).drop i, (a.take q).drop j, (b.take y).drop k⟩ :: r)) S1 S2 S3 hX2 HE.out)
                rintro _ w9 ⟨v9, rfl, h9⟩
                have HR9 := Lib.hid h9
                obtain ⟨av1, cv1, hv1⟩ := h9.len
                rw [List.length_cons] at hv1
                subst hv1
                clear h9 HE S1 S2 S3 hX2 hwd HR c0 c1 c2 g1 g2
                go_wp2_with fail
                refine Rg.wp_only ?_ (triReg _ (by kernel_rfl) _ gt (NT + 1) ct n p q y w9 e1 (fun W => Row w7 W (.slice av1 (r.length + 1) cv1) (⟨false, (o.take p).drop i, (a.take q).drop j, (b.take y).drop k⟩ :: r)) (fun W h => HTri.out W (h.elim fun _ x => x.2.2)) HR9.out.drew)
                rintro _ w10 ⟨rfl, h10⟩
                clear HR9
                obtain ⟨g, hg0⟩ : ∃ g, g = (⟨false, (o.take p).drop i, (a.take q).drop j, (b.take y).drop k⟩ : Ck ByteArray) := ⟨_, rfl⟩
                have hgs : g.st = false := by rw [hg0]
                rw [← hg0] at h10 HGP
                clear hg0
                obtain ⟨gc, cc, u1, hv9, hgcB, hgcl, hfz, k0, _⟩ := h10.last
                rw [hgs] at k0
                injection hv9 with ha9 _ hc9
                subst ha9
                subst hc9
                obtain ⟨R, hR⟩ : ∃ R, R = r.length := ⟨_, rfl⟩
                have HRR := Lib.hid hR
                rw [← hR] at h10 k0 hfew ⊢
                have wl : IntKind.i64.wrap (((R + 1 : Nat) : Int) - 1) = (R : Int) := (IntWalk.i64_in _ (by omega)).trans (by omega)
                have f1 : (0 : Int) ≤ (R : Int) := by omega
                have f2 : (R : Int) < ((R + 1 : Nat) : Int) := by omega
                have f3 : (p : Int) < (o.length : Int) := by omega
                have cx10 : w10.cell? ⟨go, oo + p, none⟩ = some (.string x) := ((h10.elim fun _ x => x.2.2).cell (p := ⟨go, _, none⟩) hgo).trans hcx
                have hgo10 : go < w10.heap.size := Nat.lt_of_lt_of_le hgo (h10.elim fun _ x => x.2.2).size
                have kk0 : (w10.alloc (.cells #[.string x] 9)).cell? ⟨gc, R * 4, none⟩ = some (.bool false) := (((Below.refl w10.heap.size w10).alloc (Nat.le_refl _) _).cell (p := ⟨gc, _, none⟩) hgcl).trans k0
                have HCT3 : Hid (Ct o a b TT (n + 1) (p + 1) (q + 1) (y + 1) (⟨true, [x], [x], [x]⟩ :: g :: r)) := by
                  have h := HCT2.out
                  rw [HGP.out, stab, if_neg (by rw [hgs]; decide)] at h
                  exact h
                clear HCT2 HGP hfz hR
                have hrow11 : Row w7 (w10.alloc (.cells #[.string x] 9)) _ (g :: r) := h10.call ((Below.refl _ _).alloc (Nat.le_refl _) _)
                have hsz10 : w7.heap.size ≤ w10.heap.size := (h10.elim fun _ x => x.2.2).size
                obtain ⟨cs, q1, q2, q3⟩ := hrow11
                have hcl : cs.length = R + 1 := by
                  have h := q2.len
                  rw [List.length_reverse] at h
                  rw [h, List.length_cons, HRR.out]
                have hown := q1
                unfold Cs at hown
                rw [hcl] at hown
                have L1 := one_new w10 w7.heap.size x hsz10
                have hone : Reads (w10.alloc (.cells #[.string x] 9)) (true, .slice (some ⟨w10.heap.size, 0, none⟩) 1 1, .slice (some ⟨w10.heap.size, 0, none⟩) 1 1, .slice (some ⟨w10.heap.size, 0, none⟩) 1 1) ⟨true, [x], [x], [x]⟩ := ⟨rfl, ⟨lo_rd L1, lo_ty L1⟩, ⟨lo_rd L1, lo_ty L1⟩, ⟨lo_rd L1, lo_ty L1⟩⟩
                have HQ1 := Lib.hid q1
                have HQ2 := Lib.hid q2
                have HQ3 := Lib.hid q3
                have HONE := Lib.hid hone
                have HCL := Lib.hid hcl
                obtain ⟨iC, hC, hC0, hC1, hC2⟩ := info_parts infoC
                clear q1 q2 q3 L1 hone hcl h10
                go_wp2_with (at_builtin; refine wpList_append_own _ rfl _ _ 22 rfl w7.heap.size 33 iC (.agg #[.bool false, .slice none 0 0, .slice none 0 0, .slice none 0 0]) 4 80 Try.underlying22 hC hC0 hC1 hC2 rfl (by decide) _ _ _ rfl (hown.alloc _) ⟨_, 0, none⟩ 1 1 (h4 (true, .slice (some ⟨w10.heap.size, 0, none⟩) 1 1, .slice (some ⟨w10.heap.size, 0, none⟩) 1 1, .slice (some ⟨w10.heap.size, 0, none⟩) 1 1)) rfl rfl ?c1 ?c2 ?c3 ?c4 ?c5 ?_)
                case c1 =>
                  first
                  | exact fun _ _ h => h
                  | (intro z1 z2 z3
                     have h := cell_four_new (w10.alloc (.cells #[.string x] 9)) (.bool true) (.slice (some ⟨w10.heap.size, 0, none⟩) 1 1) (.slice (some ⟨w10.heap.size, 0, none⟩) 1 1) (.slice (some ⟨w10.heap.size, 0, none⟩) 1 1) 33 z1 z2 z3
                     have e : (w10.alloc (.cells #[.string x] 9)).heap.size = w10.heap.size + 1 := by go_simp
                     rw [e] at h
                     exact h)
                case c2 =>
                  intro u hu
                  simp only [h4, List.mem_cons, List.not_mem_nil, or_false] at hu
                  rcases hu with rfl | rfl | rfl | rfl <;> rfl
                case c3 => unfold maxLen; omega
                case c4 => omega
                case c5 => first | omega | (simp; omega) | exact HQ3.out.size | exact Nat.le_trans HQ3.out.size (by simp)
                intro v12 w12 hown12 hgrow _
                have hrow12 : Hid (Row w7 w12 v12 (⟨true, [x], [x], [x]⟩ :: g :: r)) := Row.grown (World.ownsRow.alloc HQ1.out _) (HQ2.out.keep (kp_alloc _ _)) (HQ3.out.alloc HQ3.out.size _) (HONE.out.keep (kp_alloc _ _)) (by unfold Cs; rw [List.length_append, List.flatMap_append, HCL.out]; simpa using hown12) hgrow
                clear hown hown12 hgrow HQ1 HQ2 HQ3 HONE HCL hC hC0 hC1 hC2
                go_wp2_with fail
                go_roundw
                case rel => exact ⟨n + 1, p + 1, q + 1, y + 1, _, by go_num, by go_num, by go_num, by go_num, HCT3, hrow12⟩
                case measure => simp only [intOf]; omega
              · have g1 : ¬ (i : Int) < (p : Int) := by omega
                have g2 : ¬ (j : Int) < (q : Int) := by omega
                have g3 : (k : Int) < (y : Int) := by omega
                obtain ⟨Bo, eo⟩ : ∃ Bo, sliced (some ⟨go, oo, none⟩) i p co 1 = .slice Bo (p - i) (co - i) := ⟨_, rfl⟩
                obtain ⟨Ba, ea⟩ : ∃ Ba, sliced Aa j q ca 1 = .slice Ba (q - j) (ca - j) := ⟨_, rfl⟩
                obtain ⟨Bb, eb⟩ : ∃ Bb, sliced Ab k y cb 1 = .slice Bb (y - k) (cb - k) := ⟨_, rfl⟩
                have S1 : ∀ W : World, (Instr.slice 31 (.slice (some ⟨go, oo, none⟩) o.length co) (some (.int .i64 (i : Int))) (some (.int .i64 (p : Int))) none).run Try.prog W = .ok (.slice Bo (p - i) (co - i)) W := fun W => by rw [← eo]; exact slice_run14 (some ⟨go, oo, none⟩) o.length co i p hip (by omega) W
                have S2 : ∀ W : World, (Instr.slice 31 (.slice Aa a.length ca) (some (.int .i64 (j : Int))) (some (.int .i64 (q : Int))) none).run Try.prog W = .ok (.slice Ba (q - j) (ca - j)) W := fun W => by rw [← ea]; exact slice_run14 Aa a.length ca j q hjq (by omega) W
                have S3 : ∀ W : World, (Instr.slice 31 (.slice Ab b.length cb) (some (.int .i64 (k : Int))) (some (.int .i64 (y : Int))) none).run Try.prog W = .ok (.slice Bb (y - k) (cb - k)) W := fun W => by rw [← eb]; exact slice_run14 Ab b.length cb k y hky (by omega) W
                have hrd : Reads wr (false, .slice Bo (p - i) (co - i), .slice Ba (q - j) (ca - j), .slice Bb (y - k) (cb - k)) ⟨false, (o.take p).drop i, (a.take q).drop j, (b.take y).drop k⟩ := by
                  refine ⟨rfl, ⟨?_, ?_⟩, ⟨?_, ?_⟩, ⟨?_, ?_⟩⟩
                  · show Rd wr (.slice Bo (p - i) (co - i)) _
                    rw [← eo]; exact rd_sub (hsow) hip hpo lo_ HZO.out
                  · show Ty wr (.slice Bo (p - i) (co - i))
                    rw [← eo]; exact ty_sub (HTO7.out.keep hkpw)
                  · show Rd wr (.slice Ba (q - j) (ca - j)) _
                    rw [← ea]; exact rd_sub (hsaw) hjq hqa la_ HZA.out
                  · show Ty wr (.slice Ba (q - j) (ca - j))
                    rw [← ea]; exact ty_sub (HTA7.out.keep hkpw)
                  · show Rd wr (.slice Bb (y - k) (cb - k)) _
                    rw [← eb]; exact rd_sub (hsbw) hky hyb lb_ HZB.out
                  · show Ty wr (.slice Bb (y - k) (cb - k))
                    rw [← eb]; exact ty_sub (HTB7.out.keep hkpw)
                have HE := Lib.hid (HR.out.put (by omega) _ hrd)
                have hX2 : Below w7.heap.size w7 (wr.drew.alloc (.cells #[.bool false, .slice Bo (p - i) (co - i), .slice Ba (q - j) (ca - j), .slice Bb (y - k) (cb - k)] 33)) := hwr.drew.alloc hwr.size _
                have hwd := hwr.drew
                clear hrd eo ea eb
                go_wp2_with fail
                refine Rg.wp_only ?_ (gapReg _ (by kernel_rfl) _ gt (NT + 1) ct n p q y o.length co a.length ca b.length cb i j k (p - i) (co - i) (q - j) (ca - j) (y - k) (cb - k) wr e1 (Below w7.heap.size w7) HTri.out hwd (some ⟨go, oo, none⟩) Aa Ab Bo Ba Bb _ (fun v8 W => Row w7 W v8 (⟨false, (o.take p).drop i, (a.take q).drop j, (b.take y).drop k⟩ :: r)) S1 S2 S3 hX2 HE.out)
                rintro _ w9 ⟨v9, rfl, h9⟩
                have HR9 := Lib.hid h9
                obtain ⟨av1, cv1, hv1⟩ := h9.len
                rw [List.length_cons] at hv1
                subst hv1
                clear h9 HE S1 S2 S3 hX2 hwd HR c0 c1 c2 g1 g2 g3
                go_wp2_with fail
                refine Rg.wp_only ?_ (triReg _ (by kernel_rfl) _ gt (NT + 1) ct n p q y w9 e1 (fun W => Row w7 W (.slice av1 (r.length + 1) cv1) (⟨false, (o.take p).drop i, (a.take q).drop j, (b.take y).drop k⟩ :: r)) (fun W h => HTri.out W (h.elim fun _ x => x.2.2)) HR9.out.drew)
                rintro _ w10 ⟨rfl, h10⟩
                clear HR9
                obtain ⟨g, hg0⟩ : ∃ g, g = (⟨false, (o.take p).drop i, (a.take q).drop j, (b.take y).drop k⟩ : Ck ByteArray) := ⟨_, rfl⟩
                have hgs : g.st = false := by rw [hg0]
                rw [← hg0] at h10 HGP
                clear hg0
                obtain ⟨gc, cc, u1, hv9, hgcB, hgcl, hfz, k0, _⟩ := h10.last
                rw [hgs] at k0
                injection hv9 with ha9 _ hc9
                subst ha9
                subst hc9
                obtain ⟨R, hR⟩ : ∃ R, R = r.length := ⟨_, rfl⟩
                have HRR := Lib.hid hR
                rw [← hR] at h10 k0 hfew ⊢
                have wl : IntKind.i64.wrap (((R + 1 : Nat) : Int) - 1) = (R : Int) := (IntWalk.i64_in _ (by omega)).trans (by omega)
                have f1 : (0 : Int) ≤ (R : Int) := by omega
                have f2 : (R : Int) < ((R + 1 : Nat) : Int) := by omega
                have f3 : (p : Int) < (o.length : Int) := by omega
                have cx10 : w10.cell? ⟨go, oo + p, none⟩ = some (.string x) := ((h10.elim fun _ x => x.2.2).cell (p := ⟨go, _, none⟩) hgo).trans hcx
                have hgo10 : go < w10.heap.size := Nat.lt_of_lt_of_le hgo (h10.elim fun _ x => x.2.2).size
                have kk0 : (w10.alloc (.cells #[.string x] 9)).cell? ⟨gc, R * 4, none⟩ = some (.bool false) := (((Below.refl w10.heap.size w10).alloc (Nat.le_refl _) _).cell (p := ⟨gc, _, none⟩) hgcl).trans k0
                have HCT3 : Hid (Ct o a b TT (n + 1) (p + 1) (q + 1) (y + 1) (⟨true, [x], [x], [x]⟩ :: g :: r)) := by
                  have h := HCT2.out
                  rw [HGP.out, stab, if_neg (by rw [hgs]; decide)] at h
                  exact h
                clear HCT2 HGP hfz hR
                have hrow11 : Row w7 (w10.alloc (.cells #[.string x] 9)) _ (g :: r) := h10.call ((Below.refl _ _).alloc (Nat.le_refl _) _)
                have hsz10 : w7.heap.size ≤ w10.heap.size := (h10.elim fun _ x => x.2.2).size
                obtain ⟨cs, q1, q2, q3⟩ := hrow11
                have hcl : cs.length = R + 1 := by
                  have h := q2.len
                  rw [List.length_reverse] at h
                  rw [h, List.length_cons, HRR.out]
                have hown := q1
                unfold Cs at hown
                rw [hcl] at hown
                have L1 := one_new w10 w7.heap.size x hsz10
                have hone : Reads (w10.alloc (.cells #[.string x] 9)) (true, .slice (some ⟨w10.heap.size, 0, none⟩) 1 1, .slice (some ⟨w10.heap.size, 0, none⟩) 1 1, .slice (some ⟨w10.heap.size, 0, none⟩) 1 1) ⟨true, [x], [x], [x]⟩ := ⟨rfl, ⟨lo_rd L1, lo_ty L1⟩, ⟨lo_rd L1, lo_ty L1⟩, ⟨lo_rd L1, lo_ty L1⟩⟩
                have HQ1 := Lib.hid q1
                have HQ2 := Lib.hid q2
                have HQ3 := Lib.hid q3
                have HONE := Lib.hid hone
                have HCL := Lib.hid hcl
                obtain ⟨iC, hC, hC0, hC1, hC2⟩ := info_parts infoC
                clear q1 q2 q3 L1 hone hcl h10
                go_wp2_with (at_builtin; refine wpList_append_own _ rfl _ _ 22 rfl w7.heap.size 33 iC (.agg #[.bool false, .slice none 0 0, .slice none 0 0, .slice none 0 0]) 4 80 Try.underlying22 hC hC0 hC1 hC2 rfl (by decide) _ _ _ rfl (hown.alloc _) ⟨_, 0, none⟩ 1 1 (h4 (true, .slice (some ⟨w10.heap.size, 0, none⟩) 1 1, .slice (some ⟨w10.heap.size, 0, none⟩) 1 1, .slice (some ⟨w10.heap.size, 0, none⟩) 1 1)) rfl rfl ?c1 ?c2 ?c3 ?c4 ?c5 ?_)
                case c1 =>
                  first
                  | exact fun _ _ h => h
                  | (intro z1 z2 z3
                     have h := cell_four_new (w10.alloc (.cells #[.string x] 9)) (.bool true) (.slice (some ⟨w10.heap.size, 0, none⟩) 1 1) (.slice (some ⟨w10.heap.size, 0, none⟩) 1 1) (.slice (some ⟨w10.heap.size, 0, none⟩) 1 1) 33 z1 z2 z3
                     have e : (w10.alloc (.cells #[.string x] 9)).heap.size = w10.heap.size + 1 := by go_simp
                     rw [e] at h
                     exact h)
                case c2 =>
                  intro u hu
                  simp only [h4, List.mem_cons, List.not_mem_nil, or_false] at hu
                  rcases hu with rfl | rfl | rfl | rfl <;> rfl
                case c3 => unfold maxLen; omega
                case c4 => omega
                case c5 => first | omega | (simp; omega) | exact HQ3.out.size | exact Nat.le_trans HQ3.out.size (by simp)
                intro v12 w12 hown12 hgrow _
                have hrow12 : Hid (Row w7 w12 v12 (⟨true, [x], [x], [x]⟩ :: g :: r)) := Row.grown (World.ownsRow.alloc HQ1.out _) (HQ2.out.keep (kp_alloc _ _)) (HQ3.out.alloc HQ3.out.size _) (HONE.out.keep (kp_alloc _ _)) (by unfold Cs; rw [List.length_append, List.flatMap_append, HCL.out]; simpa using hown12) hgrow
                clear hown hown12 hgrow HQ1 HQ2 HQ3 HONE HCL hC hC0 hC1 hC2
                go_wp2_with fail
                go_roundw
                case rel => exact ⟨n + 1, p + 1, q + 1, y + 1, _, by go_num, by go_num, by go_num, by go_num, HCT3, hrow12⟩
                case measure => simp only [intOf]; omega
          · have HGP : Hid (gapc o a b i j k p q y r = r) := gapc_no hgp
            have g1 : ¬ (i : Int) < (p : Int) := by omega
            have g2 : ¬ (j : Int) < (q : Int) := by omega
            have g3 : ¬ (k : Int) < (y : Int) := by omega
            cases r with
            | nil =>
              go_wp2_with fail
              refine Rg.wp_only ?_ (triReg _ (by kernel_rfl) _ gt (NT + 1) ct n p q y wr e1 (fun W => Row w7 W (.slice av 0 cv) []) (fun W h => HTri.out W (h.elim fun _ x => x.2.2)) HR.out.drew)
              rintro _ w10 ⟨rfl, h10⟩
              clear HR c0 c1 c2 g1 g2 g3
              have wl : IntKind.i64.wrap ((0 : Int) - 1) = -1 := rfl
              have f3 : (p : Int) < (o.length : Int) := by omega
              have cx10 : w10.cell? ⟨go, oo + p, none⟩ = some (.string x) := ((h10.elim fun _ x => x.2.2).cell (p := ⟨go, _, none⟩) hgo).trans hcx
              have hgo10 : go < w10.heap.size := Nat.lt_of_lt_of_le hgo (h10.elim fun _ x => x.2.2).size
              have HCT3 : Hid (Ct o a b TT (n + 1) (p + 1) (q + 1) (y + 1) [⟨true, [x], [x], [x]⟩]) := by
                have h := HCT2.out
                rw [HGP.out, stab] at h
                exact h
              clear HCT2 HGP
              have hrow11 : Row w7 (w10.alloc (.cells #[.string x] 9)) _ ([]) := h10.call ((Below.refl _ _).alloc (Nat.le_refl _) _)
              have hsz10 : w7.heap.size ≤ w10.heap.size := (h10.elim fun _ x => x.2.2).size
              obtain ⟨cs, q1, q2, q3⟩ := hrow11
              have hcl : cs.length = 0 := by
                have h := q2.len
                rw [List.length_reverse] at h
                exact h
              have hown := q1
              unfold Cs at hown
              rw [hcl] at hown
              have L1 := one_new w10 w7.heap.size x hsz10
              have hone : Reads (w10.alloc (.cells #[.string x] 9)) (true, .slice (some ⟨w10.heap.size, 0, none⟩) 1 1, .slice (some ⟨w10.heap.size, 0, none⟩) 1 1, .slice (some ⟨w10.heap.size, 0, none⟩) 1 1) ⟨true, [x], [x], [x]⟩ := ⟨rfl, ⟨lo_rd L1, lo_ty L1⟩, ⟨lo_rd L1, lo_ty L1⟩, ⟨lo_rd L1, lo_ty L1⟩⟩
              have HQ1 := Lib.hid q1
              have HQ2 := Lib.hid q2
              have HQ3 := Lib.hid q3
              have HONE := Lib.hid hone
              have HCL := Lib.hid hcl
              obtain ⟨iC, hC, hC0, hC1, hC2⟩ := info_parts infoC
              clear q1 q2 q3 L1 hone hcl h10
              go_wp2_with (at_builtin; refine wpList_append_own _ rfl _ _ 22 rfl w7.heap.size 33 iC (.agg #[.bool false, .slice none 0 0, .slice none 0 0, .slice none 0 0]) 4 80 Try.underlying22 hC hC0 hC1 hC2 rfl (by decide) _ _ _ rfl (hown.alloc _) ⟨_, 0, none⟩ 1 1 (h4 (true, .slice (some ⟨w10.heap.size, 0, none⟩) 1 1, .slice (some ⟨w10.heap.size, 0, none⟩) 1 1, .slice (some ⟨w10.heap.size, 0, none⟩) 1 1)) rfl rfl ?c1 ?c2 ?c3 ?c4 ?c5 ?_)
              case c1 =>
                first
                | exact fun _ _ h => h
                | (intro z1 z2 z3
                   have h := cell_four_new (w10.alloc (.cells #[.string x] 9)) (.bool true) (.slice (some ⟨w10.heap.size, 0, none⟩) 1 1) (.slice (some ⟨w10.heap.size, 0, none⟩) 1 1) (.slice (some ⟨w10.heap.size, 0, none⟩) 1 1) 33 z1 z2 z3
                   have e : (w10.alloc (.cells #[.string x] 9)).heap.size = w10.heap.size + 1 := by go_simp
                   rw [e] at h
                   exact h)
              case c2 =>
                intro u hu
                simp only [h4, List.mem_cons, List.not_mem_nil, or_false] at hu
                rcases hu with rfl | rfl | rfl | rfl <;> rfl
              case c3 => unfold maxLen; omega
              case c4 => omega
              case c5 => first | omega | (simp; omega) | exact HQ3.out.size | exact Nat.le_trans HQ3.out.size (by simp)
              intro v12 w12 hown12 hgrow _
              have hrow12 : Hid (Row w7 w12 v12 (⟨true, [x], [x], [x]⟩ :: [])) := Row.grown (World.ownsRow.alloc HQ1.out _) (HQ2.out.keep (kp_alloc _ _)) (HQ3.out.alloc HQ3.out.size _) (HONE.out.keep (kp_alloc _ _)) (by unfold Cs; rw [List.length_append, List.flatMap_append, HCL.out]; simpa using hown12) hgrow
              clear hown hown12 hgrow HQ1 HQ2 HQ3 HONE HCL hC hC0 hC1 hC2
              go_wp2_with fail
              go_roundw
              case rel => exact ⟨n + 1, p + 1, q + 1, y + 1, _, by go_num, by go_num, by go_num, by go_num, HCT3, hrow12⟩
              case measure => simp only [intOf]; omega
            | cons c r =>
              have hst : c.st = true := HCT.out.kept c rfl
              simp only [List.length_cons] at hfew
              go_wp2_with fail
              refine Rg.wp_only ?_ (triReg _ (by kernel_rfl) _ gt (NT + 1) ct n p q y wr e1 (fun W => Row w7 W (.slice av (r.length + 1) cv) (c :: r)) (fun W h => HTri.out W (h.elim fun _ x => x.2.2)) HR.out.drew)
              rintro _ w10 ⟨rfl, h10⟩
              clear HR c0 c1 c2 g1 g2 g3
              obtain ⟨gc, cc, u1, hv9, hgcB, hgcl, hfz, k0, k1, hrd, _⟩ := h10.last
              rw [hst] at k0
              injection hv9 with ha9 _ hc9
              subst ha9
              subst hc9
              obtain ⟨Al, cl, rfl, hsl, _⟩ := hrd
              obtain ⟨hne, hcl4⟩ := pcs_line HCT.out.pcs hst
              have hlp : c.b.length ≠ 0 := fun e => hne (List.length_eq_zero_iff.1 e)
              obtain ⟨gb, ob, rfl, hgbl, hcb⟩ := hsl.2.resolve_left hlp
              obtain ⟨R, hR⟩ : ∃ R, R = r.length := ⟨_, rfl⟩
              have HRR := Lib.hid hR
              rw [← hR] at h10 k0 k1 hfew ⊢
              have wl : IntKind.i64.wrap (((R + 1 : Nat) : Int) - 1) = (R : Int) := (IntWalk.i64_in _ (by omega)).trans (by omega)
              have f1 : (0 : Int) ≤ (R : Int) := by omega
              have f2 : (R : Int) < ((R + 1 : Nat) : Int) := by omega
              have f3 : (p : Int) < (o.length : Int) := by omega
              have cx10 : w10.cell? ⟨go, oo + p, none⟩ = some (.string x) := ((h10.elim fun _ x => x.2.2).cell (p := ⟨go, _, none⟩) hgo).trans hcx
              have hgo10 : go < w10.heap.size := Nat.lt_of_lt_of_le hgo (h10.elim fun _ x => x.2.2).size
              have hba : Below w10.heap.size w10 (w10.alloc (.cells #[.string x] 9)) := (Below.refl _ _).alloc (Nat.le_refl _) _
              have kk0 : (w10.alloc (.cells #[.string x] 9)).cell? ⟨gc, R * 4, none⟩ = some (.bool true) := (hba.cell (p := ⟨gc, _, none⟩) hgcl).trans k0
              have HCT3 : Hid (Ct o a b TT (n + 1) (p + 1) (q + 1) (y + 1) (⟨true, c.b ++ [x], c.b ++ [x], c.b ++ [x]⟩ :: r)) := by
                have h := HCT2.out
                rw [HGP.out, stab, if_pos hst] at h
                exact h
              have hr11 : Hid (Row w7 (w10.alloc (.cells #[.string x] 9)) (.slice (some ⟨gc, 0, none⟩) (R + 1) cv) (c :: r)) := h10.call hba
              have HKX : Hid (∀ W, Below (w10.alloc (.cells #[.string x] 9)).heap.size (w10.alloc (.cells #[.string x] 9)) W → W.cell? ⟨gc, R * 4 + 1, none⟩ = some (.slice (some ⟨gb, ob, none⟩) c.b.length cl) ∧ W.cell? ⟨go, oo + p, none⟩ = some (.string x) ∧ ∀ (k : Nat) z, c.b[k]? = some z → W.cell? ⟨gb, ob + k, none⟩ = some (.string z)) := fun W hb =>
                ⟨(hb.cell (p := ⟨gc, _, none⟩) (Nat.lt_of_lt_of_le hgcl hba.size)).trans ((hba.cell (p := ⟨gc, _, none⟩) hgcl).trans k1),
                 (hb.cell (p := ⟨go, _, none⟩) (Nat.lt_of_lt_of_le hgo10 hba.size)).trans ((hba.cell (p := ⟨go, _, none⟩) hgo10).trans cx10),
                 fun k z hz => (hb.cell (p := ⟨gb, _, none⟩) (Nat.lt_of_lt_of_le hgbl hba.size)).trans ((hba.cell (p := ⟨gb, _, none⟩) hgbl).trans (hcb k z hz))⟩
              have hFZ : Hid (∀ k W, Below (w10.alloc (.cells #[.string x] 9)).heap.size (w10.alloc (.cells #[.string x] 9)) W → W.frozen? ⟨gc, k, none⟩ = false) := fun k W hb =>
                (hb.frozen (p := ⟨gc, _, none⟩) (Nat.lt_of_lt_of_le hgcl hba.size)).trans ((hba.frozen (p := ⟨gc, _, none⟩) hgcl).trans (hfz k))
              have hlb : c.b.length ≤ 400 := by omega
              have hgcl11 := Nat.lt_of_lt_of_le hgcl hba.size
              clear HCT HCT2 HGP hfz hR h10 k1 hcb hne hsl hba
              go_wp2_with fail
              obtain ⟨w11, hw11⟩ : ∃ w11, w11 = w10.alloc (.cells #[.string x] 9) := ⟨_, rfl⟩
              rw [← hw11] at hr11 HKX hFZ hgcl11 kk0 ⊢
              clear hw11
              refine Rg.wp_only ?_ (moreReg _ (by kernel_rfl) _ go oo o.length co gc (R + 1) cv p R gb ob cl w11.heap.size c.b x w11 f3 f2 hlb (Below w11.heap.size w11) HKX.out (Below.refl _ _).drew (fun W o h => h.alloc h.size o) (by go_simp) (by go_simp <;> omega) (fun W W' row h hg hr => h.grown hg h.size hr))
              rintro _ w12 ⟨p0, p1, p2, v12, rfl, hL12, hX12⟩
              obtain ⟨A12, c12, hv12⟩ := hL12.form
              have hr12 : Hid (Row w7 w12 (.slice (some ⟨gc, 0, none⟩) (R + 1) cv) (c :: r)) := hr11.out.call hX12
              obtain ⟨m0, m1, m2, m3, y0, y1, y2, y3⟩ := hr12.out.four HRR.out
              have z0 := hFZ.out (R * 4) w12 hX12
              have z1 := hFZ.out (R * 4 + 1) w12 hX12
              have z2 := hFZ.out (R * 4 + 2) w12 hX12
              have z3 := hFZ.out (R * 4 + 3) w12 hX12
              have hrd12 : Hid (Reads w12 (true, v12, v12, v12) ⟨true, c.b ++ [x], c.b ++ [x], c.b ++ [x]⟩) := ⟨rfl, ⟨lo_rd hL12, lo_ty hL12⟩, ⟨lo_rd hL12, lo_ty hL12⟩, ⟨lo_rd hL12, lo_ty hL12⟩⟩
              subst hv12
              have HX13 : Hid (Row w7 ((((w12.setCell ⟨gc, R * 4, none⟩ (.bool true)).setCell ⟨gc, R * 4 + 1, none⟩ (.slice A12 (c.b ++ [x]).length c12)).setCell ⟨gc, R * 4 + 2, none⟩ (.slice A12 (c.b ++ [x]).length c12)).setCell ⟨gc, R * 4 + 3, none⟩ (.slice A12 (c.b ++ [x]).length c12)) (.slice (some ⟨gc, 0, none⟩) (R + 1) cv) (⟨true, c.b ++ [x], c.b ++ [x], c.b ++ [x]⟩ :: r)) := by
                have h := hr12.out
                rw [HRR.out] at h ⊢
                exact h.set hgcB (true, .slice A12 (c.b ++ [x]).length c12, .slice A12 (c.b ++ [x]).length c12, .slice A12 (c.b ++ [x]).length c12) hrd12.out
              obtain ⟨v13, hv13⟩ : ∃ v13, v13 = (.slice A12 (c.b ++ [x]).length c12 : Value) := ⟨_, rfl⟩
              have hL : (c.b ++ [x]).length = c.b.length + 1 := by simp
              rw [hL] at HX13
              clear hL12 hX12 HKX hFZ hr11 kk0 hv13 hL hr12 hrd12
              go_wp2_with fail
              go_roundw
              case rel => exact ⟨n + 1, p + 1, q + 1, y + 1, _, by go_num, by go_num, by go_num, by go_num, HCT3, HX13⟩
              case measure => simp only [intOf]; omega
        · have hnN : n = NT := by omega
          obtain ⟨p, hp⟩ : ∃ p, p = o.length := ⟨_, rfl⟩
          obtain ⟨q, hq⟩ : ∃ q, q = a.length := ⟨_, rfl⟩
          obtain ⟨y, hy⟩ : ∃ y, y = b.length := ⟨_, rfl⟩
          have hCe := HCT.out
          rw [hnN, HNT.out] at hCe
          obtain ⟨hip, hjq, hky, hend⟩ := ct_end hCe
          rw [← hp, ← hq, ← hy] at hend
          rw [← hp] at hip
          rw [← hq] at hjq
          rw [← hy] at hky
          obtain ⟨d0, d1, d2⟩ := HC7.out n (p, q, y) (by rw [List.getElem?_append_right (by rw [← HNT.out]; omega), hp, hq, hy, hnN, HNT.out, Nat.sub_self]; rfl)
          unfold iv at d0 d1 d2
          simp only at d0 d1 d2
          have hpo : p ≤ o.length := by omega
          have hqa : q ≤ a.length := by omega
          have hyb : y ≤ b.length := by omega
          have wk : IntKind.i64.wrap (((NT + 1 : Nat) : Int) - 1) = (NT : Int) := (IntWalk.i64_in _ (by omega)).trans (by omega)
          have e2 : ((n : Int) == (NT : Int)) = true := beq_iff_eq.2 (by omega)
          have HEND : Hid (pie o a b = gapc o a b i j k p q y r) := HPI.out.trans hend
          clear hCe hend hp hq hy hnN
          have hwr : Below w7.heap.size w7 wr := HR.out.elim fun _ x => x.2.2
          have c0 : wr.cell? ⟨gt, n * 3, none⟩ = some (.int .i64 (p : Int)) := (hwr.cell (p := ⟨gt, _, none⟩) hgt).trans d0
          have c1 : wr.cell? ⟨gt, n * 3 + 1, none⟩ = some (.int .i64 (q : Int)) := (hwr.cell (p := ⟨gt, _, none⟩) hgt).trans d1
          have c2 : wr.cell? ⟨gt, n * 3 + 2, none⟩ = some (.int .i64 (y : Int)) := (hwr.cell (p := ⟨gt, _, none⟩) hgt).trans d2
          have HTri : Hid (∀ W, Below w7.heap.size w7 W → Tri gt n p q y W) := fun W hb => ⟨(hb.cell (p := ⟨gt, _, none⟩) hgt).trans d0, (hb.cell (p := ⟨gt, _, none⟩) hgt).trans d1, (hb.cell (p := ⟨gt, _, none⟩) hgt).trans d2⟩
          have hsow := HSO7.out.below hwr
          have hsaw := HSA7.out.below hwr
          have hsbw := HSB7.out.below hwr
          have hkpw : Kp w7 wr := Kp.of_below hwr
          clear d0 d1 d2
          by_cases hgp : i < p ∨ j < q ∨ k < y
          · have HGP : Hid (gapc o a b i j k p q y r = ⟨false, (o.take p).drop i, (a.take q).drop j, (b.take y).drop k⟩ :: r) := gapc_yes hgp
            by_cases gg1 : i < p
            · have g1 : (i : Int) < (p : Int) := by omega
              obtain ⟨Bo, eo⟩ : ∃ Bo, sliced Ao i p co 1 = .slice Bo (p - i) (co - i) := ⟨_, rfl⟩
              obtain ⟨Ba, ea⟩ : ∃ Ba, sliced Aa j q ca 1 = .slice Ba (q - j) (ca - j) := ⟨_, rfl⟩
              obtain ⟨Bb, eb⟩ : ∃ Bb, sliced Ab k y cb 1 = .slice Bb (y - k) (cb - k) := ⟨_, rfl⟩
              have S1 : ∀ W : World, (Instr.slice 31 (.slice Ao o.length co) (some (.int .i64 (i : Int))) (some (.int .i64 (p : Int))) none).run Try.prog W = .ok (.slice Bo (p - i) (co - i)) W := fun W => by rw [← eo]; exact slice_run14 Ao o.length co i p hip (by omega) W
              have S2 : ∀ W : World, (Instr.slice 31 (.slice Aa a.length ca) (some (.int .i64 (j : Int))) (some (.int .i64 (q : Int))) none).run Try.prog W = .ok (.slice Ba (q - j) (ca - j)) W := fun W => by rw [← ea]; exact slice_run14 Aa a.length ca j q hjq (by omega) W
              have S3 : ∀ W : World, (Instr.slice 31 (.slice Ab b.length cb) (some (.int .i64 (k : Int))) (some (.int .i64 (y : Int))) none).run Try.prog W = .ok (.slice Bb (y - k) (cb - k)) W := fun W => by rw [← eb]; exact slice_run14 Ab b.length cb k y hky (by omega) W
              have hrd : Reads wr (false, .slice Bo (p - i) (co - i), .slice Ba (q - j) (ca - j), .slice Bb (y - k) (cb - k)) ⟨false, (o.take p).drop i, (a.take q).drop j, (b.take y).drop k⟩ := by
                refine ⟨rfl, ⟨?_, ?_⟩, ⟨?_, ?_⟩, ⟨?_, ?_⟩⟩
                · show Rd wr (.slice Bo (p - i) (co - i)) _
                  rw [← eo]; exact rd_sub (hsow) hip hpo lo_ HZO.out
                · show Ty wr (.slice Bo (p - i) (co - i))
                  rw [← eo]; exact ty_sub (HTO7.out.keep hkpw)
                · show Rd wr (.slice Ba (q - j) (ca - j)) _
                  rw [← ea]; exact rd_sub (hsaw) hjq hqa la_ HZA.out
                · show Ty wr (.slice Ba (q - j) (ca - j))
                  rw [← ea]; exact ty_sub (HTA7.out.keep hkpw)
                · show Rd wr (.slice Bb (y - k) (cb - k)) _
                  rw [← eb]; exact rd_sub (hsbw) hky hyb lb_ HZB.out
                · show Ty wr (.slice Bb (y - k) (cb - k))
                  rw [← eb]; exact ty_sub (HTB7.out.keep hkpw)
              have HE := Lib.hid (HR.out.put (by omega) _ hrd)
              have hX2 : Below w7.heap.size w7 (wr.drew.alloc (.cells #[.bool false, .slice Bo (p - i) (co - i), .slice Ba (q - j) (ca - j), .slice Bb (y - k) (cb - k)] 33)) := hwr.drew.alloc hwr.size _
              have hwd := hwr.drew
              clear hrd eo ea eb
              go_wp2_with fail
              refine Rg.wp_only ?_ (gapReg _ (by kernel_rfl) _ gt (NT + 1) ct n p q y o.length co a.length ca b.length cb i j k (p - i) (co - i) (q - j) (ca - j) (y - k) (cb - k) wr e1 (Below w7.heap.size w7) HTri.out hwd Ao Aa Ab Bo Ba Bb _ (fun v8 W => Row w7 W v8 (⟨false, (o.take p).drop i, (a.take q).drop j, (b.take y).drop k⟩ :: r)) S1 S2 S3 hX2 HE.out)
              rintro _ w9 ⟨v9, rfl, h9⟩
              have HR9 := Lib.hid h9
              obtain ⟨av1, cv1, hv1⟩ := h9.len
              rw [List.length_cons] at hv1
              subst hv1
              clear h9 HE S1 S2 S3 hX2 hwd HR c0 c1 c2 g1
              go_wp2_with fail
              refine Rg.wp_only ?_ (triReg _ (by kernel_rfl) _ gt (NT + 1) ct n p q y w9 e1 (fun W => Row w7 W (.slice av1 (r.length + 1) cv1) (⟨false, (o.take p).drop i, (a.take q).drop j, (b.take y).drop k⟩ :: r)) (fun W h => HTri.out W (h.elim fun _ x => x.2.2)) HR9.out.drew)
              rintro _ w10 ⟨rfl, h10⟩
              clear HR9
              obtain ⟨g, hg0⟩ : ∃ g, g = (⟨false, (o.take p).drop i, (a.take q).drop j, (b.take y).drop k⟩ : Ck ByteArray) := ⟨_, rfl⟩
              have hgs : g.st = false := by rw [hg0]
              rw [← hg0] at h10 HGP
              clear hg0
              go_wp2_with fail
              go_ret2
              obtain ⟨cs, q1, q2, q3⟩ := h10
              rw [HCH.out, HE0.out, HEND.out, HGP.out]
              exact ⟨_, cs, rfl, own_base q1 HB7.out.size, q2.isC, HB7.out.trans (q3.mono HB7.out.size)⟩
            · by_cases gg2 : j < q
              · have g1 : ¬ (i : Int) < (p : Int) := by omega
                have g2 : (j : Int) < (q : Int) := by omega
                obtain ⟨Bo, eo⟩ : ∃ Bo, sliced Ao i p co 1 = .slice Bo (p - i) (co - i) := ⟨_, rfl⟩
                obtain ⟨Ba, ea⟩ : ∃ Ba, sliced Aa j q ca 1 = .slice Ba (q - j) (ca - j) := ⟨_, rfl⟩
                obtain ⟨Bb, eb⟩ : ∃ Bb, sliced Ab k y cb 1 = .slice Bb (y - k) (cb - k) := ⟨_, rfl⟩
                have S1 : ∀ W : World, (Instr.slice 31 (.slice Ao o.length co) (some (.int .i64 (i : Int))) (some (.int .i64 (p : Int))) none).run Try.prog W = .ok (.slice Bo (p - i) (co - i)) W := fun W => by rw [← eo]; exact slice_run14 Ao o.length co i p hip (by omega) W
                have S2 : ∀ W : World, (Instr.slice 31 (.slice Aa a.length ca) (some (.int .i64 (j : Int))) (some (.int .i64 (q : Int))) none).run Try.prog W = .ok (.slice Ba (q - j) (ca - j)) W := fun W => by rw [← ea]; exact slice_run14 Aa a.length ca j q hjq (by omega) W
                have S3 : ∀ W : World, (Instr.slice 31 (.slice Ab b.length cb) (some (.int .i64 (k : Int))) (some (.int .i64 (y : Int))) none).run Try.prog W = .ok (.slice Bb (y - k) (cb - k)) W := fun W => by rw [← eb]; exact slice_run14 Ab b.length cb k y hky (by omega) W
                have hrd : Reads wr (false, .slice Bo (p - i) (co - i), .slice Ba (q - j) (ca - j), .slice Bb (y - k) (cb - k)) ⟨false, (o.take p).drop i, (a.take q).drop j, (b.take y).drop k⟩ := by
                  refine ⟨rfl, ⟨?_, ?_⟩, ⟨?_, ?_⟩, ⟨?_, ?_⟩⟩
                  · show Rd wr (.slice Bo (p - i) (co - i)) _
                    rw [← eo]; exact rd_sub (hsow) hip hpo lo_ HZO.out
                  · show Ty wr (.slice Bo (p - i) (co - i))
                    rw [← eo]; exact ty_sub (HTO7.out.keep hkpw)
                  · show Rd wr (.slice Ba (q - j) (ca - j)) _
                    rw [← ea]; exact rd_sub (hsaw) hjq hqa la_ HZA.out
                  · show Ty wr (.slice Ba (q - j) (ca - j))
                    rw [← ea]; exact ty_sub (HTA7.out.keep hkpw)
                  · show Rd wr (.slice Bb (y - k) (cb - k)) _
                    rw [← eb]; exact rd_sub (hsbw) hky hyb lb_ HZB.out
                  · show Ty wr (.slice Bb (y - k) (cb - k))
                    rw [← eb]; exact ty_sub (HTB7.out.keep hkpw)
                have HE := Lib.hid (HR.out.put (by omega) _ hrd)
                have hX2 : Below w7.heap.size w7 (wr.drew.alloc (.cells #[.bool false, .slice Bo (p - i) (co - i), .slice Ba (q - j) (ca - j), .slice Bb (y - k) (cb - k)] 33)) := hwr.drew.alloc hwr.size _
                have hwd := hwr.drew
                clear hrd eo ea eb
                go_wp2_with fail
                refine Rg.wp_only ?_ (gapReg _ (by kernel_rfl) _ gt (NT + 1) ct n p q y o.length co a.length ca b.length cb i j k (p - i) (co - i) (q - j) (ca - j) (y - k) (cb - k) wr e1 (Below w7.heap.size w7) HTri.out hwd Ao Aa Ab Bo Ba Bb _ (fun v8 W => Row w7 W v8 (⟨false, (o.take p).drop i, (a.take q).drop j, (b.take y).drop k⟩ :: r)) S1 S2 S3 hX2 HE.out)
                rintro _ w9 ⟨v9, rfl, h9⟩
                have HR9 := Lib.hid h9
                obtain ⟨av1, cv1, hv1⟩ := h9.len
                rw [List.length_cons] at hv1
                subst hv1
                clear h9 HE S1 S2 S3 hX2 hwd HR c0 c1 c2 g1 g2
                go_wp2_with fail
                refine Rg.wp_only ?_ (triReg _ (by kernel_rfl) _ gt (NT + 1) ct n p q y w9 e1 (fun W => Row w7 W (.slice av1 (r.length + 1) cv1) (⟨false, (o.take p).drop i, (a.take q).drop j, (b.take y).drop k⟩ :: r)) (fun W h => HTri.out W (h.elim fun _ x => x.2.2)) HR9.out.drew)
                rintro _ w10 ⟨rfl, h10⟩
                clear HR9
                obtain ⟨g, hg0⟩ : ∃ g, g = (⟨false, (o.take p).drop i, (a.take q).drop j, (b.take y).drop k⟩ : Ck ByteArray) := ⟨_, rfl⟩
                have hgs : g.st = false := by rw [hg0]
                rw [← hg0] at h10 HGP
                clear hg0
                go_wp2_with fail
                go_ret2
                obtain ⟨cs, q1, q2, q3⟩ := h10
                rw [HCH.out, HE0.out, HEND.out, HGP.out]
                exact ⟨_, cs, rfl, own_base q1 HB7.out.size, q2.isC, HB7.out.trans (q3.mono HB7.out.size)⟩
              · have g1 : ¬ (i : Int) < (p : Int) := by omega
                have g2 : ¬ (j : Int) < (q : Int) := by omega
                have g3 : (k : Int) < (y : Int) := by omega
                obtain ⟨Bo, eo⟩ : ∃ Bo, sliced Ao i p co 1 = .slice Bo (p - i) (co - i) := ⟨_, rfl⟩
                obtain ⟨Ba, ea⟩ : ∃ Ba, sliced Aa j q ca 1 = .slice Ba (q - j) (ca - j) := ⟨_, rfl⟩
                obtain ⟨Bb, eb⟩ : ∃ Bb, sliced Ab k y cb 1 = .slice Bb (y - k) (cb - k) := ⟨_, rfl⟩
                have S1 : ∀ W : World, (Instr.slice 31 (.slice Ao o.length co) (some (.int .i64 (i : Int))) (some (.int .i64 (p : Int))) none).run Try.prog W = .ok (.slice Bo (p - i) (co - i)) W := fun W => by rw [← eo]; exact slice_run14 Ao o.length co i p hip (by omega) W
                have S2 : ∀ W : World, (Instr.slice 31 (.slice Aa a.length ca) (some (.int .i64 (j : Int))) (some (.int .i64 (q : Int))) none).run Try.prog W = .ok (.slice Ba (q - j) (ca - j)) W := fun W => by rw [← ea]; exact slice_run14 Aa a.length ca j q hjq (by omega) W
                have S3 : ∀ W : World, (Instr.slice 31 (.slice Ab b.length cb) (some (.int .i64 (k : Int))) (some (.int .i64 (y : Int))) none).run Try.prog W = .ok (.slice Bb (y - k) (cb - k)) W := fun W => by rw [← eb]; exact slice_run14 Ab b.length cb k y hky (by omega) W
                have hrd : Reads wr (false, .slice Bo (p - i) (co - i), .slice Ba (q - j) (ca - j), .slice Bb (y - k) (cb - k)) ⟨false, (o.take p).drop i, (a.take q).drop j, (b.take y).drop k⟩ := by
                  refine ⟨rfl, ⟨?_, ?_⟩, ⟨?_, ?_⟩, ⟨?_, ?_⟩⟩
                  · show Rd wr (.slice Bo (p - i) (co - i)) _
                    rw [← eo]; exact rd_sub (hsow) hip hpo lo_ HZO.out
                  · show Ty wr (.slice Bo (p - i) (co - i))
                    rw [← eo]; exact ty_sub (HTO7.out.keep hkpw)
                  · show Rd wr (.slice Ba (q - j) (ca - j)) _
                    rw [← ea]; exact rd_sub (hsaw) hjq hqa la_ HZA.out
                  · show Ty wr (.slice Ba (q - j) (ca - j))
                    rw [← ea]; exact ty_sub (HTA7.out.keep hkpw)
                  · show Rd wr (.slice Bb (y - k) (cb - k)) _
                    rw [← eb]; exact rd_sub (hsbw) hky hyb lb_ HZB.out
                  · show Ty wr (.slice Bb (y - k) (cb - k))
                    rw [← eb]; exact ty_sub (HTB7.out.keep hkpw)
                have HE := Lib.hid (HR.out.put (by omega) _ hrd)
                have hX2 : Below w7.heap.size w7 (wr.drew.alloc (.cells #[.bool false, .slice Bo (p - i) (co - i), .slice Ba (q - j) (ca - j), .slice Bb (y - k) (cb - k)] 33)) := hwr.drew.alloc hwr.size _
                have hwd := hwr.drew
                clear hrd eo ea eb
                go_wp2_with fail
                refine Rg.wp_only ?_ (gapReg _ (by kernel_rfl) _ gt (NT + 1) ct n p q y o.length co a.length ca b.length cb i j k (p - i) (co - i) (q - j) (ca - j) (y - k) (cb - k) wr e1 (Below w7.heap.size w7) HTri.out hwd Ao Aa Ab Bo Ba Bb _ (fun v8 W => Row w7 W v8 (⟨false, (o.take p).drop i, (a.take q).drop j, (b.take y).drop k⟩ :: r)) S1 S2 S3 hX2 HE.out)
                rintro _ w9 ⟨v9, rfl, h9⟩
                have HR9 := Lib.hid h9
                obtain ⟨av1, cv1, hv1⟩ := h9.len
                rw [List.length_cons] at hv1
                subst hv1
                clear h9 HE S1 S2 S3 hX2 hwd HR c0 c1 c2 g1 g2 g3
                go_wp2_with fail
                refine Rg.wp_only ?_ (triReg _ (by kernel_rfl) _ gt (NT + 1) ct n p q y w9 e1 (fun W => Row w7 W (.slice av1 (r.length + 1) cv1) (⟨false, (o.take p).drop i, (a.take q).drop j, (b.take y).drop k⟩ :: r)) (fun W h => HTri.out W (h.elim fun _ x => x.2.2)) HR9.out.drew)
                rintro _ w10 ⟨rfl, h10⟩
                clear HR9
                obtain ⟨g, hg0⟩ : ∃ g, g = (⟨false, (o.take p).drop i, (a.take q).drop j, (b.take y).drop k⟩ : Ck ByteArray) := ⟨_, rfl⟩
                have hgs : g.st = false := by rw [hg0]
                rw [← hg0] at h10 HGP
                clear hg0
                go_wp2_with fail
                go_ret2
                obtain ⟨cs, q1, q2, q3⟩ := h10
                rw [HCH.out, HE0.out, HEND.out, HGP.out]
                exact ⟨_, cs, rfl, own_base q1 HB7.out.size, q2.isC, HB7.out.trans (q3.mono HB7.out.size)⟩
          · have HGP : Hid (gapc o a b i j k p q y r = r) := gapc_no hgp
            have g1 : ¬ (i : Int) < (p : Int) := by omega
            have g2 : ¬ (j : Int) < (q : Int) := by omega
            have g3 : ¬ (k : Int) < (y : Int) := by omega
            go_wp2_with fail
            refine Rg.wp_only ?_ (triReg _ (by kernel_rfl) _ gt (NT + 1) ct n p q y wr e1 (fun W => Row w7 W (.slice av r.length cv) r) (fun W h => HTri.out W (h.elim fun _ x => x.2.2)) HR.out.drew)
            rintro _ w10 ⟨rfl, h10⟩
            clear HR c0 c1 c2 g1 g2 g3
            go_wp2_with fail
            go_ret2
            obtain ⟨cs, q1, q2, q3⟩ := h10
            rw [HCH.out, HE0.out, HEND.out, HGP.out]
            exact ⟨_, cs, rfl, own_base q1 HB7.out.size, q2.isC, HB7.out.trans (q3.mono HB7.out.size)⟩
end Go.Proofs.Ytnpobigombafoaa.Mg

namespace Go.Proofs.Ytnpobigombafoaa.Mg
open Go.RowKit Go.ChangeShapes Go.WideShapes Tx Um Ud Aq Km Kd Lm Ln
set_option linter.unusedVariables false
set_option maxRecDepth 100000 in
set_option maxHeartbeats 4000000 in
theorem conflReg (ops : Array Oper) (hops : ops = (Rg.opsOf Try.f15 14)) (id : Nat) (gv nl cl nr cr : Nat) (Al Ar : Option Addr) (S x1 x2 : ByteArray) {u0 u1 u2 u3 u4 u5 u6 u7 u8 u9 u10 u12 u13 u15 u16 u17 u18 u19 u20 u21 u22 u23 u24 u25 u26 u27 u28 u29 u30 u31 u32 u33 u34 u35 u36 u37 u38 u39 u40 u41 u42 u43 u44 u45 u46 u47 u48 u49 u50 u51 u52 u53 u54 u55 u56 u57 u58 u59 u60 u61 u62 u63 u64 u65 u66 u67 u68 u69 u70 u71 u72 u73 u74 u75 u76 u77 u78 u79 u80 u81 u82 u83 : Value} (w : World) (X : World → Prop) (Y1 Y2 : World → Value → Prop)
    (hX : ∀ W, X W → W.cell? ⟨gv, 2, none⟩ = some (.slice Al nl cl) ∧ W.cell? ⟨gv, 3, none⟩ = some (.slice Ar nr cr)) (hw : X w.drew)
    (hC1 : ∀ W, X W → Calls Try.prog 32 #[.slice Al nl cl] W fun e w' => ∃ v, e = .returned v ∧ X w' ∧ Y1 w' v)
    (hJ1 : ∀ W v, X W → Y1 W v → Calls Try.prog 31 #[v] W fun e w' => e = .returned (.string x1) ∧ X w')
    (hC2 : ∀ W, X W → Calls Try.prog 32 #[.slice Ar nr cr] W fun e w' => ∃ v, e = .returned v ∧ X w' ∧ Y2 w' v)
    (hJ2 : ∀ W v, X W → Y2 W v → Calls Try.prog 31 #[v] W fun e w' => e = .returned (.string x2) ∧ X w')
    (hs : S.size + x1.size + x2.size + 24 ≤ 9223372036854775807) :
    (Code.region id ops true).wp Try.prog (Rg.Only fun a' w' => ∃ v1 v2 : Value, a' = ⟨#[u0, u1, u2, u3, u4, u5, u6, u7, u8, u9, u10, (.string (S ++ ⟨#[60, 60, 60, 60, 60, 60, 60, 10]⟩ ++ x1 ++ ⟨#[61, 61, 61, 61, 61, 61, 61, 10]⟩ ++ x2 ++ ⟨#[62, 62, 62, 62, 62, 62, 62, 10]⟩)), u12, u13, (.pointer (some ⟨gv, 0, none⟩)), u15, u16, u17, u18, u19, u20, u21, u22, u23, u24, u25, u26, u27, u28, u29, u30, u31, u32, u33, u34, u35, u36, u37, u38, u39, u40, u41, u42, u43, u44, u45, u46, u47, u48, u49, u50, u51, u52, u53, u54, u55, u56, u57, u58, u59, u60, u61, u62, u63, u64, u65, u66, u67, (.string S), (.string (S ++ ⟨#[60, 60, 60, 60, 60, 60, 60, 10]⟩)), (.pointer (some ⟨gv, 2, none⟩)), (.slice Al nl cl), v1, (.string x1), (.string (S ++ ⟨#[60, 60, 60, 60, 60, 60, 60, 10]⟩ ++ x1)), (.string (S ++ ⟨#[60, 60, 60, 60, 60, 60, 60, 10]⟩ ++ x1 ++ ⟨#[61, 61, 61, 61, 61, 61, 61, 10]⟩)), (.pointer (some ⟨gv, 3, none⟩)), (.slice Ar nr cr), v2, (.string x2), (.string (S ++ ⟨#[60, 60, 60, 60, 60, 60, 60, 10]⟩ ++ x1 ++ ⟨#[61, 61, 61, 61, 61, 61, 61, 10]⟩ ++ x2)), (.string (S ++ ⟨#[60, 60, 60, 60, 60, 60, 60, 10]⟩ ++ x1 ++ ⟨#[61, 61, 61, 61, 61, 61, 61, 10]⟩ ++ x2 ++ ⟨#[62, 62, 62, 62, 62, 62, 62, 10]⟩)), u82, u83], []⟩ ∧ X w') ⟨#[u0, u1, u2, u3, u4, u5, u6, u7, u8, u9, u10, (.string S), u12, u13, (.pointer (some ⟨gv, 0, none⟩)), u15, u16, u17, u18, u19, u20, u21, u22, u23, u24, u25, u26, u27, u28, u29, u30, u31, u32, u33, u34, u35, u36, u37, u38, u39, u40, u41, u42, u43, u44, u45, u46, u47, u48, u49, u50, u51, u52, u53, u54, u55, u56, u57, u58, u59, u60, u61, u62, u63, u64, u65, u66, u67, u68, u69, u70, u71, u72, u73, u74, u75, u76, u77, u78, u79, u80, u81, u82, u83], []⟩ w := by
  subst hops
  have hNS : Region.noSelect (Rg.opsOf Try.f15 14) = true := by kernel_rfl
  refine wp_region_held_drew (S := X) (by kernel_rfl) hw (fun hHeld => ?_)
  rw [show (Rg.opsOf Try.f15 14).size = 15 by kernel_rfl]
  refine Rg.take (ops := (Rg.opsOf Try.f15 14)) 0 (some 68) ((.string S)) hNS (by kernel_rfl) (by kernel_rfl) (by kernel_rfl) (by kernel_rfl) (by kernel_rfl) hHeld (Rg.y_move (x := (Operand.tmp 11)) (Or.inl (by kernel_rfl)) (by kernel_rfl)) ?_
  refine Rg.take (ops := (Rg.opsOf Try.f15 14)) 1 (some 69) ((.string (S ++ ⟨#[60, 60, 60, 60, 60, 60, 60, 10]⟩))) hNS (by kernel_rfl) (by kernel_rfl) (by kernel_rfl) (by kernel_rfl) (by kernel_rfl) hHeld (Rg.y_bin (b := BinOp.add) (T := 9) (R' := 9) (x := (Operand.tmp 68)) (y := (Operand.const (Value.string { data := #[60, 60, 60, 60, 60, 60, 60, 10] }))) (vx := (.string S)) (vy := (Value.string { data := #[60, 60, 60, 60, 60, 60, 60, 10] })) (by kernel_rfl) (by kernel_rfl) (by kernel_rfl) ?_) ?_
  · (intro W hSw; clear hSw hHeld; go_simp <;> omega)
  refine Rg.take (ops := (Rg.opsOf Try.f15 14)) 2 (some 70) ((.pointer (some ⟨gv, 2, none⟩))) hNS (by kernel_rfl) (by kernel_rfl) (by kernel_rfl) (by kernel_rfl) (by kernel_rfl) hHeld (Rg.y_field (T := 33) (k := 2) (x := (Operand.tmp 14)) (vx := (.pointer (some ⟨gv, 0, none⟩))) (by kernel_rfl) (by kernel_rfl) ?_) ?_
  · (intro W hSw; clear hSw hHeld; go_simp)
  refine Rg.take (ops := (Rg.opsOf Try.f15 14)) 3 (some 71) ((.slice Al nl cl)) hNS (by kernel_rfl) (by kernel_rfl) (by kernel_rfl) (by kernel_rfl) (by kernel_rfl) hHeld (Rg.y_load (T := 31) (x := (Operand.tmp 70)) (vx := (.pointer (some ⟨gv, 2, none⟩))) (by kernel_rfl) (by kernel_rfl) ?_) ?_
  · (intro W hSw; obtain ⟨s0, s1⟩ := hX _ hSw; clear hSw hHeld; go_simp)
  refine Rg.take (ops := (Rg.opsOf Try.f15 14)) 8 (some 76) ((.pointer (some ⟨gv, 3, none⟩))) hNS (by kernel_rfl) (by kernel_rfl) (by kernel_rfl) (by kernel_rfl) (by kernel_rfl) hHeld (Rg.y_field (T := 33) (k := 3) (x := (Operand.tmp 14)) (vx := (.pointer (some ⟨gv, 0, none⟩))) (by kernel_rfl) (by kernel_rfl) ?_) ?_
  · (intro W hSw; clear hSw hHeld; go_simp)
  refine Rg.take (ops := (Rg.opsOf Try.f15 14)) 9 (some 77) ((.slice Ar nr cr)) hNS (by kernel_rfl) (by kernel_rfl) (by kernel_rfl) (by kernel_rfl) (by kernel_rfl) hHeld (Rg.y_load (T := 31) (x := (Operand.tmp 76)) (vx := (.pointer (some ⟨gv, 3, none⟩))) (by kernel_rfl) (by kernel_rfl) ?_) ?_
  · (intro W hSw; obtain ⟨s0, s1⟩ := hX _ hSw; clear hSw hHeld; go_simp)
  refine Rg.call (ops := (Rg.opsOf Try.f15 14)) (fn := Try.f32) (xs := #[Operand.tmp 71]) (ats := #[31]) 4 (some 72) 32 #[(.slice Al nl cl)] (by kernel_rfl) (by kernel_rfl) (by kernel_rfl) (by kernel_rfl) (by kernel_rfl) Try.func32 (by kernel_rfl) (by kernel_rfl) (by kernel_rfl) ?_
  refine (hC1 _ hHeld).mono ?_
  rintro e z1 ⟨v1, rfl, k1, y1⟩
  refine ⟨_, rfl, k1, fun hHeld => ?_⟩
  refine Rg.call (ops := (Rg.opsOf Try.f15 14)) (fn := Try.f31) (xs := #[Operand.tmp 72]) (ats := #[31]) 5 (some 73) 31 #[v1] (by kernel_rfl) (by kernel_rfl) (by kernel_rfl) (by kernel_rfl) (by kernel_rfl) Try.func31 (by kernel_rfl) (by kernel_rfl) (by kernel_rfl) ?_
  refine (hJ1 _ _ hHeld y1).mono ?_
  rintro e t1 ⟨rfl, k1⟩
  refine ⟨_, rfl, k1, fun hHeld => ?_⟩
  refine Rg.take (ops := (Rg.opsOf Try.f15 14)) 6 (some 74) ((.string (S ++ ⟨#[60, 60, 60, 60, 60, 60, 60, 10]⟩ ++ x1))) hNS (by kernel_rfl) (by kernel_rfl) (by kernel_rfl) (by kernel_rfl) (by kernel_rfl) hHeld (Rg.y_bin (b := BinOp.add) (T := 9) (R' := 9) (x := (Operand.tmp 69)) (y := (Operand.tmp 73)) (vx := (.string (S ++ ⟨#[60, 60, 60, 60, 60, 60, 60, 10]⟩))) (vy := (.string x1)) (by kernel_rfl) (by kernel_rfl) (by kernel_rfl) ?_) ?_
  · (intro W hSw; clear hSw hHeld; go_simp <;> omega)
  refine Rg.take (ops := (Rg.opsOf Try.f15 14)) 7 (some 75) ((.string (S ++ ⟨#[60, 60, 60, 60, 60, 60, 60, 10]⟩ ++ x1 ++ ⟨#[61, 61, 61, 61, 61, 61, 61, 10]⟩))) hNS (by kernel_rfl) (by kernel_rfl) (by kernel_rfl) (by kernel_rfl) (by kernel_rfl) hHeld (Rg.y_bin (b := BinOp.add) (T := 9) (R' := 9) (x := (Operand.tmp 74)) (y := (Operand.const (Value.string { data := #[61, 61, 61, 61, 61, 61, 61, 10] }))) (vx := (.string (S ++ ⟨#[60, 60, 60, 60, 60, 60, 60, 10]⟩ ++ x1))) (vy := (Value.string { data := #[61, 61, 61, 61, 61, 61, 61, 10] })) (by kernel_rfl) (by kernel_rfl) (by kernel_rfl) ?_) ?_
  · (intro W hSw; clear hSw hHeld; go_simp <;> omega)
  refine Rg.call (ops := (Rg.opsOf Try.f15 14)) (fn := Try.f32) (xs := #[Operand.tmp 77]) (ats := #[31]) 10 (some 78) 32 #[(.slice Ar nr cr)] (by kernel_rfl) (by kernel_rfl) (by kernel_rfl) (by kernel_rfl) (by kernel_rfl) Try.func32 (by kernel_rfl) (by kernel_rfl) (by kernel_rfl) ?_
  refine (hC2 _ hHeld).mono ?_
  rintro e z2 ⟨v2, rfl, k2, y2⟩
  refine ⟨_, rfl, k2, fun hHeld => ?_⟩
  refine Rg.call (ops := (Rg.opsOf Try.f15 14)) (fn := Try.f31) (xs := #[Operand.tmp 78]) (ats := #[31]) 11 (some 79) 31 #[v2] (by kernel_rfl) (by kernel_rfl) (by kernel_rfl) (by kernel_rfl) (by kernel_rfl) Try.func31 (by kernel_rfl) (by kernel_rfl) (by kernel_rfl) ?_
  refine (hJ2 _ _ hHeld y2).mono ?_
  rintro e t2 ⟨rfl, k2⟩
  refine ⟨_, rfl, k2, fun hHeld => ?_⟩
  refine Rg.take (ops := (Rg.opsOf Try.f15 14)) 12 (some 80) ((.string (S ++ ⟨#[60, 60, 60, 60, 60, 60, 60, 10]⟩ ++ x1 ++ ⟨#[61, 61, 61, 61, 61, 61, 61, 10]⟩ ++ x2))) hNS (by kernel_rfl) (by kernel_rfl) (by kernel_rfl) (by kernel_rfl) (by kernel_rfl) hHeld (Rg.y_bin (b := BinOp.add) (T := 9) (R' := 9) (x := (Operand.tmp 75)) (y := (Operand.tmp 79)) (vx := (.string (S ++ ⟨#[60, 60, 60, 60, 60, 60, 60, 10]⟩ ++ x1 ++ ⟨#[61, 61, 61, 61, 61, 61, 61, 10]⟩))) (vy := (.string x2)) (by kernel_rfl) (by kernel_rfl) (by kernel_rfl) ?_) ?_
  · (intro W hSw; clear hSw hHeld; go_simp <;> omega)
  refine Rg.take (ops := (Rg.opsOf Try.f15 14)) 13 (some 81) ((.string (S ++ ⟨#[60, 60, 60, 60, 60, 60, 60, 10]⟩ ++ x1 ++ ⟨#[61, 61, 61, 61, 61, 61, 61, 10]⟩ ++ x2 ++ ⟨#[62, 62, 62, 62, 62, 62, 62, 10]⟩))) hNS (by kernel_rfl) (by kernel_rfl) (by kernel_rfl) (by kernel_rfl) (by kernel_rfl) hHeld (Rg.y_bin (b := BinOp.add) (T := 9) (R' := 9) (x := (Operand.tmp 80)) (y := (Operand.const (Value.string { data := #[62, 62, 62, 62, 62, 62, 62, 10] }))) (vx := (.string (S ++ ⟨#[60, 60, 60, 60, 60, 60, 60, 10]⟩ ++ x1 ++ ⟨#[61, 61, 61, 61, 61, 61, 61, 10]⟩ ++ x2))) (vy := (Value.string { data := #[62, 62, 62, 62, 62, 62, 62, 10] })) (by kernel_rfl) (by kernel_rfl) (by kernel_rfl) ?_) ?_
  · (intro W hSw; clear hSw hHeld; go_simp <;> omega)
  refine Rg.take (ops := (Rg.opsOf Try.f15 14)) 14 (some 11) ((.string (S ++ ⟨#[60, 60, 60, 60, 60, 60, 60, 10]⟩ ++ x1 ++ ⟨#[61, 61, 61, 61, 61, 61, 61, 10]⟩ ++ x2 ++ ⟨#[62, 62, 62, 62, 62, 62, 62, 10]⟩))) hNS (by kernel_rfl) (by kernel_rfl) (by kernel_rfl) (by kernel_rfl) (by kernel_rfl) hHeld (Rg.y_move (x := (Operand.tmp 81)) (Or.inr (by kernel_rfl)) (by kernel_rfl)) ?_
  refine Rg.done (ops := (Rg.opsOf Try.f15 14)) (by kernel_rfl) ?_
  exact ⟨v1, v2, by kernel_rfl, hHeld⟩
end Go.Proofs.Ytnpobigombafoaa.Mg

namespace Go.Proofs.Ytnpobigombafoaa.Ln
open Go.RowKit Tx Lm
set_option linter.unusedVariables false
set_option maxRecDepth 100000 in
set_option maxHeartbeats 1000000 in
theorem refJoin_any (a : Option Addr) (n c : Nat) (l : List ByteArray) (w : World) (ha : Strs w a n l) (hn : n ≤ 9223372036854775807) (hsum : (cat l).size ≤ 9223372036854775807) :
    Calls Try.prog 31 #[.slice a n c] w fun e w' => e = .returned (.string (cat l)) ∧ w = w' := by
  have hln := ha.1
  have hdone : cat (l.take n) = cat l := by rw [← hln, List.take_length]
  go_enter Try.func31, Try.ntmps31
  go_wp2_with fail
  go_loop [3, 4] (fun x i => ∃ k : Nat, k ≤ n ∧ i = .int .i64 k ∧ x = .string (cat (l.take k))) (fun _ i => n - (intOf i).toNat)
  case atStart => exact ⟨0, Nat.zero_le _, rfl, rfl⟩
  case round =>
    obtain ⟨k, hk, rfl, rfl⟩ := hrel
    by_cases hlt : k < n
    · obtain ⟨bs, off, rfl, hbs, hc⟩ := ha.2.resolve_left (by omega)
      obtain ⟨S, hS⟩ : ∃ S, S = l[k] := ⟨_, rfl⟩
      have hcell : w.cell? ⟨bs, off + k, none⟩ = some (.string S) := hc k S (by rw [hS]; exact List.getElem?_eq_getElem (by omega))
      have hstep := cat_take l k (by omega)
      rw [← hS] at hstep
      have hle := cat_take_le l (k + 1)
      rw [hstep, ByteArray.size_append] at hle
      obtain ⟨A, hA⟩ : ∃ A, A = cat (l.take k) := ⟨_, rfl⟩
      rw [← hA] at hstep hle ⊢
      have HS := Lib.hid hstep
      have hsz : A.size + S.size ≤ 9223372036854775807 := by omega
      have hlt' : (k : Int) < (n : Int) := by omega
      clear hS hstep hle hA hc hdone hln
      go_wp2_with fail
      go_round
      case rel => exact ⟨k + 1, by omega, by go_num, by rw [HS.out]⟩
      case measure => simp [intOf]; omega
    · obtain rfl : k = n := by omega
      rw [hdone]
      clear hdone hln
      obtain ⟨C, hC⟩ : ∃ C, C = cat l := ⟨_, rfl⟩
      rw [← hC]
      have HD := Lib.hid hC
      clear hC
      go_wp2_with fail
      go_ret
      exact ⟨by rw [← HD.out]; rfl, rfl⟩
def CK (l : List ByteArray) (k : Nat) (pre : List ByteArray) : Prop := pre.length = k ∧ pre = if k = l.length then clt l else l.take k
theorem ck_start (l : List ByteArray) : CK l 0 [] := by
  refine ⟨rfl, ?_⟩
  split
  · rename_i h; rw [List.length_eq_zero_iff.1 h.symm]; rfl
  · rfl
theorem ck_mid {l : List ByteArray} {k : Nat} {pre : List ByteArray} (h : CK l k pre) (hk : k < l.length) (h2 : k + 1 ≠ l.length) : CK l (k + 1) (pre ++ [l[k]]) := by
  obtain ⟨h1, h3⟩ := h
  rw [if_neg (by omega)] at h3
  exact ⟨by simp [h1], by rw [if_neg h2, h3, List.take_succ_eq_append_getElem hk]⟩
theorem ck_last {l : List ByteArray} {k : Nat} {pre : List ByteArray} (h : CK l k pre) (hk : k < l.length) (h2 : k + 1 = l.length) : CK l (k + 1) (pre ++ [clot l[k]]) := by
  obtain ⟨h1, h3⟩ := h
  rw [if_neg (by omega)] at h3
  refine ⟨by simp [h1], ?_⟩
  rw [if_pos h2, h3]
  have e : l = l.take k ++ [l[k]] := by rw [← List.take_succ_eq_append_getElem hk, h2, List.take_length]
  conv => rhs; rw [e]
  rw [clt_snoc]
theorem ck_end {l : List ByteArray} {k : Nat} {pre : List ByteArray} (h : CK l k pre) (hk : k = l.length) : clt l = pre := by
  rw [h.2, if_pos hk]
theorem ends_at (s : ByteArray) (h : 0 < s.size) : ends s.data.toList = decide (s[s.size - 1] = 10) := by
  rw [ends_get _ (by rw [len_l]; exact h)]
  simp only [len_l]
  rfl
set_option maxRecDepth 100000 in
set_option maxHeartbeats 2000000 in
theorem refClosed_any (a : Option Addr) (n c : Nat) (l : List ByteArray) (w : World) (ha : Strs w a n l) (hn : n ≤ 8796093022207) (hsz0 : ∀ (k : Nat) (x : ByteArray), l[k]? = some x → x.size ≤ 140737488355328) :
    Calls Try.prog 32 #[.slice a n c] w (ListTo (clt l) w) := by
  obtain ⟨i0, hi, hz0, hz1, hz2⟩ := info_parts info9
  have hln := ha.1
  have HA := Lib.hid ha
  clear ha
  go_enter Try.func32, Try.ntmps32
  go_wp2_with fail
  go_loopw [3, 4, 5] (fun v i _ wr => ∃ (pre : List ByteArray) (k : Nat), k ≤ n ∧ i = .int .i64 k ∧ Hid (CK l k pre) ∧ Texts wr w.heap.size v pre ∧ Below w.heap.size w wr) (fun _ i _ _ => n - (intOf i).toNat)
  case atStart => exact ⟨[], 0, Nat.zero_le _, rfl, ck_start l, World.ownsRow_nil _ _ _ _, Below.refl _ _⟩
  case round =>
    obtain ⟨pre, k, hk, rfl, HC, htx, hb⟩ := hrel
    have hsz := hb.size
    have hpl := HC.out.1
    by_cases hlt : k < n
    · obtain ⟨bs, off, rfl, hbs, hc⟩ := HA.out.2.resolve_left (by omega)
      obtain ⟨S, hS⟩ : ∃ S, S = l[k] := ⟨_, rfl⟩
      have hcell : wr.cell? ⟨bs, off + k, none⟩ = some (.string S) := (hb.cell (p := ⟨bs, off + k, none⟩) hbs).trans (hc k S (by rw [hS]; exact List.getElem?_eq_getElem (by omega)))
      have hss : S.size ≤ 140737488355328 := hsz0 k S (by rw [hS]; exact List.getElem?_eq_getElem (by omega))
      have hlt' : (k : Int) < (n : Int) := by omega
      have hown := htx
      unfold Texts at hown
      by_cases hlast : k + 1 = n
      · have e5 : ((k : Int) == (n : Int) - 1) = true := beq_iff_eq.2 (by omega)
        have HN := Lib.hid (ck_last HC.out (by omega) (by omega))
        rw [← hS] at HN
        by_cases h0 : S.size = 0
        · have HK : clot S = S ++ ⟨#[10]⟩ := by
            unfold clot
            rw [if_neg]
            rw [List.length_eq_zero_iff.1 (by rw [len_l]; exact h0 : S.data.toList.length = 0)]
            simp [ends]
          rw [HK] at HN
          have h0' : ((S.size : Int) == 0) = true := beq_iff_eq.2 (by omega)
          clear HK
          have hpn : pre.length ≤ 8796093022207 := by omega
          clear hS hc hpl hln htx HC
          go_wp2_with (at_builtin; refine wpList_append_own _ rfl _ _ 31 rfl w.heap.size 9 i0 (.string ⟨#[]⟩) 1 16 Try.underlying31 hi hz0 hz1 hz2 rfl (by decide) _ _ _ rfl (hown.alloc _) ⟨wr.heap.size, 0, none⟩ 1 1 [sv (S ++ ⟨#[10]⟩)] rfl rfl ?c1 ?c2 ?c3 ?c4 ?c5 ?_)
          case c1 => exact cell_one_new _ _ _
          case c2 => exact sv_one [S ++ ⟨#[10]⟩]
          case c3 => unfold maxLen; omega
          case c4 => omega
          case c5 => simp; omega
          intro v' w2 hown' hgrow _
          have hb3 := below_step hb hown hgrow
          have htx2 : Texts w2 w.heap.size v' (pre ++ [S ++ ⟨#[10]⟩]) := by
            unfold Texts
            rw [List.length_append, List.map_append]
            exact hown'
          clear hown hown' hgrow hb
          go_wp2_with fail
          go_roundw
          case rel => exact ⟨pre ++ [S ++ ⟨#[10]⟩], k + 1, by omega, by go_num, HN, htx2, hb3⟩
          case measure => simp only [intOf]; omega
        · have hpos : 0 < S.size := by omega
          have h0' : ((S.size : Int) == 0) = false := beq_eq_false_iff_ne.2 (by omega)
          have e6 : ((S.size : Int) - 1).toNat = S.size - 1 := by omega
          have hp' : (0 : Int) < S.size := by omega
          have hE := ends_at S hpos
          by_cases hc10 : S[S.size - 1] = 10
          · have HK : clot S = S := by
              unfold clot
              rw [if_pos (by rw [hE]; exact decide_eq_true hc10)]
            rw [HK] at HN
            have e7 : ((S[S.size - 1].toNat : Int) == 10) = true := by simp [hc10]
            have e8 : (!((S[S.size - 1].toNat : Int) == 10)) = false := by rw [e7]; rfl
            clear HK hE hc10
            have hpn : pre.length ≤ 8796093022207 := by omega
            clear hS hc hpl hln htx HC
            go_wp2_with (at_builtin; refine wpList_append_own _ rfl _ _ 31 rfl w.heap.size 9 i0 (.string ⟨#[]⟩) 1 16 Try.underlying31 hi hz0 hz1 hz2 rfl (by decide) _ _ _ rfl (hown.alloc _) ⟨wr.heap.size, 0, none⟩ 1 1 [sv (S)] rfl rfl ?c1 ?c2 ?c3 ?c4 ?c5 ?_)
            case c1 => exact cell_one_new _ _ _
            case c2 => exact sv_one [S]
            case c3 => unfold maxLen; omega
            case c4 => omega
            case c5 => simp; omega
            intro v' w2 hown' hgrow _
            have hb3 := below_step hb hown hgrow
            have htx2 : Texts w2 w.heap.size v' (pre ++ [S]) := by
              unfold Texts
              rw [List.length_append, List.map_append]
              exact hown'
            clear hown hown' hgrow hb
            go_wp2_with fail
            go_roundw
            case rel => exact ⟨pre ++ [S], k + 1, by omega, by go_num, HN, htx2, hb3⟩
            case measure => simp only [intOf]; omega
          · have HK : clot S = S ++ ⟨#[10]⟩ := by
              unfold clot
              rw [if_neg (by rw [hE]; simpa using hc10)]
            rw [HK] at HN
            have e7 : ((S[S.size - 1].toNat : Int) == 10) = false := ne_10 hc10
            have e8 : (!((S[S.size - 1].toNat : Int) == 10)) = true := by rw [e7]; rfl
            clear HK hE hc10
            have hpn : pre.length ≤ 8796093022207 := by omega
            clear hS hc hpl hln htx HC
            go_wp2_with (at_builtin; refine wpList_append_own _ rfl _ _ 31 rfl w.heap.size 9 i0 (.string ⟨#[]⟩) 1 16 Try.underlying31 hi hz0 hz1 hz2 rfl (by decide) _ _ _ rfl (hown.alloc _) ⟨wr.heap.size, 0, none⟩ 1 1 [sv (S ++ ⟨#[10]⟩)] rfl rfl ?c1 ?c2 ?c3 ?c4 ?c5 ?_)
            case c1 => exact cell_one_new _ _ _
            case c2 => exact sv_one [S ++ ⟨#[10]⟩]
            case c3 => unfold maxLen; omega
            case c4 => omega
            case c5 => simp; omega
            intro v' w2 hown' hgrow _
            have hb3 := below_step hb hown hgrow
            have htx2 : Texts w2 w.heap.size v' (pre ++ [S ++ ⟨#[10]⟩]) := by
              unfold Texts
              rw [List.length_append, List.map_append]
              exact hown'
            clear hown hown' hgrow hb
            go_wp2_with fail
            go_roundw
            case rel => exact ⟨pre ++ [S ++ ⟨#[10]⟩], k + 1, by omega, by go_num, HN, htx2, hb3⟩
            case measure => simp only [intOf]; omega
      · have e5 : ((k : Int) == (n : Int) - 1) = false := beq_eq_false_iff_ne.2 (by omega)
        have HN := Lib.hid (ck_mid HC.out (by omega) (by omega))
        rw [← hS] at HN
        have hpn : pre.length ≤ 8796093022207 := by omega
        clear hS hc hpl hln htx HC
        go_wp2_with (at_builtin; refine wpList_append_own _ rfl _ _ 31 rfl w.heap.size 9 i0 (.string ⟨#[]⟩) 1 16 Try.underlying31 hi hz0 hz1 hz2 rfl (by decide) _ _ _ rfl (hown.alloc _) ⟨wr.heap.size, 0, none⟩ 1 1 [sv S] rfl rfl ?c1 ?c2 ?c3 ?c4 ?c5 ?_)
        case c1 => exact cell_one_new _ _ _
        case c2 => exact sv_one [S]
        case c3 => unfold maxLen; omega
        case c4 => omega
        case c5 => simp; omega
        intro v' w2 hown' hgrow _
        have hb3 := below_step hb hown hgrow
        have htx2 : Texts w2 w.heap.size v' (pre ++ [S]) := by
          unfold Texts
          rw [List.length_append, List.map_append]
          exact hown'
        clear hown hown' hgrow hb
        go_wp2_with fail
        go_roundw
        case rel => exact ⟨pre ++ [S], k + 1, by omega, by go_num, HN, htx2, hb3⟩
        case measure => simp only [intOf]; omega
    · have HE := Lib.hid (ck_end HC.out (by omega))
      have hlt' : ¬ (k : Int) < (n : Int) := by omega
      clear HC hpl hln
      go_wp2_with fail
      go_ret
      unfold ListTo
      rw [HE.out]
      exact ⟨_, rfl, htx, hb⟩
end Go.Proofs.Ytnpobigombafoaa.Ln

namespace Go.Proofs.Ytnpobigombafoaa.Ud
open Go.RowKit Tx Um Aq
set_option linter.unusedVariables false
def SameT (la lb : List ByteArray) (w : World) (e : Ending) (w' : World) : Prop := ∃ B, (B = true ↔ la = lb) ∧ e = .returned (.bool B) ∧ Below w.heap.size w w'
set_option maxRecDepth 100000 in
set_option maxHeartbeats 1000000 in
theorem same_any (A B : Option Addr) (ca cb : Nat) (a b : List ByteArray) (w : World) (hA : Strs w A a.length a) (hB : Strs w B b.length b) (hn : a.length ≤ 9223372036854775806) (hm : b.length ≤ 9223372036854775806) :
    Calls Try.prog 17 #[.slice A a.length ca, .slice B b.length cb] w (SameT a b w) := by
  have HAS := Lib.hid hA
  have HBS := Lib.hid hB
  obtain ⟨m, hm'⟩ : ∃ m, m = a.length := ⟨_, rfl⟩
  obtain ⟨n, hn'⟩ : ∃ n, n = b.length := ⟨_, rfl⟩
  rw [← hm'] at hn ⊢
  rw [← hn'] at hm ⊢
  have HM := Lib.hid hm'
  have HN := Lib.hid hn'
  clear hA hB hm' hn'
  by_cases hmn : m = n
  · have e0 : ((m : Int) == n) = true := beq_iff_eq.2 (by omega)
    have hmn' : (m : Int) = (n : Int) := by omega
    go_enter Try.func17, Try.ntmps17
    go_wp2_with fail
    go_loopw [5] (fun i wr => ∃ k : Nat, k ≤ m ∧ i = .int .i64 k ∧ Hid (a.take k = b.take k) ∧ Below w.heap.size w wr) (fun i _ => m - (intOf i).toNat)
    case atStart => exact ⟨0, Nat.zero_le _, rfl, rfl, Below.refl _ _⟩
    case round =>
      obtain ⟨k, hk, rfl, hT, hW⟩ := hrel
      by_cases hlt : k < m
      · have hka : k < a.length := by rw [← HM.out]; exact hlt
        have hkb : k < b.length := by rw [← HN.out]; omega
        obtain ⟨ba, oa, rfl, c1⟩ := strs_cell HAS.out hka hW
        obtain ⟨bb, ob, rfl, c2⟩ := strs_cell HBS.out hkb hW
        obtain ⟨S, hS⟩ : ∃ S, S = a[k] := ⟨_, rfl⟩
        obtain ⟨T, hT0⟩ : ∃ T, T = b[k] := ⟨_, rfl⟩
        rw [← hS] at c1
        rw [← hT0] at c2
        have hlt1 : (k : Int) < (m : Int) := by omega
        have hlt2 : (k : Int) < (n : Int) := by omega
        by_cases he : S = T
        · have e1 : (S.toList == T.toList) = true := by rw [he]; exact beq_self_eq_true _
          have HNX : Hid (a.take (k + 1) = b.take (k + 1)) := by
            show _ = _
            rw [List.take_succ_eq_append_getElem hka, List.take_succ_eq_append_getElem hkb, hT.out, ← hS, ← hT0, he]
          clear hS hT0 he hT hka hkb
          go_wp2_with fail
          go_quiet (fail)
          go_wp2_with fail
          go_roundw
          case rel => exact ⟨k + 1, by omega, by go_num, HNX, below_drewN hW _⟩
          case measure => simp [intOf]; omega
        · have e1 : (S.toList == T.toList) = false := bytes_ne he
          have HE : Hid (a ≠ b) := fun h => he (by subst h; rw [hS, hT0])
          clear hS hT0 he hT hka hkb
          go_wp2_with fail
          go_quiet (fail)
          go_wp2_with fail
          go_ret
          exact ⟨false, Iff.intro (fun h => by cases h) (fun h => absurd h HE.out), rfl, below_drewN hW _⟩
      · have hkm : k = m := by omega
        have h := hT.out
        rw [List.take_of_length_le (by rw [← HM.out]; omega), List.take_of_length_le (by rw [← HN.out]; omega)] at h
        have HE := Lib.hid h
        clear hT h
        go_wp2_with fail
        go_ret
        exact ⟨true, Iff.intro (fun _ => HE.out) (fun _ => rfl), rfl, hW⟩
  · have e0 : ((m : Int) == n) = false := beq_eq_false_iff_ne.2 (by omega)
    have HE : Hid (a ≠ b) := fun h => hmn (by rw [HM.out, HN.out, h])
    clear hmn
    go_enter Try.func17, Try.ntmps17
    go_wp2
    go_ret
    exact ⟨false, Iff.intro (fun h => by cases h) (fun h => absurd h HE.out), rfl, Below.refl _ _⟩
end Go.Proofs.Ytnpobigombafoaa.Ud
