/- Texts of this seat, one behind the other. -/
import Derived.Test.YtjdfffkkpbabpaaGreatT5
import Derived.Laws.OwnMore
namespace Go.Proofs.YtjdfffkkpbabpaaGreat.Tb
open Go.RowKit Tx Pm Dk Wm Wr Wl Pl
set_option linter.unusedVariables false
set_option linter.unusedSimpArgs false
set_option linter.unnecessarySimpa false
abbrev JnT (b j : Nat) (q : ByteArray) := Jn (ImpAt b) 137 b j q
structure TAt (b j t m : Nat) (p q : ByteArray) (Fj : Nat → Prop) (w : World) (F : Nat → Prop) (x : Tst) : Prop where
  jn : JnT b j q w Fj x.j
  blk : w.heap[t]? = some (.cells #[.pointer (some ⟨b, 0, none⟩), .string p, .pointer (some ⟨j, 0, none⟩), .map (some m)] 70 (0, 0))
  rows : Mo w m x.L
  off : ¬ Fj t ∧ ¬ Fj m
  foot : ∀ i, F i ↔ Fj i ∨ i = t ∨ i = m
  rises : Rises x.L
  plain : Plain x.L
def Tn (b j t m : Nat) (p q : ByteArray) (w : World) (F : Nat → Prop) (x : Tst) : Prop := ∃ Fj, TAt b j t m p q Fj w F x
section
variable {b j t m : Nat} {p q : ByteArray} {Fj F : Nat → Prop} {w w1 : World} {x : Tst}
theorem TAt.tm (h : TAt b j t m p q Fj w F x) : t ≠ m := fun e => h.rows.nb (e ▸ h.blk)
theorem TAt.lt (h : TAt b j t m p q Fj w F x) : ∀ i, F i → i < w.heap.size := fun i hi => by
  rcases (h.foot i).1 hi with h1 | rfl | rfl
  · exact (jn_kind (imp_kind b) _ b j q).1 h.jn i h1
  · exact (Array.getElem?_eq_some_iff.1 h.blk).1
  · exact h.rows.lt
theorem TAt.kept (h : TAt b j t m p q Fj w F x) (hk : ∀ i, F i → w1.heap[i]? = w.heap[i]?) : TAt b j t m p q Fj w1 F x :=
  ⟨(jn_kind (imp_kind b) _ b j q).2 h.jn (fun i hi => hk i ((h.foot i).2 (.inl hi))), (hk t ((h.foot t).2 (.inr (.inl rfl)))).trans h.blk, h.rows.kept (hk m ((h.foot m).2 (.inr (.inr rfl)))), h.off, h.foot, h.rises, h.plain⟩
theorem TAt.below (h : TAt b j t m p q Fj w F x) (hb : Below w.heap.size w w1) : TAt b j t m p q Fj w1 F x := h.kept (fun i hi => hb.block i (h.lt i hi))
theorem TAt.cell (h : TAt b j t m p q Fj w F x) : w.cell? ⟨t, 0, none⟩ = some (.pointer (some ⟨b, 0, none⟩)) ∧ w.cell? ⟨t, 1, none⟩ = some (.string p) ∧ w.cell? ⟨t, 2, none⟩ = some (.pointer (some ⟨j, 0, none⟩)) ∧ w.cell? ⟨t, 3, none⟩ = some (.map (some m)) := by
  have hb := h.blk
  refine ⟨?_, ?_, ?_, ?_⟩ <;> · unfold World.cell?; rw [hb]; rfl
theorem TAt.jleft {y : Jst} (h : TAt b j t m p q Fj w F x) (hl : LeftA (JnT b j q) w Fj y w1) : LeftA (Tn b j t m p q) w F ⟨y, x.L⟩ w1 := by
  obtain ⟨Fj', h1, h2, h3⟩ := hl
  have htl : t < w.heap.size := (Array.getElem?_eq_some_iff.1 h.blk).1
  have hml := h.rows.lt
  refine ⟨fun i => Fj' i ∨ i = t ∨ i = m, ⟨Fj', h1, (h2.block t htl h.off.1).trans h.blk, h.rows.kept (h2.block m hml h.off.2), ⟨fun hh => ?_, fun hh => ?_⟩, fun i => Iff.rfl, h.rises, h.plain⟩, h2.mono (fun i hi => (h.foot i).2 (.inl hi)), fun g hg => ?_⟩
  · rcases h3 t hh with hh | hh
    · exact h.off.1 hh
    · omega
  · rcases h3 m hh with hh | hh
    · exact h.off.2 hh
    · omega
  · rcases hg with hg | hg
    · exact (h3 g hg).imp (fun hh => (h.foot g).2 (.inl hh)) id
    · exact .inl ((h.foot g).2 (.inr hg))
theorem TAt.turned {L : List It} (h : TAt b j t m p q Fj w F x) (hm : Mo w1 m L) (hc : Chg (· = m) w w1) (hr : Rises L) (hp : Plain L) : TAt b j t m p q Fj w1 F ⟨x.j, L⟩ :=
  ⟨(jn_kind (imp_kind b) _ b j q).2 h.jn (fun i hi => hc.block i ((jn_kind (imp_kind b) _ b j q).1 h.jn i hi) (fun e => h.off.2 (e ▸ hi))), (hc.block t (Array.getElem?_eq_some_iff.1 h.blk).1 h.tm).trans h.blk, hm, h.off, h.foot, hr, hp⟩
theorem tn_kind : (∀ {w F x}, Tn b j t m p q w F x → ∀ i, F i → i < w.heap.size) ∧ (∀ {w w1 F x}, Tn b j t m p q w F x → (∀ i, F i → w1.heap[i]? = w.heap[i]?) → Tn b j t m p q w1 F x) :=
  ⟨fun ⟨Fj, h⟩ => h.lt, fun ⟨Fj, h⟩ hk => ⟨Fj, h.kept hk⟩⟩
end
theorem LeftA.of {α : Type} {Obj : World → (Nat → Prop) → α → Prop} {w w1 : World} {F : Nat → Prop} {x : α} (h : Obj w1 F x) (hc : Chg F w w1) : LeftA Obj w F x w1 := ⟨F, h, hc, fun g hg => .inl hg⟩
structure BAt (u pm : Nat) (tp : Option Addr) (vO : Value) (w : World) (G : Nat → Prop) (l : List Ch) : Prop where
  blk : w.heap[u]? = some (.cells #[.pointer tp, vO, .map (some pm)] 88 (0, 0))
  ops : OwnC w 0 vO l
  plc : Pp w pm l
  ne : vO.ownBlock ≠ some u
  once : Once l
  foot : ∀ i, G i ↔ i = u ∨ vO.ownBlock = some i ∨ i = pm
def Bn (u : Nat) (tp : Option Addr) (w : World) (G : Nat → Prop) (l : List Ch) : Prop := ∃ pm vO, BAt u pm tp vO w G l
section
variable {u pm : Nat} {tp : Option Addr} {vO : Value} {w w1 : World} {G : Nat → Prop} {l : List Ch}
theorem BAt.up (h : BAt u pm tp vO w G l) : u ≠ pm := fun e => h.plc.nb (e ▸ h.blk)
theorem BAt.op (h : BAt u pm tp vO w G l) : vO.ownBlock ≠ some pm := fun e => by
  rcases h.ops.2 with ⟨hv, _⟩ | ⟨g, cap, cur, hv, _, hg, _⟩
  · rw [hv] at e; cases e
  · rw [hv] at e
    injection e with e
    subst e
    exact h.plc.nb hg
theorem BAt.lt (h : BAt u pm tp vO w G l) : ∀ i, G i → i < w.heap.size := fun i hi => by
  rcases (h.foot i).1 hi with rfl | h1 | rfl
  · exact (Array.getElem?_eq_some_iff.1 h.blk).1
  · exact (h.ops.lt i h1).2
  · exact h.plc.lt
theorem BAt.kept (h : BAt u pm tp vO w G l) (hk : ∀ i, G i → w1.heap[i]? = w.heap[i]?) : BAt u pm tp vO w1 G l :=
  ⟨(hk u ((h.foot u).2 (.inl rfl))).trans h.blk, own_kept h.ops (fun g hg => hk g ((h.foot g).2 (.inr (.inl hg)))), h.plc.kept (hk pm ((h.foot pm).2 (.inr (.inr rfl)))), h.ne, h.once, h.foot⟩
theorem BAt.below (h : BAt u pm tp vO w G l) (hb : Below w.heap.size w w1) : BAt u pm tp vO w1 G l := h.kept (fun i hi => hb.block i (h.lt i hi))
theorem BAt.cell (h : BAt u pm tp vO w G l) : w.cell? ⟨u, 0, none⟩ = some (.pointer tp) ∧ w.cell? ⟨u, 1, none⟩ = some vO ∧ w.cell? ⟨u, 2, none⟩ = some (.map (some pm)) := by
  have hb := h.blk
  refine ⟨?_, ?_, ?_⟩ <;> · unfold World.cell?; rw [hb]; rfl
end
end Go.Proofs.YtjdfffkkpbabpaaGreat.Tb

namespace Go.Proofs.YtjdfffkkpbabpaaGreat.Tb
open Go.RowKit
set_option linter.unusedVariables false
set_option linter.unusedSimpArgs false
set_option linter.unnecessarySimpa false
set_option maxRecDepth 100000 in
set_option maxHeartbeats 4000000 in
theorem chgNew (ops : Array Oper) (hops : ops = (Rg.opsOf Tryz.f37 6)) (id : Nat) (u x n c : Nat) (a : Option Addr) (key val : ByteArray) (gone : Bool) {u1 u2 u4 u5 u6 u7 u8 u9 u10 u11 u12 u13 u14 u15 u16 u17 u18 u19 u20 u21 u22 u23 u24 u25 u26 u27 u28 u29 u30 u31 u32 u33 u34 u35 u36 u37 u38 u39 u40 u41 u42 u43 u44 u45 u46 : Value} (w : World) (B4 : Value → World → Prop)
    (hS : Cells3 x key val gone w) (hL : w.drew.cell? ⟨u, 1, none⟩ = some (.slice a n c)) (hL2 : (w.alloc (.cells #[.string key, .string val, .bool gone] 43)).cell? ⟨u, 1, none⟩ = some (.slice a n c)) (hS2 : Cells3 x key val gone (w.drew.alloc (.cells #[.string key, .string val, .bool gone] 43)))
    (hE : ∀ ty, ∃ a8 n8 c8 w8, (Builtin.append_ #[37, 37] ty #[.slice a n c, .slice (some ⟨w.heap.size, 0, none⟩) 1 1]).run Tryz.prog (w.drew.alloc (.cells #[.string key, .string val, .bool gone] 43)) = .ok (.slice a8 n8 c8) w8 ∧ w8.cell? ⟨u, 1, none⟩ = some (.slice a n c) ∧ w8.frozen? ⟨u, 1, none⟩ = false ∧
      Cells3 x key val gone w8 ∧ Cells3 x key val gone (w8.setCell ⟨u, 1, none⟩ (.slice a8 n8 c8)) ∧ B4 (.slice a8 n8 c8) w8) :
    (Code.region id ops true).wp Tryz.prog (Rg.Only fun a' w' => ∃ (z8 : Nat) (a8 : Option Addr) (n8 c8 : Nat) (w8 : World), a' = ⟨#[(.pointer (some ⟨u, 0, none⟩)), u1, u2, (.pointer (some ⟨x, 0, none⟩)), u4, u5, u6, u7, u8, u9, u10, u11, u12, u13, u14, u15, u16, u17, u18, u19, u20, u21, u22, u23, u24, u25, u26, u27, u28, u29, u30, u31, u32, u33, u34, u35, u36, (.pointer (some ⟨u, 0, none⟩)), (.pointer (some ⟨u, 0, none⟩)), (.pointer (some ⟨u, 0, none⟩)), (.pointer (some ⟨u, 1, none⟩)), (.slice a n c), (.agg #[.string key, .string val, .bool gone]), (.slice (some ⟨z8, 0, none⟩) 1 1), (.slice a8 n8 c8), (.pointer (some ⟨u, 0, none⟩)), (.pointer (some ⟨u, 1, none⟩))], []⟩ ∧ w' = w8.setCell ⟨u, 1, none⟩ (.slice a8 n8 c8) ∧ B4 (.slice a8 n8 c8) w8) ⟨#[(.pointer (some ⟨u, 0, none⟩)), u1, u2, (.pointer (some ⟨x, 0, none⟩)), u4, u5, u6, u7, u8, u9, u10, u11, u12, u13, u14, u15, u16, u17, u18, u19, u20, u21, u22, u23, u24, u25, u26, u27, u28, u29, u30, u31, u32, u33, u34, u35, u36, u37, u38, u39, u40, u41, u42, u43, u44, u45, u46], []⟩ w := by
  subst hops
  have hNS : Region.noSelect (Rg.opsOf Tryz.f37 6) = true := by kernel_rfl
  refine wp_region_held_drew (S := Cells3 x key val gone) (by kernel_rfl) hS (fun hHeld => ?_)
  rw [show (Rg.opsOf Tryz.f37 6).size = 11 by kernel_rfl]
  refine Rg.takek 0 (some 37) (.pointer (some ⟨u, 0, none⟩)) hNS hHeld (Rg.y_movekL (x := .tmp 0)) ?_
  refine Rg.takek 1 (some 38) (.pointer (some ⟨u, 0, none⟩)) hNS hHeld (Rg.y_movekL (x := .tmp 0)) ?_
  refine Rg.takek 2 (some 39) (.pointer (some ⟨u, 0, none⟩)) hNS hHeld (Rg.y_nilk (x := .tmp 38)) ?_
  refine Rg.takek 3 (some 40) (.pointer (some ⟨u, 1, none⟩)) hNS hHeld (Rg.y_fieldk (T := 88) (k := 1) (x := .tmp 39) (vx := (.pointer (some ⟨u, 0, none⟩))) ?_) ?_
  · (intro w hSw; clear hSw; go_simp)
  refine Rg.takek 5 (some 42) (.agg #[.string key, .string val, .bool gone]) hNS hHeld (Rg.y_loadk (T := 43) (x := .tmp 3) (vx := (.pointer (some ⟨x, 0, none⟩))) ?_) ?_
  · (intro w hSw; obtain ⟨s0, s1, s2⟩ := hSw; go_simp)
  refine Rg.twok (i := 4) (j := 6) ?_ ?_
  · refine Rg.op_loadk 4 (some 41) (T := 37) (x := .tmp 40) (vx := (.pointer (some ⟨u, 1, none⟩))) (v := (.slice a n c)) ?_ hHeld ?_
    · (clear hHeld hE; go_simp)
    refine Rg.bldk 6 (some 43) (T := 37) (len := 1) (parts := #[(0, .tmp 42)]) (vs := #[(0, (.agg #[.string key, .string val, .bool gone]))]) (v := (.slice (some ⟨w.heap.size, 0, none⟩) 1 1)) (w1 := w.drew.alloc (.cells #[.string key, .string val, .bool gone] 43)) ?_ (hS2) (fun hHeld => ?_)
    · (clear hHeld hE hL hL2; go_simp)
    refine Rg.app1k 7 (some 44) (T := 37) (x := .tmp 41) (y := .tmp 43) (vx := (.slice a n c)) (vy := (.slice (some ⟨w.heap.size, 0, none⟩) 1 1)) ?_
    intro ty
    obtain ⟨a8, n8, c8, w8, hr8, hl8, hf8, hS8, hS9, h8⟩ := hE ty
    refine ⟨_, w8, hr8, hS8, fun hHeld => ?_⟩
    refine Rg.takek 8 (some 45) (.pointer (some ⟨u, 0, none⟩)) hNS hHeld (Rg.y_nilk (x := .tmp 37)) ?_
    refine Rg.takek 9 (some 46) (.pointer (some ⟨u, 1, none⟩)) hNS hHeld (Rg.y_fieldk (T := 88) (k := 1) (x := .tmp 45) (vx := (.pointer (some ⟨u, 0, none⟩))) ?_) ?_
    · (intro w hSw; clear hSw; go_simp)
    refine Rg.storek 10 (T := 37) (x := .tmp 46) (y := .tmp 44) (vx := (.pointer (some ⟨u, 1, none⟩))) (vy := (.slice a8 n8 c8)) (w1 := (w8.setCell ⟨u, 1, none⟩ (.slice a8 n8 c8))) ?_ (hS9) (fun hHeld => ?_)
    · (clear hHeld hE hL hL2 hS8 hS9 hr8 h8; go_simp)
    refine Rg.donek ?_
    exact ⟨w.heap.size, a8, n8, c8, w8, by kernel_rfl, rfl, h8⟩
  · refine Rg.op_bldk 6 (some 43) (T := 37) (len := 1) (parts := #[(0, .tmp 42)]) (vs := #[(0, (.agg #[.string key, .string val, .bool gone]))]) (v := (.slice (some ⟨w.heap.size, 0, none⟩) 1 1)) (w1 := w.drew.alloc (.cells #[.string key, .string val, .bool gone] 43)) ?_ (hS2) (fun hHeld => ?_)
    · (clear hHeld hE hL hL2; go_simp)
    refine Rg.onek (i := 4) ?_
    refine Rg.op_loadk 4 (some 41) (T := 37) (x := .tmp 40) (vx := (.pointer (some ⟨u, 1, none⟩))) (v := (.slice a n c)) ?_ hHeld ?_
    · (clear hHeld hE; go_simp)
    refine Rg.app1k 7 (some 44) (T := 37) (x := .tmp 41) (y := .tmp 43) (vx := (.slice a n c)) (vy := (.slice (some ⟨w.heap.size, 0, none⟩) 1 1)) ?_
    intro ty
    obtain ⟨a8, n8, c8, w8, hr8, hl8, hf8, hS8, hS9, h8⟩ := hE ty
    refine ⟨_, w8, hr8, hS8, fun hHeld => ?_⟩
    refine Rg.takek 8 (some 45) (.pointer (some ⟨u, 0, none⟩)) hNS hHeld (Rg.y_nilk (x := .tmp 37)) ?_
    refine Rg.takek 9 (some 46) (.pointer (some ⟨u, 1, none⟩)) hNS hHeld (Rg.y_fieldk (T := 88) (k := 1) (x := .tmp 45) (vx := (.pointer (some ⟨u, 0, none⟩))) ?_) ?_
    · (intro w hSw; clear hSw; go_simp)
    refine Rg.storek 10 (T := 37) (x := .tmp 46) (y := .tmp 44) (vx := (.pointer (some ⟨u, 1, none⟩))) (vy := (.slice a8 n8 c8)) (w1 := (w8.setCell ⟨u, 1, none⟩ (.slice a8 n8 c8))) ?_ (hS9) (fun hHeld => ?_)
    · (clear hHeld hE hL hL2 hS8 hS9 hr8 h8; go_simp)
    refine Rg.donek ?_
    exact ⟨w.heap.size, a8, n8, c8, w8, by kernel_rfl, rfl, h8⟩
end Go.Proofs.YtjdfffkkpbabpaaGreat.Tb

namespace Go.Proofs.YtjdfffkkpbabpaaGreat.Tb
open Go.RowKit Tx Pm Dk Wm Wr Wl Pl
set_option linter.unusedVariables false
set_option linter.unusedSimpArgs false
set_option linter.unnecessarySimpa false
theorem flat_set : ∀ (l : List Ch) (k : Nat) (x : Ch), k < l.length → (((l.flatMap cellsC).set (k * 3) (.string x.key)).set (k * 3 + 1) (.string x.val)).set (k * 3 + 1 + 1) (.bool x.gone) = (l.set k x).flatMap cellsC
  | [], k, x, h => by simp at h
  | y :: l, 0, x, h => by simp [cellsC]
  | y :: l, k + 1, x, h => by
    have ih := flat_set l k x (by simpa using h)
    rw [List.flatMap_cons, List.set_cons_succ, List.flatMap_cons, ← ih]
    have e1 : (k + 1) * 3 = k * 3 + 3 := by omega
    have e2 : (k + 1) * 3 + 1 = (k * 3 + 1) + 3 := by omega
    have e3 : (k + 1) * 3 + 1 + 1 = (k * 3 + 1 + 1) + 3 := by omega
    rw [e3, e2, e1]
    simp [cellsC]
theorem own_set3 {w : World} {g n cap : Nat} {l : List Ch} (h : w.ownsRow 0 43 3 (.slice (some ⟨g, 0, none⟩) n cap) n (l.flatMap cellsC)) {k : Nat} {y : Ch} (hk : l[k]? = some y) (x : Ch) :
    (w.cell? ⟨g, k * 3, none⟩ = some (.string y.key) ∧ w.frozen? ⟨g, k * 3, none⟩ = false) ∧ ((w.setCell ⟨g, k * 3, none⟩ (.string x.key)).cell? ⟨g, k * 3 + 1, none⟩ = some (.string y.val) ∧ (w.setCell ⟨g, k * 3, none⟩ (.string x.key)).frozen? ⟨g, k * 3 + 1, none⟩ = false) ∧
    (((w.setCell ⟨g, k * 3, none⟩ (.string x.key)).setCell ⟨g, k * 3 + 1, none⟩ (.string x.val)).cell? ⟨g, k * 3 + 1 + 1, none⟩ = some (.bool y.gone) ∧ ((w.setCell ⟨g, k * 3, none⟩ (.string x.key)).setCell ⟨g, k * 3 + 1, none⟩ (.string x.val)).frozen? ⟨g, k * 3 + 1 + 1, none⟩ = false) ∧
    (((w.setCell ⟨g, k * 3, none⟩ (.string x.key)).setCell ⟨g, k * 3 + 1, none⟩ (.string x.val)).setCell ⟨g, k * 3 + 1 + 1, none⟩ (.bool x.gone)).ownsRow 0 43 3 (.slice (some ⟨g, 0, none⟩) n cap) n ((l.set k x).flatMap cellsC) ∧
    Chg (· = g) w (((w.setCell ⟨g, k * 3, none⟩ (.string x.key)).setCell ⟨g, k * 3 + 1, none⟩ (.string x.val)).setCell ⟨g, k * 3 + 1 + 1, none⟩ (.bool x.gone)) := by
  obtain ⟨h1, _⟩ := h.stored (k * 3) (.string x.key)
  obtain ⟨h2, _⟩ := h1.stored (k * 3 + 1) (.string x.val)
  obtain ⟨h3, _⟩ := h2.stored (k * 3 + 1 + 1) (.bool x.gone)
  have hkl := (List.getElem?_eq_some_iff.1 hk).1
  have hc : ∀ j u, j < 3 → (cellsC y)[j]? = some u → (l.flatMap cellsC)[k * 3 + j]? = some u := fun j u hj hu => (flat_at cellsC 3 (fun _ => rfl) l k y j hk hj).trans hu
  have cell : ∀ {W : World} {xs : List Value} {j : Nat} {u : Value}, W.ownsRow 0 43 3 (.slice (some ⟨g, 0, none⟩) n cap) n xs → xs[j]? = some u → W.cell? ⟨g, j, none⟩ = some u := fun {W xs j u} hW hu => by
    have := hW.cells (g := g) rfl j u hu
    rwa [WideShapes.add_plain, Nat.zero_add] at this
  refine ⟨⟨cell h (hc 0 _ (by omega) rfl), h.frozenAt _⟩, ⟨cell h1 ?_, h1.frozenAt _⟩, ⟨cell h2 ?_, h2.frozenAt _⟩, ?_, ((chg_set (b := g) (k := k * 3) _).then (chg_set (b := g) (k := k * 3 + 1) _)).then (chg_set (b := g) (k := k * 3 + 1 + 1) _)⟩
  · rw [List.getElem?_set_ne (by omega)]
    exact hc 1 _ (by omega) rfl
  · rw [List.getElem?_set_ne (by omega), List.getElem?_set_ne (by omega)]
    exact hc 2 _ (by omega) rfl
  · rw [flat_set l k x hkl] at h3
    exact h3
theorem set_left {u pm g i n : Nat} {tp : Option Addr} {vO : Value} {w W Wf : World} {G : Nat → Prop} {l : List Ch} {c : Ch} (h : BAt u pm tp vO w G l) (hB : Below w.heap.size w W) (hset : Wf.ownsRow 0 43 3 vO n ((l.set i c).flatMap cellsC)) (hn : n = l.length)
    (hc : Chg (· = g) W Wf) (hg : vO.ownBlock = some g) (hat : at7 l c.key = some i) : LeftA (Bn u tp) w G (l.set i c) Wf := by
  have hW := h.below hB
  have hug : u ≠ g := fun e => h.ne (by rw [hg, e])
  have hpg : pm ≠ g := fun e => h.op (by rw [hg, e])
  have hon := once_bat h.once c
  rw [bat_set h.once hat] at hon
  refine LeftA.of ⟨pm, vO, ⟨(hc.block u (hW.lt u ((h.foot u).2 (.inl rfl))) hug).trans hW.blk, ?_, (hW.plc.same h.once hat).kept (hc.block pm hW.plc.lt hpg), h.ne, hon, h.foot⟩⟩ ((Chg.of_below hB).then (hc.mono (fun x hx => (h.foot x).2 (.inr (.inl (by rw [hg, hx]))))))
  unfold OwnC
  rw [List.length_set, ← hn]
  exact hset
theorem new_left {u pm n : Nat} {tp : Option Addr} {vO v' : Value} {w w3 w4 w6 : World} {G : Nat → Prop} {l : List Ch} {c : Ch} {o : Obj} (h : BAt u pm tp vO w G l) (hB : Below w.heap.size w w3) (hP : Pp w4 pm (l ++ [c])) (ht : w3.mapTurned w4 pm)
    (hO : w6.ownsRow 0 43 3 v' (n + 1) ((l ++ [c]).flatMap cellsC)) (hn : n = l.length) (hg : (v'.ownBlock = vO.ownBlock ∧ (w4.drew.alloc o).grownBy w6 vO.ownBlock) ∨ (v'.ownBlock = some (w4.drew.alloc o).heap.size ∧ (w4.drew.alloc o).grownBy w6 none)) (hat : at7 l c.key = none) :
    (w6.cell? ⟨u, 1, none⟩ = some vO ∧ w6.frozen? ⟨u, 1, none⟩ = false) ∧ LeftA (Bn u tp) w G (l ++ [c]) (w6.setCell ⟨u, 1, none⟩ v') := by
  have hW := h.below hB
  have hsz : w3.heap.size ≤ w4.heap.size := (turned_chg ht).size
  have hul : u < w3.heap.size := hW.lt u ((h.foot u).2 (.inl rfl))
  have hpl : pm < w3.heap.size := hW.plc.lt
  have hub : w4.heap[u]? = w3.heap[u]? := turned_block ht h.up
  have hon := once_bat h.once c
  rw [bat_new hat] at hon
  have hc4 : Chg (fun i => vO.ownBlock = some i) w4 w6 := by
    have h0 : Chg (fun i => vO.ownBlock = some i) w4 (w4.drew.alloc o) := Chg.of_below (((Below.refl w4.heap.size w4).drew).alloc (Nat.le_refl _) o)
    rcases hg with ⟨_, g1, g2, g3, g4, g5⟩ | ⟨_, g1, g2, g3, g4, g5⟩
    · exact h0.then ⟨g1, g2, g3, g4, fun i hi hn => g5 i hi (fun e => hn e.symm)⟩
    · exact h0.then ⟨g1, g2, g3, g4, fun i hi hn => g5 i hi (by simp)⟩
  have hblk : w6.heap[u]? = some (.cells #[.pointer tp, vO, .map (some pm)] 88 (0, 0)) := (hc4.block u (by omega) h.ne).trans (hub.trans hW.blk)
  have hv'u : ∀ i, v'.ownBlock = some i → vO.ownBlock = some i ∨ w4.heap.size ≤ i := fun i hi => by
    rcases hg with ⟨e, _⟩ | ⟨e, _⟩
    · exact .inl (by rw [← e]; exact hi)
    · rw [e] at hi
      injection hi with hi
      have : (w4.drew.alloc o).heap.size = w4.heap.size + 1 := by simp
      exact .inr (by omega)
  have hne : v'.ownBlock ≠ some u := fun e => by
    rcases hv'u u e with hh | hh
    · exact h.ne hh
    · omega
  have hchg : Chg G w (w6.setCell ⟨u, 1, none⟩ v') := ((((Chg.of_below hB).then ((turned_chg ht).mono (fun i hi => (h.foot i).2 (.inr (.inr hi))))).then (hc4.mono (fun i hi => (h.foot i).2 (.inr (.inl hi))))).then ((chg_set (b := u) (k := 1) v').mono (fun i hi => (h.foot i).2 (.inl hi))))
  refine ⟨⟨by unfold World.cell?; rw [hblk]; rfl, by unfold World.frozen?; rw [hblk]; simp⟩, fun i => i = u ∨ v'.ownBlock = some i ∨ i = pm, ⟨pm, v', ⟨by rw [set_block hblk]; rfl, ?_, ?_, hne, hon, fun i => Iff.rfl⟩⟩, hchg, ?_⟩
  · unfold OwnC
    rw [List.length_append, List.length_singleton, ← hn]
    exact own_kept hO (fun i hi => set_other v' (fun e => hne (e ▸ hi)))
  · exact (hP.kept (hc4.block pm (by omega) h.op)).kept (set_other v' (fun e => h.up e.symm))
  · rintro i (rfl | hi | rfl)
    · exact .inl ((h.foot _).2 (.inl rfl))
    · rcases hv'u i hi with hh | hh
      · exact .inl ((h.foot _).2 (.inr (.inl hh)))
      · have := hB.size
        have h2 := (Chg.of_below (F := G) hB).size
        exact .inr (by omega)
    · exact .inl ((h.foot _).2 (.inr (.inr rfl)))
theorem cells3_set {W : World} {x u k : Nat} {key val : ByteArray} {gone : Bool} (h : Cells3 x key val gone W) (hne : x ≠ u) (v : Value) : Cells3 x key val gone (W.setCell ⟨u, k, none⟩ v) := by
  have hb := set_other (w := W) (b := u) (k := k) v hne
  refine ⟨?_, ?_, ?_⟩
  · have := h.1; unfold World.cell? at this ⊢; rw [hb]; exact this
  · have := h.2.1; unfold World.cell? at this ⊢; rw [hb]; exact this
  · have := h.2.2; unfold World.cell? at this ⊢; rw [hb]; exact this
theorem app_change {u pm n cO : Nat} {tp aO : Option Addr} {vO : Value} {w w3 w4 : World} {G : Nat → Prop} {l : List Ch} {key val : ByteArray} {gone : Bool} (h : BAt u pm tp vO w G l) (hB : Below w.heap.size w w3) (hP : Pp w4 pm (l ++ [⟨key, val, gone⟩])) (ht : w3.mapTurned w4 pm)
    (hO : w4.ownsRow 0 43 3 vO n (l.flatMap cellsC)) (hv : vO = .slice aO n cO) (hn : n = l.length) (hat : at7 l key = none) (hnl : n < 1000000000) (hC : Cells3 w.heap.size key val gone (w4.drew.alloc (.cells #[.string key, .string val, .bool gone] 43))) :
    ∀ ty, ∃ a8 n8 c8 w8, (Builtin.append_ #[37, 37] ty #[.slice aO n cO, .slice (some ⟨w4.heap.size, 0, none⟩) 1 1]).run Tryz.prog (w4.drew.alloc (.cells #[.string key, .string val, .bool gone] 43)) = .ok (.slice a8 n8 c8) w8 ∧
      w8.cell? ⟨u, 1, none⟩ = some (.slice aO n cO) ∧ w8.frozen? ⟨u, 1, none⟩ = false ∧ Cells3 w.heap.size key val gone w8 ∧ Cells3 w.heap.size key val gone (w8.setCell ⟨u, 1, none⟩ (.slice a8 n8 c8)) ∧ LeftA (Bn u tp) w G (l ++ [⟨key, val, gone⟩]) (w8.setCell ⟨u, 1, none⟩ (.slice a8 n8 c8)) := by
  intro ty
  obtain ⟨i0, hi, hz0, hz1, hz2⟩ := info_parts infoC
  have hO5 : (w4.drew.alloc (.cells #[.string key, .string val, .bool gone] 43)).ownsRow 0 43 3 vO n (l.flatMap cellsC) := row_below (w := w4) hO (((Below.refl w4.heap.size w4).drew).alloc (Nat.le_refl _) _)
  obtain ⟨v', w', hr, h1, h2⟩ := Ap.append_two (P := Tryz.prog) _ 0 37 ty 43 i0 (ov ch0) 3 40 Tryz.underlying37 hi hz0 hz1 hz2 rfl (by decide) (by decide) vO n (l.flatMap cellsC) hO5 ⟨w4.heap.size, 0, none⟩ 1 (cellsC ⟨key, val, gone⟩) rfl
    (new3 w4.drew ⟨key, val, gone⟩ (by simp)) (cells_one ⟨key, val, gone⟩) (by omega) (by omega) (Nat.zero_le _)
  have e : l.flatMap cellsC ++ cellsC ⟨key, val, gone⟩ = (l ++ [(⟨key, val, gone⟩ : Ch)]).flatMap cellsC := by rw [List.flatMap_append]; rfl
  rw [e] at h1
  obtain ⟨⟨k1, k2⟩, hfin⟩ := new_left h hB hP ht h1 hn h2 hat
  obtain ⟨a8, c8, rfl⟩ : ∃ a8 c8, v' = .slice a8 (n + 1) c8 := by
    rcases h1.2 with ⟨hv, h0⟩ | ⟨g, cap, cur, hv, _⟩
    · omega
    · exact ⟨_, _, hv⟩
  have hul : u < w.heap.size := h.lt u ((h.foot u).2 (.inl rfl))
  have hC8 : Cells3 w.heap.size key val gone w' := by
    rcases h2 with ⟨_, hg⟩ | ⟨_, hg⟩
    · exact cells3_grown hC hg (fun e => by have := (h.ops.lt _ e.symm).2; omega)
    · exact cells3_grown hC hg (by simp)
  rw [hv] at hr k1
  exact ⟨a8, n + 1, c8, w', hr, k1, k2, hC8, cells3_set hC8 (by omega) _, hfin⟩
set_option maxRecDepth 100000 in
set_option maxHeartbeats 4000000 in
theorem change_any (u pm : Nat) (tp : Option Addr) (vO : Value) {G : Nat → Prop} {l : List Ch} (c : Ch) (w : World) (h : BAt u pm tp vO w G l) (hk : c.key.size ≤ 1000000000000) (hl : l.length < 1000000000) :
    Calls Tryz.prog 37 #[.pointer (some ⟨u, 0, none⟩), ov c] w fun e w' => e = .returned (.tuple #[]) ∧ LeftA (Bn u tp) w G (bat l c) w' := by
  obtain ⟨c0, c1, c2⟩ := h.cell
  have hB1 : Below w.heap.size w (w.alloc (.cells #[.string c.key, .string c.val, .bool c.gone] 43)).drew := ((Below.refl _ w).alloc (Nat.le_refl _) _).drew
  have hlk := (h.plc.kept (hB1.block pm h.plc.lt)).look (p := c.key) (by unfold maxLen; omega)
  obtain ⟨aO, cO, hvO, hO1, hO2, hO3⟩ := h.ops.form
  obtain ⟨n, hn⟩ : ∃ n, n = l.length := ⟨_, rfl⟩
  rw [← hn] at hvO hO1 hO2
  cases hat : at7 l c.key with
  | some i =>
    obtain ⟨y, hy, hyk, hin⟩ := at7_lt hat
    rw [bat_set h.once hat]
    have hpv : placeV l c.key = .tuple #[.int .i64 i, .bool true] := by unfold placeV; rw [hat]
    rw [hpv] at hlk
    obtain ⟨hO0, hne⟩ := hO1
    have hown := h.ops
    unfold OwnC at hown
    rw [hvO, ← hn] at hown
    obtain ⟨g, rfl⟩ : ∃ g, aO = some ⟨g, 0, none⟩ := by
      rcases hown.2 with ⟨_, h0⟩ | ⟨g, cap, cur, hv, _⟩
      · omega
      · injection hv with hv; exact ⟨g, hv⟩
    have hB2 : Below w.heap.size w (w.alloc (.cells #[.string c.key, .string c.val, .bool c.gone] 43)).drew.drew := hB1.drew
    obtain ⟨_, _, _, hset, hcs⟩ := own_set3 (row_below hown hB2) hy c
    have c0' := (hB1.cell (p := ⟨u, 0, none⟩) (World.block_lt_of_cell? w _ c0)).trans c0
    have c1' := (hB1.cell (p := ⟨u, 1, none⟩) (World.block_lt_of_cell? w _ c1)).trans c1
    have c2' := (hB1.cell (p := ⟨u, 2, none⟩) (World.block_lt_of_cell? w _ c2)).trans c2
    have c1'' := (hB2.cell (p := ⟨u, 1, none⟩) (World.block_lt_of_cell? w _ c1)).trans c1
    rw [hvO] at c1 c1' c1''
    have hul : u < w.heap.size := World.block_lt_of_cell? w _ c1
    have hul2 : u ≠ w.heap.size := by omega
    have d1 : (w.alloc (.cells #[.string c.key, .string c.val, .bool c.gone] 43)).cell? ⟨u, 1, none⟩ = some (.slice (some ⟨g, 0, none⟩) n cO) := c1'
    have hiz : (i : Int) < (n : Int) := by omega
    have hsz2 : w.heap.size < (w.alloc (.cells #[.string c.key, .string c.val, .bool c.gone] 43)).heap.size := by simp
    have e0 : (w.alloc (.cells #[.string c.key, .string c.val, .bool c.gone] 43)).drew.cell? ⟨w.heap.size, 0, none⟩ = some (.string c.key) := (cells3_new w c _).1
    have e1 : (w.alloc (.cells #[.string c.key, .string c.val, .bool c.gone] 43)).drew.cell? ⟨w.heap.size, 1, none⟩ = some (.string c.val) := (cells3_new w c _).2.1
    have e2 : (w.alloc (.cells #[.string c.key, .string c.val, .bool c.gone] 43)).drew.cell? ⟨w.heap.size, 2, none⟩ = some (.bool c.gone) := (cells3_new w c _).2.2
    have HS := Lib.hid hset
    have HC := Lib.hid hcs
    have HH := Lib.hid h
    have hownW := row_below hown hB1
    obtain ⟨⟨a0, b0⟩, _, _, _, _⟩ := own_set3 hownW hy c
    have hcW : ∀ j v, (l.flatMap cellsC)[j]? = some v → (w.alloc (.cells #[.string c.key, .string c.val, .bool c.gone] 43)).drew.cell? ⟨g, j, none⟩ = some v := fun j v hv => by
      have := hownW.cells (g := g) rfl j v hv
      rwa [WideShapes.add_plain, Nat.zero_add] at this
    have a1 := hcW (i * 3 + 1) (.string y.val) ((flat_at cellsC 3 (fun _ => rfl) l i y 1 hy (by omega)).trans rfl)
    have a2 := hcW (i * 3 + 1 + 1) (.bool y.gone) ((flat_at cellsC 3 (fun _ => rfl) l i y 2 hy (by omega)).trans rfl)
    have b1 := hownW.frozenAt (i * 3 + 1)
    have b2 := hownW.frozenAt (i * 3 + 1 + 1)
    obtain ⟨key, val, gone⟩ := c
    simp only [ov] at hlk c0' c1' c1'' d1 c2' a0 a1 a2 b0 b1 b2 HS HC e0 e1 e2 ⊢
    have HN := Lib.hid hn
    have HV := Lib.hid hvO
    have HB2 := Lib.hid hB2
    have HAT := Lib.hid hat
    clear hset hcs h hy hat hpv hown hne hO3 hin hB1 hB2 hn hvO hyk hO0 hsz2 hownW hcW
    go_enter Tryz.func37, Tryz.ntmps37
    go_wp2_with fail
    go_region
    go_wp2_with fail
    clear hlk c0' c2' d1
    generalize (w.alloc (.cells #[.string key, .string val, .bool gone] 43)).drew = W2 at c1' c1'' a0 a1 a2 b0 b1 b2 HS HC e0 e1 e2 HB2 ⊢
    go_region
    all_goals
      go_wp2_with fail
      (try simp only [Exit.inBlock, Exit.then])
      refine bodyPost_ret (results_none rfl _ _ _) rfl ?_
      exact ⟨rfl, set_left (g := g) HH.out HB2.out (by rw [HV.out]; exact HS.out) HN.out HC.out (by rw [HV.out]; rfl) HAT.out⟩
  | none =>
    rw [bat_new hat]
    have hpv : placeV l c.key = .tuple #[.int .i64 0, .bool false] := by unfold placeV; rw [hat]
    rw [hpv] at hlk
    have hB2 : Below w.heap.size w (w.alloc (.cells #[.string c.key, .string c.val, .bool c.gone] 43)).drew.drew := hB1.drew
    obtain ⟨w4, hrun, hP4, hturn⟩ := (h.plc.kept (hB2.block pm h.plc.lt)).store h.once hat (by unfold maxLen; omega) (by omega)
    rw [← hn] at hrun
    have hul : u < w.heap.size := World.block_lt_of_cell? w _ c1
    have hx4 : w4.heap[w.heap.size]? = some (.cells #[.string c.key, .string c.val, .bool c.gone] 43) := (turned_block hturn (fun e => by have := h.plc.lt; omega)).trans (heap_alloc_new w _)
    have e0 : w4.cell? ⟨w.heap.size, 0, none⟩ = some (.string c.key) ∧ w4.cell? ⟨w.heap.size, 1, none⟩ = some (.string c.val) ∧ w4.cell? ⟨w.heap.size, 2, none⟩ = some (.bool c.gone) := by
      refine ⟨?_, ?_, ?_⟩ <;> · unfold World.cell?; rw [hx4]; rfl
    obtain ⟨e0, e1, e2⟩ := e0
    have hu4 : w4.cell? ⟨u, 1, none⟩ = some vO := by
      have hb := (turned_block hturn h.up).trans ((hB2.block u hul).trans h.blk)
      unfold World.cell?
      rw [hb]
      rfl
    have hO4 : w4.ownsRow 0 43 3 vO n (l.flatMap cellsC) := by
      have := h.ops
      unfold OwnC at this
      rw [← hn] at this
      exact own_chg (row_below this hB2) (turned_chg hturn) (fun g hg e => h.op (by rw [hg, e]))
    have c1' := (hB1.cell (p := ⟨u, 1, none⟩) (World.block_lt_of_cell? w _ c1)).trans c1
    have c2' := (hB1.cell (p := ⟨u, 2, none⟩) (World.block_lt_of_cell? w _ c2)).trans c2
    have f0 : (w.alloc (.cells #[.string c.key, .string c.val, .bool c.gone] 43)).drew.cell? ⟨w.heap.size, 0, none⟩ = some (.string c.key) := (cells3_new w c _).1
    rw [hvO] at c1 c1' hu4
    have HN := Lib.hid hn
    have HV := Lib.hid hvO
    have HB2 := Lib.hid hB2
    have HAT := Lib.hid hat
    have HP4 := Lib.hid hP4
    have HT := Lib.hid hturn
    have HO4 := Lib.hid hO4
    have HH := Lib.hid h
    have hnl : n < 1000000000 := by omega
    obtain ⟨i0, hi, hz0, hz1, hz2⟩ := info_parts infoC
    obtain ⟨key, val, gone⟩ := c
    simp only [ov] at hlk hrun c1' c2' e0 e1 e2 f0 HB2 HAT HP4 HT ⊢
    clear hB1 hB2 hat hP4 hturn hO4 h hn hvO hpv hx4 hO1 hO3 hl
    go_enter Tryz.func37, Tryz.ntmps37
    go_wp2_with fail
    go_region
    go_wp2_with fail
    clear hlk
    generalize (w.alloc (.cells #[.string key, .string val, .bool gone] 43)).drew = W2 at c1' c2' f0 hrun HB2 HT ⊢
    go_region
    go_wp2_with fail
    have hC4 : Cells3 w.heap.size key val gone w4 := ⟨e0, e1, e2⟩
    have hsz4 : w.heap.size < w4.heap.size := World.block_lt_of_cell? w4 _ e0
    have hC5 : Cells3 w.heap.size key val gone (w4.drew.alloc (.cells #[.string key, .string val, .bool gone] 43)) := cells3_alloc (W := w4.drew) hC4 hsz4 _
    have hu5 : (w4.alloc (.cells #[.string key, .string val, .bool gone] 43)).cell? ⟨u, 1, none⟩ = some (.slice aO n cO) := (((Below.refl w4.heap.size w4).alloc (Nat.le_refl _) _).cell (p := ⟨u, 1, none⟩) (by show u < _; omega)).trans hu4
    have hE := app_change (aO := aO) (cO := cO) HH.out HB2.out HP4.out HT.out HO4.out HV.out HN.out HAT.out hnl hC5
    refine Rg.wp_only ?_ (chgNew _ (by kernel_rfl) _ u w.heap.size n cO aO key val gone w4 (fun v W => LeftA (Bn u tp) w G (l ++ [⟨key, val, gone⟩]) (W.setCell ⟨u, 1, none⟩ v)) hC4 hu4 hu5 hC5 hE)
    rintro _ w9 ⟨z8, a8, n8, c8, w8, rfl, rfl, hfin⟩
    clear hE hC5 hu5 hC4
    go_wp2_with fail
    go_end0
    exact ⟨rfl, hfin⟩
theorem bPut_any (u pm : Nat) (tp : Option Addr) (vO : Value) {G : Nat → Prop} {l : List Ch} (key val : ByteArray) (w : World) (h : BAt u pm tp vO w G l) (hk : key.size ≤ 1000000000000) (hl : l.length < 1000000000) :
    Calls Tryz.prog 10 #[.pointer (some ⟨u, 0, none⟩), .string key, .string val] w fun e w' => e = .returned (.tuple #[]) ∧ LeftA (Bn u tp) w G (bat l ⟨key, val, false⟩) w' := by
  have c := change_any u pm tp vO ⟨key, val, false⟩ w h hk hl
  simp only [ov] at c
  clear h
  go_enter Tryz.func10, Tryz.ntmps10
  go_wp2_with fail
  go_at_call 37
  refine c.mono ?_
  rintro e w1 ⟨rfl, h1⟩
  go_wp2_with fail
  go_end0
  exact ⟨rfl, h1⟩
theorem bDrop_any (u pm : Nat) (tp : Option Addr) (vO : Value) {G : Nat → Prop} {l : List Ch} (key : ByteArray) (w : World) (h : BAt u pm tp vO w G l) (hk : key.size ≤ 1000000000000) (hl : l.length < 1000000000) :
    Calls Tryz.prog 12 #[.pointer (some ⟨u, 0, none⟩), .string key] w fun e w' => e = .returned (.tuple #[]) ∧ LeftA (Bn u tp) w G (bat l ⟨key, ⟨#[]⟩, true⟩) w' := by
  have c := change_any u pm tp vO ⟨key, ⟨#[]⟩, true⟩ w h hk hl
  simp only [ov] at c
  clear h
  go_enter Tryz.func12, Tryz.ntmps12
  go_wp2_with fail
  go_at_call 37
  refine c.mono ?_
  rintro e w1 ⟨rfl, h1⟩
  go_wp2_with fail
  go_end0
  exact ⟨rfl, h1⟩
end Go.Proofs.YtjdfffkkpbabpaaGreat.Tb

namespace Go.Proofs.YtjdfffkkpbabpaaGreat.Tb
open Go.RowKit
set_option linter.unusedVariables false
set_option linter.unusedSimpArgs false
set_option linter.unnecessarySimpa false
def TwoT (t b : Nat) (p : ByteArray) (W : World) : Prop := W.cell? ⟨t, 0, none⟩ = some (.pointer (some ⟨b, 0, none⟩)) ∧ W.cell? ⟨t, 1, none⟩ = some (.string p)
def TwoC (t j u n c : Nat) (a : Option Addr) (W : World) : Prop := W.cell? ⟨t, 2, none⟩ = some (.pointer (some ⟨j, 0, none⟩)) ∧ W.cell? ⟨u, 1, none⟩ = some (.slice a n c)
set_option maxRecDepth 100000 in
set_option maxHeartbeats 4000000 in
theorem packReg (ops : Array Oper) (hops : ops = (Rg.opsOf Tryz.f15 3)) (id : Nat) (t b k : Nat) (p r f : ByteArray) {u1 u2 u3 u4 u5 u6 u7 u8 u9 u10 u11 u12 u13 u14 u15 u16 u17 u18 u19 u20 u21 u22 u23 u24 u25 u26 : Value} (w : World)
    (B1 : Option Addr → Nat → Nat → World → Prop) (B2 B3 B4 : World → Prop) (hS : TwoT t b p w)
    (hA : Calls Tryz.prog 45 #[.pointer (some ⟨t, 0, none⟩)] w.drew fun e w' => ∃ a n c, e = .returned (.slice a n c) ∧ B1 a n c w') (hAS : ∀ a n c W, B1 a n c W → TwoT t b p W)
    (hB : ∀ a n c W, B1 a n c W → Calls Tryz.prog 24 #[.slice a n c] W fun e w' => e = .returned (.string r) ∧ B2 w') (hBS : ∀ W, B2 W → TwoT t b p W)
    (hC : ∀ W, B2 W → Calls Tryz.prog 44 #[.string r] W fun e w' => e = .returned (.string f) ∧ B3 w') (hCS : ∀ W, B3 W → TwoT t b p W)
    (hD : ∀ W, B3 W → Calls Tryz.prog 43 #[.pointer (some ⟨b, 0, none⟩), .string p, .string f] W fun e w' => e = .returned (.int .i64 (k : Nat)) ∧ B4 w') (hDS : ∀ W, B4 W → TwoT t b p W) :
    (Code.region id ops true).wp Tryz.prog (Rg.Only fun a' w' => ∃ (a5 : Option Addr) (n5 c5 : Nat), a' = ⟨#[(.pointer (some ⟨t, 0, none⟩)), u1, u2, (.int .i64 (k : Nat)), u4, u5, (.pointer (some ⟨t, 0, none⟩)), (.pointer (some ⟨t, 0, none⟩)), (.pointer (some ⟨t, 0, none⟩)), (.pointer (some ⟨b, 0, none⟩)), (.pointer (some ⟨t, 0, none⟩)), (.pointer (some ⟨t, 0, none⟩)), (.pointer (some ⟨t, 1, none⟩)), (.string p), (.pointer (some ⟨t, 0, none⟩)), (.slice a5 n5 c5), (.string r), (.string f), (.int .i64 (k : Nat)), u19, u20, u21, u22, u23, u24, u25, u26], []⟩ ∧ B4 w') ⟨#[(.pointer (some ⟨t, 0, none⟩)), u1, u2, u3, u4, u5, u6, u7, u8, u9, u10, u11, u12, u13, u14, u15, u16, u17, u18, u19, u20, u21, u22, u23, u24, u25, u26], []⟩ w := by
  subst hops
  have hNS : Region.noSelect (Rg.opsOf Tryz.f15 3) = true := by kernel_rfl
  refine wp_region_held_drew (S := TwoT t b p) (by kernel_rfl) hS (fun hHeld => ?_)
  rw [show (Rg.opsOf Tryz.f15 3).size = 14 by kernel_rfl]
  refine Rg.takek 0 (some 6) (.pointer (some ⟨t, 0, none⟩)) hNS hHeld (Rg.y_movekL (x := .tmp 0)) ?_
  refine Rg.takek 1 (some 7) (.pointer (some ⟨t, 0, none⟩)) hNS hHeld (Rg.y_nilk (x := .tmp 6)) ?_
  refine Rg.takek 2 (some 8) (.pointer (some ⟨t, 0, none⟩)) hNS hHeld (Rg.y_fieldk (T := 70) (k := 0) (x := .tmp 7) (vx := (.pointer (some ⟨t, 0, none⟩))) ?_) ?_
  · (intro w hSw; clear hSw; go_simp)
  refine Rg.takek 3 (some 9) (.pointer (some ⟨b, 0, none⟩)) hNS hHeld (Rg.y_loadk (T := 23) (x := .tmp 8) (vx := (.pointer (some ⟨t, 0, none⟩))) ?_) ?_
  · (intro w hSw; obtain ⟨s0, s1⟩ := hSw; go_simp)
  refine Rg.takek 4 (some 10) (.pointer (some ⟨t, 0, none⟩)) hNS hHeld (Rg.y_movekL (x := .tmp 0)) ?_
  refine Rg.takek 5 (some 11) (.pointer (some ⟨t, 0, none⟩)) hNS hHeld (Rg.y_nilk (x := .tmp 10)) ?_
  refine Rg.takek 6 (some 12) (.pointer (some ⟨t, 1, none⟩)) hNS hHeld (Rg.y_fieldk (T := 70) (k := 1) (x := .tmp 11) (vx := (.pointer (some ⟨t, 0, none⟩))) ?_) ?_
  · (intro w hSw; clear hSw; go_simp)
  refine Rg.takek 7 (some 13) (.string p) hNS hHeld (Rg.y_loadk (T := 9) (x := .tmp 12) (vx := (.pointer (some ⟨t, 1, none⟩))) ?_) ?_
  · (intro w hSw; obtain ⟨s0, s1⟩ := hSw; go_simp)
  refine Rg.takek 8 (some 14) (.pointer (some ⟨t, 0, none⟩)) hNS hHeld (Rg.y_movekL (x := .tmp 0)) ?_
  refine Rg.callk (fn := Tryz.f45) (xs := #[.tmp 14]) (ats := #[28]) 9 (some 15) 45 #[(.pointer (some ⟨t, 0, none⟩))] Tryz.func45 ?_
  refine hA.mono ?_
  rintro e w5 ⟨a5, n5, c5, rfl, h5⟩
  refine ⟨_, rfl, hAS _ _ _ _ h5, fun hHeld => ?_⟩
  refine Rg.callk (fn := Tryz.f24) (xs := #[.tmp 15]) (ats := #[37]) 10 (some 16) 24 #[(.slice a5 n5 c5)] Tryz.func24 ?_
  refine (hB _ _ _ _ h5).mono ?_
  rintro e w6 ⟨rfl, h6⟩
  refine ⟨_, rfl, hBS _ h6, fun hHeld => ?_⟩
  refine Rg.callk (fn := Tryz.f44) (xs := #[.tmp 16]) (ats := #[9]) 11 (some 17) 44 #[(.string r)] Tryz.func44 ?_
  refine (hC _ h6).mono ?_
  rintro e w7 ⟨rfl, h7⟩
  refine ⟨_, rfl, hCS _ h7, fun hHeld => ?_⟩
  refine Rg.callk (fn := Tryz.f43) (xs := #[.tmp 9, .tmp 13, .tmp 17]) (ats := #[23, 9, 9]) 12 (some 18) 43 #[(.pointer (some ⟨b, 0, none⟩)), (.string p), (.string f)] Tryz.func43 ?_
  refine (hD _ h7).mono ?_
  rintro e w8 ⟨rfl, h8⟩
  refine ⟨_, rfl, hDS _ h8, fun hHeld => ?_⟩
  refine Rg.takek 13 (some 3) (.int .i64 (k : Nat)) hNS hHeld (Rg.y_movekR (x := .tmp 18)) ?_
  refine Rg.donek ?_
  exact ⟨a5, n5, c5, by kernel_rfl, h8⟩
set_option maxRecDepth 100000 in
set_option maxHeartbeats 4000000 in
theorem commitReg (ops : Array Oper) (hops : ops = (Rg.opsOf Tryz.f13 6)) (id : Nat) (t j u n c k : Nat) (a : Option Addr) (r : ByteArray) {u1 u2 u4 u5 u6 u7 u8 u9 u10 u11 u12 u13 u14 u15 u16 u17 u18 u19 u20 u21 u22 u23 u24 u25 u26 u27 u28 u29 u30 u31 u32 u33 u34 u35 u36 u37 u38 u39 u40 u41 u42 u43 u44 u45 u46 u47 u48 u49 u50 u51 u52 u53 u54 u55 u56 u57 u58 : Value} (w : World)
    (B1 B2 : World → Prop) (hS : TwoC t j u n c a w)
    (hA : Calls Tryz.prog 24 #[.slice a n c] w.drew fun e w' => e = .returned (.string r) ∧ B1 w') (hAS : ∀ W, B1 W → TwoC t j u n c a W)
    (hB : ∀ W, B1 W → Calls Tryz.prog 38 #[.pointer (some ⟨j, 0, none⟩), .string r] W fun e w' => e = .returned (.int .i64 (k : Nat)) ∧ B2 w') (hBS : ∀ W, B2 W → TwoC t j u n c a W) :
    (Code.region id ops true).wp Tryz.prog (Rg.Only fun a' w' => a' = ⟨#[(.pointer (some ⟨u, 0, none⟩)), u1, u2, (.pointer (some ⟨t, 0, none⟩)), (.int .i64 (k : Nat)), u5, u6, u7, u8, u9, u10, u11, u12, u13, u14, u15, u16, u17, u18, u19, u20, u21, u22, u23, (.pointer (some ⟨t, 0, none⟩)), (.pointer (some ⟨t, 0, none⟩)), (.pointer (some ⟨t, 2, none⟩)), (.pointer (some ⟨j, 0, none⟩)), (.pointer (some ⟨u, 0, none⟩)), (.pointer (some ⟨u, 0, none⟩)), (.pointer (some ⟨u, 1, none⟩)), (.slice a n c), (.string r), (.int .i64 (k : Nat)), u34, u35, u36, u37, u38, u39, u40, u41, u42, u43, u44, u45, u46, u47, u48, u49, u50, u51, u52, u53, u54, u55, u56, u57, u58], []⟩ ∧ B2 w') ⟨#[(.pointer (some ⟨u, 0, none⟩)), u1, u2, (.pointer (some ⟨t, 0, none⟩)), u4, u5, u6, u7, u8, u9, u10, u11, u12, u13, u14, u15, u16, u17, u18, u19, u20, u21, u22, u23, u24, u25, u26, u27, u28, u29, u30, u31, u32, u33, u34, u35, u36, u37, u38, u39, u40, u41, u42, u43, u44, u45, u46, u47, u48, u49, u50, u51, u52, u53, u54, u55, u56, u57, u58], []⟩ w := by
  subst hops
  have hNS : Region.noSelect (Rg.opsOf Tryz.f13 6) = true := by kernel_rfl
  refine wp_region_held_drew (S := TwoC t j u n c a) (by kernel_rfl) hS (fun hHeld => ?_)
  rw [show (Rg.opsOf Tryz.f13 6).size = 11 by kernel_rfl]
  refine Rg.takek 0 (some 24) (.pointer (some ⟨t, 0, none⟩)) hNS hHeld (Rg.y_movekL (x := .tmp 3)) ?_
  refine Rg.takek 1 (some 25) (.pointer (some ⟨t, 0, none⟩)) hNS hHeld (Rg.y_nilk (x := .tmp 24)) ?_
  refine Rg.takek 2 (some 26) (.pointer (some ⟨t, 2, none⟩)) hNS hHeld (Rg.y_fieldk (T := 70) (k := 2) (x := .tmp 25) (vx := (.pointer (some ⟨t, 0, none⟩))) ?_) ?_
  · (intro w hSw; clear hSw; go_simp)
  refine Rg.takek 3 (some 27) (.pointer (some ⟨j, 0, none⟩)) hNS hHeld (Rg.y_loadk (T := 68) (x := .tmp 26) (vx := (.pointer (some ⟨t, 2, none⟩))) ?_) ?_
  · (intro w hSw; obtain ⟨s0, s1⟩ := hSw; go_simp)
  refine Rg.takek 4 (some 28) (.pointer (some ⟨u, 0, none⟩)) hNS hHeld (Rg.y_movekL (x := .tmp 0)) ?_
  refine Rg.takek 5 (some 29) (.pointer (some ⟨u, 0, none⟩)) hNS hHeld (Rg.y_nilk (x := .tmp 28)) ?_
  refine Rg.takek 6 (some 30) (.pointer (some ⟨u, 1, none⟩)) hNS hHeld (Rg.y_fieldk (T := 88) (k := 1) (x := .tmp 29) (vx := (.pointer (some ⟨u, 0, none⟩))) ?_) ?_
  · (intro w hSw; clear hSw; go_simp)
  refine Rg.takek 7 (some 31) (.slice a n c) hNS hHeld (Rg.y_loadk (T := 37) (x := .tmp 30) (vx := (.pointer (some ⟨u, 1, none⟩))) ?_) ?_
  · (intro w hSw; obtain ⟨s0, s1⟩ := hSw; go_simp)
  refine Rg.callk (fn := Tryz.f24) (xs := #[.tmp 31]) (ats := #[37]) 8 (some 32) 24 #[(.slice a n c)] Tryz.func24 ?_
  refine hA.mono ?_
  rintro e w6 ⟨rfl, h6⟩
  refine ⟨_, rfl, hAS _ h6, fun hHeld => ?_⟩
  refine Rg.callk (fn := Tryz.f38) (xs := #[.tmp 27, .tmp 32]) (ats := #[68, 9]) 9 (some 33) 38 #[(.pointer (some ⟨j, 0, none⟩)), (.string r)] Tryz.func38 ?_
  refine (hB _ h6).mono ?_
  rintro e w8 ⟨rfl, h8⟩
  refine ⟨_, rfl, hBS _ h8, fun hHeld => ?_⟩
  refine Rg.takek 10 (some 4) (.int .i64 (k : Nat)) hNS hHeld (Rg.y_movekR (x := .tmp 33)) ?_
  refine Rg.donek ?_
  exact ⟨by kernel_rfl, h8⟩
end Go.Proofs.YtjdfffkkpbabpaaGreat.Tb

namespace Go.Proofs.YtjdfffkkpbabpaaGreat.Tb
open Go.RowKit Tx Pm Dk Wm Wr Wl Pl
set_option linter.unusedVariables false
set_option linter.unusedSimpArgs false
set_option linter.unnecessarySimpa false
theorem wt_whole_len (L : List It) : L.length * 40 ≤ wt (whole7 L) := by
  have := wt_len (whole7 L)
  unfold whole7 at this ⊢
  rwa [List.length_map] at this
theorem wt_whole_mem {L : List It} {x : It} (h : x ∈ L) : x.path.size + x.data.size + 40 ≤ wt (whole7 L) := wt_mem (c := ⟨x.path, x.data, false⟩) (List.mem_map.2 ⟨x, h, rfl⟩)
def PackOk (x : Tst) (p q : ByteArray) : Prop := FillOk x.j.s p (Fm.pk (rec7 (whole7 x.L))) ∧ ((fillS x.j.s p (Fm.pk (rec7 (whole7 x.L)))).1 = 0 → FillOk (fillS x.j.s p (Fm.pk (rec7 (whole7 x.L)))).2 q ⟨#[]⟩) ∧ wt (whole7 x.L) ≤ 1000000000 ∧ p.size ≤ 1000 ∧ q.size ≤ 1000
theorem pack_1 {x : Tst} {p q : ByteArray} {k : Nat} {s1 : St} (h : fillS x.j.s p (Fm.pk (rec7 (whole7 x.L))) = (k, s1)) (hk : k ≠ 0) : packS x p q = (k, ⟨⟨s1, x.j.R, x.j.dm⟩, x.L⟩) := by
  unfold packS; rw [h]; exact if_pos hk
theorem pack_2 {x : Tst} {p q : ByteArray} {k : Nat} {s1 : St} {y : Jst} (h : fillS x.j.s p (Fm.pk (rec7 (whole7 x.L))) = (0, s1)) (h2 : resetS ⟨s1, x.j.R, x.j.dm⟩ q = (k, y)) : packS x p q = (k, ⟨y, x.L⟩) := by
  unfold packS; rw [h]; simp only [h2]; exact if_neg (fun hh => hh rfl)
theorem left_trans7 {α : Type} {Obj : World → (Nat → Prop) → α → Prop} {w w1 w2 : World} {F F1 : Nat → Prop} {y : α} (hc : Chg F w w1) (hn : ∀ g, F1 g → F g ∨ w.heap.size ≤ g) (h : LeftA Obj w1 F1 y w2) : LeftA Obj w F y w2 := LeftA.trans hc hn h
theorem TAt.disk {b j t m : Nat} {p q : ByteArray} {Fj F : Nat → Prop} {w W : World} {x : Tst} {s' : St} {k : Nat} {f : FuncId} {args : Array Value} (h : TAt b j t m p q Fj w F x) (hW : Below w.heap.size w W)
    (hc : ∀ {Fd}, ImpAt b W Fd x.j.s → Calls Tryz.prog f args W (Dos (ImpAt b) W Fd k s')) : Calls Tryz.prog f args W fun e w' => e = .returned (.int .i64 (k : Nat)) ∧ LeftA (Tn b j t m p q) w F ⟨⟨s', x.j.R, x.j.dm⟩, x.L⟩ w' := by
  have hw := h.below hW
  obtain ⟨v, Fd, hj⟩ := hw.jn
  refine (hc hj.dsk).mono ?_
  rintro e w' ⟨rfl, hl⟩
  obtain ⟨Fd', F', q1, c1, n1⟩ := hj.disk_left (imp_kind b) hl
  have h2 := hw.jleft (y := ⟨s', x.j.R, x.j.dm⟩) ⟨F', ⟨v, Fd', q1⟩, c1, n1⟩
  exact ⟨rfl, left_trans7 (Chg.of_below hW) (fun g hg => .inl hg) h2⟩
set_option maxRecDepth 100000 in
set_option maxHeartbeats 2000000 in
theorem pack_any (b j t m : Nat) {Fj F : Nat → Prop} {x : Tst} (p q : ByteArray) (w : World) (h : TAt b j t m p q Fj w F x) (o : PackOk x p q) :
    Calls Tryz.prog 15 #[.pointer (some ⟨t, 0, none⟩)] w fun e w' => e = .returned (.int .i64 ((packS x p q).1 : Nat)) ∧ LeftA (Tn b j t m p q) w F (packS x p q).2 w' := by
  obtain ⟨o1, o2, o3, o4, o5⟩ := o
  have hlen := wt_whole_len x.L
  have hsz : (rec7 (whole7 x.L)).size ≤ wt (whole7 x.L) + 10 := rec7_le (by omega)
  have hpk := Fm.pk_size (rec7 (whole7 x.L))
  have hvb := vb_len (x := (rec7 (whole7 x.L)).size) (by omega)
  obtain ⟨t0, t1, t2, t3⟩ := h.cell
  have hd1 := (Below.refl w.heap.size w).drew
  have h1 := h.below hd1
  have cw := whole_any t m x.L w.drew h1.cell.2.2.2 h1.rows h.rises (by omega) (fun y hy => by have := wt_whole_mem hy; omega)
  obtain ⟨k1, s1, hf⟩ : ∃ k s, fillS x.j.s p (Fm.pk (rec7 (whole7 x.L))) = (k, s) := ⟨_, _, rfl⟩
  have cf : ∀ W, Below w.heap.size w W → Calls Tryz.prog 43 #[.pointer (some ⟨b, 0, none⟩), .string p, .string (Fm.pk (rec7 (whole7 x.L)))] W fun e w' => e = .returned (.int .i64 (k1 : Nat)) ∧ LeftA (Tn b j t m p q) w F ⟨⟨s1, x.j.R, x.j.dm⟩, x.L⟩ w' := fun W hW =>
    h.disk hW (fun hd => by
      have := iFill_any b p (Fm.pk (rec7 (whole7 x.L))) W hd o1 o4 (by omega)
      rw [hf] at this
      exact this)
  have hS : ∀ W, Below w.heap.size w W → TwoT t b p W := fun W hW => ⟨(h.below hW).cell.1, (h.below hW).cell.2.1⟩
  have hDS : ∀ W, LeftA (Tn b j t m p q) w F ⟨⟨s1, x.j.R, x.j.dm⟩, x.L⟩ W → TwoT t b p W := fun W hW => by
    obtain ⟨F', ⟨Fj', hh⟩, _⟩ := hW
    exact ⟨hh.cell.1, hh.cell.2.1⟩
  have hrg := fun (ops : Array Oper) hops id => @packReg ops hops id t b k1 p (rec7 (whole7 x.L)) (Fm.pk (rec7 (whole7 x.L)))
  have hA : Calls Tryz.prog 45 #[.pointer (some ⟨t, 0, none⟩)] w.drew fun e w' => ∃ a n c, e = .returned (.slice a n c) ∧ (n ≤ c ∧ Opl w' a n (whole7 x.L) ∧ Below w.heap.size w w') := cw.mono fun e w' hh => by
    obtain ⟨v, rfl, hO, hb⟩ := hh
    obtain ⟨a, c, rfl, hl, hc, _⟩ := hO.form
    exact ⟨a, _, c, rfl, hc, hl, Tx.below_call hd1 hb⟩
  have hB : ∀ a n c W, (n ≤ c ∧ Opl W a n (whole7 x.L) ∧ Below w.heap.size w W) → Calls Tryz.prog 24 #[.slice a n c] W fun e w' => e = .returned (.string (rec7 (whole7 x.L))) ∧ Below w.heap.size w w' := fun a n c W hW =>
    (record_any a n c (whole7 x.L) W hW.2.1 (by omega) hW.1).mono fun e w' hh => ⟨hh.1, Tx.below_call hW.2.2 hh.2⟩
  have hC : ∀ W, Below w.heap.size w W → Calls Tryz.prog 44 #[.string (rec7 (whole7 x.L))] W fun e w' => e = .returned (.string (Fm.pk (rec7 (whole7 x.L)))) ∧ Below w.heap.size w w' := fun W hW =>
    (Fr.fPack_any (rec7 (whole7 x.L)) W (by omega)).mono fun e w' hh => ⟨hh.1, Tx.below_call hW hh.2⟩
  have HS := Lib.hid hS
  have HDS := Lib.hid hDS
  have HA := Lib.hid hA
  have HB := Lib.hid hB
  have HC := Lib.hid hC
  have HF := Lib.hid cf
  generalize hR7 : rec7 (whole7 x.L) = R7 at *
  generalize hPK : Fm.pk R7 = PK at *
  by_cases e1 : k1 ≠ 0
  · have hp : packS x p q = (k1, ⟨⟨s1, x.j.R, x.j.dm⟩, x.L⟩) := pack_1 (by rw [hR7, hPK]; exact hf) e1
    rw [hp]
    have n1 := neZ e1
    have h0 := Lib.hid (hS w (Below.refl _ _))
    clear h h1 o1 o2 o3 o4 o5 hlen hsz hpk hvb t0 t1 t2 t3 hd1 cw hf cf hS hDS hrg hA hB hC hp e1 hR7 hPK
    go_enter Tryz.func15, Tryz.ntmps15
    go_wp2_with fail
    refine Rg.wp_only ?_ (packReg _ (by kernel_rfl) _ t b k1 p R7 PK _ _ _ _ _ h0.out HA.out (fun a n c W hW => HS.out W hW.2.2) HB.out (fun W hW => HS.out W hW) HC.out (fun W hW => HS.out W hW) HF.out HDS.out)
    rintro _ w8 ⟨a5, n5, c5, rfl, h8⟩
    go_wp2_with fail
    go_ret
    exact ⟨rfl, h8⟩
  · obtain rfl : k1 = 0 := by omega
    have o2' := o2 (by rw [hf])
    rw [hf] at o2'
    simp only at o2'
    obtain ⟨k2, y, hrs⟩ : ∃ k y, resetS ⟨s1, x.j.R, x.j.dm⟩ q = (k, y) := ⟨_, _, rfl⟩
    have hp : packS x p q = (k2, ⟨y, x.L⟩) := pack_2 (by rw [hR7, hPK]; exact hf) hrs
    rw [hp]
    have h0 := Lib.hid (hS w (Below.refl _ _))
    have H2 := Lib.hid o2'
    have HRS := Lib.hid hrs
    have H5 := Lib.hid o5
    clear h h1 o1 o2 o3 o4 o5 hlen hsz hpk hvb t0 t1 t2 t3 hd1 cw hf cf hS hDS hrg hA hB hC hp e1 o2' hrs hR7 hPK
    go_enter Tryz.func15, Tryz.ntmps15
    go_wp2_with fail
    refine Rg.wp_only ?_ (packReg _ (by kernel_rfl) _ t b 0 p R7 PK _ _ _ _ _ h0.out HA.out (fun a n c W hW => HS.out W hW.2.2) HB.out (fun W hW => HS.out W hW) HC.out (fun W hW => HS.out W hW) HF.out HDS.out)
    rintro _ w8 ⟨a5, n5, c5, rfl, F8, ⟨Fj8, q8⟩, k8, n8⟩
    obtain ⟨_, _, t2, _⟩ := q8.cell
    obtain ⟨v8, Fd8, j8⟩ := q8.jn
    have cr := iReset_any b j q w8 j8 H2.out H5.out
    rw [HRS.out] at cr
    have HQ := Lib.hid (fun w' (hl : LeftA (JnT b j q) w8 Fj8 y w') => left_trans7 k8 n8 (q8.jleft (y := y) hl))
    clear q8 j8 k8 n8
    go_wp2_with fail
    go_at_call 46
    refine cr.mono ?_
    rintro e w9 ⟨rfl, h9⟩
    go_wp2_with fail
    go_ret
    exact ⟨rfl, HQ.out _ h9⟩
set_option maxRecDepth 100000 in
theorem begin_any (tp : Option Addr) (w : World) : Calls Tryz.prog 9 #[.pointer tp] w fun e w' => ∃ u, e = .returned (.pointer (some ⟨u, 0, none⟩)) ∧ ∃ G, Bn u tp w' G [] ∧ (∀ g, G g → w.heap.size ≤ g) ∧ Below w.heap.size w w' := by
  have HB := Lib.hid (((Below.refl w.heap.size w).alloc (Nat.le_refl _) (.map #[] 0)).alloc (by simp) (.cells #[.pointer tp, .slice none 0 0, .map (some w.heap.size)] 88))
  have hP : Pp ((w.alloc (.map #[] 0)).alloc (.cells #[.pointer tp, .slice none 0 0, .map (some w.heap.size)] 88)) w.heap.size [] := (pp_made w).kept (((Below.refl (w.alloc (.map #[] 0)).heap.size _).alloc (Nat.le_refl _) _).block _ (by simp))
  have hb := new_at (w.alloc (.map #[] 0)) (.cells #[.pointer tp, .slice none 0 0, .map (some w.heap.size)] 88) (g := w.heap.size + 1) (by simp)
  have hbn : BAt (w.heap.size + 1) w.heap.size tp (.slice none 0 0) ((w.alloc (.map #[] 0)).alloc (.cells #[.pointer tp, .slice none 0 0, .map (some w.heap.size)] 88)) (fun i => i = w.heap.size + 1 ∨ (Value.slice none 0 0).ownBlock = some i ∨ i = w.heap.size) [] :=
    ⟨hb, nil_OwnC _ _, hP, (fun e => by cases e), List.Pairwise.nil, fun i => Iff.rfl⟩
  have HN := Lib.hid hbn
  have hmm := @run_makeMap Tryz.prog
  clear hbn hP hb
  go_enter Tryz.func9, Tryz.ntmps9
  go_wp2_with fail
  go_ret
  refine ⟨w.heap.size + 1, rfl, _, ⟨_, _, HN.out⟩, ?_, HB.out⟩
  rintro g (rfl | hg | rfl)
  · omega
  · cases hg
  · omega
end Go.Proofs.YtjdfffkkpbabpaaGreat.Tb

namespace Go.Proofs.YtjdfffkkpbabpaaGreat.Tb
open Go.RowKit Tx Pm Dk Wm Wr Wl Pl
set_option linter.unusedVariables false
set_option linter.unusedSimpArgs false
set_option linter.unnecessarySimpa false
def TB (b j t m : Nat) (p q : ByteArray) (u : Nat) (w : World) (H : Nat → Prop) (z : Tst × List Ch) : Prop := ∃ F G, Tn b j t m p q w F z.1 ∧ Bn u (some ⟨t, 0, none⟩) w G z.2 ∧ (∀ i, F i → ¬ G i) ∧ ∀ i, H i ↔ F i ∨ G i
theorem bat_beside {b j t m u pm : Nat} {p q : ByteArray} {tp : Option Addr} {vO : Value} {w w1 : World} {F F1 G : Nat → Prop} {x y : Tst} {l : List Ch} (hB : BAt u pm tp vO w G l) (hd : ∀ i, F i → ¬ G i) (hc : Chg F w w1) (hn : ∀ g, F1 g → F g ∨ w.heap.size ≤ g) :
    BAt u pm tp vO w1 G l ∧ ∀ i, F1 i → ¬ G i :=
  ⟨hB.kept (fun i hi => hc.block i (hB.lt i hi) (fun hf => hd i hf hi)), fun i hi hg => by
    rcases hn i hi with hh | hh
    · exact hd i hh hg
    · have := hB.lt i hg; omega⟩
def CommitOk (x : Tst) (l : List Ch) (p q : ByteArray) : Prop := wt l ≤ 1000000000 ∧ AddOk x.j q (rec7 l) ∧ x.L.length + l.length ≤ 1000000000 ∧ q.size ≤ 1000 ∧ (addS x.j q (rec7 l)).2.R.length ≤ 10000000000 ∧ (16 ≤ (addS x.j q (rec7 l)).2.R.length → PackOk ⟨(addS x.j q (rec7 l)).2, all7 x.L l⟩ p q)
theorem commit_0 {x : Tst} {p q : ByteArray} : commitS x [] p q = (0, x) := rfl
theorem commit_1 {x : Tst} {l : List Ch} {p q : ByteArray} {k : Nat} {y : Jst} (hl : l ≠ []) (h : addS x.j q (rec7 l) = (k, y)) (hk : k ≠ 0) : commitS x l p q = (k, ⟨y, x.L⟩) := by
  unfold commitS; rw [if_neg hl, h]; exact if_pos hk
theorem commit_2 {x : Tst} {l : List Ch} {p q : ByteArray} {y : Jst} (hl : l ≠ []) (h : addS x.j q (rec7 l) = (0, y)) (h16 : ¬ 16 ≤ y.R.length) : commitS x l p q = (0, ⟨y, all7 x.L l⟩) := by
  unfold commitS; rw [if_neg hl, h]; simp only; rw [if_neg (fun hh => hh rfl), if_neg h16]
theorem commit_3 {x : Tst} {l : List Ch} {p q : ByteArray} {y : Jst} (hl : l ≠ []) (h : addS x.j q (rec7 l) = (0, y)) (h16 : 16 ≤ y.R.length) : commitS x l p q = packS ⟨y, all7 x.L l⟩ p q := by
  unfold commitS; rw [if_neg hl, h]; simp only; rw [if_neg (fun hh => hh rfl), if_pos h16]
theorem cleared {u pm : Nat} {tp : Option Addr} {vO : Value} {w : World} {G : Nat → Prop} {l : List Ch} (h : BAt u pm tp vO w G l) :
    ((w.alloc (.map #[] 0)).cell? ⟨u, 1, none⟩ = some vO ∧ (w.alloc (.map #[] 0)).frozen? ⟨u, 1, none⟩ = false) ∧
    (((w.alloc (.map #[] 0)).setCell ⟨u, 1, none⟩ (.slice none 0 0)).cell? ⟨u, 2, none⟩ = some (.map (some pm)) ∧ ((w.alloc (.map #[] 0)).setCell ⟨u, 1, none⟩ (.slice none 0 0)).frozen? ⟨u, 2, none⟩ = false) ∧
    BAt u w.heap.size tp (.slice none 0 0) (((w.alloc (.map #[] 0)).setCell ⟨u, 1, none⟩ (.slice none 0 0)).setCell ⟨u, 2, none⟩ (.map (some w.heap.size))) (fun i => i = u ∨ (Value.slice none 0 0).ownBlock = some i ∨ i = w.heap.size) [] ∧
    Chg (· = u) w (((w.alloc (.map #[] 0)).setCell ⟨u, 1, none⟩ (.slice none 0 0)).setCell ⟨u, 2, none⟩ (.map (some w.heap.size))) := by
  have hul : u < w.heap.size := h.lt u ((h.foot u).2 (.inl rfl))
  have hb0 : (w.alloc (.map #[] 0)).heap[u]? = some (.cells #[.pointer tp, vO, .map (some pm)] 88 (0, 0)) := (((Below.refl w.heap.size w).alloc (Nat.le_refl _) _).block u hul).trans h.blk
  have hb1 : ((w.alloc (.map #[] 0)).setCell ⟨u, 1, none⟩ (.slice none 0 0)).heap[u]? = some (.cells #[.pointer tp, .slice none 0 0, .map (some pm)] 88 (0, 0)) := by rw [set_block hb0]; rfl
  have hb2 : (((w.alloc (.map #[] 0)).setCell ⟨u, 1, none⟩ (.slice none 0 0)).setCell ⟨u, 2, none⟩ (.map (some w.heap.size))).heap[u]? = some (.cells #[.pointer tp, .slice none 0 0, .map (some w.heap.size)] 88 (0, 0)) := by rw [set_block hb1]; rfl
  refine ⟨⟨?_, ?_⟩, ⟨?_, ?_⟩, ⟨hb2, nil_OwnC _ _, ?_, (fun e => by cases e), List.Pairwise.nil, fun i => Iff.rfl⟩, ((Chg.of_below ((Below.refl w.heap.size w).alloc (Nat.le_refl _) _)).then (chg_set (b := u) (k := 1) _)).then (chg_set (b := u) (k := 2) _)⟩
  · unfold World.cell?; rw [hb0]; rfl
  · unfold World.frozen?; rw [hb0]; simp
  · unfold World.cell?; rw [hb1]; rfl
  · unfold World.frozen?; rw [hb1]; simp
  · exact ((pp_made w).kept (set_other _ (by omega))).kept (set_other _ (by omega))
def CommitTo (b j t m : Nat) (p q : ByteArray) (u : Nat) (w : World) (H : Nat → Prop) (r : Nat × Tst) (e : Ending) (w' : World) : Prop :=
  e = .returned (.int .i64 (r.1 : Nat)) ∧ LeftA (Tn b j t m p q) w H r.2 w' ∧ (r.1 = 0 → LeftA (TB b j t m p q u) w H (r.2, []) w')
theorem left_wide {α : Type} {Obj : World → (Nat → Prop) → α → Prop} {w w1 : World} {F H : Nat → Prop} {y : α} (hF : ∀ i, F i → H i) (h : LeftA Obj w F y w1) : LeftA Obj w H y w1 := by
  obtain ⟨F', h1, h2, h3⟩ := h
  exact ⟨F', h1, h2.mono hF, fun g hg => (h3 g hg).imp (fun hh => hF g hh) id⟩
theorem not_nil_len {l : List Ch} {n : Nat} (h : l ≠ []) (hn : n = l.length) : 0 < n := by
  cases l with
  | nil => exact absurd rfl h
  | cons x l => simp at hn; omega
set_option maxRecDepth 100000 in
set_option maxHeartbeats 4000000 in
theorem commit_any (b j t m u : Nat) {H : Nat → Prop} {x : Tst} {l : List Ch} (p q : ByteArray) (w : World) (h : TB b j t m p q u w H (x, l)) (o : CommitOk x l p q) :
    Calls Tryz.prog 13 #[.pointer (some ⟨u, 0, none⟩)] w (CommitTo b j t m p q u w H (commitS x l p q)) := by
  have h0 := h
  obtain ⟨F, G, ⟨Fj, hT⟩, ⟨pm, vO, hB⟩, hd, hH⟩ := h
  obtain ⟨o1, o2, o3, o4, o5, o6⟩ := o
  obtain ⟨c0, c1, c2⟩ := hB.cell
  obtain ⟨aO, cO, hvO, hO1, hO2, _⟩ := hB.ops.form
  obtain ⟨n, hn⟩ : ∃ n, n = l.length := ⟨_, rfl⟩
  rw [← hn] at hvO hO1 hO2
  by_cases hl : l = []
  · subst hl
    obtain rfl : n = 0 := hn
    rw [hvO] at c1
    have HE := Lib.hid (show CommitTo b j t m p q u w H (commitS x [] p q) (.returned (.int .i64 0)) w from ⟨rfl, ⟨F, ⟨Fj, hT⟩, Chg.refl _ _, fun g hg => .inl ((hH g).2 (.inl hg))⟩, fun _ => LeftA.of h0 (Chg.refl _ _)⟩)
    clear h0 hT hB hd hH o1 o2 o3 o4 o5 o6 hvO hO1
    go_enter Tryz.func13, Tryz.ntmps13
    go_wp2_with fail
    go_ret
    exact HE.out
  · have hpos := not_nil_len hl hn
    have hd1 := (Below.refl w.heap.size w).drew
    obtain ⟨k, y, hadd⟩ : ∃ k y, addS x.j q (rec7 l) = (k, y) := ⟨_, _, rfl⟩
    have hrec : ∀ W, Below w.heap.size w W → Calls Tryz.prog 24 #[.slice aO n cO] W fun e w' => e = .returned (.string (rec7 l)) ∧ Below w.heap.size w w' := fun W hW =>
      (record_any aO n cO l W (hO1.below hW) (by omega) hO2).mono fun e w' hh => ⟨hh.1, Tx.below_call hW hh.2⟩
    have hcall : ∀ W, Below w.heap.size w W → Calls Tryz.prog 38 #[.pointer (some ⟨j, 0, none⟩), .string (rec7 l)] W fun e w' => e = .returned (.int .i64 (k : Nat)) ∧ LeftA (Tn b j t m p q) w F ⟨y, x.L⟩ w' := fun W hW => by
      have hW2 := hT.below hW
      obtain ⟨v, Fd, hj⟩ := hW2.jn
      have c := iAdd_any b j q (rec7 l) W hj o2 o4
      rw [hadd] at c
      exact c.mono fun e w' hh => ⟨hh.1, left_trans7 (Chg.of_below hW) (fun g hg => .inl hg) (hW2.jleft (y := y) hh.2)⟩
    have hS : ∀ W, Below w.heap.size w W → TwoC t j u n cO aO W := fun W hW => ⟨(hT.below hW).cell.2.2.1, (hB.below hW).cell.2.1.trans (by rw [hvO])⟩
    have hS8 : ∀ W, LeftA (Tn b j t m p q) w F ⟨y, x.L⟩ W → TwoC t j u n cO aO W := fun W hW => by
      obtain ⟨F8, ⟨Fj8, h8⟩, k8, n8⟩ := hW
      exact ⟨h8.cell.2.2.1, (bat_beside (b := b) (j := j) (t := t) (m := m) (p := p) (q := q) (x := x) (y := x) hB hd k8 n8).1.cell.2.1.trans (by rw [hvO])⟩
    have HS := Lib.hid hS
    have HS8 := Lib.hid hS8
    have HREC := Lib.hid hrec
    have HCALL := Lib.hid hcall
    have hs0 := Lib.hid (hS w (Below.refl _ _))
    have hnz : ((n : Int) == 0) = false := by simp; omega
    have c1' := c1
    rw [hvO] at c1'
    by_cases hk : k ≠ 0
    · rw [commit_1 hl hadd hk]
      have nk := neZ hk
      have HK := Lib.hid hk
      have HH := Lib.hid hH
      clear h0 hT hB hd hH o1 o2 o3 o4 o5 o6 hvO hO1 hn hS hS8 hrec hcall hadd hk hl hd1 c1
      go_enter Tryz.func13, Tryz.ntmps13
      go_wp2_with fail
      refine Rg.wp_only ?_ (commitReg _ (by kernel_rfl) _ t j u n cO k aO (rec7 l) _ _ _ hs0.out (HREC.out _ (Below.refl w.heap.size w).drew) (fun W hW => HS.out W hW) HCALL.out HS8.out)
      rintro _ w8 ⟨rfl, h8⟩
      go_wp2_with fail
      go_ret
      exact ⟨rfl, left_wide (fun i hi => (HH.out i).2 (.inl hi)) h8, fun hh => absurd hh HK.out⟩
    · obtain rfl : k = 0 := by omega
      rw [hadd] at o5 o6
      simp only at o5 o6
      have hwl := wt_len l
      -- behind Add
      have hnext : ∀ w8, LeftA (Tn b j t m p q) w F ⟨y, x.L⟩ w8 → ∃ F8, (∃ Fj8, TAt b j t m p q Fj8 w8 F8 ⟨y, x.L⟩) ∧ BAt u pm (some ⟨t, 0, none⟩) vO w8 G l ∧ (∀ i, F8 i → ¬ G i) ∧ Chg F w w8 ∧ (∀ g, F8 g → F g ∨ w.heap.size ≤ g) := fun w8 hW => by
        obtain ⟨F8, h8, k8, n8⟩ := hW
        obtain ⟨a1, a2⟩ := bat_beside (b := b) (j := j) (t := t) (m := m) (p := p) (q := q) (x := x) (y := x) hB hd k8 n8
        exact ⟨F8, h8, a1, a2, k8, n8⟩
      have HNX := Lib.hid hnext
      have HH := Lib.hid hH
      have HN := Lib.hid hn
      have HV := Lib.hid hvO
      have HO3 := Lib.hid (show x.L.length + n ≤ 1000000000 by omega)
      have HKS := Lib.hid (show ∀ z ∈ l, z.key.size ≤ 1000000000000 from fun z hz => by have := wt_mem hz; omega)
      have HL := Lib.hid hl
      have HADD := Lib.hid hadd
      have H5 := Lib.hid o5
      have H6 := Lib.hid o6
      clear h0 hT hB hd hH o1 o2 o3 o4 o5 o6 hvO hO1 hn hS hS8 hrec hcall hadd hk hl hd1 c1 hnext hwl
      go_enter Tryz.func13, Tryz.ntmps13
      go_wp2_with fail
      refine Rg.wp_only ?_ (commitReg _ (by kernel_rfl) _ t j u n cO 0 aO (rec7 l) _ _ _ hs0.out (HREC.out _ (Below.refl w.heap.size w).drew) (fun W hW => HS.out W hW) HCALL.out HS8.out)
      rintro _ w8 ⟨rfl, h8⟩
      obtain ⟨F8, ⟨Fj8, hT8⟩, hB8, hd8, k8, n8⟩ := HNX.out _ h8
      obtain ⟨_, _, _, t83⟩ := hT8.cell
      obtain ⟨_, b81, _⟩ := hB8.cell
      obtain ⟨aP, cP, hvP, hOP, hcP, _⟩ := hB8.ops.form
      rw [HV.out, ← HN.out] at hvP
      injection hvP with e1 e2 e3
      subst e1 e3
      rw [← HN.out] at hOP
      have cd := do_any t m x.L aO n cO l w8 t83 hT8.rows hT8.rises hOP HO3.out HKS.out (by rw [HN.out]; exact hcP)
      rw [HV.out] at b81
      have HT8 := Lib.hid hT8
      have HB8 := Lib.hid hB8
      have HD8 := Lib.hid hd8
      have HK8 := Lib.hid k8
      have HN8 := Lib.hid n8
      clear hT8 hB8 hd8 k8 n8 hOP hcP h8 e2
      go_wp2_with fail
      go_at_call 39
      refine cd.mono ?_
      rintro e w9 ⟨rfl, hm9, hc9⟩
      have hT9 := HT8.out.turned hm9 hc9 (rises_all HT8.out.rises l) (plain_all HT8.out.plain l)
      have hm8 : F8 m := (HT8.out.foot m).2 (.inr (.inr rfl))
      have hB9 := HB8.out.kept (fun i hi => hc9.block i (HB8.out.lt i hi) (fun e => HD8.out m hm8 (e ▸ hi)))
      obtain ⟨⟨s1, s2⟩, ⟨s3, s4⟩, hBn, hcu⟩ := cleared hB9
      rw [HV.out] at s1
      have huG : G u := (HB8.out.foot u).2 (.inl rfl)
      have hT11 := hT9.kept (fun i hi => hcu.block i (hT9.lt i hi) (fun e => HD8.out i hi (e ▸ huG)))
      obtain ⟨_, _, t112, _⟩ := hT11.cell
      have hmm := @run_makeMap Tryz.prog
      have hz9 : w8.heap.size ≤ w9.heap.size := hc9.size
      have hz8 : w.heap.size ≤ w8.heap.size := HK8.out.size
      have hch9 : Chg H w w9 := (HK8.out.mono (fun i hi => (HH.out i).2 (.inl hi))).trans (hc9.mono (G := F8) (fun i hi => hi ▸ hm8)) (fun i hi => (HN8.out i hi).imp (fun hh => (HH.out i).2 (.inl hh)) id)
      have hch11 := hch9.then (hcu.mono (fun i hi => (HH.out i).2 (.inr (hi ▸ huG))))
      have hdis : ∀ i, F8 i → ¬ (i = u ∨ (Value.slice none 0 0).ownBlock = some i ∨ i = w9.heap.size) := fun i hi hh => by
        rcases hh with rfl | hh | rfl
        · exact HD8.out _ hi huG
        · cases hh
        · exact absurd (hT9.lt _ hi) (Nat.lt_irrefl _)
      obtain ⟨v11, Fd11, j11⟩ := hT11.jn
      have cr := iRecords_any (imp_kind b) b j q _ j11 H5.out
      have HT11 := Lib.hid hT11
      have HBn := Lib.hid hBn
      have HCH := Lib.hid hch11
      have HDIS := Lib.hid hdis
      have HSZ := Lib.hid (show w.heap.size ≤ w9.heap.size by omega)
      clear hT9 hB9 hBn hT11 hm9 hc9 hch9 hch11 hdis j11 hcu hz9 hz8 cd
      have HG8 := Lib.hid (show ∀ g, F8 g → H g ∨ w.heap.size ≤ g from fun g hg => (HN8.out g hg).imp (fun hh => (HH.out g).2 (.inl hh)) id)
      have HGB := Lib.hid (show ∀ g, (g = u ∨ (Value.slice none 0 0).ownBlock = some g ∨ g = w9.heap.size) → H g ∨ w.heap.size ≤ g from fun g hg => by
        rcases hg with rfl | hg | rfl
        · exact .inl ((HH.out _).2 (.inr huG))
        · cases hg
        · exact .inr HSZ.out)
      obtain ⟨N, hN⟩ : ∃ N, N = y.R.length := ⟨_, rfl⟩
      have HNN := Lib.hid hN
      clear hN
      go_wp2_with fail
      generalize ((w9.alloc (.map #[] 0)).setCell ⟨u, 1, none⟩ (.slice none 0 0)).setCell ⟨u, 2, none⟩ (.map (some w9.heap.size)) = W at HT11 HBn HCH cr t112 ⊢
      go_at_call 40
      refine cr.mono ?_
      rintro e w12 ⟨v12, rfl, h12, hb12⟩
      obtain ⟨a12, c12, hv12, _⟩ := h12.form
      rw [show (⟨y, all7 x.L l⟩ : Tst).j.R.length = N from HNN.out.symm] at hv12
      have hT12 := HT11.out.below hb12
      have hB12 := HBn.out.below hb12
      have hC12 : Chg H w w12 := HCH.out.then (Chg.of_below hb12)
      clear h12
      subst hv12
      by_cases h16 : 16 ≤ y.R.length
      · have hz16 : (16 : Int) ≤ (N : Int) := by rw [HNN.out]; omega
        have hcs : commitS x l p q = packS ⟨y, all7 x.L l⟩ p q := commit_3 HL.out HADD.out h16
        have cp := pack_any b j t m p q w12 hT12 (H6.out h16)
        have HCS := Lib.hid hcs
        have HP := Lib.hid (fun w' (hl : LeftA (Tn b j t m p q) w12 F8 (packS ⟨y, all7 x.L l⟩ p q).2 w') => (⟨left_trans7 hC12 HG8.out (left_wide (fun i hi => hi) hl), fun _ => by
          obtain ⟨F13, h13, k13, n13⟩ := hl
          obtain ⟨b1, b2⟩ := bat_beside (b := b) (j := j) (t := t) (m := m) (p := p) (q := q) (x := x) (y := x) hB12 HDIS.out k13 n13
          have hs12 := hC12.size
          refine ⟨fun i => F13 i ∨ (i = u ∨ (Value.slice none 0 0).ownBlock = some i ∨ i = w9.heap.size), ⟨F13, _, h13, ⟨_, _, b1⟩, b2, fun i => Iff.rfl⟩, hC12.trans k13 HG8.out, fun g hg => ?_⟩
          rcases hg with hg | hg
          · rcases n13 g hg with hh | hh
            · exact HG8.out g hh
            · exact .inr (by omega)
          · exact HGB.out g hg⟩ : LeftA (Tn b j t m p q) w H (packS ⟨y, all7 x.L l⟩ p q).2 w' ∧ ((packS ⟨y, all7 x.L l⟩ p q).1 = 0 → LeftA (TB b j t m p q u) w H ((packS ⟨y, all7 x.L l⟩ p q).2, []) w')))
        clear hT12 hB12 hC12 hcs h16
        go_wp2_with fail
        go_at_call 15
        refine cp.mono ?_
        rintro e w13 ⟨rfl, h13⟩
        obtain ⟨q1, q2⟩ := HP.out _ h13
        clear h13
        go_wp2_with fail
        go_ret
        rw [HCS.out]
        exact ⟨rfl, q1, q2⟩
      · have hz16 : ¬ (16 : Int) ≤ (N : Int) := by rw [HNN.out]; omega
        have hcs : commitS x l p q = (0, ⟨y, all7 x.L l⟩) := commit_2 HL.out HADD.out h16
        have HCS := Lib.hid hcs
        have HE := Lib.hid (show CommitTo b j t m p q u w H (0, ⟨y, all7 x.L l⟩) (.returned (.int .i64 0)) w12 from
          ⟨rfl, ⟨F8, ⟨_, hT12⟩, hC12, HG8.out⟩, fun _ => ⟨fun i => F8 i ∨ (i = u ∨ (Value.slice none 0 0).ownBlock = some i ∨ i = w9.heap.size), ⟨F8, _, ⟨_, hT12⟩, ⟨_, _, hB12⟩, HDIS.out, fun i => Iff.rfl⟩, hC12, fun g hg => hg.elim (HG8.out g) (HGB.out g)⟩⟩)
        clear hT12 hB12 hC12 hcs h16
        go_wp2_with fail
        go_ret
        rw [HCS.out]
        exact HE.out
end Go.Proofs.YtjdfffkkpbabpaaGreat.Tb

namespace Go.Proofs.YtjdfffkkpbabpaaGreat.Tb
open Go.RowKit Tx Pm Dk Wm Wr Wl Pl
set_option linter.unusedVariables false
set_option linter.unusedSimpArgs false
set_option linter.unnecessarySimpa false
def RecOk (L : List It) (R : List ByteArray) : Prop := (∀ r ∈ R, (opsS r).2 = 0 ∧ r.size ≤ 500000000) ∧ L.length + (R.map (·.size)).sum ≤ 500000000 ∧ R.length ≤ 10000000000
theorem sum_take (R : List ByteArray) (k : Nat) : ((R.take k).map (·.size)).sum ≤ (R.map (·.size)).sum := by
  conv => rhs; rw [← List.take_append_drop k R]
  rw [List.map_append, List.sum_append]
  omega
def LogTo (b t m : Nat) (p q : ByteArray) (w : World) (Fd : Nat → Prop) (L : List It) (r : Nat × Jst) (e : Ending) (w' : World) : Prop :=
  (r.1 = 0 ∧ e = .returned (.int .i64 0) ∧ ∃ j, LeftA (Tn b j t m p q) w (fun i => Fd i ∨ i = t ∨ i = m) ⟨r.2, rows7 L r.2.R⟩ w') ∨ (r.1 ≠ 0 ∧ e = .returned (.int .i64 (r.1 : Nat)) ∧ Dk.Left (ImpAt b) w Fd r.2.s w')
set_option maxRecDepth 100000 in
set_option maxHeartbeats 4000000 in
theorem takeLog_any (b t m : Nat) {Fd : Nat → Prop} {s : St} {L : List It} (p q : ByteArray) (w : World) (hblk : w.heap[t]? = some (.cells #[.pointer (some ⟨b, 0, none⟩), .string p, .pointer none, .map (some m)] 70 (0, 0)))
    (hm : Mo w m L) (hD : ImpAt b w Fd s) (hoff : ¬ Fd t ∧ ¬ Fd m) (hR : Rises L) (hP : Plain L) (o : OpenOk s q) (hq : q.size ≤ 1000) (hrec : (openS s q).1 = 0 → RecOk L (openS s q).2.R) :
    Calls Tryz.prog 29 #[.pointer (some ⟨t, 0, none⟩), .string q] w (LogTo b t m p q w Fd L (openS s q)) := by
  have co := iOpen_any b q w hD o hq
  have htl : t < w.heap.size := (Array.getElem?_eq_some_iff.1 hblk).1
  have t0 : w.cell? ⟨t, 0, none⟩ = some (.pointer (some ⟨b, 0, none⟩)) := by unfold World.cell?; rw [hblk]; rfl
  have htm : t ≠ m := fun e => hm.nb (e ▸ hblk)
  have hml := hm.lt
  obtain ⟨k, x, hx⟩ : ∃ k x, openS s q = (k, x) := ⟨_, _, rfl⟩
  unfold LogTo
  rw [hx] at co hrec ⊢
  simp only at hrec ⊢
  by_cases hk : k ≠ 0
  · have nk := neZ hk
    have HK := Lib.hid hk
    have c1 : Calls Tryz.prog 75 #[.pointer (some ⟨b, 0, none⟩), .string q] w fun e w' => e = .returned (.tuple #[.pointer none, .int .i64 (k : Nat)]) ∧ Dk.Left (ImpAt b) w Fd x.s w' := co.mono fun e w' hh => by
      rcases hh with ⟨h0, _⟩ | ⟨_, he, hl⟩
      · exact absurd h0 hk
      · exact ⟨he, hl⟩
    clear hblk hm hD hoff o hrec co htm hk hx
    go_enter Tryz.func29, Tryz.ntmps29
    go_wp2_with fail
    go_at_call 75
    refine c1.mono ?_
    rintro e w1 ⟨rfl, h1⟩
    go_wp2_with fail
    go_ret
    exact .inr ⟨HK.out, rfl, h1⟩
  · obtain rfl : k = 0 := by omega
    obtain ⟨hr1, hr2, hr3⟩ := hrec rfl
    have c1 : Calls Tryz.prog 75 #[.pointer (some ⟨b, 0, none⟩), .string q] w fun e w' => ∃ j, e = .returned (.tuple #[.pointer (some ⟨j, 0, none⟩), .int .i64 0]) ∧ LeftA (JnT b j q) w Fd x w' := co.mono fun e w' hh => by
      rcases hh with ⟨_, j, he, hl⟩ | ⟨h0, _⟩
      · exact ⟨j, he, hl⟩
      · exact absurd rfl h0
    have HBLK := Lib.hid hblk
    have HM := Lib.hid hm
    have HOFF := Lib.hid hoff
    have HR := Lib.hid hR
    have HP := Lib.hid hP
    have HR1 := Lib.hid hr1
    obtain ⟨n, hn⟩ : ∃ n, n = x.R.length := ⟨_, rfl⟩
    have HN := Lib.hid hn
    have HSUM := Lib.hid hr2
    clear hblk hm hD hoff o hrec co hx hR hP hr1 hn hr2 hk
    go_enter Tryz.func29, Tryz.ntmps29
    go_wp2_with fail
    go_at_call 75
    refine c1.mono ?_
    rintro e w1 ⟨j, rfl, Fj, hj, k1, n1⟩
    have hb1 : w1.heap[t]? = _ := (k1.block t htl HOFF.out.1).trans HBLK.out
    have hm1 := HM.out.kept (k1.block m hml HOFF.out.2)
    have hjt : ¬ Fj t := fun hh => by rcases n1 t hh with h | h; exact HOFF.out.1 h; omega
    have hjm : ¬ Fj m := fun hh => by rcases n1 m hh with h | h; exact HOFF.out.2 h; omega
    have s0 : w1.cell? ⟨t, 2, none⟩ = some (.pointer none) := by unfold World.cell?; rw [hb1]; rfl
    have s1 : w1.frozen? ⟨t, 2, none⟩ = false := by unfold World.frozen?; rw [hb1]; simp
    have hb2 : (w1.setCell ⟨t, 2, none⟩ (.pointer (some ⟨j, 0, none⟩))).heap[t]? = some (.cells #[.pointer (some ⟨b, 0, none⟩), .string p, .pointer (some ⟨j, 0, none⟩), .map (some m)] 70 (0, 0)) := by rw [set_block hb1]; rfl
    have kt2 : Chg (· = t) w1 (w1.setCell ⟨t, 2, none⟩ (.pointer (some ⟨j, 0, none⟩))) := chg_set (b := t) (k := 2) _
    have hjlt := (jn_kind (imp_kind b) 137 b j q).1 hj
    have hj2 : JnT b j q (w1.setCell ⟨t, 2, none⟩ (.pointer (some ⟨j, 0, none⟩))) Fj x := (jn_kind (imp_kind b) 137 b j q).2 hj (fun i hi => kt2.block i (hjlt i hi) (fun e => hjt (e ▸ hi)))
    have hm2 := hm1.kept (kt2.block m hm1.lt (fun e => htm e.symm))
    have hTA : TAt b j t m p q Fj (w1.setCell ⟨t, 2, none⟩ (.pointer (some ⟨j, 0, none⟩))) (fun i => Fj i ∨ i = t ∨ i = m) ⟨x, L⟩ := ⟨hj2, hb2, hm2, ⟨hjt, hjm⟩, fun i => Iff.rfl, HR.out, HP.out⟩
    have hch2 : Chg (fun i => Fd i ∨ i = t ∨ i = m) w (w1.setCell ⟨t, 2, none⟩ (.pointer (some ⟨j, 0, none⟩))) := (k1.mono (fun i hi => .inl hi)).then (kt2.mono (fun i hi => .inr (.inl hi)))
    have hnew : ∀ g, (Fj g ∨ g = t ∨ g = m) → (Fd g ∨ g = t ∨ g = m) ∨ w.heap.size ≤ g := fun g hg => by
      rcases hg with hg | hg
      · exact (n1 g hg).imp (fun hh => .inl hh) id
      · exact .inl (.inr hg)
    obtain ⟨v2, Fd2, jj⟩ := hj2
    have cr := iRecords_any (imp_kind b) b j q _ jj hr3
    have HTA := Lib.hid hTA
    have HCH := Lib.hid hch2
    have HNEW := Lib.hid hnew
    clear hj jj hm1 hm2 hb1 hb2 kt2 hTA hch2 hnew k1 n1 hjlt hjt hjm
    go_wp2_with fail
    generalize w1.setCell ⟨t, 2, none⟩ (.pointer (some ⟨j, 0, none⟩)) = W at HTA HCH cr ⊢
    go_at_call 40
    refine cr.mono ?_
    rintro e w3 ⟨vR, rfl, hK, hb3⟩
    obtain ⟨aK, cK, hv, hsK, hcK, _⟩ := hK.form
    rw [← HN.out] at hv hsK hcK
    have hT3 := HTA.out.below hb3
    have hgm : ∀ g off, aK = some ⟨g, off, none⟩ → g ≠ m := fun g off e => by
      have hgb := hK.lt g (by rw [hv, e]; rfl)
      have := HTA.out.rows.lt
      omega
    have HSK := Lib.hid hsK
    have HGM := Lib.hid hgm
    have HT3 := Lib.hid hT3
    have HB3 := Lib.hid hb3
    have hm3 := hT3.rows
    clear hK hsK hT3 hgm hb3 cr s0 s1
    subst hv
    go_wp2_with fail
    go_loopw [29] (fun iv wr => ∃ k : Nat, k ≤ n ∧ iv = .int .i64 k ∧ Mo wr m (rows7 L (x.R.take k)) ∧ Chg (· = m) w3 wr) (fun iv _ => n - (intOf iv).toNat)
    case atStart => exact ⟨0, Nat.zero_le _, rfl, hm3, Chg.refl _ _⟩
    case round =>
      obtain ⟨i, hik, rfl, hmo, hch⟩ := hrel
      by_cases hlt : i < n
      · obtain ⟨r, hr⟩ : ∃ r, x.R[i]? = some r := ⟨_, List.getElem?_eq_getElem (by rw [← HN.out]; exact hlt)⟩
        obtain ⟨_, hne⟩ := HSK.out
        obtain ⟨g, off, rfl, hg, hcc⟩ := hne.resolve_left (by omega)
        have g0' := hcc i r hr
        have hbg := hch.block g hg (HGM.out g off rfl)
        have g0 : wr.cell? ⟨g, off + i, none⟩ = some (.string r) := by unfold World.cell? at g0' ⊢; rw [hbg]; exact g0'
        have hiz : (i : Int) < (n : Int) := by omega
        obtain ⟨hre, hrs⟩ := HR1.out r (List.mem_of_getElem? hr)
        have htc := HT3.out.cell.2.2.2
        have htl3 := World.block_lt_of_cell? w3 _ htc
        have hbt := hch.block t htl3 HT3.out.tm
        have htr : wr.cell? ⟨t, 3, none⟩ = some (.map (some m)) := by unfold World.cell? at htc ⊢; rw [hbt]; exact htc
        have hln := len_rows L (x.R.take i)
        have hst := sum_take x.R i
        have hsum := HSUM.out
        have ct := take_any t m (rows7 L (x.R.take i)) r wr htr hmo (rises_rows HR.out _) hrs (by omega)
        unfold taken at ct
        rw [hre, if_pos rfl] at ct
        have htk : rows7 L (x.R.take (i + 1)) = all7 (rows7 L (x.R.take i)) (opsS r).1 := by
          have hkl := (List.getElem?_eq_some_iff.1 hr).1
          rw [List.take_succ_eq_append_getElem hkl, rows7_snoc]
          rw [List.getElem?_eq_getElem hkl] at hr
          injection hr with hr
          rw [hr]
        rw [← htk] at ct
        clear hmo hr hne hcc g0' hbg hbt hre hln hst hsum htk htc
        go_wp2_with fail
        go_at_call 74
        refine ct.mono ?_
        rintro e w5 ⟨rfl, hm5, hc5⟩
        have hch5 := hch.then hc5
        clear hch hc5
        go_wp2_with fail
        go_roundw
        case rel => exact ⟨i + 1, by omega, by go_num, hm5, hch5⟩
        case measure => simp [intOf]; omega
      · obtain rfl : i = n := by omega
        have e : x.R.take i = x.R := List.take_of_length_le (by rw [← HN.out]; exact Nat.le_refl _)
        rw [e] at hmo
        have hfin := HT3.out.turned hmo hch (rises_rows HR.out _) (plain_rows HP.out _)
        have hcf : Chg (fun i => Fd i ∨ i = t ∨ i = m) w wr := (HCH.out.then (Chg.of_below HB3.out)).then (hch.mono (fun i hi => .inr (.inr hi)))
        have HE := Lib.hid (show LeftA (Tn b j t m p q) w (fun i => Fd i ∨ i = t ∨ i = m) ⟨x, rows7 L x.R⟩ wr from ⟨_, ⟨_, hfin⟩, hcf, HNEW.out⟩)
        clear hfin hcf hmo hch
        go_wp2_with fail
        go_ret
        exact .inl ⟨trivial, rfl, j, HE.out⟩
end Go.Proofs.YtjdfffkkpbabpaaGreat.Tb

namespace Go.Proofs.YtjdfffkkpbabpaaGreat.Tb
open Go.RowKit Tx Pm Dk Wm Wr Wl Pl Pr
set_option linter.unusedVariables false
set_option linter.unusedSimpArgs false
set_option linter.unnecessarySimpa false
def Open1Ok (s : St) (p q : ByteArray) : Prop := (readS s p).1.size ≤ 500000000 ∧ ((base0 s p).2 = 0 → OpenOk s q ∧ ((openS s q).1 = 0 → RecOk (base0 s p).1 (openS s q).2.R))
def Open7Ok (s : St) (f p q : ByteArray) : Prop := Ok s ∧ ((opened s f).1 = 0 → Open1Ok (opened s f).2 p q) ∧ f.size ≤ 500 ∧ p.size ≤ 1000 ∧ q.size ≤ 1000
def Open7To (b : Nat) (p q : ByteArray) (w : World) (F : Nat → Prop) (r : Nat × Tst) (e : Ending) (w' : World) : Prop :=
  (r.1 = 0 ∧ ∃ t j m, e = .returned (.tuple #[.pointer (some ⟨t, 0, none⟩), .int .i64 0]) ∧ LeftA (Tn b j t m p q) w F r.2 w') ∨ (r.1 ≠ 0 ∧ e = .returned (.tuple #[.pointer none, .int .i64 (r.1 : Nat)]) ∧ Dk.Left (ImpAt b) w F r.2.j.s w')
theorem open_m {s s1 : St} {f p q : ByteArray} {k : Nat} (h : opened s f = (k, s1)) (hk : k ≠ 0) : open7 s f p q = (k, ⟨⟨s1, [], false⟩, []⟩) := by
  unfold open7; rw [h]; exact if_pos hk
theorem open_n {s s1 : St} {f p q : ByteArray} (h : opened s f = (0, s1)) : open7 s f p q = open1 s1 p q := by
  unfold open7; rw [h]; exact if_neg (fun hh => hh rfl)
theorem open1_b {s : St} {p q : ByteArray} {L : List It} {k : Nat} (h : base0 s p = (L, k)) (hk : k ≠ 0) : open1 s p q = (k, ⟨⟨s, [], false⟩, []⟩) := by
  unfold open1; rw [h]; exact if_pos hk
theorem open1_l {s : St} {p q : ByteArray} {L : List It} {k : Nat} {y : Jst} (h : base0 s p = (L, 0)) (h2 : openS s q = (k, y)) (hk : k ≠ 0) : open1 s p q = (k, ⟨y, []⟩) := by
  unfold open1; rw [h]; simp only [h2]; rw [if_neg (fun hh => hh rfl)]; exact if_pos hk
theorem open1_o {s : St} {p q : ByteArray} {L : List It} {y : Jst} (h : base0 s p = (L, 0)) (h2 : openS s q = (0, y)) : open1 s p q = (0, ⟨y, rows7 L y.R⟩) := by
  unfold open1; rw [h]; simp only [h2]; rw [if_neg (fun hh => hh rfl)]; exact if_neg (fun hh => hh rfl)
theorem base_rises (s : St) (p : ByteArray) : Rises (base0 s p).1 ∧ Plain (base0 s p).1 := by
  have h0 : Rises ([] : List It) := List.Pairwise.nil
  have h1 : Plain ([] : List It) := fun x hx => by cases hx
  by_cases hk : kind s.L p = 0
  · rw [base_0 hk]; exact ⟨h0, h1⟩
  · obtain ⟨d, e1, hrd⟩ : ∃ d e, readS s p = (d, e) := ⟨_, _, rfl⟩
    by_cases he1 : e1 = 0
    · subst he1
      obtain ⟨r, n, e2, hfr⟩ := Fm.trip (Fm.fr d)
      by_cases he2 : e2 = 0
      · subst he2
        by_cases hn : n < d.size
        · rw [base_3 hk hrd hfr hn]; exact ⟨h0, h1⟩
        · obtain ⟨l, e3, h3⟩ : ∃ l e, opsS r = (l, e) := ⟨_, _, rfl⟩
          by_cases he3 : e3 = 0
          · subst he3
            rw [base_5 hk hrd hfr hn h3]
            exact ⟨rises_all h0 l, plain_all h1 l⟩
          · rw [base_4 hk hrd hfr hn h3 he3]; exact ⟨h0, h1⟩
      · rw [base_2 hk hrd hfr he2]; exact ⟨h0, h1⟩
    · rw [base_1 hk hrd he1]; exact ⟨h0, h1⟩
def New2 (W : World) (b : Nat) (p : ByteArray) : World := (W.alloc (.map #[] 0)).alloc (.cells #[.pointer (some ⟨b, 0, none⟩), .string p, .pointer none, .map (some W.heap.size)] 70)
theorem new2 (W : World) (b : Nat) (p : ByteArray) : Below W.heap.size W (New2 W b p) ∧ (New2 W b p).heap[W.heap.size + 1]? = some (.cells #[.pointer (some ⟨b, 0, none⟩), .string p, .pointer none, .map (some W.heap.size)] 70 (0, 0)) ∧ Mo (New2 W b p) W.heap.size [] := by
  refine ⟨((Below.refl _ W).alloc (Nat.le_refl _) _).alloc (by simp) _, new_at _ _ (by simp), (mo_made W).kept (((Below.refl (W.alloc (.map #[] 0)).heap.size _).alloc (Nat.le_refl _) _).block _ (by simp))⟩
theorem imp_mkdir {b : Nat} {F : Nat → Prop} {s s' : St} {w : World} {k : Nat} (P : ByteArray) (h : ImpAt b w F s) (ok : Ok s) (hP : P.size ≤ 8000000000000) (hk : mkdirS s P = (k, s')) : Calls Tryz.prog 26 #[.pointer (some ⟨b, 0, none⟩), .string P] w (Dos (ImpAt b) w F k s') := by
  obtain ⟨bi, bl, l, hI, hg, hF⟩ := h
  have c := iMkdir_any b bi bl l _ P _ hI hg ok hP
  have hg' := good_mkdir (p := P) hg
  rw [hk] at c hg'
  exact c.mono fun e w' ht => does_of' (r := (k, s')) hg' hF ht
def At1 (b : Nat) (w : World) (F : Nat → Prop) (s1 : St) (W : World) : Prop := ∃ F1, ImpAt b W F1 s1 ∧ Chg F w W ∧ ∀ g, F1 g → F g ∨ w.heap.size ≤ g
theorem At1.below {b : Nat} {w W W2 : World} {F : Nat → Prop} {s1 : St} (h : At1 b w F s1 W) (hb : Below W.heap.size W W2) : At1 b w F s1 W2 := by
  obtain ⟨F1, h1, h2, h3⟩ := h
  exact ⟨F1, (imp_kind b).kept h1 (fun i hi => hb.block i ((imp_kind b).lt h1 i hi)), h2.then (Chg.of_below hb), h3⟩
theorem At1.left {b : Nat} {w W : World} {F : Nat → Prop} {s1 : St} (h : At1 b w F s1 W) : Dk.Left (ImpAt b) w F s1 W := h
theorem At1.based {b t m : Nat} {p : ByteArray} {w W W2 : World} {F : Nat → Prop} {s1 : St} (h : At1 b w F s1 W) (hm : W.heap.size ≤ m) (hc : Chg (· = m) (New2 W b p) W2) : At1 b w F s1 W2 := by
  have hb := (new2 W b p).1
  obtain ⟨F1, h1, h2, h3⟩ := h
  have hlt := (imp_kind b).lt h1
  have hs := hb.size
  have hs2 := h2.size
  exact ⟨F1, (imp_kind b).kept h1 (fun i hi => (hc.block i (by have := hlt i hi; have := (Chg.of_below (F := F) hb).size; omega) (fun e => by have := hlt i hi; omega)).trans (hb.block i (hlt i hi))), (h2.then (Chg.of_below hb)).trans hc (fun i hi => .inr (by omega)), h3⟩
theorem base_call {b : Nat} {w W : World} {F : Nat → Prop} {s1 : St} {p : ByteArray} (h : At1 b w F s1 W) (hp : p.size ≤ 1000) (hs : (readS s1 p).1.size ≤ 500000000) :
    Calls Tryz.prog 28 #[.pointer (some ⟨W.heap.size + 1, 0, none⟩)] (New2 W b p) fun e w' => e = .returned (.int .i64 ((base0 s1 p).2 : Nat)) ∧ Mo w' W.heap.size (based s1 p) ∧ Chg (· = W.heap.size) (New2 W b p) w' := by
  obtain ⟨n1, n2, n3⟩ := new2 W b p
  obtain ⟨F1, h1, h2, h3⟩ := h.below n1
  refine takeBase_any b (W.heap.size + 1) W.heap.size p _ ?_ ?_ ?_ n3 h1 hp hs
  all_goals unfold World.cell?; rw [n2]; rfl
theorem log_call {b : Nat} {w W W2 W3 : World} {F : Nat → Prop} {s1 : St} {L : List It} {p q : ByteArray} (h : At1 b w F s1 W) (hm : Mo W2 W.heap.size L) (hc : Chg (· = W.heap.size) (New2 W b p) W2) (hb : Below W2.heap.size W2 W3) (hL : Rises L ∧ Plain L) (o : OpenOk s1 q) (hq : q.size ≤ 1000) (hrec : (openS s1 q).1 = 0 → RecOk L (openS s1 q).2.R) :
    Calls Tryz.prog 29 #[.pointer (some ⟨W.heap.size + 1, 0, none⟩), .string q] W3 fun e w' =>
      ((openS s1 q).1 = 0 ∧ e = .returned (.int .i64 0) ∧ ∃ j, LeftA (Tn b j (W.heap.size + 1) W.heap.size p q) w F ⟨(openS s1 q).2, rows7 L (openS s1 q).2.R⟩ w') ∨ ((openS s1 q).1 ≠ 0 ∧ e = .returned (.int .i64 ((openS s1 q).1 : Nat)) ∧ Dk.Left (ImpAt b) w F (openS s1 q).2.s w') := by
  obtain ⟨n1, n2, n3⟩ := new2 W b p
  obtain ⟨F1, h1, h2, h3⟩ := h
  have hlt := (imp_kind b).lt h1
  have hsN : (New2 W b p).heap.size = W.heap.size + 1 + 1 := by unfold New2; simp
  have hsz := hc.size
  have hs0 := h2.size
  have hA := (At1.based (t := W.heap.size + 1) (m := W.heap.size) (p := p) ⟨F1, h1, h2, h3⟩ (Nat.le_refl _) hc).below hb
  have h1' : ImpAt b W3 F1 s1 := (imp_kind b).kept h1 (fun i hi => (hb.block i (by have := hlt i hi; omega)).trans ((hc.block i (by have := hlt i hi; omega) (fun e => by have := hlt i hi; omega)).trans (n1.block i (hlt i hi))))
  have hblk : W3.heap[W.heap.size + 1]? = _ := (hb.block _ (by omega)).trans ((hc.block _ (by omega) (by omega)).trans n2)
  have hm3 := hm.below hb
  have hch : Chg F w W3 := ((h2.then (Chg.of_below n1)).trans hc (fun i hi => .inr (by omega))).then (Chg.of_below hb)
  refine (takeLog_any b (W.heap.size + 1) W.heap.size p q W3 hblk hm3 h1' ⟨fun hh => by have := hlt _ hh; omega, fun hh => by have := hlt _ hh; omega⟩ hL.1 hL.2 o hq hrec).mono ?_
  intro e w' hh
  rcases hh with ⟨e0, he, j, hl⟩ | ⟨e0, he, hl⟩
  · exact .inl ⟨e0, he, j, left_trans7 hch (F1 := fun i => F1 i ∨ i = W.heap.size + 1 ∨ i = W.heap.size) (fun g hg => by
      rcases hg with hg | rfl | rfl
      · exact h3 g hg
      · exact .inr (by omega)
      · exact .inr hs0) hl⟩
  · exact .inr ⟨e0, he, Wl.left_trans hch h3 hl⟩
set_option maxRecDepth 100000 in
set_option maxHeartbeats 4000000 in
theorem open_any (b : Nat) {F : Nat → Prop} {s : St} (f p q : ByteArray) (w : World) (h : ImpAt b w F s) (hp : tb (joi f.data.toList [98, 97, 115, 101]) = p) (hq : tb (joi f.data.toList [108, 111, 103]) = q) (o : Open7Ok s f p q) :
    Calls Tryz.prog 7 #[.pointer (some ⟨b, 0, none⟩), .string f] w (Open7To b p q w F (open7 s f p q)) := by
  obtain ⟨o1, o2, o3, o4, o5⟩ := o
  have ck := iw_kind f h (by omega)
  have cjp := fun W => pJoin_any f ⟨#[98, 97, 115, 101]⟩ W (by show f.size + 4 ≤ _; omega)
  have cjq := fun W => pJoin_any f ⟨#[108, 111, 103]⟩ W (by show f.size + 3 ≤ _; omega)
  have hmm := @run_makeMap Tryz.prog
  rw [show (⟨#[98, 97, 115, 101]⟩ : ByteArray).data.toList = [98, 97, 115, 101] from rfl, hp] at cjp
  rw [show (⟨#[108, 111, 103]⟩ : ByteArray).data.toList = [108, 111, 103] from rfl, hq] at cjq
  obtain ⟨k1, s1, hop⟩ : ∃ k s1, opened s f = (k, s1) := ⟨_, _, rfl⟩
  unfold Open7To
  by_cases hk : kind s.L f = 0
  · have hmk : mkdirS s f = (k1, s1) := by unfold opened at hop; rwa [if_pos hk] at hop
    have cm := fun W (hW : w = W) => imp_mkdir f (hW ▸ h) o1 (by omega) hmk
    rw [hk] at ck
    by_cases hk1 : k1 ≠ 0
    · rw [open_m hop hk1]
      have nk := neZ hk1
      have HK := Lib.hid hk1
      clear h hp hq o1 o2 o3 o4 o5 hk hk1 hop hmk cjp cjq hmm
      go_enter Tryz.func7, Tryz.ntmps7
      go_wp2_with fail
      go_at_call 25
      refine ck.mono ?_
      rintro e w1 ⟨rfl, rfl⟩
      go_wp2_with fail
      go_at_call 26
      refine (cm _ rfl).mono ?_
      rintro e w2 ⟨rfl, h2⟩
      go_wp2_with fail
      go_ret2
      exact .inr ⟨HK.out, rfl, h2⟩
    · obtain rfl : k1 = 0 := by omega
      rw [hop] at o2
      obtain ⟨q1, q2⟩ := o2 rfl
      simp only at q1 q2
      rw [open_n hop]
      clear h hp hq o1 o2 hk hk1 hop hmk
      obtain ⟨L, kb, hbase⟩ : ∃ L k, base0 s1 p = (L, k) := ⟨_, _, rfl⟩
      have hrp := base_rises s1 p
      rw [hbase] at q2 hrp
      simp only at q2 hrp
      by_cases hkb : kb = 0
      · subst hkb
        obtain ⟨q3, q4⟩ := q2 rfl
        have hbd : based s1 p = L := by unfold based; rw [hbase]; rfl
        have HBA := Lib.hid hbase
        have HBD := Lib.hid hbd
        have HRP := Lib.hid hrp
        have HQ3 := Lib.hid q3
        have HQ4 := Lib.hid q4
        clear hbase hbd hrp q2 q3 q4
        go_enter Tryz.func7, Tryz.ntmps7
        go_wp2_with fail
        go_at_call 25
        refine ck.mono ?_
        rintro e w1 ⟨rfl, rfl⟩
        go_wp2_with fail
        go_at_call 26
        refine (cm _ rfl).mono ?_
        rintro e w2 ⟨rfl, h2⟩
        have hA2 : At1 b w F s1 w2 := h2
        go_wp2_with fail
        go_at_call 27
        refine (cjp _).mono ?_
        rintro e w3 ⟨rfl, hb3⟩
        have hA3 := hA2.below hb3
        have cb := base_call hA3 o4 q1
        rw [HBA.out, HBD.out] at cb
        unfold New2 at cb
        go_wp2_with fail
        go_at_call 28
        refine cb.mono ?_
        rintro e w5 ⟨rfl, hm5, hc5⟩
        have HC5 := Lib.hid (show Chg (· = w3.heap.size) (New2 w3 b p) w5 from hc5)
        have HM5 := Lib.hid hm5
        have HA3 := Lib.hid hA3
        clear hm5 hc5 hA3 cb
        go_wp2_with fail
        go_at_call 27
        refine (cjq _).mono ?_
        rintro e w6 ⟨rfl, hb6⟩
        have cl := log_call HA3.out HM5.out HC5.out hb6 HRP.out HQ3.out o5 HQ4.out
        clear hb6
        obtain ⟨kl, y, hol⟩ : ∃ k y, openS s1 q = (k, y) := ⟨_, _, rfl⟩
        rw [hol] at cl
        simp only at cl
        by_cases hkl : kl = 0
        · subst hkl
          have cl2 := cl.mono (R' := fun e w' => e = .returned (.int .i64 0) ∧ ∃ j, LeftA (Tn b j (w3.heap.size + 1) w3.heap.size p q) w F ⟨y, rows7 L y.R⟩ w') (fun e w' hh => by
            rcases hh with ⟨_, he, hl⟩ | ⟨h0, _⟩
            · exact ⟨he, hl⟩
            · exact absurd rfl h0)
          have HO := Lib.hid (open1_o HBA.out hol)
          clear cl hol
          go_wp2_with fail
          go_at_call 29
          refine cl2.mono ?_
          rintro e w7 ⟨rfl, j, h7⟩
          go_wp2_with fail
          go_ret2
          rw [HO.out]
          exact .inl ⟨rfl, _, _, _, rfl, h7⟩
        · have cl2 := cl.mono (R' := fun e w' => e = .returned (.int .i64 (kl : Nat)) ∧ Dk.Left (ImpAt b) w F y.s w') (fun e w' hh => by
            rcases hh with ⟨h0, _⟩ | ⟨_, he, hl⟩
            · exact absurd h0 hkl
            · exact ⟨he, hl⟩)
          have HO := Lib.hid (open1_l HBA.out hol hkl)
          have nl := neZ hkl
          have HKL := Lib.hid hkl
          clear cl hol hkl
          go_wp2_with fail
          go_at_call 29
          refine cl2.mono ?_
          rintro e w7 ⟨rfl, h7⟩
          go_wp2_with fail
          go_ret2
          rw [HO.out]
          exact .inr ⟨HKL.out, rfl, h7⟩
      · have HO := Lib.hid (open1_b (q := q) hbase hkb)
        have nb := neZ hkb
        have HKB := Lib.hid hkb
        have HBA := Lib.hid hbase
        clear hbase hrp q2 hkb
        go_enter Tryz.func7, Tryz.ntmps7
        go_wp2_with fail
        go_at_call 25
        refine ck.mono ?_
        rintro e w1 ⟨rfl, rfl⟩
        go_wp2_with fail
        go_at_call 26
        refine (cm _ rfl).mono ?_
        rintro e w2 ⟨rfl, h2⟩
        have hA2 : At1 b w F s1 w2 := h2
        go_wp2_with fail
        go_at_call 27
        refine (cjp _).mono ?_
        rintro e w3 ⟨rfl, hb3⟩
        have hA3 := hA2.below hb3
        have cb := base_call hA3 o4 q1
        rw [HBA.out] at cb
        unfold New2 at cb
        go_wp2_with fail
        go_at_call 28
        refine cb.mono ?_
        rintro e w5 ⟨rfl, hm5, hc5⟩
        have HE := Lib.hid (At1.based (t := w3.heap.size + 1) hA3 (Nat.le_refl _) (show Chg (· = w3.heap.size) (New2 w3 b p) w5 from hc5))
        clear hm5 hc5 hA3 cb
        go_wp2_with fail
        go_ret2
        rw [HO.out]
        exact .inr ⟨HKB.out, rfl, HE.out⟩
  · have hk1 : k1 = 0 ∧ s1 = s := by
      unfold opened at hop
      rw [if_neg hk] at hop
      simp only [Prod.mk.injEq] at hop
      exact ⟨hop.1.symm, hop.2.symm⟩
    obtain ⟨rfl, rfl⟩ := hk1
    rw [hop] at o2
    obtain ⟨q1, q2⟩ := o2 rfl
    simp only at q1 q2
    rw [open_n hop]
    have nk := neZ hk
    have hA : At1 b w F s1 w := ⟨F, h, Chg.refl _ _, fun g hg => .inl hg⟩
    have HA := Lib.hid (fun W (hW : w = W) => (hW ▸ hA : At1 b w F s1 W))
    generalize kind s1.L f = K at ck nk
    clear h hp hq o1 o2 hk hop hA
    obtain ⟨L, kb, hbase⟩ : ∃ L k, base0 s1 p = (L, k) := ⟨_, _, rfl⟩
    have hrp := base_rises s1 p
    rw [hbase] at q2 hrp
    simp only at q2 hrp
    by_cases hkb : kb = 0
    · subst hkb
      obtain ⟨q3, q4⟩ := q2 rfl
      have hbd : based s1 p = L := by unfold based; rw [hbase]; rfl
      have HBA := Lib.hid hbase
      have HBD := Lib.hid hbd
      have HRP := Lib.hid hrp
      have HQ3 := Lib.hid q3
      have HQ4 := Lib.hid q4
      clear hbase hbd hrp q2 q3 q4
      go_enter Tryz.func7, Tryz.ntmps7
      go_wp2_with fail
      go_at_call 25
      refine ck.mono ?_
      rintro e w1 ⟨rfl, rfl⟩
      have hA2 := HA.out _ rfl
      go_wp2_with fail
      go_at_call 27
      refine (cjp _).mono ?_
      rintro e w3 ⟨rfl, hb3⟩
      have hA3 := hA2.below hb3
      have cb := base_call hA3 o4 q1
      rw [HBA.out, HBD.out] at cb
      unfold New2 at cb
      go_wp2_with fail
      go_at_call 28
      refine cb.mono ?_
      rintro e w5 ⟨rfl, hm5, hc5⟩
      have HC5 := Lib.hid (show Chg (· = w3.heap.size) (New2 w3 b p) w5 from hc5)
      have HM5 := Lib.hid hm5
      have HA3 := Lib.hid hA3
      clear hm5 hc5 hA3 cb
      go_wp2_with fail
      go_at_call 27
      refine (cjq _).mono ?_
      rintro e w6 ⟨rfl, hb6⟩
      have cl := log_call HA3.out HM5.out HC5.out hb6 HRP.out HQ3.out o5 HQ4.out
      clear hb6
      obtain ⟨kl, y, hol⟩ : ∃ k y, openS s1 q = (k, y) := ⟨_, _, rfl⟩
      rw [hol] at cl
      simp only at cl
      by_cases hkl : kl = 0
      · subst hkl
        have cl2 := cl.mono (R' := fun e w' => e = .returned (.int .i64 0) ∧ ∃ j, LeftA (Tn b j (w3.heap.size + 1) w3.heap.size p q) w F ⟨y, rows7 L y.R⟩ w') (fun e w' hh => by
          rcases hh with ⟨_, he, hl⟩ | ⟨h0, _⟩
          · exact ⟨he, hl⟩
          · exact absurd rfl h0)
        have HO := Lib.hid (open1_o HBA.out hol)
        clear cl hol
        go_wp2_with fail
        go_at_call 29
        refine cl2.mono ?_
        rintro e w7 ⟨rfl, j, h7⟩
        go_wp2_with fail
        go_ret2
        rw [HO.out]
        exact .inl ⟨rfl, _, _, _, rfl, h7⟩
      · have cl2 := cl.mono (R' := fun e w' => e = .returned (.int .i64 (kl : Nat)) ∧ Dk.Left (ImpAt b) w F y.s w') (fun e w' hh => by
          rcases hh with ⟨h0, _⟩ | ⟨_, he, hl⟩
          · exact absurd h0 hkl
          · exact ⟨he, hl⟩)
        have HO := Lib.hid (open1_l HBA.out hol hkl)
        have nl := neZ hkl
        have HKL := Lib.hid hkl
        clear cl hol hkl
        go_wp2_with fail
        go_at_call 29
        refine cl2.mono ?_
        rintro e w7 ⟨rfl, h7⟩
        go_wp2_with fail
        go_ret2
        rw [HO.out]
        exact .inr ⟨HKL.out, rfl, h7⟩
    · have HO := Lib.hid (open1_b (q := q) hbase hkb)
      have nb := neZ hkb
      have HKB := Lib.hid hkb
      have HBA := Lib.hid hbase
      clear hbase hrp q2 hkb
      go_enter Tryz.func7, Tryz.ntmps7
      go_wp2_with fail
      go_at_call 25
      refine ck.mono ?_
      rintro e w1 ⟨rfl, rfl⟩
      have hA2 := HA.out _ rfl
      go_wp2_with fail
      go_at_call 27
      refine (cjp _).mono ?_
      rintro e w3 ⟨rfl, hb3⟩
      have hA3 := hA2.below hb3
      have cb := base_call hA3 o4 q1
      rw [HBA.out] at cb
      unfold New2 at cb
      go_wp2_with fail
      go_at_call 28
      refine cb.mono ?_
      rintro e w5 ⟨rfl, hm5, hc5⟩
      have HE := Lib.hid (At1.based (t := w3.heap.size + 1) hA3 (Nat.le_refl _) (show Chg (· = w3.heap.size) (New2 w3 b p) w5 from hc5))
      clear hm5 hc5 hA3 cb
      go_wp2_with fail
      go_ret2
      rw [HO.out]
      exact .inr ⟨HKB.out, rfl, HE.out⟩
end Go.Proofs.YtjdfffkkpbabpaaGreat.Tb

namespace Go.Proofs.YtjdfffkkpbabpaaGreat.Wl
open Go.RowKit Tx Pm Pl Pr Dk
set_option linter.unusedVariables false
end Go.Proofs.YtjdfffkkpbabpaaGreat.Wl

namespace Go.Proofs.YtjdfffkkpbabpaaGreat.Wl
open Go.RowKit Tx Pm Pl Pr Dk Fr
set_option linter.unusedVariables false
end Go.Proofs.YtjdfffkkpbabpaaGreat.Wl

namespace Go.Proofs.YtjdfffkkpbabpaaGreat.Tb
open Go.RowKit Tx Pm Dk Wm Wr Wl
set_option linter.unusedVariables false
set_option linter.unusedSimpArgs false
set_option linter.unnecessarySimpa false
def pS : ByteArray := ⟨#[115, 121, 115]⟩
def pB : ByteArray := ⟨#[115, 121, 115, 47, 98, 97, 115, 101]⟩
def pBT : ByteArray := ⟨#[115, 121, 115, 47, 98, 97, 115, 101, 95, 116]⟩
def pG : ByteArray := ⟨#[115, 121, 115, 47, 108, 111, 103]⟩
def pGT : ByteArray := ⟨#[115, 121, 115, 47, 108, 111, 103, 95, 116]⟩
theorem pB_tT : pB ++ tT = pBT := by decide +kernel
theorem pG_tT : pG ++ tT = pGT := by decide +kernel
def dirS : It := ⟨pS, true, ⟨#[]⟩, ⟨#[]⟩, false, false, 0⟩
structure Fi where
  data : ByteArray
  kept : ByteArray
  loose : Bool
  anew : Bool
  stamp : Nat
def sy (d : ByteArray) (n : Nat) : Fi := ⟨d, d, false, false, n⟩
def oit (p : ByteArray) : Option Fi → List It
  | none => []
  | some f => [⟨p, false, f.data, f.kept, f.loose, f.anew, f.stamp⟩]
def keptOf : Option Fi → ByteArray
  | none => ⟨#[]⟩
  | some f => f.kept
def T7 (B BT G GT : Option Fi) (st sm : Nat) (a : Int) (dn : Bool) : St := ⟨dirS :: (oit pB B ++ (oit pBT BT ++ (oit pG G ++ oit pGT GT))), [], st, sm, a, dn⟩
section
variable {B BT G GT : Option Fi} {g f : Fi} {d : ByteArray} {st sm : Nat} {a : Int} {dn : Bool}
theorem k_sys : kind (T7 B BT G GT st sm a dn).L pS = 1 := by cases B <;> cases BT <;> cases G <;> cases GT <;> kernel_rfl
theorem k_base0 : kind (T7 none BT G GT st sm a dn).L pB = 0 := by cases BT <;> cases G <;> cases GT <;> kernel_rfl
theorem k_base : kind (T7 (some f) BT G GT st sm a dn).L pB = 2 := by cases BT <;> cases G <;> cases GT <;> kernel_rfl
theorem k_log0 : kind (T7 B BT none GT st sm a dn).L pG = 0 := by cases B <;> cases BT <;> cases GT <;> kernel_rfl
theorem k_log : kind (T7 B BT (some g) GT st sm a dn).L pG = 2 := by cases B <;> cases BT <;> cases GT <;> kernel_rfl
theorem r_base : readS (T7 (some f) BT G GT st sm a false) pB = (f.data, 0) := by cases BT <;> cases G <;> cases GT <;> kernel_rfl
theorem r_base0 : readS (T7 none BT G GT st sm a false) pB = (⟨#[]⟩, 11) := by cases BT <;> cases G <;> cases GT <;> kernel_rfl
theorem r_log : readS (T7 B BT (some g) GT st sm a false) pG = (g.data, 0) := by cases B <;> cases BT <;> cases GT <;> kernel_rfl
theorem o_log : (old (T7 B BT (some g) GT st sm a dn).L pG).data = g.data := by cases B <;> cases BT <;> cases GT <;> kernel_rfl
theorem t_append (ha : a ≠ 0) : appendS (T7 B BT (some g) GT st sm a false) pG d = (0, T7 B BT (some ⟨g.data ++ d, g.kept, true, g.anew, sm + 1⟩) GT (st + 1) (sm + 1) (dec a) false) := by
  unfold appendS
  rw [fits_none rfl]
  unfold T7
  rw [done_open ha]
  cases B <;> cases BT <;> cases GT <;> kernel_rfl
theorem t_append0 : appendS (T7 B BT (some g) GT st sm 0 false) pG d = (14, T7 B BT (some g) GT st sm (-1) true) := by
  unfold appendS
  rw [fits_none rfl]
  cases B <;> cases BT <;> cases GT <;> kernel_rfl
theorem t_sync (ha : a ≠ 0) : syncS (T7 B BT (some g) GT st sm a false) pG = (0, T7 B BT (some ⟨g.data, g.data, false, false, g.stamp⟩) GT (st + 1) sm (dec a) false) := by
  unfold syncS T7
  rw [done_open ha]
  cases B <;> cases BT <;> cases GT <;> kernel_rfl
theorem t_sync0 : syncS (T7 B BT (some g) GT st sm 0 false) pG = (14, T7 B BT (some g) GT st sm (-1) true) := by
  unfold syncS
  cases B <;> cases BT <;> cases GT <;> kernel_rfl
theorem b_write (ha : a ≠ 0) : writeS (T7 B BT G GT st sm a false) pBT d = (0, T7 B (some ⟨d, keptOf BT, true, true, sm + 1⟩) G GT (st + 1) (sm + 1) (dec a) false) := by
  unfold writeS
  rw [fits_none rfl]
  unfold T7
  rw [done_open ha]
  cases B <;> cases BT <;> cases G <;> cases GT <;> kernel_rfl
theorem b_write0 : writeS (T7 B BT G GT st sm 0 false) pBT d = (14, T7 B BT G GT st sm (-1) true) := by
  unfold writeS
  rw [fits_none rfl]
  cases B <;> cases BT <;> cases G <;> cases GT <;> kernel_rfl
theorem b_sync (ha : a ≠ 0) : syncS (T7 B (some f) G GT st sm a false) pBT = (0, T7 B (some ⟨f.data, f.data, false, false, f.stamp⟩) G GT (st + 1) sm (dec a) false) := by
  unfold syncS T7
  rw [done_open ha]
  cases B <;> cases G <;> cases GT <;> kernel_rfl
theorem b_sync0 : syncS (T7 B (some f) G GT st sm 0 false) pBT = (14, T7 B (some f) G GT st sm (-1) true) := by
  unfold syncS
  cases B <;> cases G <;> cases GT <;> kernel_rfl
theorem b_rename (ha : a ≠ 0) : renameS (T7 B (some f) G GT st sm a false) pBT pB = (0, T7 (some ⟨f.data, f.kept, f.loose, f.anew, sm + 1⟩) none G GT (st + 1) (sm + 1) (dec a) false) := by
  unfold renameS
  rw [fits_none rfl]
  unfold T7
  rw [done_open ha]
  cases B <;> cases G <;> cases GT <;> kernel_rfl
theorem b_rename0 : renameS (T7 B (some f) G GT st sm 0 false) pBT pB = (14, T7 B (some f) G GT st sm (-1) true) := by
  unfold renameS
  rw [fits_none rfl]
  cases B <;> cases G <;> cases GT <;> kernel_rfl
theorem g_write (ha : a ≠ 0) : writeS (T7 B BT G GT st sm a false) pGT d = (0, T7 B BT G (some ⟨d, keptOf GT, true, true, sm + 1⟩) (st + 1) (sm + 1) (dec a) false) := by
  unfold writeS
  rw [fits_none rfl]
  unfold T7
  rw [done_open ha]
  cases B <;> cases BT <;> cases G <;> cases GT <;> kernel_rfl
theorem g_write0 : writeS (T7 B BT G GT st sm 0 false) pGT d = (14, T7 B BT G GT st sm (-1) true) := by
  unfold writeS
  rw [fits_none rfl]
  cases B <;> cases BT <;> cases G <;> cases GT <;> kernel_rfl
theorem g_sync (ha : a ≠ 0) : syncS (T7 B BT G (some f) st sm a false) pGT = (0, T7 B BT G (some ⟨f.data, f.data, false, false, f.stamp⟩) (st + 1) sm (dec a) false) := by
  unfold syncS T7
  rw [done_open ha]
  cases B <;> cases BT <;> cases G <;> kernel_rfl
theorem g_sync0 : syncS (T7 B BT G (some f) st sm 0 false) pGT = (14, T7 B BT G (some f) st sm (-1) true) := by
  unfold syncS
  cases B <;> cases BT <;> cases G <;> kernel_rfl
theorem g_rename (ha : a ≠ 0) : renameS (T7 B BT G (some f) st sm a false) pGT pG = (0, T7 B BT (some ⟨f.data, f.kept, f.loose, f.anew, sm + 1⟩) none (st + 1) (sm + 1) (dec a) false) := by
  unfold renameS
  rw [fits_none rfl]
  unfold T7
  rw [done_open ha]
  cases B <;> cases BT <;> cases G <;> kernel_rfl
theorem g_rename0 : renameS (T7 B BT G (some f) st sm 0 false) pGT pG = (14, T7 B BT G (some f) st sm (-1) true) := by
  unfold renameS
  rw [fits_none rfl]
  cases B <;> cases BT <;> cases G <;> kernel_rfl
theorem n_mkdir : mkdirS newS pS = (0, T7 none none none none 1 0 (-1) false) := by kernel_rfl
end
end Go.Proofs.YtjdfffkkpbabpaaGreat.Tb

namespace Go.Proofs.YtjdfffkkpbabpaaGreat.Tb
open Go.RowKit Tx Pm Dk Wm Wr Wl
set_option linter.unusedVariables false
set_option linter.unusedSimpArgs false
set_option linter.unnecessarySimpa false
def Fok (f : Fi) : Prop := f.data.size ≤ 20000000000 ∧ f.kept.size ≤ 20000000000 ∧ (f.anew = false → f.kept.size ≤ f.data.size) ∧ (f.loose = false → f.kept = f.data ∧ f.anew = false)
def Ook (o : Option Fi) : Prop := ∀ f, o = some f → Fok f
theorem ook_none : Ook none := fun f h => by cases h
theorem ook_sy {d : ByteArray} {n : Nat} (h : d.size ≤ 20000000000) : Ook (some (sy d n)) := fun f hf => by
  injection hf with hf
  subst hf
  exact ⟨h, h, fun _ => Nat.le_refl _, fun _ => ⟨rfl, rfl⟩⟩
theorem ook_raw {d k : ByteArray} {n : Nat} (h : d.size ≤ 20000000000) (hk : k.size ≤ 20000000000) : Ook (some ⟨d, k, true, true, n⟩) := fun f hf => by
  injection hf with hf
  subst hf
  exact ⟨h, hk, fun e => (by cases e), fun e => (by cases e)⟩
theorem ook_app {d k : ByteArray} {n : Nat} (h : d.size ≤ 20000000000) (hk : k.size ≤ d.size) : Ook (some ⟨d, k, true, false, n⟩) := fun f hf => by
  injection hf with hf
  subst hf
  exact ⟨h, by show k.size ≤ _; omega, fun _ => hk, fun e => (by cases e)⟩
theorem kept_ook {o : Option Fi} (h : Ook o) : (keptOf o).size ≤ 20000000000 := by
  cases o with
  | none => exact Nat.zero_le _
  | some f => exact (h f rfl).2.1
def Rng (a : Int) : Prop := -1 ≤ a ∧ a ≤ 9223372036854775807
theorem rng_dec {a : Int} (h : Rng a) : Rng (dec a) := dec_in h
theorem rng_m1 : Rng (-1) := ⟨by decide, by decide⟩
structure Sz (B BT G GT : Option Fi) (st sm : Nat) : Prop where
  b : Ook B
  bt : Ook BT
  g : Ook G
  gt : Ook GT
  st : st ≤ 1000000
  sm : sm ≤ 1000000
theorem oit_len (p : ByteArray) (o : Option Fi) : (oit p o).length ≤ 1 := by cases o <;> simp [oit]
theorem oit_mem {p : ByteArray} {o : Option Fi} {x : It} (h : x ∈ oit p o) : x.path = p ∧ ∃ f, o = some f ∧ x = ⟨p, false, f.data, f.kept, f.loose, f.anew, f.stamp⟩ := by
  cases o with
  | none => cases h
  | some f =>
    have h := List.mem_singleton.1 h
    exact ⟨by rw [h], f, rfl, h⟩
section
variable {B BT G GT : Option Fi} {g f : Fi} {d : ByteArray} {st sm : Nat} {a : Int} {dn : Bool}
theorem t7_mem {x : It} (h : Sz B BT G GT st sm) (hx : x ∈ (T7 B BT G GT st sm a dn).L) : x.path.size ≤ 1000 ∧ x.data.size ≤ 20000000000 ∧ x.kept.size ≤ 20000000000 ∧ (x.anew = false → x.kept.size ≤ x.data.size) := by
  unfold T7 at hx
  rcases List.mem_cons.1 hx with rfl | hx
  · exact ⟨by decide, by decide, by decide, fun _ => Nat.le_refl _⟩
  · have one : ∀ {p : ByteArray} {o : Option Fi}, p.size ≤ 1000 → Ook o → x ∈ oit p o → x.path.size ≤ 1000 ∧ x.data.size ≤ 20000000000 ∧ x.kept.size ≤ 20000000000 ∧ (x.anew = false → x.kept.size ≤ x.data.size) := fun hp ho hx => by
      obtain ⟨_, f, hf, rfl⟩ := oit_mem hx
      obtain ⟨a1, a2, a3, _⟩ := ho f hf
      exact ⟨hp, a1, a2, a3⟩
    rcases List.mem_append.1 hx with hx | hx
    · exact one (by decide) h.b hx
    · rcases List.mem_append.1 hx with hx | hx
      · exact one (by decide) h.bt hx
      · rcases List.mem_append.1 hx with hx | hx
        · exact one (by decide) h.g hx
        · exact one (by decide) h.gt hx
theorem t7_len : (T7 B BT G GT st sm a dn).L.length ≤ 5 := by
  unfold T7
  have h1 := oit_len pB B
  have h2 := oit_len pBT BT
  have h3 := oit_len pG G
  have h4 := oit_len pGT GT
  simp only [List.length_cons, List.length_append]
  omega
theorem whole_le : ∀ {l : List It} {N : Nat}, (∀ x ∈ l, x.data.size ≤ N) → whole l ≤ l.length * N
  | [], _, _ => Nat.zero_le _
  | x :: l, N, h => by
    have h1 := h x List.mem_cons_self
    have h2 := whole_le (l := l) (fun y hy => h y (List.mem_cons_of_mem _ hy))
    unfold whole at h2 ⊢
    rw [List.map_cons, List.sum_cons, List.length_cons, Nat.succ_mul]
    omega
theorem t7_ok (h : Sz B BT G GT st sm) (ha : Rng a) : Ok (T7 B BT G GT st sm a dn) := by
  have hl := t7_len (B := B) (BT := BT) (G := G) (GT := GT) (st := st) (sm := sm) (a := a) (dn := dn)
  have hw := whole_le (l := (T7 B BT G GT st sm a dn).L) (N := 20000000000) (fun x hx => (t7_mem h hx).2.1)
  have hst := h.st
  have hsm := h.sm
  obtain ⟨a1, a2⟩ := ha
  refine ⟨⟨by omega, fun x hx => by have := (t7_mem h hx).1; omega, ?_⟩, by show 0 ≤ _; omega, by show st ≤ _; omega, by show sm ≤ _; omega, by show _ ≤ a ∧ a ≤ _; omega⟩
  have := Nat.mul_le_mul_right 20000000000 hl
  omega
theorem t7_rises : Rises (T7 B BT G GT st sm a dn).L := by
  have full : Rises (T7 (some (sy ⟨#[]⟩ 0)) (some (sy ⟨#[]⟩ 0)) (some (sy ⟨#[]⟩ 0)) (some (sy ⟨#[]⟩ 0)) 0 0 0 false).L := by
    show List.Pairwise _ _
    decide +kernel
  have hs : ((T7 B BT G GT st sm a dn).L.map (·.path)).Sublist ((T7 (some (sy ⟨#[]⟩ 0)) (some (sy ⟨#[]⟩ 0)) (some (sy ⟨#[]⟩ 0)) (some (sy ⟨#[]⟩ 0)) 0 0 0 false).L.map (·.path)) := by
    have one : ∀ (p : ByteArray) (o : Option Fi), ((oit p o).map (·.path)).Sublist [p] := fun p o => by
      cases o with
      | none => exact List.nil_sublist _
      | some f => exact List.Sublist.refl _
    unfold T7
    simp only [List.map_cons, List.map_append]
    exact List.Sublist.cons_cons _ ((one pB B).append ((one pBT BT).append ((one pG G).append (one pGT GT))))
  unfold Rises at full ⊢
  rw [← List.pairwise_map (f := fun x : It => x.path) (R := fun x y => Op.bytesLess x.toList y.toList = true)] at full ⊢
  exact List.Pairwise.sublist hs full
theorem t7_sound (h : Sz B BT G GT st sm) : SoundW (T7 B BT G GT st sm a dn) := by
  have hl := t7_len (B := B) (BT := BT) (G := G) (GT := GT) (st := st) (sm := sm) (a := a) (dn := dn)
  have hsm := h.sm
  exact ⟨t7_rises, fun x hx => (t7_mem h hx).2.2.2, fun x hx => by have := t7_mem h hx; omega, by show sm + _ ≤ _; omega⟩
end
section
variable {B BT G GT : Option Fi} {d : ByteArray} {st sm : Nat} {a : Int}
theorem dec_m1 {a : Int} (h : a = -1) : dec a = -1 := by subst h; rfl
theorem fillB (h : Sz B BT G GT st sm) (hd : d.size ≤ 20000000000) (ha : Rng a) : ∃ k s', fillS (T7 B BT G GT st sm a false) pB d = (k, s') ∧
    ((k = 0 ∧ ∃ a', s' = T7 (some (sy d (sm + 2))) none G GT (st + 3) (sm + 2) a' false ∧ Rng a' ∧ (a = -1 → a' = -1)) ∨ (k = 14 ∧ a ≠ -1 ∧ ∃ BT' st' sm', s' = T7 B BT' G GT st' sm' (-1) true ∧ Ook BT' ∧ st' ≤ st + 3 ∧ sm' ≤ sm + 2)) := by
  have hk := kept_ook h.bt
  unfold fillS
  rw [pB_tT]
  by_cases h1 : a = 0
  · subst h1
    rw [b_write0]
    exact ⟨14, _, rfl, .inr ⟨rfl, by decide, BT, st, sm, rfl, h.bt, by omega, by omega⟩⟩
  · rw [b_write h1]
    by_cases h2 : dec a = 0
    · simp only [h2, b_sync0]
      exact ⟨14, _, rfl, .inr ⟨rfl, fun e => (by rw [dec_m1 e] at h2; cases h2), _, st + 1, sm + 1, rfl, ook_raw hd hk, by omega, by omega⟩⟩
    · simp only [b_sync h2]
      by_cases h3 : dec (dec a) = 0
      · simp only [h3, b_rename0]
        exact ⟨14, _, rfl, .inr ⟨rfl, fun e => (by rw [dec_m1 (dec_m1 e)] at h3; cases h3), _, st + 1 + 1, sm + 1, rfl, ook_sy (n := sm + 1) hd, by omega, by omega⟩⟩
      · simp only [b_rename h3]
        exact ⟨0, _, rfl, .inl ⟨rfl, _, rfl, rng_dec (rng_dec (rng_dec ha)), fun e => dec_m1 (dec_m1 (dec_m1 e))⟩⟩
theorem fillG (h : Sz B BT G GT st sm) (hd : d.size ≤ 20000000000) (ha : Rng a) : ∃ k s', fillS (T7 B BT G GT st sm a false) pG d = (k, s') ∧
    ((k = 0 ∧ ∃ a', s' = T7 B BT (some (sy d (sm + 2))) none (st + 3) (sm + 2) a' false ∧ Rng a' ∧ (a = -1 → a' = -1)) ∨ (k = 14 ∧ a ≠ -1 ∧ ∃ GT' st' sm', s' = T7 B BT G GT' st' sm' (-1) true ∧ Ook GT' ∧ st' ≤ st + 3 ∧ sm' ≤ sm + 2)) := by
  have hk := kept_ook h.gt
  unfold fillS
  rw [pG_tT]
  by_cases h1 : a = 0
  · subst h1
    rw [g_write0]
    exact ⟨14, _, rfl, .inr ⟨rfl, by decide, GT, st, sm, rfl, h.gt, by omega, by omega⟩⟩
  · rw [g_write h1]
    by_cases h2 : dec a = 0
    · simp only [h2, g_sync0]
      exact ⟨14, _, rfl, .inr ⟨rfl, fun e => (by rw [dec_m1 e] at h2; cases h2), _, st + 1, sm + 1, rfl, ook_raw hd hk, by omega, by omega⟩⟩
    · simp only [g_sync h2]
      by_cases h3 : dec (dec a) = 0
      · simp only [h3, g_rename0]
        exact ⟨14, _, rfl, .inr ⟨rfl, fun e => (by rw [dec_m1 (dec_m1 e)] at h3; cases h3), _, st + 1 + 1, sm + 1, rfl, ook_sy (n := sm + 1) hd, by omega, by omega⟩⟩
      · simp only [g_rename h3]
        exact ⟨0, _, rfl, .inl ⟨rfl, _, rfl, rng_dec (rng_dec (rng_dec ha)), fun e => dec_m1 (dec_m1 (dec_m1 e))⟩⟩
theorem fillokB (h : Sz B BT G GT st sm) (hd : d.size ≤ 20000000000) (ha : Rng a) (hst : st ≤ 900000) (hsm : sm ≤ 900000) : FillOk (T7 B BT G GT st sm a false) pB d := by
  have hk := kept_ook h.bt
  refine ⟨t7_ok h ha, ?_, ?_⟩
  · rw [pB_tT]
    by_cases h1 : a = 0
    · subst h1; rw [b_write0]; exact t7_ok h rng_m1
    · rw [b_write h1]; exact t7_ok ⟨h.b, ook_raw hd hk, h.g, h.gt, by omega, by omega⟩ (rng_dec ha)
  · rw [pB_tT]
    by_cases h1 : a = 0
    · subst h1
      rw [b_write0]
      have e : syncS (T7 B BT G GT st sm (-1) true) pBT = (14, T7 B BT G GT st sm (-1) true) := by
        unfold syncS
        cases B <;> cases BT <;> cases G <;> cases GT <;> kernel_rfl
      show Ok (syncS (T7 B BT G GT st sm (-1) true) pBT).2
      rw [e]
      exact t7_ok h rng_m1
    · rw [b_write h1]
      show Ok (syncS (T7 B (some ⟨d, keptOf BT, true, true, sm + 1⟩) G GT (st + 1) (sm + 1) (dec a) false) pBT).2
      by_cases h2 : dec a = 0
      · rw [h2, b_sync0]; exact t7_ok ⟨h.b, ook_raw hd hk, h.g, h.gt, by omega, by omega⟩ rng_m1
      · rw [b_sync h2]; exact t7_ok ⟨h.b, ook_sy (n := sm + 1) hd, h.g, h.gt, by omega, by omega⟩ (rng_dec (rng_dec ha))
theorem fillokG (h : Sz B BT G GT st sm) (hd : d.size ≤ 20000000000) (ha : Rng a) (hst : st ≤ 900000) (hsm : sm ≤ 900000) : FillOk (T7 B BT G GT st sm a false) pG d := by
  have hk := kept_ook h.gt
  refine ⟨t7_ok h ha, ?_, ?_⟩
  · rw [pG_tT]
    by_cases h1 : a = 0
    · subst h1; rw [g_write0]; exact t7_ok h rng_m1
    · rw [g_write h1]; exact t7_ok ⟨h.b, h.bt, h.g, ook_raw hd hk, by omega, by omega⟩ (rng_dec ha)
  · rw [pG_tT]
    by_cases h1 : a = 0
    · subst h1
      rw [g_write0]
      have e : syncS (T7 B BT G GT st sm (-1) true) pGT = (14, T7 B BT G GT st sm (-1) true) := by
        unfold syncS
        cases B <;> cases BT <;> cases G <;> cases GT <;> kernel_rfl
      show Ok (syncS (T7 B BT G GT st sm (-1) true) pGT).2
      rw [e]
      exact t7_ok h rng_m1
    · rw [g_write h1]
      show Ok (syncS (T7 B BT G (some ⟨d, keptOf GT, true, true, sm + 1⟩) (st + 1) (sm + 1) (dec a) false) pGT).2
      by_cases h2 : dec a = 0
      · rw [h2, g_sync0]; exact t7_ok ⟨h.b, h.bt, h.g, ook_raw hd hk, by omega, by omega⟩ rng_m1
      · rw [g_sync h2]; exact t7_ok ⟨h.b, h.bt, h.g, ook_sy (n := sm + 1) hd, by omega, by omega⟩ (rng_dec (rng_dec ha))
end
theorem add7 {B BT GT : Option Fi} {c r : ByteArray} {n st sm : Nat} {a : Int} {R : List ByteArray} {dm : Bool} (ha : Rng a) : ∃ k x', addS ⟨T7 B BT (some (sy c n)) GT st sm a false, R, dm⟩ pG r = (k, x') ∧
    ((k = 0 ∧ ∃ a', x' = ⟨T7 B BT (some (sy (c ++ Fm.pk r) (sm + 1))) GT (st + 2) (sm + 1) a' false, R ++ [r], dm⟩ ∧ Rng a' ∧ (a = -1 → a' = -1)) ∨
     (k = 14 ∧ a ≠ -1 ∧ ∃ G' st' sm', x' = ⟨T7 B BT G' GT st' sm' (-1) true, R, dm⟩ ∧ (G' = some (sy c n) ∨ G' = some ⟨c ++ Fm.pk r, c, true, false, sm + 1⟩) ∧ st' ≤ st + 2 ∧ sm' ≤ sm + 1)) := by
  unfold addS
  by_cases h1 : a = 0
  · subst h1
    simp only [t_append0]
    exact ⟨14, _, rfl, .inr ⟨rfl, by decide, _, st, sm, rfl, .inl rfl, by omega, by omega⟩⟩
  · simp only [t_append h1]
    by_cases h2 : dec a = 0
    · simp only [h2, t_sync0]
      exact ⟨14, _, rfl, .inr ⟨rfl, fun e => (by rw [dec_m1 e] at h2; cases h2), _, st + 1, sm + 1, rfl, .inr rfl, by omega, by omega⟩⟩
    · simp only [t_sync h2]
      exact ⟨0, _, rfl, .inl ⟨rfl, _, rfl, rng_dec (rng_dec ha), fun e => dec_m1 (dec_m1 e)⟩⟩
theorem addok7 {B BT GT : Option Fi} {c r : ByteArray} {n st sm : Nat} {a : Int} {R : List ByteArray} {dm : Bool} (h : Sz B BT (some (sy c n)) GT st sm) (ha : Rng a) (hr : r.size ≤ 1000000000) (hc : c.size + (Fm.pk r).size ≤ 20000000000) (hR : R.length ≤ 1000) (hst : st ≤ 900000) (hsm : sm ≤ 900000) :
    AddOk ⟨T7 B BT (some (sy c n)) GT st sm a false, R, dm⟩ pG r := by
  have hs : (c ++ Fm.pk r).size = c.size + (Fm.pk r).size := ByteArray.size_append
  refine ⟨t7_ok h ha, ?_, ?_, by omega, by show R.length ≤ _; omega⟩
  · show Ok (appendS (T7 B BT (some (sy c n)) GT st sm a false) pG (Fm.pk r)).2
    by_cases h1 : a = 0
    · subst h1; rw [t_append0]; exact t7_ok h rng_m1
    · rw [t_append h1]; exact t7_ok ⟨h.b, h.bt, ook_app (by show (c ++ Fm.pk r).size ≤ _; omega) (by show c.size ≤ (c ++ Fm.pk r).size; omega), h.gt, by omega, by omega⟩ (rng_dec ha)
  · show (old (T7 B BT (some (sy c n)) GT st sm a false).L pG).data.size + _ ≤ _
    rw [o_log]
    show c.size + _ ≤ _
    omega
def Re (o o' : Option Fi) : Prop := match o with
  | none => o' = none
  | some f => ∃ c m, o' = some (sy c m) ∧ c.size ≤ 20000000000 ∧ (f.loose = false → c = f.data ∧ m = f.stamp) ∧ (f.anew = false → f.loose = true → f.kept.size ≤ c.size ∧ c = f.data.extract 0 c.size)
theorem Re.ook {o o' : Option Fi} (h : Re o o') : Ook o' := by
  cases o with
  | none => rw [show o' = none from h]; exact ook_none
  | some f =>
    obtain ⟨c, m, rfl, hc, _⟩ := h
    exact ook_sy hc
theorem re_one (loss : Nat) (p : ByteArray) (o : Option Fi) (l : List It) (n st : Nat) (h : Ook o) : ∃ o' n' st', Re o o' ∧ st ≤ st' ∧ st' ≤ st + 1 ∧ restartL loss (oit p o ++ l) n st = (oit p o' ++ (restartL loss l n' st').1, (restartL loss l n' st').2) := by
  cases o with
  | none => exact ⟨none, n, st, rfl, Nat.le_refl _, by omega, rfl⟩
  | some f =>
    obtain ⟨data, kept, loose, anew, stamp⟩ := f
    obtain ⟨h1, h2, h3, h4⟩ := h _ rfl
    simp only at h1 h2 h3 h4
    cases loose with
    | false =>
      obtain ⟨rfl, rfl⟩ := h4 rfl
      refine ⟨some (sy kept stamp), n, st, ⟨kept, stamp, rfl, h1, fun _ => ⟨rfl, rfl⟩, fun _ e => (by cases e)⟩, Nat.le_refl _, by omega, ?_⟩
      show restartL loss (_ :: l) n st = _
      rw [restart_synced _ rfl]
      rfl
    | true =>
      have key : ∀ c, (lose (mix loss (n + 1)) ⟨p, false, data, kept, true, anew, stamp⟩).data = c → restartL loss (oit p (some ⟨data, kept, true, anew, stamp⟩) ++ l) n st = (oit p (some (sy c (st + 1))) ++ (restartL loss l (n + 1) (st + 1)).1, (restartL loss l (n + 1) (st + 1)).2) := fun c hc => by
        show restartL loss (_ :: l) n st = _
        rw [restart_loose _ rfl, lose_stamp, hc]
        rfl
      cases anew with
      | false =>
        obtain ⟨c, hc, c1, c2, c3⟩ := lose_old (mix loss (n + 1)) p kept data stamp (h3 rfl)
        exact ⟨_, n + 1, st + 1, ⟨c, st + 1, rfl, by omega, fun e => (by cases e), fun _ _ => ⟨c1, c3⟩⟩, by omega, by omega, key c hc⟩
      | true =>
        obtain ⟨c, hc, hc2⟩ := lose_new (mix loss (n + 1)) p kept data stamp
        have hcs : c.size ≤ 20000000000 := by
          rcases hc2 with rfl | ⟨h, _⟩
          · exact h2
          · omega
        exact ⟨_, n + 1, st + 1, ⟨c, st + 1, rfl, hcs, fun e => (by cases e), fun e => (by cases e)⟩, by omega, by omega, key c hc⟩
theorem t7_restart {B BT G GT : Option Fi} {st sm : Nat} (a : Int) (dn : Bool) (h : Sz B BT G GT st sm) (loss : Int) : ∃ B' BT' G' GT' sm', restartS (T7 B BT G GT st sm a dn) loss = T7 B' BT' G' GT' st sm' (-1) false ∧ Re B B' ∧ Re BT BT' ∧ Re G G' ∧ Re GT GT' ∧ sm ≤ sm' ∧ sm' ≤ sm + 4 := by
  obtain ⟨B', n1, st1, r1, a1, b1, e1⟩ := re_one (u64 loss) pB B (oit pBT BT ++ (oit pG G ++ oit pGT GT)) 0 sm h.b
  obtain ⟨BT', n2, st2, r2, a2, b2, e2⟩ := re_one (u64 loss) pBT BT (oit pG G ++ oit pGT GT) n1 st1 h.bt
  obtain ⟨G', n3, st3, r3, a3, b3, e3⟩ := re_one (u64 loss) pG G (oit pGT GT) n2 st2 h.g
  obtain ⟨GT', n4, st4, r4, a4, b4, e4⟩ := re_one (u64 loss) pGT GT [] n3 st3 h.gt
  rw [List.append_nil, restartL] at e4
  refine ⟨B', BT', G', GT', st4, ?_, r1, r2, r3, r4, by omega, by omega⟩
  unfold restartS T7
  simp only
  rw [restart_synced _ rfl, e1, e2, e3, e4]
  simp
theorem fr_whole (r : ByteArray) (h : r.size ≤ 9223372036854775807) : Fm.fr (Fm.pk r) = (r, (Fm.pk r).size, 0) := by
  have := Fr.fr_pk r [] h
  rwa [List.append_nil] at this
theorem scan_torn (l : List ByteArray) (r c : ByteArray) (h : ∀ x ∈ l ++ [r], x.size ≤ 140737488351232) (h1 : (PK l).size ≤ c.size) (h2 : c = (PK (l ++ [r])).extract 0 c.size) :
    ∃ R, (R = l ∨ R = l ++ [r]) ∧ ((∃ g, Fm.sc c 0 = (R, g, 0) ∧ c = PK R) ∨ (∃ g, Fm.sc c 0 = (R, g, 2) ∧ c.extract 0 g = PK R)) := by
  have hs := scan_PK (l ++ [r]) c.size h
  rw [← h2, Fr.cnt_snoc] at hs
  rw [PK_size] at h1
  by_cases hb : (Fr.PKl (l ++ [r])).length ≤ c.size
  · rw [if_pos hb, show l.length + 1 = (l ++ [r]).length by simp, List.take_length, if_pos (by omega)] at hs
    have e : c = PK (l ++ [r]) := by
      have e2 : (PK (l ++ [r])).extract 0 c.size = PK (l ++ [r]) := by
        rw [PK_ext, List.take_of_length_le hb]
        rfl
      rw [e2] at h2
      exact h2
    exact ⟨l ++ [r], .inr rfl, .inl ⟨_, hs, e⟩⟩
  · rw [if_neg hb, Fr.cnt_all l _ h1, List.take_left] at hs
    by_cases he : (Fr.PKl l).length = min c.size (Fr.PKl (l ++ [r])).length
    · rw [if_pos he] at hs
      have hc : c.size = (Fr.PKl l).length := by omega
      have e : c = PK l := by
        have e2 := PK_prefix (l ++ [r]) l.length c.size (by rw [List.take_left]; exact h1)
        rw [List.take_left, ← h2] at e2
        rw [← e2, ← hc]
        exact (Wm.extract_all c).symm
      exact ⟨l, .inl rfl, .inl ⟨_, hs, e⟩⟩
    · rw [if_neg he] at hs
      have e2 := PK_prefix (l ++ [r]) l.length c.size (by rw [List.take_left]; exact h1)
      rw [List.take_left, ← h2] at e2
      exact ⟨l, .inl rfl, .inr ⟨_, hs, e2⟩⟩
def Torn (l : List ByteArray) (r c : ByteArray) : Prop := (PK l).size ≤ c.size ∧ c = (PK (l ++ [r])).extract 0 c.size
theorem torn_whole (l : List ByteArray) (r : ByteArray) : Torn l r (PK l) := by
  refine ⟨Nat.le_refl _, ?_⟩
  have := PK_prefix (l ++ [r]) l.length (PK l).size (by rw [List.take_left, PK_size]; exact Nat.le_refl _)
  rw [List.take_left] at this
  have e : ((PK (l ++ [r])).extract 0 (PK l).size).extract 0 (Fr.PKl l).length = (PK (l ++ [r])).extract 0 (PK l).size := by
    rw [ByteArray.extract_extract, PK_size]
    congr 1
    omega
  rw [e] at this
  exact this.symm
theorem openG {B BT GT : Option Fi} {l : List ByteArray} {r c : ByteArray} {n st sm : Nat} {a : Int} (h : Sz B BT (some (sy c n)) GT st sm) (ha : Rng a) (hl : ∀ x ∈ l ++ [r], x.size ≤ 140737488351232) (ht : Torn l r c) :
    ∃ R k x, (R = l ∨ R = l ++ [r]) ∧ openS (T7 B BT (some (sy c n)) GT st sm a false) pG = (k, x) ∧
      ((k = 0 ∧ ∃ GT' n' st' sm' a', x = ⟨T7 B BT (some (sy (PK R) n')) GT' st' sm' a' false, R, false⟩ ∧ (PK R).size ≤ c.size ∧ Ook GT' ∧ st' ≤ st + 3 ∧ sm' ≤ sm + 2 ∧ Rng a' ∧ (a = -1 → a' = -1)) ∨
       (k = 14 ∧ a ≠ -1 ∧ ∃ GT' st' sm', x.s = T7 B BT (some (sy c n)) GT' st' sm' (-1) true ∧ Ook GT' ∧ st' ≤ st + 3 ∧ sm' ≤ sm + 2)) := by
  obtain ⟨R, hR, hcase⟩ := scan_torn l r c hl ht.1 ht.2
  have hk : kind (T7 B BT (some (sy c n)) GT st sm a false).L pG ≠ 0 := by rw [k_log]; decide
  have hr : readS (T7 B BT (some (sy c n)) GT st sm a false) pG = (c, 0) := r_log
  rcases hcase with ⟨g, hs, hc⟩ | ⟨g, hs, hc⟩
  · refine ⟨R, _, _, hR, open_2 hk hr hs, .inl ⟨rfl, GT, n, st, sm, a, by rw [← hc], by rw [← hc]; exact Nat.le_refl _, h.gt, by omega, by omega, ha, id⟩⟩
  · have hsz : (c.extract 0 g).size ≤ c.size := by rw [ByteArray.size_extract]; omega
    have hcs : c.size ≤ 20000000000 := (h.g _ rfl).1
    obtain ⟨k, s', hf, hcases⟩ := fillG (d := c.extract 0 g) h (by omega) ha
    refine ⟨R, _, _, hR, open_3 hk hr hs (by decide) hf, ?_⟩
    rcases hcases with ⟨rfl, a', rfl, ra, rm⟩ | ⟨rfl, hne, GT', st', sm', rfl, o1, o2, o3⟩
    · exact .inl ⟨rfl, none, sm + 2, st + 3, sm + 2, a', by rw [← hc]; rfl, by rw [← hc]; exact hsz, ook_none, by omega, by omega, ra, rm⟩
    · exact .inr ⟨rfl, hne, GT', st', sm', rfl, o1, o2, o3⟩
end Go.Proofs.YtjdfffkkpbabpaaGreat.Tb

namespace Go.Proofs.YtjdfffkkpbabpaaGreat.Tb
open Go.RowKit Tx Pm Dk Wm Wr Wl Pl
set_option linter.unusedVariables false
set_option linter.unusedSimpArgs false
set_option linter.unnecessarySimpa false
abbrev Tt (b j t m : Nat) := Tn b j t m pB pG
abbrev Tu (b j t m u : Nat) := TB b j t m pB pG u
section
variable {w0 W : World} {b j t m u k : Nat} {s s' : St} {x y : Tst} {l : List Ch}
theorem tn_below {w w1 : World} {F : Nat → Prop} {x : Tst} (h : Tt b j t m w F x) (hb : Below w.heap.size w w1) : Tt b j t m w1 F x := by
  obtain ⟨Fj, h⟩ := h
  exact ⟨Fj, h.below hb⟩
theorem ownT_below {w' : World} (h : Own (Tt b j t m) w0 x W) (hb : Below W.heap.size W w') : Own (Tt b j t m) w0 x w' := Own.kept (Obj := Tt b j t m) (fun h hb => tn_below h hb) h hb
theorem own_tab (h : Own (Tu b j t m u) w0 (x, l) W) : Own (Tt b j t m) w0 x W := by
  obtain ⟨H, ⟨F, G, h1, _, _, hH⟩, h2, h3⟩ := h
  exact ⟨F, h1, fun i hi => h2 i ((hH i).2 (.inl hi)), h3⟩
theorem own_disk (h : Own (Tt b j t m) w0 x W) : Own (ImpAt b) w0 x.j.s W := by
  obtain ⟨F, ⟨Fj, h1⟩, h2, h3⟩ := h
  obtain ⟨v, Fd, hj⟩ := h1.jn
  exact ⟨Fd, hj.dsk, fun i hi => h2 i ((h1.foot i).2 (.inl ((hj.foot i).2 (.inl hi)))), h3⟩
theorem sys_base : tb (joi pS.data.toList [98, 97, 115, 101]) = pB := by decide +kernel
theorem sys_log : tb (joi pS.data.toList [108, 111, 103]) = pG := by decide +kernel
theorem a_open (h : Own (ImpAt b) w0 s W) (o : Open7Ok s pS pB pG) (he : open7 s pS pB pG = (0, x)) : Calls Tryz.prog 7 #[.pointer (some ⟨b, 0, none⟩), .string pS] W fun e w' => ∃ t j m, e = .returned (.tuple #[.pointer (some ⟨t, 0, none⟩), .int .i64 0]) ∧ Own (Tt b j t m) w0 x w' := by
  obtain ⟨F, h1, h2, h3⟩ := h
  have c := open_any b pS pB pG W h1 sys_base sys_log o
  rw [he] at c
  refine c.mono fun e w' hh => ?_
  rcases hh with ⟨_, t, j, m, he, hl⟩ | ⟨h0, _⟩
  · exact ⟨t, j, m, he, own_left h2 h3 hl⟩
  · exact absurd rfl h0
theorem a_begin (h : Own (Tt b j t m) w0 x W) : Calls Tryz.prog 9 #[.pointer (some ⟨t, 0, none⟩)] W fun e w' => ∃ u, e = .returned (.pointer (some ⟨u, 0, none⟩)) ∧ Own (Tu b j t m u) w0 (x, []) w' := by
  obtain ⟨F, ⟨Fj, h1⟩, h2, h3⟩ := h
  refine (begin_any (some ⟨t, 0, none⟩) W).mono fun e w' hh => ?_
  obtain ⟨u, he, G, hB, hG, hb⟩ := hh
  have hs := h3.size
  exact ⟨u, he, fun i => F i ∨ G i, ⟨F, G, ⟨Fj, h1.below hb⟩, hB, fun i hi hg => by have := h1.lt i hi; have := hG i hg; omega, fun i => Iff.rfl⟩, fun i hi => hi.elim (h2 i) (fun hh => by have := hG i hh; omega), Tx.below_call h3 hb⟩
theorem a_batch {f : FuncId} {args : Array Value} {l' : List Ch} {P : Ending → Prop} (h : Own (Tu b j t m u) w0 (x, l) W) (hc : ∀ pm vO G, BAt u pm (some ⟨t, 0, none⟩) vO W G l → Calls Tryz.prog f args W fun e w' => P e ∧ LeftA (Bn u (some ⟨t, 0, none⟩)) W G l' w') :
    Calls Tryz.prog f args W fun e w' => P e ∧ Own (Tu b j t m u) w0 (x, l') w' :=
  h.call (fun H ⟨F, G, ⟨Fj, h1⟩, ⟨pm, vO, h2⟩, hd, hH⟩ => (hc pm vO G h2).mono fun e w' hh => ⟨hh.1, by
    obtain ⟨G', q, c, n⟩ := hh.2
    refine ⟨fun i => F i ∨ G' i, ⟨F, G', ⟨Fj, h1.kept (fun i hi => c.block i (h1.lt i hi) (hd i hi))⟩, q, fun i hi hg => ?_, fun i => Iff.rfl⟩, c.mono (fun i hi => (hH i).2 (.inr hi)), fun g hg => ?_⟩
    · rcases n i hg with hh | hh
      · exact hd i hi hh
      · have := h1.lt i hi; omega
    · rcases hg with hg | hg
      · exact .inl ((hH g).2 (.inl hg))
      · exact (n g hg).imp (fun hh => (hH g).2 (.inr hh)) id⟩)
theorem a_put {key val : ByteArray} (h : Own (Tu b j t m u) w0 (x, l) W) (hk : key.size ≤ 1000000000000) (hl : l.length < 1000000000) : Calls Tryz.prog 10 #[.pointer (some ⟨u, 0, none⟩), .string key, .string val] W fun e w' => e = .returned (.tuple #[]) ∧ Own (Tu b j t m u) w0 (x, bat l ⟨key, val, false⟩) w' :=
  a_batch h (fun pm vO G hB => bPut_any u pm _ vO key val W hB hk hl)
theorem a_commit (h : Own (Tu b j t m u) w0 (x, l) W) (o : CommitOk x l pB pG) (he : commitS x l pB pG = (0, y)) : Calls Tryz.prog 13 #[.pointer (some ⟨u, 0, none⟩)] W fun e w' => e = .returned (.int .i64 0) ∧ Own (Tu b j t m u) w0 (y, []) w' :=
  h.call (fun H hh => by
    have c := commit_any b j t m u pB pG W hh o
    rw [he] at c
    exact c.mono fun e w' q => ⟨q.1, q.2.2 rfl⟩)
theorem a_get {key : ByteArray} (h : Own (Tt b j t m) w0 x W) (hk : key.size ≤ 1000000000000) : Calls Tryz.prog 23 #[.pointer (some ⟨t, 0, none⟩), .string key] W fun e w' => e = .returned (.tuple #[.string (lookC x.L key).val, .bool (find x.L key).isSome]) ∧ Below W.heap.size W w' := by
  obtain ⟨F, ⟨Fj, h1⟩, h2, h3⟩ := h
  exact tGet_any t m x.L key W h1.cell.2.2.2 h1.rows (by unfold maxLen; omega)
end
end Go.Proofs.YtjdfffkkpbabpaaGreat.Tb

namespace Go.Proofs.YtjdfffkkpbabpaaGreat.Tb
open Go.RowKit Tx Pm Dk Wm Wr Wl Pl Od
set_option linter.unusedVariables false
set_option linter.unusedSimpArgs false
set_option linter.unnecessarySimpa false
abbrev JnR (bw jw : Nat) := Jn (RefAt bw) 86 bw jw pG
theorem jr_kind (bw jw : Nat) : (∀ {w F x}, JnR bw jw w F x → ∀ i, F i → i < w.heap.size) ∧ (∀ {w w1 F x}, JnR bw jw w F x → (∀ i, F i → w1.heap[i]? = w.heap[i]?) → JnR bw jw w1 F x) := jn_kind (ref_kind bw) _ bw jw pG
def cellsT (bw jw : Nat) (vR : Value) : Obj := .cells #[.pointer (some ⟨bw, 0, none⟩), .string pS, .pointer (some ⟨jw, 0, none⟩), vR] 74 (0, 0)
structure RAt (bw jw v : Nat) (vR : Value) (Fj : Nat → Prop) (w : World) (F : Nat → Prop) (x : Tst) : Prop where
  jn : JnR bw jw w Fj x.j
  blk : w.heap[v]? = some (cellsT bw jw vR)
  row : OwR w 0 vR x.L
  ne : vR.ownBlock ≠ some v
  off : ∀ i, Fj i → i ≠ v ∧ vR.ownBlock ≠ some i
  foot : ∀ i, F i ↔ Fj i ∨ i = v ∨ vR.ownBlock = some i
  rises : Rises x.L
  plain : Plain x.L
def Rn (bw jw v : Nat) (w : World) (F : Nat → Prop) (x : Tst) : Prop := ∃ vR Fj, RAt bw jw v vR Fj w F x
section
variable {bw jw v : Nat} {vR : Value} {Fj F : Nat → Prop} {w w1 : World} {x : Tst}
theorem RAt.lt (h : RAt bw jw v vR Fj w F x) : ∀ i, F i → i < w.heap.size := fun i hi => by
  rcases (h.foot i).1 hi with h1 | rfl | h1
  · exact (jr_kind bw jw).1 h.jn i h1
  · exact (Array.getElem?_eq_some_iff.1 h.blk).1
  · exact (h.row.lt i h1).2
theorem RAt.kept (h : RAt bw jw v vR Fj w F x) (hk : ∀ i, F i → w1.heap[i]? = w.heap[i]?) : RAt bw jw v vR Fj w1 F x :=
  ⟨(jr_kind bw jw).2 h.jn (fun i hi => hk i ((h.foot i).2 (.inl hi))), (hk v ((h.foot v).2 (.inr (.inl rfl)))).trans h.blk, own_kept h.row (fun g hg => hk g ((h.foot g).2 (.inr (.inr hg)))), h.ne, h.off, h.foot, h.rises, h.plain⟩
theorem RAt.below (h : RAt bw jw v vR Fj w F x) (hb : Below w.heap.size w w1) : RAt bw jw v vR Fj w1 F x := h.kept (fun i hi => hb.block i (h.lt i hi))
theorem tcell {W : World} (hb : W.heap[v]? = some (cellsT bw jw vR)) : W.cell? ⟨v, 0, none⟩ = some (.pointer (some ⟨bw, 0, none⟩)) ∧ W.cell? ⟨v, 1, none⟩ = some (.string pS) ∧ W.cell? ⟨v, 2, none⟩ = some (.pointer (some ⟨jw, 0, none⟩)) ∧ W.cell? ⟨v, 3, none⟩ = some vR ∧ ∀ q, W.frozen? ⟨v, q, none⟩ = false := by
  refine ⟨?_, ?_, ?_, ?_, fun q => ?_⟩
  · unfold World.cell?; rw [hb]; rfl
  · unfold World.cell?; rw [hb]; rfl
  · unfold World.cell?; rw [hb]; rfl
  · unfold World.cell?; rw [hb]; rfl
  · unfold World.frozen?; rw [hb]; simp [cellsT]
theorem RAt.jleft {y : Jst} (h : RAt bw jw v vR Fj w F x) (hl : LeftA (JnR bw jw) w Fj y w1) : ∃ Fj' F', RAt bw jw v vR Fj' w1 F' ⟨y, x.L⟩ ∧ Chg F w w1 ∧ ∀ g, F' g → F g ∨ w.heap.size ≤ g := by
  obtain ⟨Fj', h1, h2, h3⟩ := hl
  have hv : v < w.heap.size := (Array.getElem?_eq_some_iff.1 h.blk).1
  have hvl := h.row.lt
  refine ⟨Fj', fun i => Fj' i ∨ i = v ∨ vR.ownBlock = some i, ⟨h1, (h2.block v hv (fun hh => (h.off v hh).1 rfl)).trans h.blk, own_kept h.row (fun g hg => h2.block g (hvl g hg).2 (fun hh => (h.off g hh).2 hg)), h.ne, fun i hi => ?_, fun i => Iff.rfl, h.rises, h.plain⟩, h2.mono (fun i hi => (h.foot i).2 (.inl hi)), fun g hg => ?_⟩
  · rcases h3 i hi with hh | hh
    · exact h.off i hh
    · exact ⟨by omega, fun e => by have := (hvl i e).2; omega⟩
  · rcases hg with hg | hg
    · exact (h3 g hg).imp (fun hh => (h.foot g).2 (.inl hh)) id
    · exact .inl ((h.foot g).2 (.inr hg))
theorem RAt.poke {vR' : Value} {L : List It} (h : RAt bw jw v vR Fj w F x) (hb : Below w.heap.size w w1) (hr : OwR w1 0 vR' L) (hv : ∀ i, vR'.ownBlock = some i → vR.ownBlock = some i ∨ w.heap.size ≤ i) (hR : Rises L) (hP : Plain L) :
    ∃ F', RAt bw jw v vR' Fj (w1.setCell ⟨v, 3, none⟩ vR') F' ⟨x.j, L⟩ ∧ Chg F w (w1.setCell ⟨v, 3, none⟩ vR') ∧ ∀ g, F' g → F g ∨ w.heap.size ≤ g := by
  have hvlt : v < w.heap.size := (Array.getElem?_eq_some_iff.1 h.blk).1
  have hblk : w1.heap[v]? = some (cellsT bw jw vR) := (hb.block v hvlt).trans h.blk
  have hne : vR'.ownBlock ≠ some v := fun e => by
    rcases hv v e with hh | hh
    · exact h.ne hh
    · omega
  have hjl := (jr_kind bw jw).1 h.jn
  have hoth : ∀ i, i ≠ v → (w1.setCell ⟨v, 3, none⟩ vR').heap[i]? = w1.heap[i]? := fun i hi => set_other _ hi
  refine ⟨fun i => Fj i ∨ i = v ∨ vR'.ownBlock = some i, ⟨(jr_kind bw jw).2 h.jn (fun i hi => (hoth i (h.off i hi).1).trans (hb.block i (hjl i hi))), ?_, own_kept hr (fun g hg => hoth g (fun e => hne (e ▸ hg))), hne, fun i hi => ⟨(h.off i hi).1, fun e => ?_⟩, fun i => Iff.rfl, hR, hP⟩, ?_, fun g hg => ?_⟩
  · rw [set_block hblk _]
    rfl
  · rcases hv i e with hh | hh
    · exact (h.off i hi).2 hh
    · have := hjl i hi; omega
  · have hc : Chg (· = v) w1 (w1.setCell ⟨v, 3, none⟩ vR') := chg_set (b := v) (k := 3) vR'
    exact (Chg.of_below (F := F) hb).trans hc (fun i hi => .inl ((h.foot i).2 (.inr (.inl hi))))
  · rcases hg with hg | hg | hg
    · exact .inl ((h.foot g).2 (.inl hg))
    · exact .inl ((h.foot g).2 (.inr (.inl hg)))
    · exact (hv g hg).imp (fun hh => (h.foot g).2 (.inr (.inr hh))) id
theorem rn_kind (bw jw v : Nat) : (∀ {w F x}, Rn bw jw v w F x → ∀ i, F i → i < w.heap.size) ∧ (∀ {w w1 F x}, Rn bw jw v w F x → (∀ i, F i → w1.heap[i]? = w.heap[i]?) → Rn bw jw v w1 F x) :=
  ⟨fun ⟨vR, Fj, h⟩ => h.lt, fun ⟨vR, Fj, h⟩ hk => ⟨vR, Fj, h.kept hk⟩⟩
end
end Go.Proofs.YtjdfffkkpbabpaaGreat.Tb

namespace Go.Proofs.YtjdfffkkpbabpaaGreat.Rg
open Go.RowKit
set_option linter.unusedVariables false
section
variable {P : Program} {S : World → Prop}
theorem y_build {o : Oper} {a : Act} {T : TypeId} {parts : Array (Nat × Operand)} {vs : Array (Nat × Value)} {v : Value} (ho : o.op = .build T parts) (hx : (parts.map fun (i, x) => (i, a.eval x)) = vs)
    (hv : ∀ w, S w → (Instr.build T vs).run P w = .ok v w) : ∀ w, S w → (execOp a.eval o).run P w = .ok (.value v) w := by
  intro w hw
  obtain ⟨dst, op, ty, pos, after, guard⟩ := o
  simp only at ho
  subst ho
  have := hv w hw
  simp only [execOp, Sem.run_bind]
  rw [hx, this]
  rfl
theorem y_buildk {o : Oper} {a : Act} {T : TypeId} {parts : Array (Nat × Operand)} {vs : Array (Nat × Value)} {v : Value} (hv : ∀ w, S w → (Instr.build T vs).run P w = .ok v w) (ho : o.op = .build T parts := by kernel_rfl) (hx : (parts.map fun (i, x) => (i, a.eval x)) = vs := by kernel_rfl) : ∀ w, S w → (execOp a.eval o).run P w = .ok (.value v) w := y_build ho hx hv
end
end Go.Proofs.YtjdfffkkpbabpaaGreat.Rg
namespace Go.Proofs.YtjdfffkkpbabpaaGreat.Tb
open Go.RowKit
set_option linter.unusedVariables false
set_option linter.unusedSimpArgs false
set_option linter.unnecessarySimpa false
def RowC (v g off n c k : Nat) (xp xd : ByteArray) (W : World) : Prop := W.cell? ⟨v, 3, none⟩ = some (.slice (some ⟨g, off, none⟩) n c) ∧ W.cell? ⟨g, off + k * 2, none⟩ = some (.string xp) ∧ W.cell? ⟨g, off + k * 2 + 1, none⟩ = some (.string xd)
set_option maxRecDepth 100000 in
set_option maxHeartbeats 4000000 in
theorem whlNew (ops : Array Oper) (hops : ops = (Rg.opsOf Tryz.f16 5)) (id : Nat) (v g off n c k : Nat) (vo : Value) (xp xd : ByteArray) {u1 u2 u5 u6 u7 u8 u9 u10 u11 u12 u13 u14 u15 u16 u17 u18 u19 u20 u21 u22 u23 u24 u25 u26 u27 u28 u29 u30 u31 u32 u33 u34 u35 u36 u37 u38 u39 u40 u41 u42 u43 u44 u45 u46 u47 u48 u49 u50 u51 u52 u53 u54 u55 : Value} (w : World) (B4 : Value → World → Prop) (hin : (k : Int) < (n : Int))
    (hS : RowC v g off n c k xp xd w) (hS2 : RowC v g off n c k xp xd (w.drew.alloc (.cells #[.string xp, .string xd, .bool false] 43)))
    (hE : ∀ ty, ∃ v8 w8, (Builtin.append_ #[37, 37] ty #[vo, .slice (some ⟨w.heap.size, 0, none⟩) 1 1]).run Tryz.prog (w.drew.alloc (.cells #[.string xp, .string xd, .bool false] 43)) = .ok v8 w8 ∧ RowC v g off n c k xp xd w8 ∧ B4 v8 w8) :
    (Code.region id ops true).wp Tryz.prog (Rg.Only fun a' w' => ∃ (z8 : Nat) (v8 : Value) (w8 : World), a' = ⟨#[(.pointer (some ⟨v, 0, none⟩)), u1, u2, v8, (.int .i64 (k : Nat)), u5, u6, u7, u8, u9, u10, u11, u12, u13, u14, vo, (.pointer (some ⟨v, 0, none⟩)), (.pointer (some ⟨v, 0, none⟩)), (.pointer (some ⟨v, 3, none⟩)), (.slice (some ⟨g, off, none⟩) n c), (.int .i64 (k : Nat)), (.pointer (some ⟨g, off + k * 2, none⟩)), (.pointer (some ⟨g, off + k * 2, none⟩)), (.string xp), (.pointer (some ⟨v, 0, none⟩)), (.pointer (some ⟨v, 0, none⟩)), (.pointer (some ⟨v, 3, none⟩)), (.slice (some ⟨g, off, none⟩) n c), (.int .i64 (k : Nat)), (.pointer (some ⟨g, off + k * 2, none⟩)), (.pointer (some ⟨g, off + k * 2 + 1, none⟩)), (.string xd), (.agg #[.string xp, .string xd, .bool false]), (.slice (some ⟨z8, 0, none⟩) 1 1), v8, u35, u36, u37, u38, u39, u40, u41, u42, u43, u44, u45, u46, u47, u48, u49, u50, u51, u52, u53, u54, u55], []⟩ ∧ w' = w8 ∧ B4 v8 w8) ⟨#[(.pointer (some ⟨v, 0, none⟩)), u1, u2, vo, (.int .i64 (k : Nat)), u5, u6, u7, u8, u9, u10, u11, u12, u13, u14, u15, u16, u17, u18, u19, u20, u21, u22, u23, u24, u25, u26, u27, u28, u29, u30, u31, u32, u33, u34, u35, u36, u37, u38, u39, u40, u41, u42, u43, u44, u45, u46, u47, u48, u49, u50, u51, u52, u53, u54, u55], []⟩ w := by
  subst hops
  have hNS : Region.noSelect (Rg.opsOf Tryz.f16 5) = true := by kernel_rfl
  refine wp_region_held_drew (S := RowC v g off n c k xp xd) (by kernel_rfl) hS (fun hHeld => ?_)
  rw [show (Rg.opsOf Tryz.f16 5).size = 21 by kernel_rfl]
  refine Rg.takek 0 (some 15) (vo) hNS hHeld (Rg.y_movekL (x := .tmp 3)) ?_
  refine Rg.takek 1 (some 16) (.pointer (some ⟨v, 0, none⟩)) hNS hHeld (Rg.y_movekL (x := .tmp 0)) ?_
  refine Rg.takek 2 (some 17) (.pointer (some ⟨v, 0, none⟩)) hNS hHeld (Rg.y_nilk (x := .tmp 16)) ?_
  refine Rg.takek 3 (some 18) (.pointer (some ⟨v, 3, none⟩)) hNS hHeld (Rg.y_fieldk (T := 74) (k := 3) (x := .tmp 17) (vx := (.pointer (some ⟨v, 0, none⟩))) ?_) ?_
  · (intro w hSw; clear hSw hE; go_simp)
  refine Rg.takek 4 (some 19) (.slice (some ⟨g, off, none⟩) n c) hNS hHeld (Rg.y_loadk (T := 72) (x := .tmp 18) (vx := (.pointer (some ⟨v, 3, none⟩))) ?_) ?_
  · (intro w hSw; clear hE; obtain ⟨s0, s1, s2⟩ := hSw; go_simp)
  refine Rg.takek 5 (some 20) (.int .i64 (k : Nat)) hNS hHeld (Rg.y_movekL (x := .tmp 4)) ?_
  refine Rg.takek 6 (some 21) (.pointer (some ⟨g, off + k * 2, none⟩)) hNS hHeld (Rg.y_atk (T := 72) (x := .tmp 19) (y := .tmp 20) (vx := (.slice (some ⟨g, off, none⟩) n c)) (vy := (.int .i64 (k : Nat))) ?_) ?_
  · (intro w hSw; clear hSw hE; have h1 := hin; go_simp)
  refine Rg.takek 7 (some 22) (.pointer (some ⟨g, off + k * 2, none⟩)) hNS hHeld (Rg.y_fieldk (T := 96) (k := 0) (x := .tmp 21) (vx := (.pointer (some ⟨g, off + k * 2, none⟩))) ?_) ?_
  · (intro w hSw; clear hSw hE; go_simp)
  refine Rg.takek 8 (some 23) (.string xp) hNS hHeld (Rg.y_loadk (T := 9) (x := .tmp 22) (vx := (.pointer (some ⟨g, off + k * 2, none⟩))) ?_) ?_
  · (intro w hSw; clear hE; obtain ⟨s0, s1, s2⟩ := hSw; go_simp)
  refine Rg.takek 9 (some 24) (.pointer (some ⟨v, 0, none⟩)) hNS hHeld (Rg.y_movekL (x := .tmp 0)) ?_
  refine Rg.takek 10 (some 25) (.pointer (some ⟨v, 0, none⟩)) hNS hHeld (Rg.y_nilk (x := .tmp 24)) ?_
  refine Rg.takek 11 (some 26) (.pointer (some ⟨v, 3, none⟩)) hNS hHeld (Rg.y_fieldk (T := 74) (k := 3) (x := .tmp 25) (vx := (.pointer (some ⟨v, 0, none⟩))) ?_) ?_
  · (intro w hSw; clear hSw hE; go_simp)
  refine Rg.takek 12 (some 27) (.slice (some ⟨g, off, none⟩) n c) hNS hHeld (Rg.y_loadk (T := 72) (x := .tmp 26) (vx := (.pointer (some ⟨v, 3, none⟩))) ?_) ?_
  · (intro w hSw; clear hE; obtain ⟨s0, s1, s2⟩ := hSw; go_simp)
  refine Rg.takek 13 (some 28) (.int .i64 (k : Nat)) hNS hHeld (Rg.y_movekL (x := .tmp 4)) ?_
  refine Rg.takek 14 (some 29) (.pointer (some ⟨g, off + k * 2, none⟩)) hNS hHeld (Rg.y_atk (T := 72) (x := .tmp 27) (y := .tmp 28) (vx := (.slice (some ⟨g, off, none⟩) n c)) (vy := (.int .i64 (k : Nat))) ?_) ?_
  · (intro w hSw; clear hSw hE; have h1 := hin; go_simp)
  refine Rg.takek 15 (some 30) (.pointer (some ⟨g, off + k * 2 + 1, none⟩)) hNS hHeld (Rg.y_fieldk (T := 96) (k := 1) (x := .tmp 29) (vx := (.pointer (some ⟨g, off + k * 2, none⟩))) ?_) ?_
  · (intro w hSw; clear hSw hE; go_simp)
  refine Rg.takek 16 (some 31) (.string xd) hNS hHeld (Rg.y_loadk (T := 9) (x := .tmp 30) (vx := (.pointer (some ⟨g, off + k * 2 + 1, none⟩))) ?_) ?_
  · (intro w hSw; clear hE; obtain ⟨s0, s1, s2⟩ := hSw; go_simp)
  refine Rg.takek 17 (some 32) (.agg #[.string xp, .string xd, .bool false]) hNS hHeld (Rg.y_buildk (T := 43) (parts := #[(0, .tmp 23), (1, .tmp 31)]) (vs := #[(0, (.string xp)), (1, (.string xd))]) ?_) ?_
  · (intro w hSw; clear hSw hE; go_simp)
  refine Rg.bldk 18 (some 33) (T := 37) (len := 1) (parts := #[(0, .tmp 32)]) (vs := #[(0, (.agg #[.string xp, .string xd, .bool false]))]) (v := (.slice (some ⟨w.heap.size, 0, none⟩) 1 1)) (w1 := w.drew.alloc (.cells #[.string xp, .string xd, .bool false] 43)) ?_ (hS2) (fun hHeld => ?_)
  · (clear hHeld hE; go_simp)
  refine Rg.app1k 19 (some 34) (T := 37) (x := .tmp 15) (y := .tmp 33) (vx := vo) (vy := (.slice (some ⟨w.heap.size, 0, none⟩) 1 1)) ?_
  intro ty
  obtain ⟨v8, w8, hr8, hS8, h8⟩ := hE ty
  refine ⟨_, w8, hr8, hS8, fun hHeld => ?_⟩
  refine Rg.takek 20 (some 3) (v8) hNS hHeld (Rg.y_movekR (x := .tmp 34)) ?_
  refine Rg.donek ?_
  exact ⟨w.heap.size, v8, w8, by kernel_rfl, rfl, h8⟩
def TwoV (v : Nat) (i : Nat) (x : Value) (k : Nat) (y : Value) (W : World) : Prop := W.cell? ⟨v, i, none⟩ = some x ∧ W.cell? ⟨v, k, none⟩ = some y
set_option maxRecDepth 100000 in
set_option maxHeartbeats 4000000 in
theorem whlFill (ops : Array Oper) (hops : ops = (Rg.opsOf Tryz.f16 6)) (id : Nat) (v b k : Nat) (a5 : Option Addr) (n5 c5 : Nat) (p q r f : ByteArray) {u1 u2 u4 u5 u6 u7 u8 u9 u10 u11 u12 u13 u14 u15 u16 u17 u18 u19 u20 u21 u22 u23 u24 u25 u26 u27 u28 u29 u30 u31 u32 u33 u34 u35 u36 u37 u38 u39 u40 u41 u42 u43 u44 u45 u46 u47 u48 u49 u50 u51 u52 u53 u54 u55 : Value} (w : World)
    (B2 B3 B4 : World → Prop) (hpq : p ++ (⟨#[47, 98, 97, 115, 101]⟩ : ByteArray) = q) (hps : p.size ≤ 1000) (hS : TwoV v 0 (.pointer (some ⟨b, 0, none⟩)) 1 (.string p) w)
    (hB : Calls Tryz.prog 42 #[.slice a5 n5 c5] w.drew fun e w' => e = .returned (.string r) ∧ B2 w') (hBS : ∀ W, B2 W → TwoV v 0 (.pointer (some ⟨b, 0, none⟩)) 1 (.string p) W)
    (hC : ∀ W, B2 W → Calls Tryz.prog 48 #[.string r] W fun e w' => e = .returned (.string f) ∧ B3 w') (hCS : ∀ W, B3 W → TwoV v 0 (.pointer (some ⟨b, 0, none⟩)) 1 (.string p) W)
    (hD : ∀ W, B3 W → Calls Tryz.prog 47 #[.pointer (some ⟨b, 0, none⟩), .string q, .string f] W fun e w' => e = .returned (.int .i64 (k : Nat)) ∧ B4 w') (hDS : ∀ W, B4 W → TwoV v 0 (.pointer (some ⟨b, 0, none⟩)) 1 (.string p) W) :
    (Code.region id ops true).wp Tryz.prog (Rg.Only fun a' w' => a' = ⟨#[(.pointer (some ⟨v, 0, none⟩)), u1, u2, (.slice a5 n5 c5), u4, (.int .i64 (k : Nat)), u6, u7, u8, u9, u10, u11, u12, u13, u14, u15, u16, u17, u18, u19, u20, u21, u22, u23, u24, u25, u26, u27, u28, u29, u30, u31, u32, u33, u34, (.pointer (some ⟨v, 0, none⟩)), (.pointer (some ⟨v, 0, none⟩)), (.pointer (some ⟨v, 0, none⟩)), (.pointer (some ⟨b, 0, none⟩)), (.pointer (some ⟨v, 0, none⟩)), (.pointer (some ⟨v, 0, none⟩)), (.pointer (some ⟨v, 1, none⟩)), (.string p), (.string q), (.slice a5 n5 c5), (.string r), (.string f), (.int .i64 (k : Nat)), u48, u49, u50, u51, u52, u53, u54, u55], []⟩ ∧ B4 w') ⟨#[(.pointer (some ⟨v, 0, none⟩)), u1, u2, (.slice a5 n5 c5), u4, u5, u6, u7, u8, u9, u10, u11, u12, u13, u14, u15, u16, u17, u18, u19, u20, u21, u22, u23, u24, u25, u26, u27, u28, u29, u30, u31, u32, u33, u34, u35, u36, u37, u38, u39, u40, u41, u42, u43, u44, u45, u46, u47, u48, u49, u50, u51, u52, u53, u54, u55], []⟩ w := by
  subst hops
  have hNS : Region.noSelect (Rg.opsOf Tryz.f16 6) = true := by kernel_rfl
  refine wp_region_held_drew (S := TwoV v 0 (.pointer (some ⟨b, 0, none⟩)) 1 (.string p)) (by kernel_rfl) hS (fun hHeld => ?_)
  rw [show (Rg.opsOf Tryz.f16 6).size = 14 by kernel_rfl]
  refine Rg.takek 0 (some 35) (.pointer (some ⟨v, 0, none⟩)) hNS hHeld (Rg.y_movekL (x := .tmp 0)) ?_
  refine Rg.takek 1 (some 36) (.pointer (some ⟨v, 0, none⟩)) hNS hHeld (Rg.y_nilk (x := .tmp 35)) ?_
  refine Rg.takek 2 (some 37) (.pointer (some ⟨v, 0, none⟩)) hNS hHeld (Rg.y_fieldk (T := 74) (k := 0) (x := .tmp 36) (vx := (.pointer (some ⟨v, 0, none⟩))) ?_) ?_
  · (intro w hSw; clear hSw; go_simp)
  refine Rg.takek 3 (some 38) (.pointer (some ⟨b, 0, none⟩)) hNS hHeld (Rg.y_loadk (T := 25) (x := .tmp 37) (vx := (.pointer (some ⟨v, 0, none⟩))) ?_) ?_
  · (intro w hSw; obtain ⟨s0, s1⟩ := hSw; go_simp)
  refine Rg.takek 4 (some 39) (.pointer (some ⟨v, 0, none⟩)) hNS hHeld (Rg.y_movekL (x := .tmp 0)) ?_
  refine Rg.takek 5 (some 40) (.pointer (some ⟨v, 0, none⟩)) hNS hHeld (Rg.y_nilk (x := .tmp 39)) ?_
  refine Rg.takek 6 (some 41) (.pointer (some ⟨v, 1, none⟩)) hNS hHeld (Rg.y_fieldk (T := 74) (k := 1) (x := .tmp 40) (vx := (.pointer (some ⟨v, 0, none⟩))) ?_) ?_
  · (intro w hSw; clear hSw; go_simp)
  refine Rg.takek 7 (some 42) (.string p) hNS hHeld (Rg.y_loadk (T := 9) (x := .tmp 41) (vx := (.pointer (some ⟨v, 1, none⟩))) ?_) ?_
  · (intro w hSw; obtain ⟨s0, s1⟩ := hSw; go_simp)
  refine Rg.takek 8 (some 43) (.string q) hNS hHeld (Rg.y_bink (b := BinOp.add) (T := 9) (R' := 9) (x := .tmp 42) (y := (.const (Value.string { data := #[47, 98, 97, 115, 101] }))) (vx := (.string p)) (vy := (Value.string { data := #[47, 98, 97, 115, 101] })) ?_) ?_
  · (intro w hSw; clear hSw; subst hpq; go_simp; omega)
  refine Rg.takek 9 (some 44) (.slice a5 n5 c5) hNS hHeld (Rg.y_movekL (x := .tmp 3)) ?_
  refine Rg.callk (fn := Tryz.f42) (xs := #[.tmp 44]) (ats := #[37]) 10 (some 45) 42 #[(.slice a5 n5 c5)] Tryz.func42 ?_
  refine hB.mono ?_
  rintro e w6 ⟨rfl, h6⟩
  refine ⟨_, rfl, hBS _ h6, fun hHeld => ?_⟩
  refine Rg.callk (fn := Tryz.f48) (xs := #[.tmp 45]) (ats := #[9]) 11 (some 46) 48 #[(.string r)] Tryz.func48 ?_
  refine (hC _ h6).mono ?_
  rintro e w7 ⟨rfl, h7⟩
  refine ⟨_, rfl, hCS _ h7, fun hHeld => ?_⟩
  refine Rg.callk (fn := Tryz.f47) (xs := #[.tmp 38, .tmp 43, .tmp 46]) (ats := #[25, 9, 9]) 12 (some 47) 47 #[(.pointer (some ⟨b, 0, none⟩)), (.string q), (.string f)] Tryz.func47 ?_
  refine (hD _ h7).mono ?_
  rintro e w8 ⟨rfl, h8⟩
  refine ⟨_, rfl, hDS _ h8, fun hHeld => ?_⟩
  refine Rg.takek 13 (some 5) (.int .i64 (k : Nat)) hNS hHeld (Rg.y_movekR (x := .tmp 47)) ?_
  refine Rg.donek ?_
  exact ⟨by kernel_rfl, h8⟩
set_option maxRecDepth 100000 in
set_option maxHeartbeats 4000000 in
theorem whlAdd (ops : Array Oper) (hops : ops = (Rg.opsOf Tryz.f14 3)) (id : Nat) (v j k : Nat) (a5 : Option Addr) (n5 c5 : Nat) (r : ByteArray) {u2 u3 u4 u5 u6 u7 u8 u9 u10 u11 u12 u13 u14 u15 u16 u17 u18 u19 u20 u21 u22 u23 u24 u25 u26 u27 u28 u29 u30 u31 u32 u33 u34 u35 u36 u37 u38 : Value} (w : World)
    (B2 B4 : World → Prop) (hS : TwoV v 2 (.pointer (some ⟨j, 0, none⟩)) 2 (.pointer (some ⟨j, 0, none⟩)) w)
    (hB : Calls Tryz.prog 42 #[.slice a5 n5 c5] w.drew fun e w' => e = .returned (.string r) ∧ B2 w') (hBS : ∀ W, B2 W → TwoV v 2 (.pointer (some ⟨j, 0, none⟩)) 2 (.pointer (some ⟨j, 0, none⟩)) W)
    (hD : ∀ W, B2 W → Calls Tryz.prog 41 #[.pointer (some ⟨j, 0, none⟩), .string r] W fun e w' => e = .returned (.int .i64 (k : Nat)) ∧ B4 w') (hDS : ∀ W, B4 W → TwoV v 2 (.pointer (some ⟨j, 0, none⟩)) 2 (.pointer (some ⟨j, 0, none⟩)) W) :
    (Code.region id ops true).wp Tryz.prog (Rg.Only fun a' w' => a' = ⟨#[(.pointer (some ⟨v, 0, none⟩)), (.slice a5 n5 c5), u2, u3, u4, (.int .i64 (k : Nat)), u6, u7, u8, (.pointer (some ⟨v, 0, none⟩)), (.pointer (some ⟨v, 0, none⟩)), (.pointer (some ⟨v, 2, none⟩)), (.pointer (some ⟨j, 0, none⟩)), (.slice a5 n5 c5), (.string r), (.int .i64 (k : Nat)), u16, u17, u18, u19, u20, u21, u22, u23, u24, u25, u26, u27, u28, u29, u30, u31, u32, u33, u34, u35, u36, u37, u38], []⟩ ∧ B4 w') ⟨#[(.pointer (some ⟨v, 0, none⟩)), (.slice a5 n5 c5), u2, u3, u4, u5, u6, u7, u8, u9, u10, u11, u12, u13, u14, u15, u16, u17, u18, u19, u20, u21, u22, u23, u24, u25, u26, u27, u28, u29, u30, u31, u32, u33, u34, u35, u36, u37, u38], []⟩ w := by
  subst hops
  have hNS : Region.noSelect (Rg.opsOf Tryz.f14 3) = true := by kernel_rfl
  refine wp_region_held_drew (S := TwoV v 2 (.pointer (some ⟨j, 0, none⟩)) 2 (.pointer (some ⟨j, 0, none⟩))) (by kernel_rfl) hS (fun hHeld => ?_)
  rw [show (Rg.opsOf Tryz.f14 3).size = 8 by kernel_rfl]
  refine Rg.takek 0 (some 9) (.pointer (some ⟨v, 0, none⟩)) hNS hHeld (Rg.y_movekL (x := .tmp 0)) ?_
  refine Rg.takek 1 (some 10) (.pointer (some ⟨v, 0, none⟩)) hNS hHeld (Rg.y_nilk (x := .tmp 9)) ?_
  refine Rg.takek 2 (some 11) (.pointer (some ⟨v, 2, none⟩)) hNS hHeld (Rg.y_fieldk (T := 74) (k := 2) (x := .tmp 10) (vx := (.pointer (some ⟨v, 0, none⟩))) ?_) ?_
  · (intro w hSw; clear hSw; go_simp)
  refine Rg.takek 3 (some 12) (.pointer (some ⟨j, 0, none⟩)) hNS hHeld (Rg.y_loadk (T := 71) (x := .tmp 11) (vx := (.pointer (some ⟨v, 2, none⟩))) ?_) ?_
  · (intro w hSw; obtain ⟨s0, s1⟩ := hSw; go_simp)
  refine Rg.takek 4 (some 13) (.slice a5 n5 c5) hNS hHeld (Rg.y_movekL (x := .tmp 1)) ?_
  refine Rg.callk (fn := Tryz.f42) (xs := #[.tmp 13]) (ats := #[37]) 5 (some 14) 42 #[(.slice a5 n5 c5)] Tryz.func42 ?_
  refine hB.mono ?_
  rintro e w6 ⟨rfl, h6⟩
  refine ⟨_, rfl, hBS _ h6, fun hHeld => ?_⟩
  refine Rg.callk (fn := Tryz.f41) (xs := #[.tmp 12, .tmp 14]) (ats := #[71, 9]) 6 (some 15) 41 #[(.pointer (some ⟨j, 0, none⟩)), (.string r)] Tryz.func41 ?_
  refine (hD _ h6).mono ?_
  rintro e w8 ⟨rfl, h8⟩
  refine ⟨_, rfl, hDS _ h8, fun hHeld => ?_⟩
  refine Rg.takek 7 (some 5) (.int .i64 (k : Nat)) hNS hHeld (Rg.y_movekR (x := .tmp 15)) ?_
  refine Rg.donek ?_
  exact ⟨by kernel_rfl, h8⟩
end Go.Proofs.YtjdfffkkpbabpaaGreat.Tb

namespace Go.Proofs.YtjdfffkkpbabpaaGreat.Tb
open Go.RowKit Tx Pm Dk Wm Wr Wl Pl
set_option linter.unusedVariables false
set_option linter.unusedSimpArgs false
set_option linter.unnecessarySimpa false
def Based (B : Option Fi) (L0 : List It) : Prop := (B = none ∧ L0 = []) ∨ ∃ r n ops, B = some (sy (Fm.pk r) n) ∧ opsS r = (ops, 0) ∧ r.size ≤ 100000000 ∧ L0 = all7 [] ops
theorem base_T {B BT G GT : Option Fi} {L0 : List It} {st sm : Nat} {a : Int} (hb : Based B L0) : base0 (T7 B BT G GT st sm a false) pB = (L0, 0) ∧ (readS (T7 B BT G GT st sm a false) pB).1.size ≤ 500000000 := by
  rcases hb with ⟨rfl, rfl⟩ | ⟨r, n, ops, rfl, ho, hr, rfl⟩
  · have hk : kind (T7 none BT G GT st sm a false).L pB = 0 := k_base0
    refine ⟨base_0 hk, ?_⟩
    rw [r_base0]
    decide
  · have hk : kind (T7 (some (sy (Fm.pk r) n)) BT G GT st sm a false).L pB ≠ 0 := by rw [k_base]; decide
    have hrd : readS (T7 (some (sy (Fm.pk r) n)) BT G GT st sm a false) pB = (Fm.pk r, 0) := r_base
    refine ⟨base_5 hk hrd (fr_whole r (by omega)) (Nat.lt_irrefl _) ho, ?_⟩
    rw [hrd]
    show (Fm.pk r).size ≤ _
    rw [Fm.pk_size]
    have := vb_len (x := r.size) (by omega)
    omega
theorem recok_pre {L : List It} {l : List ByteArray} {r : ByteArray} {R : List ByteArray} (h : RecOk L (l ++ [r])) (hR : R = l ∨ R = l ++ [r]) : RecOk L R := by
  rcases hR with rfl | rfl
  · obtain ⟨h1, h2, h3⟩ := h
    rw [List.map_append, List.sum_append] at h2
    rw [List.length_append] at h3
    exact ⟨fun x hx => h1 x (List.mem_append_left _ hx), by omega, by omega⟩
  · exact h
theorem recok_wide {L : List It} {l : List ByteArray} (h : RecOk L l) : ∀ x ∈ l, x.size ≤ 140737488351232 := fun x hx => by have := (h.1 x hx).2; omega
section
variable {B BT GT : Option Fi} {L0 : List It} {l : List ByteArray} {r c : ByteArray} {n st sm : Nat} {a : Int}
theorem openok_T (h : Sz B BT (some (sy c n)) GT st sm) (ha : Rng a) (hl : ∀ x ∈ l ++ [r], x.size ≤ 140737488351232) (hll : l.length ≤ 1000) (ht : Torn l r c) (hst : st ≤ 900000) (hsm : sm ≤ 900000) : OpenOk (T7 B BT (some (sy c n)) GT st sm a false) pG := by
  have hr : readS (T7 B BT (some (sy c n)) GT st sm a false) pG = (c, 0) := r_log
  have hcs : c.size ≤ 20000000000 := (h.g _ rfl).1
  refine ⟨fun h0 => (by rw [k_log] at h0; cases h0), fun _ => ?_⟩
  rw [hr]
  obtain ⟨R, hR, hcase⟩ := scan_torn l r c hl ht.1 ht.2
  have hRl : R.length ≤ 1001 := by
    rcases hR with rfl | rfl
    · omega
    · rw [List.length_append]; exact Nat.add_le_add_right hll 1
  have hx : (c.extract 0 (Fm.sc c 0).2.1).size ≤ 20000000000 := by rw [ByteArray.size_extract]; omega
  refine ⟨by show c.size ≤ _; omega, ?_, fun _ => fillokG h hx ha hst hsm⟩
  rcases hcase with ⟨g, hs, _⟩ | ⟨g, hs, _⟩ <;> · rw [hs]; show R.length ≤ _; omega
theorem open_T (hb : Based B L0) (h : Sz B BT (some (sy c n)) GT st sm) (ha : Rng a) (hrec : RecOk L0 (l ++ [r])) (hll : l.length ≤ 1000) (ht : Torn l r c) (hst : st ≤ 900000) (hsm : sm ≤ 900000) :
    Open7Ok (T7 B BT (some (sy c n)) GT st sm a false) pS pB pG ∧ ∃ R k x, (R = l ∨ R = l ++ [r]) ∧ open7 (T7 B BT (some (sy c n)) GT st sm a false) pS pB pG = (k, x) ∧
      ((k = 0 ∧ ∃ GT' n' st' sm' a', x = ⟨⟨T7 B BT (some (sy (PK R) n')) GT' st' sm' a' false, R, false⟩, rows7 L0 R⟩ ∧ (PK R).size ≤ c.size ∧ Ook GT' ∧ st' ≤ st + 3 ∧ sm' ≤ sm + 2 ∧ Rng a' ∧ (a = -1 → a' = -1)) ∨
       (k = 14 ∧ a ≠ -1 ∧ ∃ GT' st' sm', x.j.s = T7 B BT (some (sy c n)) GT' st' sm' (-1) true ∧ Ook GT' ∧ st' ≤ st + 3 ∧ sm' ≤ sm + 2)) := by
  obtain ⟨hb1, hb2⟩ := base_T (BT := BT) (G := some (sy c n)) (GT := GT) (st := st) (sm := sm) (a := a) hb
  have hop : opened (T7 B BT (some (sy c n)) GT st sm a false) pS = (0, T7 B BT (some (sy c n)) GT st sm a false) := by
    unfold opened
    rw [if_neg (by rw [k_sys]; decide)]
  have hw := recok_wide hrec
  obtain ⟨R, k, x, hR, ho, hcases⟩ := openG h ha hw ht
  refine ⟨⟨t7_ok h ha, fun _ => ?_, by decide, by decide, by decide⟩, ?_⟩
  · rw [hop]
    refine ⟨hb2, fun _ => ⟨openok_T h ha hw hll ht hst hsm, fun h0 => ?_⟩⟩
    rw [hb1, ho]
    rw [ho] at h0
    rcases hcases with ⟨_, GT', n', st', sm', a', rfl, _⟩ | ⟨hk, _⟩
    · exact recok_pre hrec hR
    · simp only at h0; omega
  · rcases hcases with ⟨rfl, GT', n', st', sm', a', rfl, hh⟩ | ⟨rfl, hne, GT', st', sm', hx, hh⟩
    · refine ⟨R, _, _, hR, (open_n hop).trans (open1_o hb1 ho), .inl ⟨rfl, GT', n', st', sm', a', rfl, hh⟩⟩
    · refine ⟨R, _, _, hR, (open_n hop).trans (open1_l hb1 ho (by decide)), .inr ⟨rfl, hne, GT', st', sm', hx, hh⟩⟩
end
theorem open_W {B BT GT : Option Fi} {L0 : List It} {l : List ByteArray} {n st sm : Nat} {a : Int} (hb : Based B L0) (h : Sz B BT (some (sy (PK l) n)) GT st sm) (ha : Rng a) (hrec : RecOk L0 l) (hll : l.length ≤ 1000) (hst : st ≤ 900000) (hsm : sm ≤ 900000) :
    Open7Ok (T7 B BT (some (sy (PK l) n)) GT st sm a false) pS pB pG ∧ open7 (T7 B BT (some (sy (PK l) n)) GT st sm a false) pS pB pG = (0, ⟨⟨T7 B BT (some (sy (PK l) n)) GT st sm a false, l, false⟩, rows7 L0 l⟩) := by
  obtain ⟨hb1, hb2⟩ := base_T (BT := BT) (G := some (sy (PK l) n)) (GT := GT) (st := st) (sm := sm) (a := a) hb
  have hop : opened (T7 B BT (some (sy (PK l) n)) GT st sm a false) pS = (0, T7 B BT (some (sy (PK l) n)) GT st sm a false) := by
    unfold opened
    rw [if_neg (by rw [k_sys]; decide)]
  have hw := recok_wide hrec
  have hs := scan_all l hw
  have hk : kind (T7 B BT (some (sy (PK l) n)) GT st sm a false).L pG ≠ 0 := by rw [k_log]; decide
  have hr : readS (T7 B BT (some (sy (PK l) n)) GT st sm a false) pG = (PK l, 0) := r_log
  have hcs : (PK l).size ≤ 20000000000 := (h.g _ rfl).1
  have ho := open_2 hk hr hs
  refine ⟨⟨t7_ok h ha, fun _ => ?_, by decide, by decide, by decide⟩, (open_n hop).trans (open1_o hb1 ho)⟩
  rw [hop]
  refine ⟨hb2, fun _ => ⟨⟨fun h0 => absurd h0 hk, fun _ => ?_⟩, fun _ => ?_⟩⟩
  · rw [hr]
    refine ⟨by show (PK l).size ≤ _; omega, by rw [hs]; show l.length ≤ _; omega, fun h0 => ?_⟩
    rw [hs] at h0
    exact absurd rfl h0
  · rw [hb1, ho]
    exact hrec
def s0T : St := T7 none none (some (sy ⟨#[]⟩ 2)) none 4 2 (-1) false
theorem sz0 : Sz none none none none 1 0 := ⟨ook_none, ook_none, ook_none, ook_none, by omega, by omega⟩
theorem new_open7 : open7 newS pS pB pG = (0, ⟨⟨s0T, [], false⟩, []⟩) := by
  have hop : opened newS pS = (0, T7 none none none none 1 0 (-1) false) := by
    unfold opened
    rw [if_pos (by decide +kernel), n_mkdir]
  have hb := (base_T (B := none) (BT := none) (G := none) (GT := none) (L0 := []) (st := 1) (sm := 0) (a := -1) (.inl ⟨rfl, rfl⟩)).1
  have hf : fillS (T7 none none none none 1 0 (-1) false) pG ⟨#[]⟩ = (0, s0T) := by
    unfold fillS
    rw [pG_tT, g_write (by decide)]
    simp only [dec_neg, g_sync (a := -1) (by decide), g_rename (a := -1) (by decide)]
    rfl
  exact (open_n hop).trans (open1_o hb (open_0 k_log0 hf))
theorem new_ok7 : Open7Ok newS pS pB pG := by
  have hop : opened newS pS = (0, T7 none none none none 1 0 (-1) false) := by
    unfold opened
    rw [if_pos (by decide +kernel), n_mkdir]
  obtain ⟨hb, hb2⟩ := base_T (B := none) (BT := none) (G := none) (GT := none) (L0 := []) (st := 1) (sm := 0) (a := -1) (.inl ⟨rfl, rfl⟩)
  refine ⟨ok_new, fun _ => ?_, by decide, by decide, by decide⟩
  rw [hop]
  refine ⟨hb2, fun _ => ⟨⟨fun _ => fillokG sz0 (by decide) rng_m1 (by decide) (by decide), fun h => absurd k_log0 h⟩, fun h0 => ?_⟩⟩
  have hf : fillS (T7 none none none none 1 0 (-1) false) pG ⟨#[]⟩ = (0, s0T) := by
    unfold fillS
    rw [pG_tT, g_write (by decide)]
    simp only [dec_neg, g_sync (a := -1) (by decide), g_rename (a := -1) (by decide)]
    rfl
  rw [hb, open_0 k_log0 hf]
  exact ⟨fun x hx => (by cases hx), by show 0 + 0 ≤ 500000000; omega, by show 0 ≤ 10000000000; omega⟩
section
variable {B BT GT : Option Fi} {c : ByteArray} {n st sm : Nat} {a : Int} {R : List ByteArray} {dm : Bool} {L : List It} {l : List Ch}
theorem pk_bound {r : ByteArray} (h : r.size ≤ 1000000000) : (Fm.pk r).size ≤ r.size + 14 := by
  have := vb_len (x := r.size) (by omega)
  rw [Fm.pk_size]
  omega
theorem commit_T (h : Sz B BT (some (sy c n)) GT st sm) (ha : Rng a) (hl : l ≠ []) (hw : wt l ≤ 900000000) (hc : c.size ≤ 10000000000) (hL : L.length + l.length ≤ 1000000000) (hR : R.length + 1 < 16) (hst : st ≤ 900000) (hsm : sm ≤ 900000) :
    CommitOk ⟨⟨T7 B BT (some (sy c n)) GT st sm a false, R, dm⟩, L⟩ l pB pG ∧ ∃ k y, commitS ⟨⟨T7 B BT (some (sy c n)) GT st sm a false, R, dm⟩, L⟩ l pB pG = (k, y) ∧
    ((k = 0 ∧ ∃ a', y = ⟨⟨T7 B BT (some (sy (c ++ Fm.pk (rec7 l)) (sm + 1))) GT (st + 2) (sm + 1) a' false, R ++ [rec7 l], dm⟩, all7 L l⟩ ∧ Rng a' ∧ (a = -1 → a' = -1)) ∨
     (k = 14 ∧ a ≠ -1 ∧ ∃ G' st' sm', y.j.s = T7 B BT G' GT st' sm' (-1) true ∧ (G' = some (sy c n) ∨ G' = some ⟨c ++ Fm.pk (rec7 l), c, true, false, sm + 1⟩) ∧ st' ≤ st + 2 ∧ sm' ≤ sm + 1)) := by
  have hr := rec7_le (l := l) (by omega)
  have hp := pk_bound (r := rec7 l) (by omega)
  obtain ⟨k, x', hadd, hcases⟩ := add7 (B := B) (BT := BT) (GT := GT) (c := c) (r := rec7 l) (n := n) (st := st) (sm := sm) (R := R) (dm := dm) ha
  have hlen : x'.R.length ≤ R.length + 1 := by
    rcases hcases with ⟨_, a', rfl, _⟩ | ⟨_, _, G', st', sm', rfl, _⟩
    · show (R ++ [rec7 l]).length ≤ _; rw [List.length_append]; exact Nat.le_refl _
    · show R.length ≤ _; omega
  refine ⟨⟨by omega, addok7 h ha (by omega) (by omega) (by omega) hst hsm, hL, by decide, ?_, fun h16 => ?_⟩, ?_⟩
  · rw [hadd]; show x'.R.length ≤ _; omega
  · rw [hadd] at h16; have h16 : 16 ≤ x'.R.length := h16; omega
  · rcases hcases with ⟨rfl, a', rfl, ra, rm⟩ | ⟨rfl, hne, G', st', sm', rfl, hG, b1, b2⟩
    · exact ⟨0, _, commit_2 hl hadd (by omega), .inl ⟨rfl, a', rfl, ra, rm⟩⟩
    · exact ⟨14, _, commit_1 hl hadd (by decide), .inr ⟨rfl, hne, G', st', sm', rfl, hG, b1, b2⟩⟩
theorem pack_T (h : Sz B BT (some (sy c n)) GT st sm) (ha : Rng a) (hw : wt (whole7 L) ≤ 900000000) (hst : st ≤ 800000) (hsm : sm ≤ 800000) :
    PackOk ⟨⟨T7 B BT (some (sy c n)) GT st sm a false, R, dm⟩, L⟩ pB pG ∧ ∃ k y, packS ⟨⟨T7 B BT (some (sy c n)) GT st sm a false, R, dm⟩, L⟩ pB pG = (k, y) ∧
    ((k = 0 ∧ ∃ a', y = ⟨⟨T7 (some (sy (Fm.pk (rec7 (whole7 L))) (sm + 2))) none (some (sy ⟨#[]⟩ (sm + 4))) none (st + 6) (sm + 4) a' false, [], dm⟩, L⟩ ∧ Rng a' ∧ (a = -1 → a' = -1)) ∨
     (k = 14 ∧ a ≠ -1 ∧ ∃ BT' st' sm', y.j.s = T7 B BT' (some (sy c n)) GT st' sm' (-1) true ∧ Ook BT' ∧ st' ≤ st + 6 ∧ sm' ≤ sm + 4) ∨
     (k = 14 ∧ a ≠ -1 ∧ ∃ GT' st' sm', y.j.s = T7 (some (sy (Fm.pk (rec7 (whole7 L))) (sm + 2))) none (some (sy c n)) GT' st' sm' (-1) true ∧ Ook GT' ∧ st' ≤ st + 6 ∧ sm' ≤ sm + 4)) := by
  have hr := rec7_le (l := whole7 L) (by omega)
  have hp := pk_bound (r := rec7 (whole7 L)) (by omega)
  have hd : (Fm.pk (rec7 (whole7 L))).size ≤ 20000000000 := by omega
  obtain ⟨k1, s1, hf1, hc1⟩ := fillB h hd ha
  have hz2 : ∀ a', Rng a' → Sz (some (sy (Fm.pk (rec7 (whole7 L))) (sm + 2))) none (some (sy c n)) GT (st + 3) (sm + 2) := fun a' _ => ⟨ook_sy hd, ook_none, h.g, h.gt, by omega, by omega⟩
  refine ⟨⟨fillokB h hd ha (by omega) (by omega), fun h0 => ?_, by show wt (whole7 L) ≤ _; omega, by decide, by decide⟩, ?_⟩
  · have hf1' : fillS (T7 B BT (some (sy c n)) GT st sm a false) pB (Fm.pk (rec7 (whole7 L))) = (k1, s1) := hf1
    show FillOk (fillS (T7 B BT (some (sy c n)) GT st sm a false) pB (Fm.pk (rec7 (whole7 L)))).2 pG ⟨#[]⟩
    have h0 : (fillS (T7 B BT (some (sy c n)) GT st sm a false) pB (Fm.pk (rec7 (whole7 L)))).1 = 0 := h0
    rw [hf1'] at h0 ⊢
    rcases hc1 with ⟨_, a', rfl, ra, _⟩ | ⟨hk, _⟩
    · exact fillokG (hz2 a' ra) (by decide) ra (by omega) (by omega)
    · simp only at h0; omega
  · rcases hc1 with ⟨rfl, a', rfl, ra, rm⟩ | ⟨rfl, hne, BT', st', sm', rfl, o1, o2, o3⟩
    · obtain ⟨k2, s2, hf2, hc2⟩ := fillG (d := ⟨#[]⟩) (hz2 a' ra) (by decide) ra
      rcases hc2 with ⟨rfl, a2, rfl, ra2, rm2⟩ | ⟨rfl, hne2, GT', st', sm', rfl, o1, o2, o3⟩
      · refine ⟨0, _, pack_2 hf1 (by unfold resetS; simp only [hf2]; rfl), .inl ⟨rfl, a2, rfl, ra2, fun e => rm2 (rm e)⟩⟩
      · refine ⟨14, _, pack_2 hf1 (k := 14) (y := ⟨T7 (some (sy (Fm.pk (rec7 (whole7 L))) (sm + 2))) none (some (sy c n)) GT' st' sm' (-1) true, R, dm⟩) (by unfold resetS; simp only [hf2]; rfl), .inr (.inr ⟨rfl, fun e => hne2 (rm e), GT', st', sm', rfl, o1, by omega, by omega⟩)⟩
    · exact ⟨14, _, pack_1 hf1 (by decide), .inr (.inl ⟨rfl, hne, BT', st', sm', rfl, o1, by omega, by omega⟩)⟩
end
end Go.Proofs.YtjdfffkkpbabpaaGreat.Tb

namespace Go.Proofs.YtjdfffkkpbabpaaGreat.Tb
open Go.RowKit Tx Pm Dk Wm Wr Wl Pl
set_option linter.unusedVariables false
set_option linter.unusedSimpArgs false
set_option linter.unnecessarySimpa false
def kK : ByteArray := ⟨#[107]⟩
def vV : ByteArray := ⟨#[118]⟩
def opK : List Ch := [⟨kK, vV, false⟩]
def recK7 : ByteArray := rec7 opK
theorem sz_0T : Sz none none (some (sy ⟨#[]⟩ 2)) none 4 2 := ⟨ook_none, ook_none, ook_sy (by decide), ook_none, by omega, by omega⟩
theorem lit3 (W : World) (c : Ch) : Opl (W.alloc (.cells #[.string c.key, .string c.val, .bool c.gone] 43)) (some ⟨W.heap.size, 0, none⟩) 1 [c] := by
  refine ⟨rfl, .inr ⟨W.heap.size, 0, rfl, by simp, fun k x hx => ?_⟩⟩
  match k, hx with
  | 0, hx =>
    injection hx with hx
    subst hx
    obtain ⟨h1, h2, h3⟩ := cells3_new W c 43
    exact ⟨h1, h2, h3⟩
  | k + 1, hx => cases hx
theorem awake_commit : CommitOk ⟨⟨s0T, [], false⟩, []⟩ opK pB pG ∧ commitS ⟨⟨s0T, [], false⟩, []⟩ opK pB pG = (0, ⟨⟨T7 none none (some (sy (PK [recK7]) 3)) none 6 3 (-1) false, [recK7], false⟩, [rw7 kK vV]⟩) := by
  obtain ⟨h1, k, y, h2, hc⟩ := commit_T (B := none) (BT := none) (GT := none) (c := ⟨#[]⟩) (n := 2) (st := 4) (sm := 2) (a := -1) (R := []) (dm := false) (L := []) (l := opK) sz_0T rng_m1 (by decide) (by decide) (by decide) (by decide) (by decide) (by decide) (by decide)
  refine ⟨h1, ?_⟩
  have h2' : commitS ⟨⟨s0T, [], false⟩, []⟩ opK pB pG = (k, y) := h2
  rw [h2']
  rcases hc with ⟨rfl, a', rfl, _, ha⟩ | ⟨_, hne, _⟩
  · rw [ha rfl]
    have e : (⟨#[]⟩ : ByteArray) ++ Fm.pk (rec7 opK) = PK [recK7] := by
      have := PK_snoc [] recK7
      rw [List.nil_append, PK_nil] at this
      exact this.symm
    rw [e]
    have e2 : all7 [] opK = [rw7 kK vV] := by kernel_rfl
    rw [e2]
    rfl
  · exact absurd rfl hne
theorem opK_back : opsS recK7 = (opK, 0) := by
  have := ops_back (l := opK) (by decide)
  rw [show opK.map norm = opK from rfl] at this
  exact this
theorem awake_open : Open7Ok (T7 none none (some (sy (PK [recK7]) 3)) none 6 3 (-1) false) pS pB pG ∧ ∃ y, open7 (T7 none none (some (sy (PK [recK7]) 3)) none 6 3 (-1) false) pS pB pG = (0, ⟨y, [rw7 kK vV]⟩) := by
  have hsz : recK7.size ≤ 100 := by
    have := rec7_le (l := opK) (by decide)
    have h2 : wt opK = 42 := by decide
    unfold recK7
    omega
  have hp := pk_bound (r := recK7) (by omega)
  have hPK : (PK [recK7]).size ≤ 1000 := by
    have := PK_snoc [] recK7
    rw [List.nil_append] at this
    rw [this, ByteArray.size_append]
    have h0 : (PK []).size = 0 := rfl
    omega
  have hrec : RecOk [] ([] ++ [recK7]) := ⟨fun x hx => by rw [List.mem_singleton.1 hx, opK_back]; exact ⟨rfl, by omega⟩, by show 0 + (recK7.size + 0) ≤ _; omega, by decide⟩
  obtain ⟨h1, h2⟩ := open_W (B := none) (BT := none) (GT := none) (L0 := []) (l := [recK7]) (n := 3) (st := 6) (sm := 3) (a := -1) (.inl ⟨rfl, rfl⟩) ⟨ook_none, ook_none, ook_sy (by omega), ook_none, by omega, by omega⟩ rng_m1 hrec (by decide) (by decide) (by decide)
  have e : rows7 [] [recK7] = [rw7 kK vV] := by
    rw [rows7_cons, opK_back]
    kernel_rfl
  rw [e] at h2
  exact ⟨h1, _, h2⟩
set_option maxRecDepth 100000 in
set_option maxHeartbeats 4000000 in
theorem awake_any7 (w0 W : World) (hb : Below w0.heap.size w0 W) : Calls Tryz.prog 6 #[] W fun e w' => e = .returned (.bool true) ∧ Below w0.heap.size w0 w' := by
  have cn := w_new w0 hb
  obtain ⟨co1, co2⟩ := awake_commit
  obtain ⟨ao1, y, ao2⟩ := awake_open
  go_enter Tryz.func6, Tryz.ntmps6
  go_wp2_with fail
  go_at_call 4
  refine cn.mono ?_
  rintro e w1 ⟨b, rfl, o1⟩
  go_wp2_with fail
  go_at_call 7
  refine (a_open o1 new_ok7 new_open7).mono ?_
  rintro e w2 ⟨t, j, m, rfl, o2⟩
  go_wp2_with fail
  go_at_call 9
  refine (a_begin o2).mono ?_
  rintro e w3 ⟨u, rfl, o3⟩
  have o3 := own_tab o3
  go_wp2_with fail
  go_at_call 9
  refine (a_begin o3).mono ?_
  rintro e w4 ⟨u4, rfl, o4⟩
  go_wp2_with fail
  go_at_call 10
  refine (a_put (key := kK) (val := vV) o4 (by decide) (by decide)).mono ?_
  rintro e w5 ⟨rfl, o5⟩
  go_wp2_with fail
  go_at_call 13
  refine (a_commit (l := opK) o5 co1 co2).mono ?_
  rintro e w6 ⟨rfl, o6⟩
  go_wp2_with fail
  go_at_call 7
  refine (a_open (own_disk (own_tab o6)) ao1 ao2).mono ?_
  rintro e w7 ⟨t7, j7, m7, rfl, o7⟩
  have cg := a_get (key := kK) o7 (by decide)
  rw [show (lookC [rw7 kK vV] kK).val = vV from by kernel_rfl, show (find [rw7 kK vV] kK).isSome = true from by kernel_rfl] at cg
  go_wp2_with fail
  go_at_call 23
  refine cg.mono ?_
  rintro e w8 ⟨rfl, hb8⟩
  have o8 := ownT_below o7 hb8
  have hv : (vV.toList == [118]) = true := by decide +kernel
  have hr : ((rec7 [⟨⟨#[97]⟩, ⟨#[98]⟩, false⟩]).toList == [1, 1, 1, 97, 1, 98]) = true := by decide +kernel
  have cr := record_any (some ⟨w8.heap.size, 0, none⟩) 1 1 [⟨⟨#[97]⟩, ⟨#[98]⟩, false⟩] _ (lit3 w8 ⟨⟨#[97]⟩, ⟨#[98]⟩, false⟩) (by decide) (by decide)
  have hb9 : Below w0.heap.size w0 (w8.alloc (.cells #[.string ⟨#[97]⟩, .string ⟨#[98]⟩, .bool false] 43)) := o8.bel.alloc o8.bel.size _
  simp only at cr
  go_wp2_with fail
  go_at_call 24
  refine cr.mono ?_
  rintro e w9 ⟨rfl, hb10⟩
  go_wp2_with fail
  go_ret
  exact ⟨rfl, Tx.below_call hb9 hb10⟩
end Go.Proofs.YtjdfffkkpbabpaaGreat.Tb

namespace Go.Proofs.YtjdfffkkpbabpaaGreat.Dk
open Go.RowKit Tx Pm Pl Pr
set_option linter.unusedVariables false
end Go.Proofs.YtjdfffkkpbabpaaGreat.Dk

namespace Go.Proofs.YtjdfffkkpbabpaaGreat.Wl
open Go.RowKit Tx Pm Pl Pr Dk Fr
set_option linter.unusedVariables false
end Go.Proofs.YtjdfffkkpbabpaaGreat.Wl

namespace Go.Proofs.YtjdfffkkpbabpaaGreat.Tb
open Go.RowKit Tx Pm Dk Wm Wr Wl Pl
set_option linter.unusedVariables false
set_option linter.unusedSimpArgs false
set_option linter.unnecessarySimpa false
def ws (L : List It) : Nat := (L.map fun x => x.path.size + x.data.size + 40).sum
theorem ws_cons (x : It) (L : List It) : ws (x :: L) = x.path.size + x.data.size + 40 + ws L := by unfold ws; rw [List.map_cons, List.sum_cons]
theorem ws_append (a b : List It) : ws (a ++ b) = ws a + ws b := by unfold ws; rw [List.map_append, List.sum_append]
theorem wt_whole (L : List It) : wt (whole7 L) = ws L := by
  unfold wt whole7 ws
  rw [List.map_map]
  rfl
theorem ws_drop (L : List It) (p : ByteArray) : ws (drop L p) ≤ ws L := by
  induction L with
  | nil => exact Nat.le_refl _
  | cons x L ih =>
    unfold drop at ih ⊢
    rw [ws_cons, List.filter_cons]
    split
    · rw [ws_cons]; omega
    · omega
theorem ws_ins (L : List It) (x : It) : ws (ins L x) ≤ ws L + (x.path.size + x.data.size + 40) := by
  have e : ws L = ws (L.takeWhile (fun y => Op.bytesLess y.path.toList x.path.toList)) + ws (L.dropWhile (fun y => Op.bytesLess y.path.toList x.path.toList)) := by
    rw [← ws_append, List.takeWhile_append_dropWhile]
  unfold ins
  rw [ws_append, ws_cons]
  cases hd : L.dropWhile (fun y => Op.bytesLess y.path.toList x.path.toList) with
  | nil => rw [hd] at e; simp only; omega
  | cons y r =>
    rw [hd, ws_cons] at e
    simp only
    split
    · omega
    · rw [ws_cons]; omega
theorem ws_app (L : List It) (c : Ch) : ws (app L c) ≤ ws L + (c.key.size + c.val.size + 40) := by
  unfold app
  split
  · have := ws_drop L c.key; omega
  · exact ws_ins L (rw7 c.key c.val)
theorem ws_all (L : List It) (l : List Ch) : ws (all7 L l) ≤ ws L + wt l := by
  induction l generalizing L with
  | nil => exact Nat.le_add_right _ _
  | cons c l ih =>
    have h1 := ih (app L c)
    have h2 := ws_app L c
    rw [all7_cons, wt_cons]
    omega
theorem wt_set (l : List Ch) (i : Nat) (c : Ch) : wt (l.set i c) ≤ wt l + (c.key.size + c.val.size + 40) := by
  induction l generalizing i with
  | nil => exact Nat.zero_le _
  | cons x l ih =>
    cases i with
    | zero => rw [List.set_cons_zero, wt_cons, wt_cons]; omega
    | succ i => rw [List.set_cons_succ, wt_cons, wt_cons]; have := ih i; omega
theorem wt_bat {l : List Ch} (h : Once l) (c : Ch) : wt (bat l c) ≤ wt l + (c.key.size + c.val.size + 40) := by
  cases hi : at7 l c.key with
  | none =>
    rw [bat_new hi, wt_append, wt_cons]
    show wt l + (_ + 0) ≤ _
    omega
  | some i => rw [bat_set h hi]; exact wt_set l i c
theorem snoc7 {α : Type} {P : List α → Prop} (h0 : P []) (h1 : ∀ l x, P l → P (l ++ [x])) (l : List α) : P l := by
  rw [← List.reverse_reverse l]
  induction l.reverse with
  | nil => exact h0
  | cons x r ih => rw [List.reverse_cons]; exact h1 _ _ ih
section
variable {B BT GT : Option Fi} {c : ByteArray} {n st sm : Nat} {a : Int} {R : List ByteArray} {dm : Bool} {L : List It} {l : List Ch}
end
section
variable {BT G GT : Option Fi} {f : Fi} {st sm : Nat} {bit : Int}
end
end Go.Proofs.YtjdfffkkpbabpaaGreat.Tb

namespace Go.Proofs.YtjdfffkkpbabpaaGreat.Tb
open Go.RowKit Tx Pm Dk Wm Wr Wl Pl Od
set_option linter.unusedVariables false
set_option linter.unusedSimpArgs false
set_option linter.unnecessarySimpa false
theorem whole_take (L : List It) (i : Nat) (x : It) (h : L[i]? = some x) : whole7 (L.take (i + 1)) = whole7 (L.take i) ++ [⟨x.path, x.data, false⟩] := by
  unfold whole7
  rw [take_snoc7 h, List.map_append]
  rfl
theorem app_whole {v g off n c k : Nat} {vo : Value} {w0 wr : World} {out : List Ch} {xp xd : ByteArray} (hB : Below w0.heap.size w0 wr) (hown : wr.ownsRow w0.heap.size 43 3 vo out.length (out.flatMap cellsC)) (hl : out.length ≤ 1000000) (hC : ∀ W, Below w0.heap.size w0 W → RowC v g off n c k xp xd W) :
    ∀ ty, ∃ v8 w8, (Builtin.append_ #[37, 37] ty #[vo, .slice (some ⟨wr.heap.size, 0, none⟩) 1 1]).run Tryz.prog (wr.drew.alloc (.cells #[.string xp, .string xd, .bool false] 43)) = .ok v8 w8 ∧ RowC v g off n c k xp xd w8 ∧
      (w8.ownsRow w0.heap.size 43 3 v8 (out ++ [(⟨xp, xd, false⟩ : Ch)]).length ((out ++ [(⟨xp, xd, false⟩ : Ch)]).flatMap cellsC) ∧ Below w0.heap.size w0 w8) := by
  intro ty
  obtain ⟨i0, hi, hz0, hz1, hz2⟩ := info_parts infoC
  obtain ⟨v', w', hr, h1, h2⟩ := Ap.append_two (P := Tryz.prog) _ w0.heap.size 37 ty 43 i0 (ov ch0) 3 40 Tryz.underlying37 hi hz0 hz1 hz2 rfl (by decide) (by decide) vo out.length (out.flatMap cellsC) (World.ownsRow.alloc (hown.drew) (.cells #[.string xp, .string xd, .bool false] 43)) ⟨wr.heap.size, 0, none⟩ 1 (cellsC ⟨xp, xd, false⟩) rfl
    (new3 wr.drew ⟨xp, xd, false⟩ (by simp)) (cells_one ⟨xp, xd, false⟩) (by omega) (by omega) (by have := hB.size; simp; omega)
  have hb1 := hB.drew.alloc hB.drew.size (.cells #[.string xp, .string xd, .bool false] 43)
  have hb2 : Below w0.heap.size w0 w' := by
    rcases h2 with ⟨_, hg⟩ | ⟨_, hg⟩
    · exact hb1.grown hg (by have := hB.size; simp; omega) (fun q hq => (hown.lt q hq).1)
    · exact hb1.grown hg (by have := hB.size; simp; omega) (fun q hq => by cases hq)
  have e : out.flatMap cellsC ++ cellsC ⟨xp, xd, false⟩ = (out ++ [(⟨xp, xd, false⟩ : Ch)]).flatMap cellsC := by rw [List.flatMap_append]; rfl
  rw [e] at h1
  exact ⟨v', w', hr, hC _ hb2, by rw [List.length_append]; exact h1, hb2⟩
theorem base_is : pS ++ (⟨#[47, 98, 97, 115, 101]⟩ : ByteArray) = pB := by decide +kernel
theorem log_is : pS ++ (⟨#[47, 108, 111, 103]⟩ : ByteArray) = pG := by decide +kernel
def RLeft (bw jw v : Nat) (vR : Value) (w : World) (F : Nat → Prop) (y : Tst) (w' : World) : Prop := ∃ Fj' F', RAt bw jw v vR Fj' w' F' y ∧ Chg F w w' ∧ ∀ g, F' g → F g ∨ w.heap.size ≤ g
set_option maxRecDepth 100000 in
set_option maxHeartbeats 16000000 in
theorem refPack7_any (bw jw v : Nat) {vR : Value} {Fj F : Nat → Prop} {x : Tst} (w : World) (h : RAt bw jw v vR Fj w F x) (o : PackOk x pB pG) (hw : ws x.L ≤ 10000000) :
    Calls Tryz.prog 16 #[.pointer (some ⟨v, 0, none⟩)] w fun e w' => e = .returned (.int .i64 ((packS x pB pG).1 : Nat)) ∧ LeftA (Rn bw jw v) w F (packS x pB pG).2 w' := by
  obtain ⟨i0, hI, hz0, hz1, hz2⟩ := info_parts infoC
  obtain ⟨o1, o2, o3, _, _⟩ := o
  have hwt := wt_whole x.L
  have hwl := wt_len (whole7 x.L)
  have hwn : (whole7 x.L).length = x.L.length := by unfold whole7; rw [List.length_map]
  have hrec := rec7_le (l := whole7 x.L) (by omega)
  obtain ⟨a, c, hvf, hrs, hnc, _⟩ := h.row.form
  obtain ⟨vj, Fd, hj⟩ := h.jn
  have HJ := Lib.hid hj
  have H := Lib.hid h
  have hvl : v < w.heap.size := (Array.getElem?_eq_some_iff.1 h.blk).1
  have HT := Lib.hid (fun V (hV : Below w.heap.size w V) => tcell ((hV.block v hvl).trans h.blk))
  have HRS := Lib.hid (fun V (hV : Below w.heap.size w V) => hrs.below hV)
  rw [hvf] at HT
  obtain ⟨n, hn⟩ : ∃ n, n = x.L.length := ⟨_, rfl⟩
  rw [← hn] at HT HRS hnc hwn
  have hnb : n ≤ 250000 := by omega
  have HN := Lib.hid hn.symm
  obtain ⟨k, s1, hf⟩ : ∃ k s1, fillS x.j.s pB (Fm.pk (rec7 (whole7 x.L))) = (k, s1) := ⟨_, _, rfl⟩
  have HF := Lib.hid hf
  have HO1 := Lib.hid o1
  have HO2 := Lib.hid o2
  obtain ⟨kp, yp, hps⟩ : ∃ k y, packS x pB pG = (k, y) := ⟨_, _, rfl⟩
  rw [hps]
  have HPS := Lib.hid hps
  clear h hj hrs hvf hn hf o1 o2 hps
  go_enter Tryz.func16, Tryz.ntmps16
  go_wp2_with fail
  go_loopw [3, 4] (fun vo iv wr => ∃ (i : Nat) (out : List Ch), i ≤ n ∧ iv = .int .i64 i ∧ Hid (out = whole7 (x.L.take i)) ∧ out.length = i ∧ wr.ownsRow w.heap.size 43 3 vo out.length (out.flatMap cellsC) ∧ Below w.heap.size w wr) (fun _ iv _ => n - (intOf iv).toNat)
  case atStart => exact ⟨0, [], Nat.zero_le _, rfl, Lib.hid rfl, rfl, World.ownsRow_nil _ _ _ _, Below.refl _ _⟩
  case round =>
    obtain ⟨i, out, hi, rfl, hout, hol, hown, hB⟩ := hrel
    obtain ⟨e0, e1, e2, e3, _⟩ := HT.out _ hB
    by_cases hlt : i < n
    · obtain ⟨y, hy⟩ : ∃ y, x.L[i]? = some y := ⟨_, List.getElem?_eq_getElem (by rw [HN.out]; exact hlt)⟩
      obtain ⟨g, off, rfl, hg, g0, g1⟩ := (HRS.out _ hB).nth hy
      have hiz : (i : Int) < (n : Int) := by omega
      have hE : Hid (out ++ [⟨y.path, y.data, false⟩] = whole7 (x.L.take (i + 1))) := Lib.hid (by rw [whole_take _ _ _ hy, ← hout.out])
      have HC := Lib.hid (fun W (hW : Below w.heap.size w W) => show RowC v g off n c i y.path y.data W from by
        obtain ⟨_, _, _, q3, _⟩ := HT.out W hW
        obtain ⟨g', off', e, _, q0, q1⟩ := (HRS.out W hW).nth hy
        injection e with e
        injection e with e1 e2
        subst e1
        subst e2
        exact ⟨q3, q0, q1⟩)
      have happ := Lib.hid (app_whole hB hown (by omega) HC.out)
      have h1 := Lib.hid (HC.out _ hB)
      have h2 := Lib.hid (HC.out _ (hB.drew.alloc hB.drew.size (.cells #[.string y.path, .string y.data, .bool false] 43)))
      clear hy hout hown hB g0 g1
      go_wp2_with fail
      refine Rg.wp_only ?_ (whlNew _ (by kernel_rfl) _ v g off n c i _ y.path y.data wr _ hiz h1.out h2.out happ.out)
      rintro _ w6 ⟨z8, v8, w6', rfl, rfl, hO6, hB6⟩
      clear h1 h2 happ HC e0 e1 e2 e3
      go_wp2_with fail
      go_roundw
      case rel => exact ⟨i + 1, out ++ [⟨y.path, y.data, false⟩], by omega, by go_num, hE, by rw [List.length_append, hol]; rfl, hO6, hB6⟩
      case measure => first | omega | (simp [intOf]; omega)
    · obtain rfl : i = n := by omega
      have hO : OwnC wr w.heap.size u3 (whole7 x.L) := by
        rw [List.take_of_length_le (by rw [HN.out]; exact Nat.le_refl _)] at hout
        rw [← hout.out]
        exact hown
      obtain ⟨aO, cO, rfl, hop, hoc, _⟩ := hO.form
      rw [hwn] at hop hoc ⊢
      have cr := fun V (hV : Below wr.heap.size wr V) => refRecord_any aO i cO (whole7 x.L) V (hop.below hV) (by omega) hoc
      have cpk := fun V => Fr.refPack_any (rec7 (whole7 x.L)) V (by omega)
      have hpks : (Fm.pk (rec7 (whole7 x.L))).size ≤ 1000000000000000000 := by have := pk_bound (r := rec7 (whole7 x.L)) (by omega); omega
      have cf := fun V (hV : Below w.heap.size w V) => rFill_any bw pB (Fm.pk (rec7 (whole7 x.L))) V (HJ.out.below (ref_kind bw) hV).dsk HO1.out (by decide) hpks
      have hBw := hB.drew
      have hbi := base_is
      generalize hrr : rec7 (whole7 x.L) = RR at cr cpk cf HF HO1 HO2 hrec hpks
      generalize hPP : Fm.pk RR = PP at cpk cf HF HO1 HO2 hpks
      have HRR := Lib.hid hrr
      have hB' : Calls Tryz.prog 42 #[.slice aO i cO] wr.drew fun e w' => e = .returned (.string RR) ∧ Below w.heap.size w w' := (cr _ (Below.refl _ wr).drew).mono fun e w' hh => ⟨hh.1, Tx.below_call hBw hh.2⟩
      have hTV : ∀ W, Below w.heap.size w W → TwoV v 0 (.pointer (some ⟨bw, 0, none⟩)) 1 (.string pS) W := fun W hW => ⟨(HT.out W hW).1, (HT.out W hW).2.1⟩
      have hC' : ∀ W, Below w.heap.size w W → Calls Tryz.prog 48 #[.string RR] W fun e w' => e = .returned (.string PP) ∧ Below w.heap.size w w' := fun W hW => (cpk W).mono fun e w' hh => ⟨hh.1, Tx.below_call hW hh.2⟩
      have hD' : ∀ W, Below w.heap.size w W → Calls Tryz.prog 47 #[.pointer (some ⟨bw, 0, none⟩), .string pB, .string PP] W fun e w' => e = .returned (.int .i64 (k : Nat)) ∧ RLeft bw jw v vR w F ⟨⟨s1, x.j.R, x.j.dm⟩, x.L⟩ w' := fun W hW => by
        have c := cf W hW
        rw [HF.out] at c
        refine c.mono fun e w' hh => ⟨hh.1, ?_⟩
        obtain ⟨Fd', F', q, c1, n1⟩ := (HJ.out.below (ref_kind bw) hW).disk_left (ref_kind bw) hh.2
        obtain ⟨Fj2, F2, hR2, c2, n2⟩ := (H.out.below hW).jleft ⟨F', ⟨vj, Fd', q⟩, c1, n1⟩
        exact ⟨Fj2, F2, hR2, (Chg.of_below hW).trans c2 (fun i hi => .inl hi), fun g hg => (n2 g hg).imp id (fun hh => Nat.le_trans hW.size hh)⟩
      have HB' := Lib.hid hB'
      have HTV := Lib.hid hTV
      have HC' := Lib.hid hC'
      have HD' := Lib.hid hD'
      have HTW := Lib.hid (hTV wr hB)
      clear hown hO hop hout cr cpk cf hBw hB' hTV hC' hD' e0 e1 e2 hB
      go_wp2_with fail
      clear e3
      refine Rg.wp_only ?_ (whlFill _ (by kernel_rfl) _ v bw k aO i cO pS pB RR PP wr _ _ _ hbi (by decide) HTW.out HB'.out HTV.out HC'.out HTV.out HD'.out (fun W ⟨_, _, hR, _, _⟩ => ⟨(tcell hR.blk).1, (tcell hR.blk).2.1⟩))
      rintro _ w8 ⟨rfl, Fj8, F8, hR8, c8, n8⟩
      clear HB' HC' HD' HTW hbi
      by_cases hk : k ≠ 0
      · have hp : packS x pB pG = (k, ⟨⟨s1, x.j.R, x.j.dm⟩, x.L⟩) := pack_1 (by rw [HRR.out, hPP]; exact HF.out) hk
        have hpe := HPS.out.symm.trans hp
        injection hpe with hp1 hp2
        subst hp1
        subst hp2
        have n1 := Dk.ne_eq hk
        have HL := Lib.hid (show LeftA (Rn bw jw v) w F ⟨⟨s1, x.j.R, x.j.dm⟩, x.L⟩ w8 from ⟨F8, ⟨vR, Fj8, hR8⟩, c8, n8⟩)
        clear hR8 c8 n8 hp hk
        go_wp2_with fail
        go_ret
        exact ⟨rfl, HL.out⟩
      · obtain rfl : k = 0 := by omega
        obtain ⟨k2, y, hrs⟩ : ∃ k y, resetS ⟨s1, x.j.R, x.j.dm⟩ pG = (k, y) := ⟨_, _, rfl⟩
        have hp : packS x pB pG = (k2, ⟨y, x.L⟩) := pack_2 (by rw [HRR.out, hPP]; exact HF.out) hrs
        have hpe := HPS.out.symm.trans hp
        injection hpe with hp1 hp2
        subst hp1
        subst hp2
        have ho2 := HO2.out (by rw [HF.out])
        rw [HF.out] at ho2
        obtain ⟨v8, Fd8, j8⟩ := hR8.jn
        have cr := rReset_any bw jw pG w8 j8 ho2 (by decide)
        rw [hrs] at cr
        obtain ⟨_, _, t2, _, _⟩ := tcell hR8.blk
        have HL := Lib.hid (fun w' (hl : LeftA (JnR bw jw) w8 Fj8 y w') => show LeftA (Rn bw jw v) w F ⟨y, x.L⟩ w' from by
          obtain ⟨Fj9, F9, hR9, c9, n9⟩ := hR8.jleft hl
          exact LeftA.trans (F1 := F8) c8 n8 ⟨F9, ⟨vR, Fj9, hR9⟩, c9, n9⟩)
        have e00 : (((0 : Nat) : Int) == 0) = true := rfl
        clear hR8 c8 n8 hp hk hrs ho2 j8
        go_wp2_with fail
        go_at_call 49
        refine cr.mono ?_
        rintro e w9 ⟨rfl, hl⟩
        have HL9 := Lib.hid (HL.out _ hl)
        clear hl cr
        go_wp2_with fail
        go_ret
        exact ⟨rfl, HL9.out⟩
end Go.Proofs.YtjdfffkkpbabpaaGreat.Tb

namespace Go.Proofs.YtjdfffkkpbabpaaGreat.Tb
open Go.RowKit Tx Pm Dk Wm Wr Wl Pl Od
set_option linter.unusedVariables false
set_option linter.unusedSimpArgs false
set_option linter.unnecessarySimpa false
def OpV (w : World) (v : Value) (l : List Ch) : Prop := ∃ a c, v = .slice a l.length c ∧ Opl w a l.length l ∧ l.length ≤ c
theorem OwnC.val {w : World} {B : Nat} {v : Value} {l : List Ch} (h : OwnC w B v l) : OpV w v l := by
  obtain ⟨a, c, h1, h2, h3, _⟩ := h.form
  exact ⟨a, c, h1, h2, h3⟩
set_option maxRecDepth 100000 in
set_option maxHeartbeats 4000000 in
theorem refOver_own (v : Nat) {bw jw : Nat} {vR vO : Value} {L : List It} {l : List Ch} (w : World) (hb : w.heap[v]? = some (cellsT bw jw vR)) (hv : RowV w vR L) (hO : OpV w vO l) (hR : Rises L) (hP : Plain L) (hn : L.length + l.length ≤ 1000000000) :
    Calls Tryz.prog 60 #[.pointer (some ⟨v, 0, none⟩), vO] w fun e w' => ∃ v', e = .returned v' ∧ (OwR w' w.heap.size v' (all7 L l) ∨ v' = vR ∧ l = []) ∧ Below w.heap.size w w' := by
  obtain ⟨aO, cO, rfl, hop, hoc⟩ := hO
  have ca := refAll_any vR L aO l.length cO l w hv hop hR hP hn hoc
  obtain ⟨d0, d1, d2, d3, _⟩ := tcell hb
  have HV := Lib.hid hv
  obtain ⟨a, c, rfl, _, _⟩ := hv
  generalize hl : l.length = m at ca
  generalize hn2 : L.length = n at ca d3
  clear d0 d1 d2
  go_enter Tryz.func60, Tryz.ntmps60
  go_wp2_with fail
  go_at_call 35
  refine ca.mono ?_
  rintro e w5 ⟨v5, rfl, ho, hb5⟩
  rw [← hn2] at ho
  have HFIN := Lib.hid ho
  clear ca ho
  go_wp2_with fail
  go_ret
  exact ⟨_, rfl, by rw [← hn2]; exact HFIN.out, hb5⟩
theorem refOver_any (v : Nat) {bw jw : Nat} {vR vO : Value} {L : List It} {l : List Ch} (w : World) (hb : w.heap[v]? = some (cellsT bw jw vR)) (hv : RowV w vR L) (hO : OpV w vO l) (hR : Rises L) (hP : Plain L) (hn : L.length + l.length ≤ 1000000000) :
    Calls Tryz.prog 60 #[.pointer (some ⟨v, 0, none⟩), vO] w fun e w' => ∃ v', e = .returned v' ∧ RowV w' v' (all7 L l) ∧ Below w.heap.size w w' :=
  (refOver_own v w hb hv hO hR hP hn).mono fun e w' ⟨v', he, h1, h2⟩ => ⟨v', he, all_val hv h1 h2, h2⟩
def Rb (bw jw v : Nat) (vO : Value) (w : World) (F : Nat → Prop) (z : Tst × List Ch) : Prop := ∃ F1, Rn bw jw v w F1 z.1 ∧ OwnC w 0 vO z.2 ∧ (∀ i, vO.ownBlock = some i → ¬ F1 i) ∧ ∀ i, F i ↔ F1 i ∨ vO.ownBlock = some i
end Go.Proofs.YtjdfffkkpbabpaaGreat.Tb

namespace Go.Proofs.YtjdfffkkpbabpaaGreat.Tb
open Go.RowKit Tx Pm Dk Wm Wr Wl Pl Od
set_option linter.unusedVariables false
set_option linter.unusedSimpArgs false
set_option linter.unnecessarySimpa false
set_option maxRecDepth 100000 in
set_option maxHeartbeats 16000000 in
theorem refCommit_any (bw jw v : Nat) {vR vO : Value} {Fj F : Nat → Prop} {x : Tst} {l : List Ch} (w : World) (h : RAt bw jw v vR Fj w F x) (hO : OwnC w 0 vO l) (hd : ∀ g, vO.ownBlock = some g → ¬ F g) (o : CommitOk x l pB pG) (hra : ∀ y ∈ x.j.s.L, y.data.size ≤ 10000000000000) (hwl : wt l ≤ 10000000) (hws : ws (all7 x.L l) ≤ 10000000) :
    Calls Tryz.prog 14 #[.pointer (some ⟨v, 0, none⟩), vO] w fun e w' => e = .returned (.int .i64 ((commitS x l pB pG).1 : Nat)) ∧ LeftA (Rn bw jw v) w F (commitS x l pB pG).2 w' := by
  obtain ⟨o1, o2, o3, _, o5, o6⟩ := o
  have HOv := Lib.hid hO.val
  obtain ⟨aO, cO, hvf, hop, hoc⟩ := hO.val
  by_cases hl0 : l = []
  · have hc : commitS x l pB pG = (0, x) := by rw [hl0]; exact commit_0
    have hlen : l.length = 0 := by rw [hl0]; rfl
    rw [hlen] at hvf
    rw [hc, hvf]
    have hleft : LeftA (Rn bw jw v) w F x w := ⟨F, ⟨vR, Fj, h⟩, Chg.refl F w, fun g hg => .inl hg⟩
    clear hop hoc h hO hd o6 hra
    go_enter Tryz.func14, Tryz.ntmps14
    go_wp2_with fail
    go_ret
    exact ⟨rfl, hleft⟩
  · have hll : 0 < l.length := List.length_pos_iff.2 hl0
    obtain ⟨n, hn⟩ : ∃ n, n = l.length := ⟨_, rfl⟩
    have hrec := rec7_le (l := l) (by omega)
    have hpkb := pk_bound (r := rec7 l) (by omega)
    obtain ⟨k, y, hadd⟩ : ∃ k y, addS x.j pG (rec7 l) = (k, y) := ⟨_, _, rfl⟩
    obtain ⟨vj, Fd, hj⟩ := h.jn
    have hvl : v < w.heap.size := (Array.getElem?_eq_some_iff.1 h.blk).1
    have HT := Lib.hid (fun V (hV : Below w.heap.size w V) => tcell ((hV.block v hvl).trans h.blk))
    have cr := fun V (hV : Below w.heap.size w V) => refRecord_any aO l.length cO l V (hop.below hV) (by omega) hoc
    have ca := fun V (hV : Below w.heap.size w V) => rAdd_any bw jw pG (rec7 l) V (hj.below (ref_kind bw) hV) ⟨o2, hra, by omega, by omega⟩ (by decide)
    rw [hadd] at ca o5 o6
    simp only at o5 o6
    obtain ⟨kp, yp, hps⟩ : ∃ k y, commitS x l pB pG = (k, y) := ⟨_, _, rfl⟩
    rw [hps]
    have HPS := Lib.hid hps
    have HADDR := Lib.hid hadd
    have HADD := Lib.hid hadd
    have hB' : Calls Tryz.prog 42 #[.slice aO l.length cO] w.drew fun e w' => e = .returned (.string (rec7 l)) ∧ Below w.heap.size w w' := (cr _ (Below.refl _ w).drew).mono fun e w' hh => ⟨hh.1, Tx.below_call (Below.refl _ w).drew hh.2⟩
    have hTV : ∀ W, Below w.heap.size w W → TwoV v 2 (.pointer (some ⟨jw, 0, none⟩)) 2 (.pointer (some ⟨jw, 0, none⟩)) W := fun W hW => ⟨(HT.out W hW).2.2.1, (HT.out W hW).2.2.1⟩
    have hD' : ∀ W, Below w.heap.size w W → Calls Tryz.prog 41 #[.pointer (some ⟨jw, 0, none⟩), .string (rec7 l)] W fun e w' => e = .returned (.int .i64 (k : Nat)) ∧ RLeft bw jw v vR w F ⟨y, x.L⟩ w' := fun W hW => by
      refine (ca W hW).mono fun e w' hh => ⟨hh.1, ?_⟩
      obtain ⟨Fj2, F2, hR2, c2, n2⟩ := (h.below hW).jleft hh.2
      exact ⟨Fj2, F2, hR2, (Chg.of_below hW).trans c2 (fun i hi => .inl hi), fun g hg => (n2 g hg).imp id (fun hh => Nat.le_trans hW.size hh)⟩
    have HB' := Lib.hid hB'
    have HTV := Lib.hid hTV
    have HD' := Lib.hid hD'
    have HTW := Lib.hid (hTV w (Below.refl _ _))
    have HOC := Lib.hid hO
    have HD := Lib.hid hd
    have hlo : x.L.length + l.length ≤ 1000000000 := o3
    have HO6 := Lib.hid o6
    rw [hvf]
    rw [hvf] at HOC HD HOv
    have HN := Lib.hid hn.symm
    have HRL := Lib.hid (fun (W : World) (hW : OwnC W 0 (.slice aO l.length cO) l) => show Opl W aO l.length l ∧ l.length ≤ cO from by obtain ⟨a', c', e, h1, h2⟩ := hW.val; injection e with e1 e2 e3; subst e1; subst e3; exact ⟨h1, h2⟩)
    generalize l.length = n0 at hn HB' HOC HD hlo hll HOv HRL ⊢
    subst hn
    have hnz : ((n : Int) == 0) = false := by simp; omega
    generalize rec7 l = RR at HB' HD' HADD
    clear hop hoc h hO hd hj cr ca hadd hvf hps hB' hTV hD' o6 o2 hra hrec hpkb HT
    go_enter Tryz.func14, Tryz.ntmps14
    go_wp2_with fail
    refine Rg.wp_only ?_ (whlAdd _ (by kernel_rfl) _ v jw k aO n cO RR w _ _ HTW.out HB'.out HTV.out HD'.out (fun W ⟨_, _, hR, _, _⟩ => ⟨(tcell hR.blk).2.2.1, (tcell hR.blk).2.2.1⟩))
    rintro _ w8 ⟨rfl, Fj8, F8, hR8, c8, n8⟩
    clear HB' HTV HD' HTW
    by_cases hk : k ≠ 0
    · have hp := commit_1 (p := pB) hl0 HADDR.out hk
      have hpe := HPS.out.symm.trans hp
      injection hpe with hp1 hp2
      subst hp1
      subst hp2
      have n1 := Dk.ne_eq hk
      have HL := Lib.hid (show LeftA (Rn bw jw v) w F ⟨y, x.L⟩ w8 from ⟨F8, ⟨vR, Fj8, hR8⟩, c8, n8⟩)
      clear hR8 c8 n8 hp hk
      go_wp2_with fail
      go_ret
      exact ⟨rfl, HL.out⟩
    · obtain rfl : k = 0 := by omega
      have e00 : (((0 : Nat) : Int) == 0) = true := rfl
      have hoc8 : OwnC w8 0 (.slice aO n cO) l := own_kept HOC.out (fun g hg => c8.block g (HOC.out.lt g hg).2 (HD.out g hg))
      obtain ⟨hop8, hoc9⟩ := HRL.out _ hoc8
      have cv := refAll_any vR x.L aO n cO l w8 (OwR.val hR8.row) hop8 hR8.rises hR8.plain (by rw [HN.out]; exact hlo) hoc9
      obtain ⟨t0, t1, t2, t3, tw⟩ := tcell hR8.blk
      obtain ⟨a8, c8', hvR, _, _⟩ := OwR.val hR8.row
      have HR8 := Lib.hid hR8
      have HC8 := Lib.hid c8
      have HN8 := Lib.hid n8
      rw [hvR] at t3 cv HR8
      generalize x.L.length = nL at hlo t3 cv HR8 o3
      clear hR8 c8 n8 hk t0 t1 t2 tw hoc8 hvR HADD
      go_wp2_with fail
      go_at_call 35
      refine cv.mono ?_
      rintro e w9 ⟨v9, rfl, ho9, hb9⟩
      have hrow9 : OwR w9 w8.heap.size v9 (all7 x.L l) := ho9.resolve_right (fun hh => hl0 hh.2)
      obtain ⟨a9, n9, c9, rfl⟩ : ∃ a n c, v9 = .slice a n c := by obtain ⟨a, c, h, _⟩ := hrow9.form; exact ⟨a, _, c, h⟩
      obtain ⟨F10, hR10, c10, n10⟩ := HR8.out.poke hb9 (own_less hrow9 (Nat.zero_le _)) (fun g hg => .inr (hrow9.lt g hg).1) (rises_all HR8.out.rises l) (plain_all HR8.out.plain l)
      have c11 : Chg F w (w9.setCell ⟨v, 3, none⟩ (.slice a9 n9 c9)) := HC8.out.trans c10 HN8.out
      have n11 : ∀ g, F10 g → F g ∨ w.heap.size ≤ g := fun g hg => by
        rcases n10 g hg with hh | hh
        · exact HN8.out g hh
        · exact .inr (Nat.le_trans HC8.out.size hh)
      obtain ⟨_, _, _, hc3, hfw⟩ := tcell ((hb9.block v (Array.getElem?_eq_some_iff.1 HR8.out.blk).1).trans HR8.out.blk)
      have hfz := hfw 3
      clear hfw
      obtain ⟨vj, Fd, hj⟩ := hR10.jn
      obtain ⟨_, _, q2, _⟩ := hj.cell
      obtain ⟨aT, cT, hvj, _, _, _⟩ := Tx.Texts.form (show Tx.Texts _ 0 vj y.R from hj.row)
      rw [hvj] at q2
      obtain ⟨_, _, t2, _, _⟩ := tcell hR10.blk
      have HR10 := Lib.hid hR10
      have HC11 := Lib.hid c11
      have HN11 := Lib.hid n11
      obtain ⟨m, hm⟩ : ∃ m, m = y.R.length := ⟨_, rfl⟩
      rw [← hm] at q2 o5
      have HM := Lib.hid hm
      clear hR10 c10 n10 c11 n11 hj hvj cv ho9 hrow9 hb9 t3 hm HR8 HC8 HN8
      by_cases h16 : 16 ≤ m
      · have hp := commit_3 (p := pB) hl0 HADDR.out (by rw [← HM.out]; exact h16)
        have cp := refPack7_any bw jw v _ HR10.out (HO6.out (by rw [← HM.out]; exact h16)) hws
        rw [← hp, HPS.out] at cp
        have h16z : (16 : Int) ≤ (m : Int) := by omega
        clear hp
        go_wp2_with fail
        go_at_call 16
        refine cp.mono ?_
        rintro e w12 ⟨rfl, hl12⟩
        have HL := Lib.hid (LeftA.trans (F1 := F10) HC11.out HN11.out hl12)
        clear cp hl12
        go_wp2_with fail
        go_ret
        exact ⟨rfl, HL.out⟩
      · have hp := commit_2 (p := pB) hl0 HADDR.out (by rw [← HM.out]; exact h16)
        have hpe := HPS.out.symm.trans hp
        injection hpe with hp1 hp2
        subst hp1
        subst hp2
        have h16z : (m : Int) < 16 := by omega
        have HL := Lib.hid (show LeftA (Rn bw jw v) w F ⟨y, all7 x.L l⟩ _ from ⟨F10, ⟨_, Fj8, HR10.out⟩, HC11.out, HN11.out⟩)
        clear hp
        go_wp2_with fail
        go_ret
        exact ⟨rfl, HL.out⟩
end Go.Proofs.YtjdfffkkpbabpaaGreat.Tb
