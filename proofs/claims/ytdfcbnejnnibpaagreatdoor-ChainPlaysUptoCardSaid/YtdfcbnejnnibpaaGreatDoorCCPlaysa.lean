/- What stands ahead of CCPlays. -/
import Derived.Test.YtdfcbnejnnibpaaGreatDoorT5
import Derived.WalkKit
import Derived.Test.YtdfcbnejnnibpaaGreatDoorRows
import Derived.WalkLawsBesides
import Derived.WalkSpells
import Derived.LoopTactic
import Derived.Lib.Hide
import Derived.Deep.AppendLies
import Derived.Deep.QuietTactic
import Derived.BigQuiet
import Derived.Laws.Rows
import Derived.Laws.NewBlocks
import Derived.Test.YtdfcbnejnnibpaaGreatDoorProg
import Derived.Deep.RegionHeld3
import Derived.Deep.CutBlock
import Derived.Deep.CutRange
import Derived.Deep.RegionWith
import Derived.Maps.AppendAt
import Derived.Laws.BytesArg
import Derived.Laws.IdiomStrings
import Derived.RegionTactic
import Derived.ChangeAlike
import Derived.Maps.RangeWalk
import Derived.Lib.Strings
import Derived.Lib.Bytealg
import Derived.Lib.IndexLaws
import Derived.Laws.RangeAny
import Derived.Shelf.RegionOpenPlain
import Derived.Shelf.Strings.Builder1
import Derived.Shelf.Strings.Builder2
import Derived.Shelf.Strings.OnBuilder
import Derived.Shelf.Strconv.Atoi
import Derived.Shelf.Strconv.Itoa0
import Derived.Shelf.Strconv.Itoa1
import Derived.Shelf.LaysM
import Derived.Shelf.Strconv.Itoa2
import Derived.Shelf.Strconv.Itoa3
import Derived.Shelf.Strings.Search1
import Derived.Shelf.Strings.Search2
import Derived.Shelf.Strings.Search3
import Derived.Shelf.Strings.Cut
import Derived.Shelf.Strings.Count
import Derived.Shelf.Strings.Shaped
import Derived.Shelf.Sort.Plain
import Derived.Shelf.Slices.In.SortNone
import Derived.ProofKit
import Derived.OpenShut
import Derived.ShutString
import Derived.Deep.Slices
import Derived.Deep.Fields
import Derived.ChangeSame
import Derived.Laws.AppendOwn
import Derived.Lib.OwnBridge
import Derived.Sort.OwnSorted
import Derived.Laws.ResultCell
import Derived.BigRegion
import Derived.StillTailTactics
import Derived.Laws.OwnMore
import Derived.Lib.ItoaNum
import Derived.Lib.AppendIntMem
import Derived.Maps.Own
import Derived.OwnWalk
import Derived.Lib.AppendStr
import Derived.Sort.OwnSortedInts
import Derived.Lib.AtoiErrMem
import Derived.SliceStrings
import Derived.SizedLaws
import Derived.Test.YtdfcbnejnnibpaaGreatDoorCards
import Derived.Test.YtdfcbnejnnibpaaGreatDoorTie
import Derived.Lib.LaidTab
import Derived.Lib.LaidU8
import Derived.LaidMore
import Derived.Deep.DeepHandedRow
import Derived.Stop.Joined
import Derived.JoinedCond
import Derived.ChangeOld
import Derived.SevenTiedAt
import Derived.Deep.CondSized
namespace Go.Proofs.YtdfcbnejnnibpaaGreatDoor.Rg
open Go.RowKit
set_option linter.unusedVariables false
section
variable {P : Program} {ops : Array Oper} {R : Act → World → Prop} {S : World → Prop}
theorem y_at {o : Oper} {a : Act} {T : TypeId} {x y : Operand} {vx vy v : Value} (ho : o.op = .indexAddr T x y) (hx : a.eval x = vx) (hy : a.eval y = vy)
    (hv : ∀ w, S w → (Instr.indexAt T vx vy).run P w = .ok v w) : ∀ w, S w → (execOp a.eval o).run P w = .ok (.value v) w := by
  intro w hw
  obtain ⟨dst, op, ty, pos, after, guard⟩ := o
  simp only at ho
  subst ho
  have := hv w hw
  simp only [execOp, hx, hy, Sem.run_bind]
  rw [this]
  rfl
end
end Go.Proofs.YtdfcbnejnnibpaaGreatDoor.Rg

namespace Go.Proofs.YtdfcbnejnnibpaaGreatDoor.Ap
open Go.RowKit Tx
set_option linter.unusedVariables false
section
variable {P : Program}
end
theorem wpList_append_two {P : Program} (w : World) {ops : Array Oper} {rest : List Oper} {o : Oper} {a : Act} {Q : Exit → Act → World → Prop} (hgd : o.guard = none) (s x : Operand) (t : TypeId)
    (ho : o.op = .call { callee := .builtin .append, args := #[s, x], argTypes := #[t, t] })
    (base : Nat) (e : TypeId) (i : TypeInfo) (z : Value) (size bytes : Nat) (ht : P.underlying t = some (.slice e)) (hi : P.info? e = some i) (hz : i.zero = some z)
    (hsize : i.size = size) (hby : i.bytes = bytes) (hzs : z.cells.size = size) (hsp : 0 < size) (hs16 : size ≤ 16)
    (v : Value) (n : Nat) (xs : List Value) (hs : a.eval s = v) (hown : w.ownsRow base e size v n xs)
    (ad : Addr) (c : Nat) (us : List Value) (hx : a.eval x = .slice (some ad) 1 c) (hul : us.length = size) (hnews : ∀ j x, us[j]? = some x → w.cell? (ad.add j) = some x) (hone : ∀ x ∈ us, x.oneCell' = true)
    (hn : n + 1 ≤ 57646075230342348) (hbytes : (n + 1) * bytes ≤ 140737488355328) (hbase : base ≤ w.heap.size)
    (h : ∀ v' w', w'.ownsRow base e size v' (n + 1) (xs ++ us) → ((v'.ownBlock = v.ownBlock ∧ w.grownBy w' v.ownBlock) ∨ (v'.ownBlock = some w.heap.size ∧ w.grownBy w' none)) → wpList P ops Q rest (a.put o.dst v') w') :
    wpList P ops Q (o :: rest) a w := by
  refine wpList_plain hgd fun K hK => ?_
  obtain ⟨v', w', hr, h2, h3⟩ := append_two (P := P) w base t o.type e i z size bytes ht hi hz hsize hby hzs hsp hs16 v n xs hown ad c us hul hnews hone hn hbytes hbase
  unfold Oper.wp execOp
  simp only [ho, resolve, invoke, builtin, Sem.run_bind, Sem.run_pure, Result.andThen_ok, List.map_toArray, List.map_cons, List.map_nil, hs, hx, hr]
  exact hK _ _ (h v' w' h2 h3)
end Go.Proofs.YtdfcbnejnnibpaaGreatDoor.Ap

namespace Go.Proofs.YtdfcbnejnnibpaaGreatDoor.Fm
open Wm Wr
set_option linter.unusedVariables false
theorem sum4_size (l : List UInt8) : (sum4 l).size = 4 := rfl
end Go.Proofs.YtdfcbnejnnibpaaGreatDoor.Fm

namespace Go.Proofs.YtdfcbnejnnibpaaGreatDoor.Dk
open Go.RowKit Tx Pm
set_option linter.unusedVariables false
theorem good_append {s : St} {p d : ByteArray} (h : Good s) : Good (appendS s p d).2 := by
  unfold appendS
  split
  · exact h
  split
  · exact h
  split
  · exact good_done h
  · rename_i h1 _ _
    exact good_put (l := (done s).2.L) (good_done h) ⟨(good_done h).rises, fun _ hy => hy⟩ (there_dir h1) (fun e => by cases e)
end Go.Proofs.YtdfcbnejnnibpaaGreatDoor.Dk

namespace Go.Proofs.YtdfcbnejnnibpaaGreatDoor.Fr
open Go.RowKit Wm Wr Fm
set_option linter.unusedVariables false
theorem cat_two (x y : ByteArray) : cat [x, y] = x ++ y := by
  apply ByteArray.ext
  simp [cat]
theorem join2_any (bk : Nat) (x y : ByteArray) (w : World) (h0 : w.cell? ⟨bk, 0, none⟩ = some (.string x)) (h1 : w.cell? ⟨bk, 1, none⟩ = some (.string y)) (hbk : bk < w.heap.size) (hlen : x.size + y.size ≤ 140737488355328) :
    Calls Tryz.prog 54 #[.slice (some ⟨bk, 0, none⟩) 2 2] w fun e w' => e = .returned (.string (x ++ y)) ∧ Below w.heap.size w w' := by
  have h := join_any bk 0 2 [x, y] w (fun j z hz => by
    match j, hz with
    | 0, hz => simp at hz; subst hz; exact h0
    | 1, hz => simp at hz; subst hz; exact h1
    | j + 2, hz => simp at hz) hbk (by simp) (by simp) (by rw [cat_two, ByteArray.size_append]; exact hlen)
  rw [cat_two] at h
  exact h
set_option maxRecDepth 100000 in
set_option maxHeartbeats 1000000 in
theorem fPack_any (s : ByteArray) (w : World) (hs : s.size ≤ 140737488355300) :
    Calls Tryz.prog 63 #[.string s] w fun e w' => e = .returned (.string (pk s)) ∧ Below w.heap.size w w' := by
  have ct := fun W => putText_any s W (by omega)
  have cs := fun W => sumOf_any s W (by unfold maxLen; omega)
  have hTl : (ts s).size ≤ 10 + s.size := by
    rw [ts, ByteArray.size_append]
    have := vs_le (x := s.size) (by omega)
    omega
  have hpk : Hid (ts s ++ sum4 s.data.toList = pk s) := rfl
  have hQl : (sum4 s.data.toList).size ≤ 4 := by rw [sum4_size]; exact Nat.le_refl _
  obtain ⟨T, hT⟩ : ∃ T, T = ts s := ⟨_, rfl⟩
  obtain ⟨Q, hQ⟩ : ∃ Q, Q = sum4 s.data.toList := ⟨_, rfl⟩
  rw [← hT] at ct hTl hpk
  rw [← hQ] at cs hQl hpk
  have cj := fun W B h0 h1 hb => join2_any B T Q W h0 h1 hb (by omega)
  clear hT hQ
  go_enter Tryz.func63, Tryz.ntmps63
  go_wp2_with (first
    | (go_at_call 55; refine (ct _).mono ?_; rintro e w1 ⟨rfl, hb1⟩)
    | (go_at_call 75; refine (cs _).mono ?_; rintro e w2 ⟨rfl, hb2⟩)
    | (go_at_call 54; refine (cj _ _ (by go_simp) (by go_simp) (by go_simp)).mono ?_; rintro e w3 ⟨rfl, hb3⟩))
  go_ret
  exact ⟨by rw [← hpk.out]; rfl, below_call ((below_call hb1 hb2).alloc (below_call hb1 hb2).size _) hb3⟩
end Go.Proofs.YtdfcbnejnnibpaaGreatDoor.Fr

namespace Go.Proofs.YtdfcbnejnnibpaaGreatDoor.Tb
open Go.RowKit Tx Pm Dk Wm Wr
set_option linter.unusedVariables false
set_option linter.unusedSimpArgs false
set_option linter.unnecessarySimpa false
theorem pl_len {c : Ch} (hk : c.key.size ≤ 9223372036854775807) (hv : c.val.size ≤ 9223372036854775807) : (pl c).length ≤ c.key.size + c.val.size + 40 := by
  have h1 := tl_len hk
  have h2 := tl_len hv
  have h3 := vb_len (x := 0) (by omega)
  have h4 := vb_len (x := 1) (by omega)
  unfold pl
  split <;> simp only [List.length_append] <;> omega
theorem all_len : ∀ {l : List Ch}, wt l ≤ 9223372036854775807 → (l.flatMap pl).length ≤ wt l
  | [], _ => Nat.zero_le _
  | c :: l, h => by
    rw [wt_cons] at h ⊢
    have h1 := pl_len (c := c) (by omega) (by omega)
    have h2 := all_len (l := l) (by omega)
    rw [List.flatMap_cons, List.length_append]
    omega
theorem rec7_le {l : List Ch} (h : wt l ≤ 9223372036854775807) : (rec7 l).size ≤ wt l + 10 := by
  have h1 := wt_len l
  have h2 := vb_len (x := l.length) (by omega)
  have h3 := all_len h
  rw [rec7_size, recl, List.length_append]
  omega
section
variable {s : ByteArray} {k m n n2 e : Nat} {t t2 : ByteArray}
end
section
variable {s : ByteArray} {k m a e : Nat} {l : List Ch}
end
end Go.Proofs.YtdfcbnejnnibpaaGreatDoor.Tb

namespace Go.Proofs.YtdfcbnejnnibpaaGreatDoor.Wl
open Go.RowKit Tx Pm Dk Fr
set_option linter.unusedVariables false
def addS (x : Jst) (p r : ByteArray) : Nat × Jst :=
  if (appendS x.s p (Fm.pk r)).1 ≠ 0 then ((appendS x.s p (Fm.pk r)).1, ⟨(appendS x.s p (Fm.pk r)).2, x.R, x.dm⟩) else
  if (syncS (appendS x.s p (Fm.pk r)).2 p).1 ≠ 0 then ((syncS (appendS x.s p (Fm.pk r)).2 p).1, ⟨(syncS (appendS x.s p (Fm.pk r)).2 p).2, x.R, x.dm⟩) else
  (0, ⟨(syncS (appendS x.s p (Fm.pk r)).2 p).2, x.R ++ [r], x.dm⟩)
def resetS (x : Jst) (p : ByteArray) : Nat × Jst :=
  if (fillS x.s p ⟨#[]⟩).1 ≠ 0 then ((fillS x.s p ⟨#[]⟩).1, ⟨(fillS x.s p ⟨#[]⟩).2, x.R, x.dm⟩) else (0, ⟨(fillS x.s p ⟨#[]⟩).2, [], x.dm⟩)
end Go.Proofs.YtdfcbnejnnibpaaGreatDoor.Wl

namespace Go.Proofs.YtdfcbnejnnibpaaGreatDoor.Aq
open Go.RowKit Tx
set_option linter.unusedVariables false
section
variable {P : Program}
end
theorem wpList_append_two {P : Program} (w : World) {ops : Array Oper} {rest : List Oper} {o : Oper} {a : Act} {Q : Exit → Act → World → Prop} (hgd : o.guard = none) (s x : Operand) (t : TypeId)
    (ho : o.op = .call { callee := .builtin .append, args := #[s, x], argTypes := #[t, t] })
    (base : Nat) (e : TypeId) (i : TypeInfo) (z : Value) (bytes : Nat) (ht : P.underlying t = some (.slice e)) (hi : P.info? e = some i) (hz : i.zero = some z)
    (hsize : i.size = 1) (hby : i.bytes = bytes) (hzs : z.cells.size = 1)
    (v : Value) (n : Nat) (xs : List Value) (hs : a.eval s = v) (hown : w.ownsRow base e 1 v n xs)
    (ad : Addr) (c : Nat) (u : Value) (hx : a.eval x = .slice (some ad) 1 c) (hu : w.cell? ad = some u) (h1 : u.oneCell' = true)
    (hn : n + 1 ≤ 1152921504606846976) (hbytes : (n + 1) * bytes ≤ 140737488355328) (hbase : base ≤ w.heap.size)
    (h : ∀ v' w', w'.ownsRow base e 1 v' (n + 1) (xs ++ [u]) → ((v'.ownBlock = v.ownBlock ∧ w.grownBy w' v.ownBlock) ∨ (v'.ownBlock = some w.heap.size ∧ w.grownBy w' none)) → wpList P ops Q rest (a.put o.dst v') w') :
    wpList P ops Q (o :: rest) a w := by
  refine wpList_plain hgd fun K hK => ?_
  obtain ⟨v', w', hr, h2, h3⟩ := append_two (P := P) w base t o.type e i z bytes ht hi hz hsize hby hzs v n xs hown ad c u hu h1 hn hbytes hbase
  unfold Oper.wp execOp
  simp only [ho, resolve, invoke, builtin, Sem.run_bind, Sem.run_pure, Result.andThen_ok, List.map_toArray, List.map_cons, List.map_nil, hs, hx, hr]
  exact hK _ _ (h v' w' h2 h3)
end Go.Proofs.YtdfcbnejnnibpaaGreatDoor.Aq

namespace Go.Proofs.YtdfcbnejnnibpaaGreatDoor.Dk
open Go.ChangeMaps (open_string shut_string)
open Go.ChangeShapes Go.WideShapes Go.ChangeAt Go.RowKit Tx
set_option linter.unusedVariables false
def dS {H : Type} (x : Sp) : DataW H := .agg [.lit (.int .i64 x.k), .lit (.string x.p.data.toList), .lit (.string x.q.data.toList), .lit (.int .i64 x.n)]
def int64 (k : Int) : Prop := -9223372036854775808 ≤ k ∧ k ≤ 9223372036854775807
theorem cells9 : Tryz.prog.cellsOf 9 = 1 := by kernel_rfl
theorem cells3 : Tryz.prog.cellsOf 3 = 1 := by kernel_rfl
theorem wf_int {k : Int} (h : (Lit.int .i64 k).wf = true) : int64 k := by
  unfold int64
  simpa [Lit.wf, IntKind.min, IntKind.max, IntKind.signed, IntKind.bits] using h
def Script (w : World) (a : Option Addr) (n : Nat) (l : List Sp) : Prop := l.length = n ∧ (n = 0 ∨ ∃ b off, a = some ⟨b, off, none⟩ ∧ b < w.heap.size ∧ ∀ k x, l[k]? = some x → w.cell? ⟨b, off + k * 4, none⟩ = some (.int .i64 x.k) ∧ w.cell? ⟨b, off + k * 4 + 1, none⟩ = some (.string x.p) ∧ w.cell? ⟨b, off + k * 4 + 1 + 1, none⟩ = some (.string x.q) ∧ w.cell? ⟨b, off + k * 4 + 1 + 1 + 1, none⟩ = some (.int .i64 x.n))
theorem bulk_step {H : Type} (x : Sp) : Rows.uptoBulk (dS (H := H) x) = x.p.size + x.q.size + 5 := by
  have e : Rows.uptoBulk (dS (H := H) x) = 1 + ((x.p.data.toList.length + 1) + ((x.q.data.toList.length + 1) + (1 + 0))) + 1 := rfl
  rw [e, len_l, len_l]
  omega
theorem bulk_steps {H : Type} : ∀ l : List Sp, l.length ≤ Rows.uptoBulkAll (l.map (dS (H := H))) ∧ ∀ x ∈ l, x.p.size ≤ Rows.uptoBulkAll (l.map (dS (H := H))) ∧ x.q.size ≤ Rows.uptoBulkAll (l.map (dS (H := H)))
  | [] => ⟨Nat.zero_le _, fun x hx => by cases hx⟩
  | y :: l => by
    obtain ⟨h1, h2⟩ := bulk_steps (H := H) l
    have e : Rows.uptoBulkAll ((y :: l).map (dS (H := H))) = Rows.uptoBulk (dS (H := H) y) + Rows.uptoBulkAll (l.map (dS (H := H))) := rfl
    rw [e, bulk_step]
    refine ⟨by rw [List.length_cons]; omega, fun x hx => ?_⟩
    rcases List.mem_cons.1 hx with rfl | hx
    · exact ⟨by omega, by omega⟩
    · obtain ⟨a, b⟩ := h2 x hx
      exact ⟨by omega, by omega⟩
end Go.Proofs.YtdfcbnejnnibpaaGreatDoor.Dk

namespace Go.Proofs.YtdfcbnejnnibpaaGreatDoor.Dk
open Go.RowKit Tx Pm
set_option linter.unusedVariables false
def kA (x : ByteArray) : St := ⟨[dirV, raw pVA x 1], [], 2, 1, -1, false⟩
def kB (x : ByteArray) : St := ⟨[dirV, syn pVA x 1, raw pVB x 2], [], 4, 2, -1, false⟩
def sD (t : ByteArray) (k : Nat) : St := ⟨[dirV, ⟨pVA, false, t, ⟨#[]⟩, true, true, 1 + k⟩], [], 2 + k, 1 + k, -1, true⟩
end Go.Proofs.YtdfcbnejnnibpaaGreatDoor.Dk

namespace Go.Proofs.YtdfcbnejnnibpaaGreatDoor.Tb
open Go.RowKit Tx Pm Dk Wm Wr Wl
set_option linter.unusedVariables false
set_option linter.unusedSimpArgs false
set_option linter.unnecessarySimpa false
theorem mem_app {L : List It} {c : Ch} {x : It} (h : x ∈ app L c) : x = rw7 c.key c.val ∨ x ∈ L := by
  unfold app at h
  split at h
  · exact .inr ((drop_in L c.key).1 x h)
  · exact mem_ins h
theorem mem_all {L : List It} {l : List Ch} {x : It} (h : x ∈ all7 L l) : (∃ c ∈ l, x = rw7 c.key c.val) ∨ x ∈ L := by
  induction l generalizing L with
  | nil => exact .inr h
  | cons c l ih =>
    rcases ih h with ⟨d, hd, rfl⟩ | h
    · exact .inl ⟨d, List.mem_cons_of_mem _ hd, rfl⟩
    · rcases mem_app h with rfl | h
      · exact .inl ⟨c, List.mem_cons_self, rfl⟩
      · exact .inr h
def packS (x : Tst) (p q : ByteArray) : Nat × Tst :=
  if (fillS x.j.s p (Fm.pk (rec7 (whole7 x.L)))).1 ≠ 0 then ((fillS x.j.s p (Fm.pk (rec7 (whole7 x.L)))).1, ⟨⟨(fillS x.j.s p (Fm.pk (rec7 (whole7 x.L)))).2, x.j.R, x.j.dm⟩, x.L⟩) else
  ((resetS ⟨(fillS x.j.s p (Fm.pk (rec7 (whole7 x.L)))).2, x.j.R, x.j.dm⟩ q).1, ⟨(resetS ⟨(fillS x.j.s p (Fm.pk (rec7 (whole7 x.L)))).2, x.j.R, x.j.dm⟩ q).2, x.L⟩)
def commitS (x : Tst) (l : List Ch) (p q : ByteArray) : Nat × Tst :=
  if l = [] then (0, x) else
  if (addS x.j q (rec7 l)).1 ≠ 0 then ((addS x.j q (rec7 l)).1, ⟨(addS x.j q (rec7 l)).2, x.L⟩) else
  if 16 ≤ (addS x.j q (rec7 l)).2.R.length then packS ⟨(addS x.j q (rec7 l)).2, all7 x.L l⟩ p q else (0, ⟨(addS x.j q (rec7 l)).2, all7 x.L l⟩)
end Go.Proofs.YtdfcbnejnnibpaaGreatDoor.Tb

namespace Go.Proofs.YtdfcbnejnnibpaaGreatDoor.Rg
open Go.RowKit
set_option linter.unusedVariables false
section
variable {P : Program} {S : World → Prop}
theorem y_slice {o : Oper} {a : Act} {T : TypeId} {x h : Operand} {vx vh v : Value} (ho : o.op = .slice T x none (some h) none) (hx : a.eval x = vx) (hh : a.eval h = vh)
    (hv : ∀ w, S w → (Instr.sliceAt T vx none (some vh) none).run P w = .ok v w) : ∀ w, S w → (execOp a.eval o).run P w = .ok (.value v) w := by
  intro w hw
  obtain ⟨dst, op, ty, pos, after, guard⟩ := o
  simp only at ho
  subst ho
  have := hv w hw
  simp only [execOp, hx, hh, Option.map_some, Option.map_none, Sem.run_bind]
  rw [this]
  rfl
end
section
variable {P : Program} {ops : Array Oper} {R : Act → World → Prop} {S : World → Prop}
end
end Go.Proofs.YtdfcbnejnnibpaaGreatDoor.Rg

namespace Go.Proofs.YtdfcbnejnnibpaaGreatDoor.Tb
open Go.RowKit
set_option linter.unusedVariables false
set_option linter.unusedSimpArgs false
set_option linter.unnecessarySimpa false
set_option maxRecDepth 100000 in
set_option maxHeartbeats 4000000 in
theorem recGone (ops : Array Oper) (hops : ops = (Rg.opsOf Tryz.f36 6)) (id : Nat) (x : Nat) (key val n0 k1 : ByteArray) (gone : Bool) (vp : Value) {u0 u1 u2 u4 u6 u7 u8 u9 u10 u11 u12 u13 u14 u15 u16 u17 u18 u19 u20 u21 u22 u23 u24 u25 u26 u27 u28 u29 u30 u31 u32 u33 u34 u35 u36 u37 : Value} (w : World) (B1 B2 B3 : World → Prop) (B4 : Value → World → Prop)
    (hS : Cells3 x key val gone w) (hA : Calls Tryz.prog 65 #[.int .i64 0] w.drew fun e w' => e = .returned (.string n0) ∧ B1 w') (hAS : ∀ W, B1 W → Cells3 x key val gone W)
    (hB : ∀ W, B1 W → Calls Tryz.prog 55 #[.string key] W fun e w' => e = .returned (.string k1) ∧ B2 w') (hBS : ∀ W, B2 W → Cells3 x key val gone W)
    (hES : ∀ W, B2 W → Cells3 x key val gone (W.alloc (.cells #[(.string n0), (.string k1)] 9)))
    (hE : ∀ W, B2 W → ∀ ty, ∃ v w1, (Builtin.append_ #[45, 45] ty #[vp, .slice (some ⟨W.heap.size, 0, none⟩) 2 2]).run Tryz.prog (W.alloc (.cells #[(.string n0), (.string k1)] 9)) = .ok v w1 ∧ B4 v w1) (hGS : ∀ v W, B4 v W → Cells3 x key val gone W) :
    (Code.region id ops true).wp Tryz.prog (Rg.Only fun a' w' => ∃ (z8 : Nat) (v8 : Value), a' = ⟨#[u0, u1, u2, v8, u4, (.pointer (some ⟨x, 0, none⟩)), u6, u7, u8, u9, u10, u11, u12, u13, u14, u15, u16, u17, vp, (.string n0), (.pointer (some ⟨x, 0, none⟩)), (.string key), (.string k1), (.slice (some ⟨z8, 0, none⟩) 2 2), v8, u25, u26, u27, u28, u29, u30, u31, u32, u33, u34, u35, u36, u37], []⟩ ∧ B4 v8 w') ⟨#[u0, u1, u2, vp, u4, (.pointer (some ⟨x, 0, none⟩)), u6, u7, u8, u9, u10, u11, u12, u13, u14, u15, u16, u17, u18, u19, u20, u21, u22, u23, u24, u25, u26, u27, u28, u29, u30, u31, u32, u33, u34, u35, u36, u37], []⟩ w := by
  subst hops
  have hNS : Region.noSelect (Rg.opsOf Tryz.f36 6) = true := by kernel_rfl
  refine wp_region_held_drew (S := Cells3 x key val gone) (by kernel_rfl) hS (fun hHeld => ?_)
  rw [show (Rg.opsOf Tryz.f36 6).size = 8 by kernel_rfl]
  refine Rg.take (ops := (Rg.opsOf Tryz.f36 6)) 0 (some 18) (vp) hNS (by kernel_rfl) (by kernel_rfl) (by kernel_rfl) (by kernel_rfl) (by kernel_rfl) hHeld (Rg.y_move (x := (Operand.tmp 3)) (Or.inl (by kernel_rfl)) (by kernel_rfl)) ?_
  refine Rg.take (ops := (Rg.opsOf Tryz.f36 6)) 2 (some 20) ((.pointer (some ⟨x, 0, none⟩))) hNS (by kernel_rfl) (by kernel_rfl) (by kernel_rfl) (by kernel_rfl) (by kernel_rfl) hHeld (Rg.y_field (T := 102) (k := 0) (x := (Operand.tmp 5)) (vx := (.pointer (some ⟨x, 0, none⟩))) (by kernel_rfl) (by kernel_rfl) ?_) ?_
  · (intro w hSw; clear hSw; go_simp)
  refine Rg.take (ops := (Rg.opsOf Tryz.f36 6)) 3 (some 21) ((.string key)) hNS (by kernel_rfl) (by kernel_rfl) (by kernel_rfl) (by kernel_rfl) (by kernel_rfl) hHeld (Rg.y_load (T := 9) (x := (Operand.tmp 20)) (vx := (.pointer (some ⟨x, 0, none⟩))) (by kernel_rfl) (by kernel_rfl) ?_) ?_
  · (intro w hSw; obtain ⟨s0, s1, s2⟩ := hSw; go_simp)
  refine Rg.call (ops := (Rg.opsOf Tryz.f36 6)) (fn := Tryz.f65) (xs := #[Operand.const (Value.int IntKind.i64 0)]) (ats := #[3]) 1 (some 19) 65 #[(Value.int IntKind.i64 0)] (by kernel_rfl) (by kernel_rfl) (by kernel_rfl) (by kernel_rfl) (by kernel_rfl) Tryz.func65 (by kernel_rfl) (by kernel_rfl) (by kernel_rfl) ?_
  refine hA.mono ?_
  rintro e w5 ⟨rfl, h5⟩
  refine ⟨_, rfl, hAS _ h5, fun hHeld => ?_⟩
  refine Rg.call (ops := (Rg.opsOf Tryz.f36 6)) (fn := Tryz.f55) (xs := #[Operand.tmp 21]) (ats := #[9]) 4 (some 22) 55 #[(.string key)] (by kernel_rfl) (by kernel_rfl) (by kernel_rfl) (by kernel_rfl) (by kernel_rfl) Tryz.func55 (by kernel_rfl) (by kernel_rfl) (by kernel_rfl) ?_
  refine (hB _ h5).mono ?_
  rintro e w6 ⟨rfl, h6⟩
  refine ⟨_, rfl, hBS _ h6, fun hHeld => ?_⟩
  refine Rg.bld (ops := (Rg.opsOf Tryz.f36 6)) 5 (some 23) (T := 45) (len := 2) (parts := #[(0, Operand.tmp 19), (1, Operand.tmp 22)]) (vs := #[(0, (.string n0)), (1, (.string k1))]) (v := (.slice (some ⟨w6.heap.size, 0, none⟩) 2 2)) (w1 := w6.alloc (.cells #[(.string n0), (.string k1)] 9)) (by kernel_rfl) (by kernel_rfl) (by kernel_rfl) (by kernel_rfl) (by kernel_rfl) (by kernel_rfl) ?_ (hES _ h6) (fun hHeld => ?_)
  · (clear hHeld; go_simp)
  refine Rg.app1 (ops := (Rg.opsOf Tryz.f36 6)) 6 (some 24) (T := 45) (x := (Operand.tmp 18)) (y := (Operand.tmp 23)) (vx := vp) (vy := (.slice (some ⟨w6.heap.size, 0, none⟩) 2 2)) (by kernel_rfl) (by kernel_rfl) (by kernel_rfl) (by kernel_rfl) (by kernel_rfl) (by kernel_rfl) (by kernel_rfl) ?_
  intro ty
  obtain ⟨v8, w8, hr8, h8⟩ := hE _ h6 ty
  refine ⟨v8, w8, hr8, hGS _ _ h8, fun hHeld => ?_⟩
  refine Rg.take (ops := (Rg.opsOf Tryz.f36 6)) 7 (some 3) (v8) hNS (by kernel_rfl) (by kernel_rfl) (by kernel_rfl) (by kernel_rfl) (by kernel_rfl) hHeld (Rg.y_move (x := (Operand.tmp 24)) (Or.inr (by kernel_rfl)) (by kernel_rfl)) ?_
  refine Rg.done (ops := (Rg.opsOf Tryz.f36 6)) (by kernel_rfl) ?_
  exact ⟨w6.heap.size, v8, by kernel_rfl, h8⟩
set_option maxRecDepth 100000 in
set_option maxHeartbeats 4000000 in
theorem recGive (ops : Array Oper) (hops : ops = (Rg.opsOf Tryz.f36 7)) (id : Nat) (x : Nat) (key val n0 k1 v1 : ByteArray) (gone : Bool) (vp : Value) {u0 u1 u2 u4 u6 u7 u8 u9 u10 u11 u12 u13 u14 u15 u16 u17 u18 u19 u20 u21 u22 u23 u24 u25 u26 u27 u28 u29 u30 u31 u32 u33 u34 u35 u36 u37 : Value} (w : World) (B1 B2 B3 : World → Prop) (B4 : Value → World → Prop)
    (hS : Cells3 x key val gone w) (hA : Calls Tryz.prog 65 #[.int .i64 1] w.drew fun e w' => e = .returned (.string n0) ∧ B1 w') (hAS : ∀ W, B1 W → Cells3 x key val gone W)
    (hB : ∀ W, B1 W → Calls Tryz.prog 55 #[.string key] W fun e w' => e = .returned (.string k1) ∧ B2 w') (hBS : ∀ W, B2 W → Cells3 x key val gone W)
    (hC : ∀ W, B2 W → Calls Tryz.prog 55 #[.string val] W fun e w' => e = .returned (.string v1) ∧ B3 w') (hCS : ∀ W, B3 W → Cells3 x key val gone W)
    (hES : ∀ W, B3 W → Cells3 x key val gone (W.alloc (.cells #[(.string n0), (.string k1), (.string v1)] 9)))
    (hE : ∀ W, B3 W → ∀ ty, ∃ v w1, (Builtin.append_ #[45, 45] ty #[vp, .slice (some ⟨W.heap.size, 0, none⟩) 3 3]).run Tryz.prog (W.alloc (.cells #[(.string n0), (.string k1), (.string v1)] 9)) = .ok v w1 ∧ B4 v w1) (hGS : ∀ v W, B4 v W → Cells3 x key val gone W) :
    (Code.region id ops true).wp Tryz.prog (Rg.Only fun a' w' => ∃ (z8 : Nat) (v8 : Value), a' = ⟨#[u0, u1, u2, v8, u4, (.pointer (some ⟨x, 0, none⟩)), u6, u7, u8, u9, u10, u11, u12, u13, u14, u15, u16, u17, u18, u19, u20, u21, u22, u23, u24, vp, (.string n0), (.pointer (some ⟨x, 0, none⟩)), (.string key), (.string k1), (.pointer (some ⟨x, 0 + 1, none⟩)), (.string val), (.string v1), (.slice (some ⟨z8, 0, none⟩) 3 3), v8, u35, u36, u37], []⟩ ∧ B4 v8 w') ⟨#[u0, u1, u2, vp, u4, (.pointer (some ⟨x, 0, none⟩)), u6, u7, u8, u9, u10, u11, u12, u13, u14, u15, u16, u17, u18, u19, u20, u21, u22, u23, u24, u25, u26, u27, u28, u29, u30, u31, u32, u33, u34, u35, u36, u37], []⟩ w := by
  subst hops
  have hNS : Region.noSelect (Rg.opsOf Tryz.f36 7) = true := by kernel_rfl
  refine wp_region_held_drew (S := Cells3 x key val gone) (by kernel_rfl) hS (fun hHeld => ?_)
  rw [show (Rg.opsOf Tryz.f36 7).size = 11 by kernel_rfl]
  refine Rg.take (ops := (Rg.opsOf Tryz.f36 7)) 0 (some 25) (vp) hNS (by kernel_rfl) (by kernel_rfl) (by kernel_rfl) (by kernel_rfl) (by kernel_rfl) hHeld (Rg.y_move (x := (Operand.tmp 3)) (Or.inl (by kernel_rfl)) (by kernel_rfl)) ?_
  refine Rg.take (ops := (Rg.opsOf Tryz.f36 7)) 2 (some 27) ((.pointer (some ⟨x, 0, none⟩))) hNS (by kernel_rfl) (by kernel_rfl) (by kernel_rfl) (by kernel_rfl) (by kernel_rfl) hHeld (Rg.y_field (T := 102) (k := 0) (x := (Operand.tmp 5)) (vx := (.pointer (some ⟨x, 0, none⟩))) (by kernel_rfl) (by kernel_rfl) ?_) ?_
  · (intro w hSw; clear hSw; go_simp)
  refine Rg.take (ops := (Rg.opsOf Tryz.f36 7)) 3 (some 28) ((.string key)) hNS (by kernel_rfl) (by kernel_rfl) (by kernel_rfl) (by kernel_rfl) (by kernel_rfl) hHeld (Rg.y_load (T := 9) (x := (Operand.tmp 27)) (vx := (.pointer (some ⟨x, 0, none⟩))) (by kernel_rfl) (by kernel_rfl) ?_) ?_
  · (intro w hSw; obtain ⟨s0, s1, s2⟩ := hSw; go_simp)
  refine Rg.take (ops := (Rg.opsOf Tryz.f36 7)) 5 (some 30) ((.pointer (some ⟨x, 0 + 1, none⟩))) hNS (by kernel_rfl) (by kernel_rfl) (by kernel_rfl) (by kernel_rfl) (by kernel_rfl) hHeld (Rg.y_field (T := 102) (k := 1) (x := (Operand.tmp 5)) (vx := (.pointer (some ⟨x, 0, none⟩))) (by kernel_rfl) (by kernel_rfl) ?_) ?_
  · (intro w hSw; clear hSw; go_simp)
  refine Rg.take (ops := (Rg.opsOf Tryz.f36 7)) 6 (some 31) ((.string val)) hNS (by kernel_rfl) (by kernel_rfl) (by kernel_rfl) (by kernel_rfl) (by kernel_rfl) hHeld (Rg.y_load (T := 9) (x := (Operand.tmp 30)) (vx := (.pointer (some ⟨x, 0 + 1, none⟩))) (by kernel_rfl) (by kernel_rfl) ?_) ?_
  · (intro w hSw; obtain ⟨s0, s1, s2⟩ := hSw; go_simp)
  refine Rg.call (ops := (Rg.opsOf Tryz.f36 7)) (fn := Tryz.f65) (xs := #[Operand.const (Value.int IntKind.i64 1)]) (ats := #[3]) 1 (some 26) 65 #[(Value.int IntKind.i64 1)] (by kernel_rfl) (by kernel_rfl) (by kernel_rfl) (by kernel_rfl) (by kernel_rfl) Tryz.func65 (by kernel_rfl) (by kernel_rfl) (by kernel_rfl) ?_
  refine hA.mono ?_
  rintro e w5 ⟨rfl, h5⟩
  refine ⟨_, rfl, hAS _ h5, fun hHeld => ?_⟩
  refine Rg.call (ops := (Rg.opsOf Tryz.f36 7)) (fn := Tryz.f55) (xs := #[Operand.tmp 28]) (ats := #[9]) 4 (some 29) 55 #[(.string key)] (by kernel_rfl) (by kernel_rfl) (by kernel_rfl) (by kernel_rfl) (by kernel_rfl) Tryz.func55 (by kernel_rfl) (by kernel_rfl) (by kernel_rfl) ?_
  refine (hB _ h5).mono ?_
  rintro e w6 ⟨rfl, h6⟩
  refine ⟨_, rfl, hBS _ h6, fun hHeld => ?_⟩
  refine Rg.call (ops := (Rg.opsOf Tryz.f36 7)) (fn := Tryz.f55) (xs := #[Operand.tmp 31]) (ats := #[9]) 7 (some 32) 55 #[(.string val)] (by kernel_rfl) (by kernel_rfl) (by kernel_rfl) (by kernel_rfl) (by kernel_rfl) Tryz.func55 (by kernel_rfl) (by kernel_rfl) (by kernel_rfl) ?_
  refine (hC _ h6).mono ?_
  rintro e w7 ⟨rfl, h7⟩
  refine ⟨_, rfl, hCS _ h7, fun hHeld => ?_⟩
  refine Rg.bld (ops := (Rg.opsOf Tryz.f36 7)) 8 (some 33) (T := 45) (len := 3) (parts := #[(0, Operand.tmp 26), (1, Operand.tmp 29), (2, Operand.tmp 32)]) (vs := #[(0, (.string n0)), (1, (.string k1)), (2, (.string v1))]) (v := (.slice (some ⟨w7.heap.size, 0, none⟩) 3 3)) (w1 := w7.alloc (.cells #[(.string n0), (.string k1), (.string v1)] 9)) (by kernel_rfl) (by kernel_rfl) (by kernel_rfl) (by kernel_rfl) (by kernel_rfl) (by kernel_rfl) ?_ (hES _ h7) (fun hHeld => ?_)
  · (clear hHeld; go_simp)
  refine Rg.app1 (ops := (Rg.opsOf Tryz.f36 7)) 9 (some 34) (T := 45) (x := (Operand.tmp 25)) (y := (Operand.tmp 33)) (vx := vp) (vy := (.slice (some ⟨w7.heap.size, 0, none⟩) 3 3)) (by kernel_rfl) (by kernel_rfl) (by kernel_rfl) (by kernel_rfl) (by kernel_rfl) (by kernel_rfl) (by kernel_rfl) ?_
  intro ty
  obtain ⟨v8, w8, hr8, h8⟩ := hE _ h7 ty
  refine ⟨v8, w8, hr8, hGS _ _ h8, fun hHeld => ?_⟩
  refine Rg.take (ops := (Rg.opsOf Tryz.f36 7)) 10 (some 3) (v8) hNS (by kernel_rfl) (by kernel_rfl) (by kernel_rfl) (by kernel_rfl) (by kernel_rfl) hHeld (Rg.y_move (x := (Operand.tmp 34)) (Or.inr (by kernel_rfl)) (by kernel_rfl)) ?_
  refine Rg.done (ops := (Rg.opsOf Tryz.f36 7)) (by kernel_rfl) ?_
  exact ⟨w7.heap.size, v8, by kernel_rfl, h8⟩
end Go.Proofs.YtdfcbnejnnibpaaGreatDoor.Tb

namespace Go.Proofs.YtdfcbnejnnibpaaGreatDoor.Tb
open Go.RowKit Tx Pm Dk Wm Wr
set_option linter.unusedVariables false
set_option linter.unusedSimpArgs false
set_option linter.unnecessarySimpa false
set_option maxRecDepth 100000 in
theorem bNumber_any (n : Nat) (w : World) (h : n ≤ 9223372036854775807) :
    Calls Tryz.prog 65 #[.int .i64 n] w fun e w' => e = .returned (.string (vs n)) ∧ Below w.heap.size w w' := by
  have c := fun W => putUint_any (n : Int) W (by omega) (by omega)
  have e1 : us (n : Int) = vs n := by unfold us; rw [if_neg (by omega), Int.toNat_natCast]
  have e2 : ue (n : Int) = 0 := by unfold ue; rw [if_neg (by omega)]
  rw [e1, e2] at c
  clear e1 e2
  go_enter Tryz.func65, Tryz.ntmps65
  go_wp2_with (go_at_call 53; refine (c _).mono ?_; rintro e w1 ⟨rfl, hb⟩)
  go_ret
  exact ⟨rfl, hb⟩
theorem info9r : (Tryz.prog.info? 9).map (fun i => (i.zero, i.size, i.bytes)) = some (some (.string ⟨#[]⟩), 1, 16) := by kernel_rfl
def recK (l : List Ch) (k : Nat) : List ByteArray := vs l.length :: (l.take k).flatMap parts
theorem recK_all (l : List Ch) (k : Nat) (h : l.length ≤ k) : recK l k = recP l := by unfold recK recP; rw [List.take_of_length_le h]
theorem recK_succ {l : List Ch} {k : Nat} {x : Ch} (h : l[k]? = some x) : recK l (k + 1) = recK l k ++ parts x := by
  have hk := (List.getElem?_eq_some_iff.1 h).1
  unfold recK
  rw [List.take_succ_eq_append_getElem hk, List.flatMap_append, List.cons_append]
  rw [List.getElem?_eq_getElem hk] at h
  injection h with h
  rw [h]
  simp
theorem parts_le (x : Ch) : (parts x).length ≤ 3 := by unfold parts; split <;> simp
theorem recK_len (l : List Ch) : ∀ k, (recK l k).length ≤ 3 * k + 1 := by
  intro k
  unfold recK
  rw [List.length_cons]
  have : ∀ m : List Ch, (m.flatMap parts).length ≤ 3 * m.length := fun m => by
    induction m with
    | nil => exact Nat.le_refl _
    | cons x m ih => rw [List.flatMap_cons, List.length_append, List.length_cons]; have := parts_le x; omega
  have h1 := this (l.take k)
  have h2 : (l.take k).length ≤ k := by rw [List.length_take]; omega
  omega
theorem app_texts {W0 W : World} {B T : Nat} {v : Value} {l news : List ByteArray} (hO : W.ownsRow B 9 1 v T (l.map sv)) (hT : T + news.length ≤ 1000000000000) (hB : B ≤ W.heap.size) (h0 : B ≤ W0.heap.size) (hb : Below B W0 W) :
    ∀ ty, ∃ v' w', (Builtin.append_ #[45, 45] ty #[v, .slice (some ⟨W.heap.size, 0, none⟩) news.length news.length]).run Tryz.prog (W.alloc (.cells (news.map sv).toArray 9)) = .ok v' w' ∧
      w'.ownsRow B 9 1 v' (T + news.length) ((l ++ news).map sv) ∧ Below B W0 w' ∧ (W.alloc (.cells (news.map sv).toArray 9)).grownBy w' v.ownBlock := by
  intro ty
  obtain ⟨i0, hi, hz0, hz1, hz2⟩ := info_parts info9r
  have hO2 := hO.alloc (.cells (news.map sv).toArray 9)
  obtain ⟨v', w', hr, h1, h2, _⟩ := run_append_own (P := Tryz.prog) (W.alloc (.cells (news.map sv).toArray 9)) B 45 ty 9 i0 (.string ⟨#[]⟩) 1 16 Tryz.underlying45 hi hz0 hz1 hz2 rfl (by decide) v T (l.map sv) hO2
    ⟨W.heap.size, 0, none⟩ news.length news.length (news.map sv) (by simp) (fun j u hu => by
      rw [WideShapes.add_plain, Nat.zero_add, World.cell?_alloc_at _ _ _ _ rfl]
      simpa using hu) (sv_one news) (by unfold maxLen; omega) (by omega) (by simp; omega)
  refine ⟨v', w', hr, by rw [List.map_append]; exact h1, (hb.alloc hB _).grown h2 (by simp; omega) (fun k hk => (hO.lt k hk).1), h2⟩
theorem lit_texts (W : World) (B : Nat) (x : ByteArray) (hB : B ≤ W.heap.size) : (W.alloc (.cells #[.string x] 9)).ownsRow B 9 1 (.slice (some ⟨W.heap.size, 0, none⟩) 1 1) 1 ([x].map sv) :=
  ⟨rfl, .inr ⟨W.heap.size, 1, #[.string x], rfl, hB, heap_alloc_new W _, Nat.le_refl _, by unfold maxLen; omega, rfl, rfl⟩⟩
set_option maxRecDepth 100000 in
set_option maxHeartbeats 4000000 in
theorem record_any (a : Option Addr) (n c : Nat) (l : List Ch) (w : World) (h : Opl w a n l) (hw : wt l ≤ 100000000000) (hc : n ≤ c) :
    Calls Tryz.prog 36 #[.slice a n c] w fun e w' => e = .returned (.string (rec7 l)) ∧ Below w.heap.size w w' := by
  have hln := h.1
  have hwl := wt_len l
  have HO := Lib.hid (fun W (hW : Below w.heap.size w W) => h.below hW)
  have HL := Lib.hid hln
  have HW := Lib.hid hw
  have hn : n ≤ 2500000000 := by omega
  have cnum := fun W => bNumber_any n W (by omega)
  clear h hln hwl hw
  go_enter Tryz.func36, Tryz.ntmps36
  go_wp2_with (go_at_call 65; refine (cnum _).mono ?_; rintro e w1 ⟨rfl, hb1⟩)
  go_loopw [3, 12] (fun v i wr => ∃ k T : Nat, k ≤ n ∧ i = .int .i64 k ∧ Hid ((recK l k).length = T) ∧ T ≤ 10000000000 ∧ wr.ownsRow w.heap.size 9 1 v T ((recK l k).map sv) ∧ Below w.heap.size w wr) (fun _ i _ => n - (intOf i).toNat)
  case atStart =>
    have hlen : vs n = vs l.length := by rw [HL.out]
    exact ⟨0, 1, Nat.zero_le _, rfl, rfl, by omega, by rw [hlen]; exact lit_texts _ _ _ hb1.size, hb1.alloc hb1.size _⟩
  case round =>
    obtain ⟨k, T, hk, rfl, hT, hTm, hown, hB⟩ := hrel
    by_cases hlt : k < n
    · obtain ⟨x, hx⟩ : ∃ x, l[k]? = some x := ⟨_, List.getElem?_eq_getElem (by rw [HL.out]; exact hlt)⟩
      obtain ⟨g, off, rfl, hg, g0, g1, g2⟩ := (HO.out _ hB).nth hx
      have hkz : (k : Int) < (n : Int) := by omega
      have hsx := wt_mem (List.mem_of_getElem? hx)
      have hwx := HW.out
      have hks : x.key.size ≤ 100000000000 := by omega
      have hvs : x.val.size ≤ 100000000000 := by omega
      have hrk := recK_succ hx
      have hlk := recK_len l (k + 1)
      obtain ⟨key, val, gone⟩ := x
      simp only at g0 g1 g2 hks hvs
      have HR := Lib.hid hrk
      have HLK := Lib.hid hlk
      clear hx hsx hwx hrk hlk
      have hW2 : Below wr.heap.size wr (wr.alloc (.cells #[.string key, .string val, .bool gone] 102)) := (Below.refl _ wr).alloc (Nat.le_refl _) _
      have hB2 := hB.alloc hB.size (.cells #[.string key, .string val, .bool gone] 102)
      have hO2 := hown.alloc (.cells #[.string key, .string val, .bool gone] 102)
      have hlt2 : wr.heap.size < (wr.alloc (.cells #[.string key, .string val, .bool gone] 102)).heap.size := by simp
      cases gone
      · have hC3 : Cells3 wr.heap.size key val false (wr.alloc (.cells #[.string key, .string val, .bool false] 102)) := cells3_new wr ⟨key, val, false⟩ _
        have hp : parts ⟨key, val, false⟩ = [vs 1, ts key, ts val] := rfl
        have HP := Lib.hid hp
        clear hp
        go_wp2_with fail
        generalize wr.alloc (.cells #[.string key, .string val, .bool false] 102) = W2 at hW2 hB2 hO2 hC3 hlt2 ⊢
        have hES : ∀ W, Below W2.heap.size W2 W → Cells3 wr.heap.size key val false (W.alloc (.cells ([vs 1, ts key, ts val].map sv).toArray 9)) := fun W hW => cells3_alloc (cells3_below hC3 hW hlt2) (Nat.lt_of_lt_of_le hlt2 hW.size) _
        have hE : ∀ W, Below W2.heap.size W2 W → ∀ ty, ∃ v w1, (Builtin.append_ #[45, 45] ty #[u3, .slice (some ⟨W.heap.size, 0, none⟩) 3 3]).run Tryz.prog (W.alloc (.cells ([vs 1, ts key, ts val].map sv).toArray 9)) = .ok v w1 ∧
            (w1.ownsRow w.heap.size 9 1 v (T + 3) ((recK l k ++ [vs 1, ts key, ts val]).map sv) ∧ Below w.heap.size w w1 ∧ Cells3 wr.heap.size key val false w1) := fun W hW ty => by
          obtain ⟨v', w', hr, h1, h2, h3⟩ := app_texts (news := [vs 1, ts key, ts val]) (row_below hO2 hW) (by show T + 3 ≤ _; omega) (Tx.below_call hB2 hW).size (Nat.le_refl _) (Tx.below_call hB2 hW) ty
          exact ⟨v', w', hr, h1, h2, cells3_grown (hES W hW) h3 (fun e => by have := (hown.lt _ e.symm).2; omega)⟩
        refine Rg.wp_only ?_ (recGive _ (by kernel_rfl) _ wr.heap.size key val (vs 1) (ts key) (ts val) false u3 _ (fun W => Below W2.heap.size W2 W) (fun W => Below W2.heap.size W2 W) (fun W => Below W2.heap.size W2 W) _ hC3
          ((bNumber_any 1 _ (by omega)).mono fun e w' hh => ⟨hh.1, Tx.below_call (Below.refl _ W2).drew hh.2⟩) (fun W hW => cells3_below hC3 hW hlt2)
          (fun W hW => (putText_any key W (by omega)).mono fun e w' hh => ⟨hh.1, Tx.below_call hW hh.2⟩) (fun W hW => cells3_below hC3 hW hlt2) (fun W hW => (putText_any val W (by omega)).mono fun e w' hh => ⟨hh.1, Tx.below_call hW hh.2⟩) (fun W hW => cells3_below hC3 hW hlt2) hES hE (fun v W h => h.2.2))
        rintro _ w8 ⟨z8, v8, rfl, hO8, hB8, _⟩
        have hO9 : w8.ownsRow w.heap.size 9 1 v8 (T + 3) ((recK l (k + 1)).map sv) := by rw [HR.out, HP.out]; exact hO8
        have hlen : (recK l (k + 1)).length = T + 3 := by rw [HR.out, HP.out, List.length_append, hT.out]; rfl
        have hTb : T + 3 ≤ 10000000000 := by have := HLK.out; omega
        clear hE hES hO8 hC3 hO2 hB2 hown hB hW2
        go_wp2_with fail
        go_roundw
        case rel => exact ⟨k + 1, T + 3, by omega, by go_num, hlen, hTb, hO9, hB8⟩
        case measure => simp [intOf]; omega
      · have hC3 : Cells3 wr.heap.size key val true (wr.alloc (.cells #[.string key, .string val, .bool true] 102)) := cells3_new wr ⟨key, val, true⟩ _
        have hp : parts ⟨key, val, true⟩ = [vs 0, ts key] := rfl
        have HP := Lib.hid hp
        clear hp
        go_wp2_with fail
        generalize wr.alloc (.cells #[.string key, .string val, .bool true] 102) = W2 at hW2 hB2 hO2 hC3 hlt2 ⊢
        have hES : ∀ W, Below W2.heap.size W2 W → Cells3 wr.heap.size key val true (W.alloc (.cells ([vs 0, ts key].map sv).toArray 9)) := fun W hW => cells3_alloc (cells3_below hC3 hW hlt2) (Nat.lt_of_lt_of_le hlt2 hW.size) _
        have hE : ∀ W, Below W2.heap.size W2 W → ∀ ty, ∃ v w1, (Builtin.append_ #[45, 45] ty #[u3, .slice (some ⟨W.heap.size, 0, none⟩) 2 2]).run Tryz.prog (W.alloc (.cells ([vs 0, ts key].map sv).toArray 9)) = .ok v w1 ∧
            (w1.ownsRow w.heap.size 9 1 v (T + 2) ((recK l k ++ [vs 0, ts key]).map sv) ∧ Below w.heap.size w w1 ∧ Cells3 wr.heap.size key val true w1) := fun W hW ty => by
          obtain ⟨v', w', hr, h1, h2, h3⟩ := app_texts (news := [vs 0, ts key]) (row_below hO2 hW) (by show T + 2 ≤ _; omega) (Tx.below_call hB2 hW).size (Nat.le_refl _) (Tx.below_call hB2 hW) ty
          exact ⟨v', w', hr, h1, h2, cells3_grown (hES W hW) h3 (fun e => by have := (hown.lt _ e.symm).2; omega)⟩
        refine Rg.wp_only ?_ (recGone _ (by kernel_rfl) _ wr.heap.size key val (vs 0) (ts key) true u3 _ (fun W => Below W2.heap.size W2 W) (fun W => Below W2.heap.size W2 W) (fun W => Below W2.heap.size W2 W) _ hC3
          ((bNumber_any 0 _ (by omega)).mono fun e w' hh => ⟨hh.1, Tx.below_call (Below.refl _ W2).drew hh.2⟩) (fun W hW => cells3_below hC3 hW hlt2)
          (fun W hW => (putText_any key W (by omega)).mono fun e w' hh => ⟨hh.1, Tx.below_call hW hh.2⟩) (fun W hW => cells3_below hC3 hW hlt2) hES hE (fun v W h => h.2.2))
        rintro _ w8 ⟨z8, v8, rfl, hO8, hB8, _⟩
        have hO9 : w8.ownsRow w.heap.size 9 1 v8 (T + 2) ((recK l (k + 1)).map sv) := by rw [HR.out, HP.out]; exact hO8
        have hlen : (recK l (k + 1)).length = T + 2 := by rw [HR.out, HP.out, List.length_append, hT.out]; rfl
        have hTb : T + 2 ≤ 10000000000 := by have := HLK.out; omega
        clear hE hES hO8 hC3 hO2 hB2 hown hB hW2
        go_wp2_with fail
        go_roundw
        case rel => exact ⟨k + 1, T + 2, by omega, by go_num, hlen, hTb, hO9, hB8⟩
        case measure => simp [intOf]; omega
    · obtain rfl : k = n := by omega
      have hall := recK_all l k (by rw [HL.out]; exact Nat.le_refl _)
      have hO2 : Texts wr w.heap.size u3 (recP l) := by
        unfold Texts
        rw [← hall, hT.out]
        exact hown
      obtain ⟨a2, c2, hv, hst, hc2, _⟩ := hO2.form
      have hlenT : (recP l).length = T := by rw [← hall]; exact hT.out
      rw [hlenT] at hv hst hc2
      obtain ⟨_, hne⟩ := hst
      obtain ⟨b2, off2, rfl, hb2, hcc⟩ := hne.resolve_left (by rw [← hT.out]; unfold recK; simp)
      have hsz : (cat (recP l)).size ≤ 140737488355328 := by
        have h1 := rec7_le (l := l) (by have := HW.out; omega)
        have h2 := HW.out
        unfold rec7 at h1
        omega
      have cj := join_any b2 off2 c2 (recP l) wr (fun j x hj => hcc j x hj) hb2 (by rw [hlenT]; omega) (by rw [hlenT]; exact hc2) hsz
      rw [hlenT] at cj
      have hr7 : cat (recP l) = rec7 l := rfl
      rw [hr7] at cj
      clear hall hO2 hcc hsz hr7 hown hT
      subst hv
      go_wp2_with (go_at_call 54; refine cj.mono ?_; rintro e w2 ⟨rfl, hb3⟩)
      go_ret
      exact ⟨rfl, Tx.below_call hB hb3⟩
end Go.Proofs.YtdfcbnejnnibpaaGreatDoor.Tb

namespace Go.Proofs.YtdfcbnejnnibpaaGreatDoor.Dk
open Go.RowKit Tx Pm Pl Pr
set_option linter.unusedVariables false
set_option maxRecDepth 100000 in
set_option maxHeartbeats 2000000 in
theorem regAppend (ops : Array Oper) (hops : ops = (Rg.opsOf Tryz.f62 1)) (id : Nat) (bd bp bq : Nat) (dv : Value) (p q : ByteArray) (r X : Nat) {u0 u1 u2 u6 u7 u8 u9 u10 u11 u12 u13 : Value} (w : World) (A B : World → Prop)
    (hS : (fun W => Cap W bd dv ∧ Cap W bp (.string p) ∧ Cap W bq (.string q)) w.drew) (hm : Calls Tryz.prog 95 #[dv, .string p, .string q] w.drew fun e w' => e = .returned (.int .i64 (r : Nat)) ∧ A w') (hAS : ∀ W, A W → (fun W => Cap W bd dv ∧ Cap W bp (.string p) ∧ Cap W bq (.string q)) W)
    (hst : ∀ W, A W → Calls Tryz.prog 42 #[dv, .int .i64 (r : Nat), .func (.func 96) #[] #[.pointer (some ⟨bd, 0, none⟩), .pointer (some ⟨bp, 0, none⟩), .pointer (some ⟨bq, 0, none⟩)]] W fun e w' => e = .returned (.int .i64 (X : Nat)) ∧ B w') (hBS : ∀ W, B W → (fun W => Cap W bd dv ∧ Cap W bp (.string p) ∧ Cap W bq (.string q)) W) :
    (Code.region id ops true).wp Tryz.prog (Rg.Only fun a' w' => a' = ⟨#[u0, u1, u2, (.pointer (some ⟨bd, 0, none⟩)), (.pointer (some ⟨bp, 0, none⟩)), (.pointer (some ⟨bq, 0, none⟩)), (.int .i64 (X : Nat)), dv, dv, (.string p), (.string q), (.int .i64 (r : Nat)), .func (Fn.func 96) #[] #[(.pointer (some ⟨bd, 0, none⟩)), (.pointer (some ⟨bp, 0, none⟩)), (.pointer (some ⟨bq, 0, none⟩))], (.int .i64 (X : Nat))], []⟩ ∧ B w') ⟨#[u0, u1, u2, (.pointer (some ⟨bd, 0, none⟩)), (.pointer (some ⟨bp, 0, none⟩)), (.pointer (some ⟨bq, 0, none⟩)), u6, u7, u8, u9, u10, u11, u12, u13], []⟩ w := by
  subst hops
  have hNS : Region.noSelect (Rg.opsOf Tryz.f62 1) = true := by kernel_rfl
  refine wp_region_held_drew (S := (fun W => Cap W bd dv ∧ Cap W bp (.string p) ∧ Cap W bq (.string q))) (by kernel_rfl) hS (fun hHeld => ?_)
  rw [show (Rg.opsOf Tryz.f62 1).size = 8 by kernel_rfl]
  refine Rg.take (ops := (Rg.opsOf Tryz.f62 1)) 0 (some 7) (dv) hNS (by kernel_rfl) (by kernel_rfl) (by kernel_rfl) (by kernel_rfl) (by kernel_rfl) hHeld (Rg.y_load (T := 27) (x := (Operand.tmp 3)) (vx := (.pointer (some ⟨bd, 0, none⟩))) (by kernel_rfl) (by kernel_rfl) ?_) ?_
  · (intro w hSw; obtain ⟨s0, s1, s2⟩ := hSw; unfold Cap at *; go_simp)
  refine Rg.take (ops := (Rg.opsOf Tryz.f62 1)) 1 (some 8) (dv) hNS (by kernel_rfl) (by kernel_rfl) (by kernel_rfl) (by kernel_rfl) (by kernel_rfl) hHeld (Rg.y_load (T := 27) (x := (Operand.tmp 3)) (vx := (.pointer (some ⟨bd, 0, none⟩))) (by kernel_rfl) (by kernel_rfl) ?_) ?_
  · (intro w hSw; obtain ⟨s0, s1, s2⟩ := hSw; unfold Cap at *; go_simp)
  refine Rg.take (ops := (Rg.opsOf Tryz.f62 1)) 2 (some 9) ((.string p)) hNS (by kernel_rfl) (by kernel_rfl) (by kernel_rfl) (by kernel_rfl) (by kernel_rfl) hHeld (Rg.y_load (T := 9) (x := (Operand.tmp 4)) (vx := (.pointer (some ⟨bp, 0, none⟩))) (by kernel_rfl) (by kernel_rfl) ?_) ?_
  · (intro w hSw; obtain ⟨s0, s1, s2⟩ := hSw; unfold Cap at *; go_simp)
  refine Rg.take (ops := (Rg.opsOf Tryz.f62 1)) 3 (some 10) ((.string q)) hNS (by kernel_rfl) (by kernel_rfl) (by kernel_rfl) (by kernel_rfl) (by kernel_rfl) hHeld (Rg.y_load (T := 9) (x := (Operand.tmp 5)) (vx := (.pointer (some ⟨bq, 0, none⟩))) (by kernel_rfl) (by kernel_rfl) ?_) ?_
  · (intro w hSw; obtain ⟨s0, s1, s2⟩ := hSw; unfold Cap at *; go_simp)
  refine Rg.take (ops := (Rg.opsOf Tryz.f62 1)) 5 (some 12) (.func (Fn.func 96) #[] #[(.pointer (some ⟨bd, 0, none⟩)), (.pointer (some ⟨bp, 0, none⟩)), (.pointer (some ⟨bq, 0, none⟩))]) hNS (by kernel_rfl) (by kernel_rfl) (by kernel_rfl) (by kernel_rfl) (by kernel_rfl) hHeld (Rg.y_func (f := Fn.func 96) (xs := #[]) (ys := #[Operand.tmp 3, Operand.tmp 4, Operand.tmp 5]) (vs := #[]) (us := #[(.pointer (some ⟨bd, 0, none⟩)), (.pointer (some ⟨bp, 0, none⟩)), (.pointer (some ⟨bq, 0, none⟩))]) (by kernel_rfl) (by kernel_rfl) (by kernel_rfl)) ?_
  refine Rg.call (ops := (Rg.opsOf Tryz.f62 1)) (fn := Tryz.f95) (xs := #[Operand.tmp 8, Operand.tmp 9, Operand.tmp 10]) (ats := #[27, 9, 9]) 4 (some 11) 95 #[dv, (.string p), (.string q)] (by kernel_rfl) (by kernel_rfl) (by kernel_rfl) (by kernel_rfl) (by kernel_rfl) Tryz.func95 (by kernel_rfl) (by kernel_rfl) (by kernel_rfl) ?_
  refine hm.mono ?_
  rintro e w5 ⟨rfl, hA5⟩
  refine ⟨_, rfl, hAS _ hA5, fun hHeld => ?_⟩
  refine Rg.call (ops := (Rg.opsOf Tryz.f62 1)) (fn := Tryz.f42) (xs := #[Operand.tmp 7, Operand.tmp 11, Operand.tmp 12]) (ats := #[27, 24, 1]) 6 (some 13) 42 #[dv, (.int .i64 (r : Nat)), .func (Fn.func 96) #[] #[(.pointer (some ⟨bd, 0, none⟩)), (.pointer (some ⟨bp, 0, none⟩)), (.pointer (some ⟨bq, 0, none⟩))]] (by kernel_rfl) (by kernel_rfl) (by kernel_rfl) (by kernel_rfl) (by kernel_rfl) Tryz.func42 (by kernel_rfl) (by kernel_rfl) (by kernel_rfl) ?_
  refine (hst _ hA5).mono ?_
  rintro e w6 ⟨rfl, hB6⟩
  refine ⟨_, rfl, hBS _ hB6, fun hHeld => ?_⟩
  refine Rg.take (ops := (Rg.opsOf Tryz.f62 1)) 7 (some 6) ((.int .i64 (X : Nat))) hNS (by kernel_rfl) (by kernel_rfl) (by kernel_rfl) (by kernel_rfl) (by kernel_rfl) hHeld (Rg.y_move (x := (Operand.tmp 13)) (Or.inr (by kernel_rfl)) (by kernel_rfl)) ?_
  refine Rg.done (ops := (Rg.opsOf Tryz.f62 1)) (by kernel_rfl) ?_
  exact ⟨by kernel_rfl, hB6⟩
end Go.Proofs.YtdfcbnejnnibpaaGreatDoor.Dk

namespace Go.Proofs.YtdfcbnejnnibpaaGreatDoor.Dk
open Go.RowKit Tx Pm Pl Pr
set_option linter.unusedVariables false
def mayAppendS (s : St) (p d : ByteArray) : Nat := if there s p ≠ 0 then there s p else if full s (vol p) d.size = true then 13 else 0
set_option maxRecDepth 100000 in
set_option maxHeartbeats 1000000 in
theorem iMayAppend_any (b bi bl : Nat) (l : Int) (s : St) (p d : ByteArray) (w : World) (h : Ia b bi bl l w s) (hR : Rises s.L) (hf : Fit s) (hp : p.size ≤ 8000000000000) (hd : d.size ≤ 1000000000000000000) :
    Calls Tryz.prog 95 #[.pointer (some ⟨b, 0, none⟩), .string p, .string d] w fun e w' => e = .returned (.int .i64 (mayAppendS s p d : Nat)) ∧ Below w.heap.size w w' := by
  have c1 := iMaySync_any b bi bl l s p w h hp
  have hv := vol_le p
  have c3 := fun W (hW : Below w.heap.size w W) => iFull_any b bi bl l s (vol p) (d.size : Int) W (h.below hW) hR hf (by omega) (by omega)
  have c4 := fun W => iVol_any p W hp
  unfold mayAppendS
  generalize full s (vol p) (d.size : Int) = B at c3 ⊢
  generalize there s p = E at c1 ⊢
  generalize vol p = V at c3 c4
  clear h hv hf hR
  by_cases hE : E = 0
  · subst hE
    rw [if_neg (by decide)]
    cases B with
    | true =>
      rw [if_pos rfl]
      go_enter Tryz.func95, Tryz.ntmps95
      go_wp2_with (first | (go_at_call 98; refine c1.mono ?_; rintro e w1 ⟨rfl, hb1⟩) | (go_at_call 138; refine (c4 _).mono ?_; rintro e w2 ⟨rfl, n2, rfl⟩; have hb2 := below_call hb1 (below_drewN _ n2)) | (go_at_call 137; refine (c3 _ hb2).mono ?_; rintro e w3 ⟨rfl, hb3⟩))
      go_ret
      exact ⟨rfl, below_call hb2 hb3⟩
    | false =>
      rw [if_neg (by decide)]
      go_enter Tryz.func95, Tryz.ntmps95
      go_wp2_with (first | (go_at_call 98; refine c1.mono ?_; rintro e w1 ⟨rfl, hb1⟩) | (go_at_call 138; refine (c4 _).mono ?_; rintro e w2 ⟨rfl, n2, rfl⟩; have hb2 := below_call hb1 (below_drewN _ n2)) | (go_at_call 137; refine (c3 _ hb2).mono ?_; rintro e w3 ⟨rfl, hb3⟩))
      go_ret
      exact ⟨rfl, below_call hb2 hb3⟩
  · rw [if_pos hE]
    have e1 := ne_eq hE
    clear hE
    go_enter Tryz.func95, Tryz.ntmps95
    go_wp2_with (first | (go_at_call 98; refine c1.mono ?_; rintro e w1 ⟨rfl, hb1⟩) | (go_at_call 138; refine (c4 _).mono ?_; rintro e w2 ⟨rfl, n2, rfl⟩; have hb2 := below_call hb1 (below_drewN _ n2)) | (go_at_call 137; refine (c3 _ hb2).mono ?_; rintro e w3 ⟨rfl, hb3⟩))
    go_ret
    exact ⟨rfl, hb1⟩
end Go.Proofs.YtdfcbnejnnibpaaGreatDoor.Dk

namespace Go.Proofs.YtdfcbnejnnibpaaGreatDoor.Dk
open Go.RowKit Tx Pm Pl Pr
set_option linter.unusedVariables false
set_option maxRecDepth 100000 in
set_option maxHeartbeats 2000000 in
theorem iAppendC_any (b bi bl bd bp bq : Nat) (l : Int) (s : St) (p d : ByteArray) (w : World) (h : Ia b bi bl l w s) (hd : Cap w bd (.pointer (some ⟨b, 0, none⟩))) (hp : Cap w bp (.string p)) (hq : Cap w bq (.string d)) (hps : p.size ≤ 8000000000000) (hn : s.L.length ≤ 1000000000) (hst : s.stamps ≤ 1000000000000)
    (ho : kind s.L p = 2) (hca : (old s.L p).loose = false → (old s.L p).anew = false) (hsz : (old s.L p).data.size + d.size ≤ 1000000000000000000) :
    Calls Tryz.prog 96 #[.pointer (some ⟨bd, 0, none⟩), .pointer (some ⟨bp, 0, none⟩), .pointer (some ⟨bq, 0, none⟩)] w fun e w' => e = .returned (.tuple #[]) ∧ Ip b bi bl w (putS s { old s.L p with data := (old s.L p).data ++ d, loose := true }) w' := by
  obtain ⟨c0, _⟩ := h.cell
  unfold Cap at hd hp hq
  have hbd : bd < w.heap.size := World.block_lt_of_cell? w _ hd
  have hbp : bp < w.heap.size := World.block_lt_of_cell? w _ hp
  have hbq : bq < w.heap.size := World.block_lt_of_cell? w _ hq
  have hb : b < w.heap.size := h.lt b (.inl rfl)
  have hl := (h.below (Below.refl _ w).drew).look (maxLen_of hps)
  have hl2 := fun o => (h.below ((Below.refl _ w).alloc (Nat.le_refl _) o).drew).look (maxLen_of hps)
  rw [ho] at hl hl2
  have hod : (old s.L p).dir = false := old_dir (by omega)
  have hst2 : stOf { old s.L p with data := (old s.L p).data ++ d, loose := true } = if stOf (old s.L p) = 0 then 1 else stOf (old s.L p) := by
    unfold stOf
    cases hlo : (old s.L p).loose with
    | false =>
      rw [hca hlo]
      rfl
    | true => cases (old s.L p).anew <;> rfl
  have hst3 : stOf (old s.L p) = 0 ∨ stOf (old s.L p) = 1 ∨ stOf (old s.L p) = 2 := by
    unfold stOf
    cases (old s.L p).loose <;> cases (old s.L p).anew <;> simp
  have cs := fun W (hW : Below w.heap.size w W) => iSet_any b bi bl l s { old s.L p with data := (old s.L p).data ++ d, loose := true } (old s.L p).stamp p W (h.below hW) (old_path _ _) hps hn hst
  rw [show kOf { old s.L p with data := (old s.L p).data ++ d, loose := true } = 2 from kOf_file hod, hst2] at cs
  simp only at cs
  have HE := Lib.hid (fun W w' (hW : Below w.heap.size w W) (hh : Ip b bi bl W (putS s { old s.L p with data := (old s.L p).data ++ d, loose := true }) w') => Ip.after hW hh)
  generalize (putS s { old s.L p with data := (old s.L p).data ++ d, loose := true }) = s' at cs HE ⊢
  generalize (old s.L p).data = X0 at hl hl2 cs hsz
  generalize (old s.L p).kept = X1 at hl hl2 cs
  generalize ((old s.L p).stamp : Int) = X3 at hl hl2 cs
  generalize stOf (old s.L p) = X2 at hl hl2 cs hst3
  clear h ho hca hod hst2
  have hBW : ∀ o, Below w.heap.size w (w.alloc o).drew := fun o => ((Below.refl _ w).alloc (Nat.le_refl _) o).drew
  have HC := Lib.hid cs
  have HB := Lib.hid hBW
  clear cs hBW
  rcases hst3 with rfl | rfl | rfl
  · go_enter Tryz.func96, Tryz.ntmps96
    go_wp2
    go_region
    all_goals go_wp2_with (go_at_call 97; refine (HC.out _ (HB.out _)).mono ?_; rintro e w5 ⟨rfl, h5⟩)
    all_goals (go_end0; exact ⟨rfl, HE.out _ _ (HB.out _) h5⟩)
  · go_enter Tryz.func96, Tryz.ntmps96
    go_wp2
    go_region
    all_goals go_wp2_with (go_at_call 97; refine (HC.out _ (HB.out _)).mono ?_; rintro e w5 ⟨rfl, h5⟩)
    all_goals (go_end0; exact ⟨rfl, HE.out _ _ (HB.out _) h5⟩)
  · go_enter Tryz.func96, Tryz.ntmps96
    go_wp2
    go_region
    all_goals go_wp2_with (go_at_call 97; refine (HC.out _ (HB.out _)).mono ?_; rintro e w5 ⟨rfl, h5⟩)
    all_goals (go_end0; exact ⟨rfl, HE.out _ _ (HB.out _) h5⟩)
end Go.Proofs.YtdfcbnejnnibpaaGreatDoor.Dk

namespace Go.Proofs.YtdfcbnejnnibpaaGreatDoor.Dk
open Go.RowKit Tx Pm Pl Pr
set_option linter.unusedVariables false
theorem append_step {s : St} (hg : Good s) (p d : ByteArray) : appendS s p d = stepR s (mayAppendS s p d) (putS (done s).2 { old s.L p with data := (old s.L p).data ++ d, loose := true }) := by
  unfold appendS mayAppendS stepR
  rw [fits_full hg]
  by_cases h1 : there s p ≠ 0
  · rw [if_pos h1, if_pos h1, if_pos h1]
  · rw [if_neg h1, if_neg h1]
    cases full s (vol p) (d.size : Int) with
    | true => rfl
    | false => rfl
theorem mayAppend_ok {s : St} {p d : ByteArray} (h : mayAppendS s p d = 0) : s.down = false ∧ kind s.L p = 2 := by
  unfold mayAppendS at h
  split at h
  · rename_i h1; exact absurd h h1
  · rename_i h1; exact there_kind (by omega)
set_option maxRecDepth 100000 in
set_option maxHeartbeats 2000000 in
theorem iAppend_any (b bi bl : Nat) (l : Int) (s : St) (p q : ByteArray) (w : World) (h : Ia b bi bl l w s) (hg : Good s) (ok : Ok s) (hp : p.size ≤ 8000000000000) (hq : q.size ≤ 1000000000000000000) (hsz : (old s.L p).data.size + q.size ≤ 1000000000000000000) :
    Calls Tryz.prog 62 #[.pointer (some ⟨b, 0, none⟩), .string p, .string q] w fun e w' => e = .returned (.int .i64 ((appendS s p q).1 : Nat)) ∧ Ip b bi bl w (appendS s p q).2 w' := by
  have hft := h.lt
  have hn := ok.fit.1
  have hst : (done s).2.stamps ≤ 1000000000000 := by rw [done_stamps]; exact ok.stamps
  have eL := done_L s
  rw [append_step hg]
  obtain ⟨S', hS'⟩ : ∃ S', S' = putS (done s).2 { old s.L p with data := (old s.L p).data ++ q, loose := true } := ⟨_, rfl⟩
  rw [← hS']
  have hb1 := (Below.refl w.heap.size w).alloc (Nat.le_refl _) (.cells #[.pointer (some ⟨b, 0, none⟩)] 27)
  have k1 := cap_new w (.pointer (some ⟨b, 0, none⟩)) 27
  have k2 := cap_new (w.alloc (.cells #[.pointer (some ⟨b, 0, none⟩)] 27)) (.string p) 9
  have hs1 : (w.alloc (.cells #[.pointer (some ⟨b, 0, none⟩)] 27)).heap.size = w.heap.size + 1 := by simp
  rw [hs1] at k2
  have hb2 := hb1.alloc (by simp) (.cells #[.string p] 9)
  have k1 := cap_below k1 ((Below.refl _ _).alloc (Nat.le_refl _) (.cells #[.string p] 9))
  have k3 := cap_new ((w.alloc (.cells #[.pointer (some ⟨b, 0, none⟩)] 27)).alloc (.cells #[.string p] 9)) (.string q) 9
  have hs2 : ((w.alloc (.cells #[.pointer (some ⟨b, 0, none⟩)] 27)).alloc (.cells #[.string p] 9)).heap.size = w.heap.size + 1 + 1 := by simp
  rw [hs2] at k3
  have hb2 := hb2.alloc (by simp; omega) (.cells #[.string q] 9)
  have k1 := cap_below k1 ((Below.refl _ _).alloc (Nat.le_refl _) (.cells #[.string q] 9))
  have k2 := cap_below k2 ((Below.refl _ _).alloc (Nat.le_refl _) (.cells #[.string q] 9))
  obtain ⟨W1, hW1⟩ : ∃ W1, W1 = ((w.alloc (.cells #[.pointer (some ⟨b, 0, none⟩)] 27)).alloc (.cells #[.string p] 9)).alloc (.cells #[.string q] 9) := ⟨_, rfl⟩
  rw [← hW1] at k1 k2 k3 hb2
  have hb3 : Below w.heap.size w W1.drew := hb2.drew
  have cm := iMayAppend_any b bi bl l s p q W1.drew (h.below hb3) hg.rises ok.fit hp (by omega)
  have hen : ∀ W, (callFunc 96 #[.pointer (some ⟨w.heap.size, 0, none⟩), .pointer (some ⟨w.heap.size + 1, 0, none⟩), .pointer (some ⟨w.heap.size + 1 + 1, 0, none⟩)]).run Tryz.prog W = .ok (.enter 96 #[.pointer (some ⟨w.heap.size, 0, none⟩), .pointer (some ⟨w.heap.size + 1, 0, none⟩), .pointer (some ⟨w.heap.size + 1 + 1, 0, none⟩)]) W :=
    fun W => Rg.enters Tryz.func96 (by kernel_rfl) (by kernel_rfl) _ W
  have ct : ∀ W, Below W1.heap.size W1 W → Calls Tryz.prog 42 #[.pointer (some ⟨b, 0, none⟩), .int .i64 (mayAppendS s p q : Nat), .func (.func 96) #[] #[.pointer (some ⟨w.heap.size, 0, none⟩), .pointer (some ⟨w.heap.size + 1, 0, none⟩), .pointer (some ⟨w.heap.size + 1 + 1, 0, none⟩)]] W fun e w' => e = .returned (.int .i64 ((stepR s (mayAppendS s p q) S').1 : Nat)) ∧
      (Ip b bi bl w (stepR s (mayAppendS s p q) S').2 w' ∧ Cap w' w.heap.size (.pointer (some ⟨b, 0, none⟩)) ∧ Cap w' (w.heap.size + 1) (.string p) ∧ Cap w' (w.heap.size + 1 + 1) (.string q)) := by
    intro W hW
    have hbW := below_call hb2 hW
    have j1 := cap_below k1 hW
    have j2 := cap_below k2 hW
    have j3 := cap_below k3 hW
    have hnf : ∀ k, ¬ Ft b bi bl (w.heap.size + k) := fun k hk => by have := hft _ hk; omega
    refine (iStep_any b bi bl l s _ _ _ S' W (h.below hbW) (fun e => (mayAppend_ok e).1) ok.steps hen (fun l1 W2 hr _ hI hc => ?_)).mono ?_
    · have m1 := cap_chg j1 hc (fun e => by have := hft b (.inl rfl); omega)
      have m2 := cap_chg j2 hc (fun e => by have := hft b (.inl rfl); omega)
      have m3 := cap_chg j3 hc (fun e => by have := hft b (.inl rfl); omega)
      rw [hS']
      have c9 := iAppendC_any b bi bl _ _ _ l1 _ p q W2 hI m1 m2 m3 hp (by rw [eL]; exact hn) hst (by rw [eL]; exact (mayAppend_ok hr).2) (by rw [eL]; exact calm_old hg p) (by rw [eL]; exact hsz)
      rw [eL] at c9
      exact c9
    · rintro e w' ⟨rfl, l5, h5, hc5⟩
      exact ⟨rfl, ⟨l5, h5, (Chg.of_below hbW).then hc5⟩, cap_chg j1 hc5 (hnf 0), cap_chg j2 hc5 (hnf 1), cap_chg j3 hc5 (hnf 2)⟩
  generalize stepR s (mayAppendS s p q) S' = RES at ct ⊢
  generalize mayAppendS s p q = r at cm ct
  have HW1 := Lib.hid hW1
  clear h hg ok hS' hst eL hn hft hb1 hb2 hb3 hen
  go_enter Tryz.func62, Tryz.ntmps62
  go_wp2_with fail
  rw [← HW1.out]
  refine Rg.wp_only ?_ (regAppend _ (by kernel_rfl) _ w.heap.size (w.heap.size + 1) (w.heap.size + 1 + 1) (.pointer (some ⟨b, 0, none⟩)) p q r RES.1 W1 (fun W => Below W1.heap.size W1 W) (fun W => Ip b bi bl w RES.2 W ∧ Cap W w.heap.size (.pointer (some ⟨b, 0, none⟩)) ∧ Cap W (w.heap.size + 1) (.string p) ∧ Cap W (w.heap.size + 1 + 1) (.string q)) ⟨k1, k2, k3⟩ (cm.mono (fun e w' he => ⟨he.1, (Below.refl _ W1).drew.trans he.2⟩)) (fun W hW => ⟨cap_below k1 hW, cap_below k2 hW, cap_below k3 hW⟩) ct (fun W hW => hW.2))
  rintro _ w9 ⟨rfl, h9⟩
  go_wp2_with fail
  go_ret
  exact ⟨rfl, h9.1⟩
end Go.Proofs.YtdfcbnejnnibpaaGreatDoor.Dk

namespace Go.Proofs.YtdfcbnejnnibpaaGreatDoor.Wl
open Go.RowKit Tx Pm Pl Pr Dk Fr
set_option linter.unusedVariables false
section
variable {b : Nat} {F : Nat → Prop} {s : St} {w : World}
theorem iw_append {k : Nat} {s' : St} (P Q : ByteArray) (h : ImpAt b w F s) (ok : Ok s) (hP : P.size ≤ 8000000000000) (hQ : Q.size ≤ 1000000000000000000) (hsz : (old s.L P).data.size + Q.size ≤ 1000000000000000000) (hk : appendS s P Q = (k, s')) : Calls Tryz.prog 62 #[.pointer (some ⟨b, 0, none⟩), .string P, .string Q] w (Dos (ImpAt b) w F k s') := by
  obtain ⟨bi, bl, l, hI, hg, hF⟩ := h
  have c := iAppend_any b bi bl l _ P Q _ hI hg ok hP hQ hsz
  have hg' := good_append (p := P) (d := Q) hg
  rw [hk] at c hg'
  exact c.mono fun e w' ht => does_of' (r := (k, s')) hg' hF ht
end
end Go.Proofs.YtdfcbnejnnibpaaGreatDoor.Wl

namespace Go.Proofs.YtdfcbnejnnibpaaGreatDoor.Wl
open Go.RowKit Tx Pm Dk Fr
set_option linter.unusedVariables false
set_option maxRecDepth 100000 in
set_option maxHeartbeats 2000000 in
theorem regIAdd (ops : Array Oper) (hops : ops = (Rg.opsOf Tryz.f35 3)) (id : Nat) (j b : Nat) (p r K : ByteArray) (k : Nat) {u2 u3 u4 u5 u6 u7 u8 u9 u10 u11 u12 u13 u14 u15 u16 u17 u18 u19 u20 u21 u22 u23 u24 u25 u26 u27 u28 u29 u30 u31 u32 u33 u34 u35 u36 u37 u38 u39 u40 u41 u42 u43 u44 : Value} (w : World) (B : World → Prop) (hS : Two j b p w.drew)
    (cp : ∀ W, Calls Tryz.prog 63 #[.string r] W fun e w' => e = .returned (.string K) ∧ Below W.heap.size W w')
    (ca : ∀ W, Below w.drew.heap.size w.drew W → Calls Tryz.prog 62 #[.pointer (some ⟨b, 0, none⟩), .string p, .string K] W fun e w' => e = .returned (.int .i64 (k : Nat)) ∧ B w') (hBS : ∀ W, B W → Two j b p W) :
    (Code.region id ops true).wp Tryz.prog (Rg.Only fun a' w' => a' = ⟨#[(.pointer (some ⟨j, 0, none⟩)), (.string r), u2, u3, u4, (.int .i64 (k : Nat)), u6, u7, u8, (.pointer (some ⟨j, 0, none⟩)), (.pointer (some ⟨j, 0, none⟩)), (.pointer (some ⟨j, 0, none⟩)), (.pointer (some ⟨b, 0, none⟩)), (.pointer (some ⟨j, 0, none⟩)), (.pointer (some ⟨j, 0, none⟩)), (.pointer (some ⟨j, 1, none⟩)), (.string p), (.string r), (.string K), (.int .i64 (k : Nat)), u20, u21, u22, u23, u24, u25, u26, u27, u28, u29, u30, u31, u32, u33, u34, u35, u36, u37, u38, u39, u40, u41, u42, u43, u44], []⟩ ∧ B w') ⟨#[(.pointer (some ⟨j, 0, none⟩)), (.string r), u2, u3, u4, u5, u6, u7, u8, u9, u10, u11, u12, u13, u14, u15, u16, u17, u18, u19, u20, u21, u22, u23, u24, u25, u26, u27, u28, u29, u30, u31, u32, u33, u34, u35, u36, u37, u38, u39, u40, u41, u42, u43, u44], []⟩ w := by
  subst hops
  have hNS : Region.noSelect (Rg.opsOf Tryz.f35 3) = true := by kernel_rfl
  refine wp_region_held_drew (S := Two j b p) (by kernel_rfl) hS (fun hHeld => ?_)
  rw [show (Rg.opsOf Tryz.f35 3).size = 12 by kernel_rfl]
  refine Rg.take (ops := (Rg.opsOf Tryz.f35 3)) 0 (some 9) ((.pointer (some ⟨j, 0, none⟩))) hNS (by kernel_rfl) (by kernel_rfl) (by kernel_rfl) (by kernel_rfl) (by kernel_rfl) hHeld (Rg.y_move (x := (Operand.tmp 0)) (Or.inl (by kernel_rfl)) (by kernel_rfl)) ?_
  refine Rg.take (ops := (Rg.opsOf Tryz.f35 3)) 1 (some 10) ((.pointer (some ⟨j, 0, none⟩))) hNS (by kernel_rfl) (by kernel_rfl) (by kernel_rfl) (by kernel_rfl) (by kernel_rfl) hHeld (Rg.y_nil (x := (Operand.tmp 9)) (by kernel_rfl) (by kernel_rfl)) ?_
  refine Rg.take (ops := (Rg.opsOf Tryz.f35 3)) 2 (some 11) ((.pointer (some ⟨j, 0, none⟩))) hNS (by kernel_rfl) (by kernel_rfl) (by kernel_rfl) (by kernel_rfl) (by kernel_rfl) hHeld (Rg.y_field (T := 114) (k := 0) (x := (Operand.tmp 10)) (vx := (.pointer (some ⟨j, 0, none⟩))) (by kernel_rfl) (by kernel_rfl) ?_) ?_
  · (intro w hSw; clear hSw; go_simp)
  refine Rg.take (ops := (Rg.opsOf Tryz.f35 3)) 3 (some 12) ((.pointer (some ⟨b, 0, none⟩))) hNS (by kernel_rfl) (by kernel_rfl) (by kernel_rfl) (by kernel_rfl) (by kernel_rfl) hHeld (Rg.y_load (T := 27) (x := (Operand.tmp 11)) (vx := (.pointer (some ⟨j, 0, none⟩))) (by kernel_rfl) (by kernel_rfl) ?_) ?_
  · (intro w hSw; obtain ⟨s0, s1⟩ := hSw; go_simp)
  refine Rg.take (ops := (Rg.opsOf Tryz.f35 3)) 4 (some 13) ((.pointer (some ⟨j, 0, none⟩))) hNS (by kernel_rfl) (by kernel_rfl) (by kernel_rfl) (by kernel_rfl) (by kernel_rfl) hHeld (Rg.y_move (x := (Operand.tmp 0)) (Or.inl (by kernel_rfl)) (by kernel_rfl)) ?_
  refine Rg.take (ops := (Rg.opsOf Tryz.f35 3)) 5 (some 14) ((.pointer (some ⟨j, 0, none⟩))) hNS (by kernel_rfl) (by kernel_rfl) (by kernel_rfl) (by kernel_rfl) (by kernel_rfl) hHeld (Rg.y_nil (x := (Operand.tmp 13)) (by kernel_rfl) (by kernel_rfl)) ?_
  refine Rg.take (ops := (Rg.opsOf Tryz.f35 3)) 6 (some 15) ((.pointer (some ⟨j, 1, none⟩))) hNS (by kernel_rfl) (by kernel_rfl) (by kernel_rfl) (by kernel_rfl) (by kernel_rfl) hHeld (Rg.y_field (T := 114) (k := 1) (x := (Operand.tmp 14)) (vx := (.pointer (some ⟨j, 0, none⟩))) (by kernel_rfl) (by kernel_rfl) ?_) ?_
  · (intro w hSw; clear hSw; go_simp)
  refine Rg.take (ops := (Rg.opsOf Tryz.f35 3)) 7 (some 16) ((.string p)) hNS (by kernel_rfl) (by kernel_rfl) (by kernel_rfl) (by kernel_rfl) (by kernel_rfl) hHeld (Rg.y_load (T := 9) (x := (Operand.tmp 15)) (vx := (.pointer (some ⟨j, 1, none⟩))) (by kernel_rfl) (by kernel_rfl) ?_) ?_
  · (intro w hSw; obtain ⟨s0, s1⟩ := hSw; go_simp)
  refine Rg.take (ops := (Rg.opsOf Tryz.f35 3)) 8 (some 17) ((.string r)) hNS (by kernel_rfl) (by kernel_rfl) (by kernel_rfl) (by kernel_rfl) (by kernel_rfl) hHeld (Rg.y_move (x := (Operand.tmp 1)) (Or.inl (by kernel_rfl)) (by kernel_rfl)) ?_
  refine Rg.call (ops := (Rg.opsOf Tryz.f35 3)) (fn := Tryz.f63) (xs := #[Operand.tmp 17]) (ats := #[9]) 9 (some 18) 63 #[(.string r)] (by kernel_rfl) (by kernel_rfl) (by kernel_rfl) (by kernel_rfl) (by kernel_rfl) Tryz.func63 (by kernel_rfl) (by kernel_rfl) (by kernel_rfl) ?_
  refine (cp _).mono ?_
  rintro e w5 ⟨rfl, hb5⟩
  refine ⟨_, rfl, hS.below hb5, fun hHeld => ?_⟩
  refine Rg.call (ops := (Rg.opsOf Tryz.f35 3)) (fn := Tryz.f62) (xs := #[Operand.tmp 12, Operand.tmp 16, Operand.tmp 18]) (ats := #[27, 9, 9]) 10 (some 19) 62 #[(.pointer (some ⟨b, 0, none⟩)), (.string p), (.string K)] (by kernel_rfl) (by kernel_rfl) (by kernel_rfl) (by kernel_rfl) (by kernel_rfl) Tryz.func62 (by kernel_rfl) (by kernel_rfl) (by kernel_rfl) ?_
  refine (ca _ hb5).mono ?_
  rintro e w6 ⟨rfl, hB6⟩
  refine ⟨_, rfl, hBS _ hB6, fun hHeld => ?_⟩
  refine Rg.take (ops := (Rg.opsOf Tryz.f35 3)) 11 (some 5) ((.int .i64 (k : Nat))) hNS (by kernel_rfl) (by kernel_rfl) (by kernel_rfl) (by kernel_rfl) (by kernel_rfl) hHeld (Rg.y_move (x := (Operand.tmp 19)) (Or.inr (by kernel_rfl)) (by kernel_rfl)) ?_
  refine Rg.done (ops := (Rg.opsOf Tryz.f35 3)) (by kernel_rfl) ?_
  exact ⟨by kernel_rfl, hB6⟩
end Go.Proofs.YtdfcbnejnnibpaaGreatDoor.Wl

namespace Go.Proofs.YtdfcbnejnnibpaaGreatDoor.Wl
open Go.RowKit Tx Pm Pl Pr Dk Fr
set_option linter.unusedVariables false
theorem add_1 {x : Jst} {p r : ByteArray} {k : Nat} {s1 : St} (h1 : appendS x.s p (Fm.pk r) = (k, s1)) (h : k ≠ 0) : addS x p r = (k, ⟨s1, x.R, x.dm⟩) := by
  unfold addS; rw [h1]; exact if_pos h
theorem add_2 {x : Jst} {p r : ByteArray} {k : Nat} {s1 s2 : St} (h1 : appendS x.s p (Fm.pk r) = (0, s1)) (h2 : syncS s1 p = (k, s2)) (h : k ≠ 0) : addS x p r = (k, ⟨s2, x.R, x.dm⟩) := by
  unfold addS; rw [h1]; simp only [h2]; rw [if_neg (fun h => h rfl), if_pos h]
theorem add_3 {x : Jst} {p r : ByteArray} {s1 s2 : St} (h1 : appendS x.s p (Fm.pk r) = (0, s1)) (h2 : syncS s1 p = (0, s2)) : addS x p r = (0, ⟨s2, x.R ++ [r], x.dm⟩) := by
  unfold addS; rw [h1]; simp only [h2]; rw [if_neg (fun h => h rfl), if_neg (fun h => h rfl)]
def AddOk (x : Jst) (p r : ByteArray) : Prop := Ok x.s ∧ Ok (appendS x.s p (Fm.pk r)).2 ∧ (old x.s.L p).data.size + (Fm.pk r).size ≤ 1000000000000000000 ∧ r.size ≤ 140737488355300 ∧ x.R.length ≤ 10000000000
set_option maxRecDepth 100000 in
set_option maxHeartbeats 2000000 in
theorem iAdd_any (b j : Nat) {F Fd : Nat → Prop} {x : Jst} {v : Value} (p r : ByteArray) (w : World) (h : JAt (ImpAt b) 114 b j p v Fd w F x) (o : AddOk x p r) (hp : p.size ≤ 1000) :
    Calls Tryz.prog 35 #[.pointer (some ⟨j, 0, none⟩), .string r] w fun e w' => e = .returned (.int .i64 ((addS x p r).1 : Nat)) ∧ LeftA (Jn (ImpAt b) 114 b j p) w F (addS x p r).2 w' := by
  obtain ⟨o1, o2, o3, o4, o5⟩ := o
  obtain ⟨a0, c0, hform, _⟩ := h.row.form
  have kk := imp_kind b
  have hpk := Fm.pk_size r
  obtain ⟨k1, s1, h1⟩ : ∃ k s1, appendS x.s p (Fm.pk r) = (k, s1) := ⟨_, _, rfl⟩
  rw [h1] at o2
  simp only at o2
  obtain ⟨k2, s2, h2⟩ : ∃ k s2, syncS s1 p = (k, s2) := ⟨_, _, rfl⟩
  have cp := fun W => fPack_any r W o4
  have ca : ∀ W, Below w.drew.heap.size w.drew W → Calls Tryz.prog 62 #[.pointer (some ⟨b, 0, none⟩), .string p, .string (Fm.pk r)] W fun e w' => e = .returned (.int .i64 (k1 : Nat)) ∧ Mid (ImpAt b) 114 b j p v w F ⟨s1, x.R, x.dm⟩ w' := fun W hW =>
    (Mid.of kk h (below_call (Below.refl w.heap.size w).drew hW)).call kk (fun hd => iw_append p (Fm.pk r) hd o1 (by omega) (by omega) o3 h1)
  have cs : ∀ W, Mid (ImpAt b) 114 b j p v w F ⟨s1, x.R, x.dm⟩ W → Calls Tryz.prog 64 #[.pointer (some ⟨b, 0, none⟩), .string p] W.drew fun e w' => e = .returned (.int .i64 (k2 : Nat)) ∧ Mid (ImpAt b) 114 b j p v w F ⟨s2, x.R, x.dm⟩ w' := fun W hW => by
    obtain ⟨Fd', F', q, q2, q3⟩ := hW
    exact (Mid.trans q2 q3 (Mid.of kk q (Below.refl _ W).drew)).call (x := ⟨s1, x.R, x.dm⟩) kk (fun hd => iw_sync p hd o2 (by omega) h2)
  have hS := (h.below kk (Below.refl w.heap.size w).drew).two
  have hBS := fun W (hW : Mid (ImpAt b) 114 b j p v w F ⟨s1, x.R, x.dm⟩ W) => hW.two
  have HS := Lib.hid hS
  have HCA := Lib.hid ca
  have HCS := Lib.hid cs
  have HBS := Lib.hid hBS
  generalize hK : Fm.pk r = K at cp ca HCA h1
  by_cases e1 : k1 ≠ 0
  · rw [add_1 (by rw [hK]; exact h1) e1]
    have n1 := Dk.ne_eq e1
    clear h o1 o2 o3 h1 h2 e1 hS ca cs hBS hK hpk
    go_enter Tryz.func35, Tryz.ntmps35
    go_wp2_with fail
    refine Rg.wp_only ?_ (regIAdd _ (by kernel_rfl) _ j b p r K k1 _ _ HS.out cp HCA.out HBS.out)
    rintro _ w9 ⟨rfl, hB9⟩
    go_wp2_with fail
    go_ret
    exact ⟨rfl, hB9.left⟩
  · obtain rfl : k1 = 0 := by omega
    by_cases e2 : k2 ≠ 0
    · rw [add_2 (by rw [hK]; exact h1) h2 e2]
      have n2 := Dk.ne_eq e2
      clear h o1 o2 o3 h1 h2 e1 e2 hS ca cs hBS hK hpk
      go_enter Tryz.func35, Tryz.ntmps35
      go_wp2_with fail
      refine Rg.wp_only ?_ (regIAdd _ (by kernel_rfl) _ j b p r K 0 _ _ HS.out cp HCA.out HBS.out)
      rintro _ w9 ⟨rfl, hB9⟩
      obtain ⟨t0, t1⟩ := hB9.two
      have c9 := HCS.out _ hB9
      go_wp2_with fail
      go_still_tail 8, (by kernel_rfl)
      change wpList _ _ _ _ _ w9.drew
      go_wp2_with (go_at_call 64; refine c9.mono ?_; rintro e w5 ⟨rfl, h5⟩)
      go_ret
      exact ⟨rfl, h5.left⟩
    · obtain rfl : k2 = 0 := by omega
      rw [add_3 (by rw [hK]; exact h1) h2]
      clear h o1 o2 o3 h1 h2 e1 e2 hS ca cs hBS hK hpk
      obtain ⟨i0, hi, hz0, hz1, hz2⟩ := info_parts info9
      obtain ⟨n0, hn0⟩ : ∃ n0, n0 = x.R.length := ⟨_, rfl⟩
      rw [← hn0] at hform o5
      have HN0 := Lib.hid hn0
      subst hform
      clear hn0
      go_enter Tryz.func35, Tryz.ntmps35
      go_wp2_with fail
      refine Rg.wp_only ?_ (regIAdd _ (by kernel_rfl) _ j b p r K 0 _ _ HS.out cp HCA.out HBS.out)
      rintro _ w9 ⟨rfl, hB9⟩
      obtain ⟨t0, t1⟩ := hB9.two
      have c9 := HCS.out _ hB9
      go_wp2_with fail
      go_still_tail 8, (by kernel_rfl)
      change wpList _ _ _ _ _ w9.drew
      go_wp2_with fail
      go_at_call 64
      refine c9.mono ?_
      rintro e w5 ⟨rfl, Fd5, F5, q5, k5, n5⟩
      obtain ⟨t50, t51, t52, t53⟩ := q5.cell
      have hrow := q5.row
      unfold Fr.Texts at hrow
      have HQ := Lib.hid q5
      clear q5
      rw [← HN0.out] at hrow
      go_wp2_with (at_builtin; refine Ap.wpList_append_two _ rfl _ _ 45 rfl 0 9 i0 (.string ⟨#[]⟩) 1 16 Tryz.underlying45 hi hz0 hz1 hz2 rfl (by decide) (by decide) _ _ _ rfl (hrow.alloc _) ⟨w5.heap.size, 0, none⟩ 1 [Fr.sv r] rfl rfl ?c1 ?c2 ?c3 ?c4 ?c5 ?_)
      case c1 => exact cell_one_new _ _ _
      case c2 => exact Fr.sv_one [r]
      case c3 => omega
      case c4 => omega
      case c5 => exact Nat.zero_le _
      intro v' w6 hown hg
      obtain ⟨a6, c6, rfl⟩ := own_form hown
      obtain ⟨⟨g1, g2⟩, hfin⟩ := HQ.out.grown (r := r) kk ((Below.refl _ w5).alloc (Nat.le_refl _) (.cells #[.string r] 9)) (by rw [← HN0.out]; exact hown) (by rw [World.size_alloc]; exact hg)
      have HFIN := Lib.hid (hfin.trans k5 n5)
      clear hown hg hrow hfin
      go_wp2_with fail
      go_ret
      exact ⟨rfl, HFIN.out⟩
end Go.Proofs.YtdfcbnejnnibpaaGreatDoor.Wl

namespace Go.Proofs.YtdfcbnejnnibpaaGreatDoor.Wl
open Go.RowKit Tx Pm Pl Pr Dk Fr
set_option linter.unusedVariables false
set_option maxRecDepth 100000 in
set_option maxHeartbeats 2000000 in
theorem iReset_any (b j : Nat) {F Fd : Nat → Prop} {x : Jst} {v : Value} (p : ByteArray) (w : World) (h : JAt (ImpAt b) 114 b j p v Fd w F x) (o : FillOk x.s p ⟨#[]⟩) (hp : p.size ≤ 1000) :
    Calls Tryz.prog 69 #[.pointer (some ⟨j, 0, none⟩)] w fun e w' => e = .returned (.int .i64 ((resetS x p).1 : Nat)) ∧ LeftA (Jn (ImpAt b) 114 b j p) w F (resetS x p).2 w' := by
  have kk := imp_kind b
  obtain ⟨k1, s1, h1⟩ : ∃ k s1, fillS x.s p ⟨#[]⟩ = (k, s1) := ⟨_, _, rfl⟩
  have hM := Mid.of kk h (Below.refl w.heap.size w).drew
  have c1 : Calls Tryz.prog 67 #[.pointer (some ⟨b, 0, none⟩), .string p, .string ⟨#[]⟩] w.drew fun e w' => e = .returned (.int .i64 (k1 : Nat)) ∧ Mid (ImpAt b) 114 b j p v w F ⟨s1, x.R, x.dm⟩ w' := hM.call kk (fun hd => by
    have := iFill_any b p ⟨#[]⟩ w.drew hd o hp (by decide)
    rw [h1] at this
    exact this)
  obtain ⟨t0, t1, _, _⟩ := h.cell
  have hr : resetS x p = if k1 ≠ 0 then (k1, ⟨s1, x.R, x.dm⟩) else (0, ⟨s1, [], x.dm⟩) := by
    unfold resetS
    rw [h1]
  by_cases e1 : k1 ≠ 0
  · rw [hr, if_pos e1]
    have n1 := Dk.ne_eq e1
    clear h o hM e1 h1 hr
    go_enter Tryz.func69, Tryz.ntmps69
    go_wp2_with fail
    go_still_tail 8, (by kernel_rfl)
    change wpList _ _ _ _ _ w.drew
    go_wp2_with fail
    go_at_call 67
    refine c1.mono ?_
    rintro e w5 ⟨rfl, h5⟩
    go_wp2_with fail
    go_ret
    exact ⟨rfl, h5.left⟩
  · obtain rfl : k1 = 0 := by omega
    rw [hr, if_neg (fun h => h rfl)]
    clear h o hM e1 h1 hr
    go_enter Tryz.func69, Tryz.ntmps69
    go_wp2_with fail
    go_still_tail 8, (by kernel_rfl)
    change wpList _ _ _ _ _ w.drew
    go_wp2_with fail
    go_at_call 67
    refine c1.mono ?_
    rintro e w5 ⟨rfl, Fd5, F5, q5, k5, n5⟩
    obtain ⟨t50, t51, t52, t53⟩ := q5.cell
    have hwm := q5.warm 2
    have hfin : LeftA (Jn (ImpAt b) 114 b j p) w F ⟨s1, [], x.dm⟩ (w5.setCell ⟨j, 2, none⟩ (.slice none 0 0)) := by
      refine LeftA.trans k5 n5 (Mid.left (q5.poke kk (v' := .slice none 0 0) ((chg_set (b := j) (k := 2) (.slice none 0 0)).mono (fun i hi => Or.inl hi)) ?_ (World.ownsRow_nil _ _ _ _) (fun i hi => by cases hi)))
      rw [set_block q5.blk]
      rfl
    have HF := Lib.hid hfin
    clear q5 k5 n5 hfin
    go_wp2_with fail
    go_ret
    exact ⟨rfl, HF.out⟩
end Go.Proofs.YtdfcbnejnnibpaaGreatDoor.Wl

namespace Go.Proofs.YtdfcbnejnnibpaaGreatDoor.Tb
open Go.RowKit Tx Pm Dk Wm Wr Wl Pl
set_option linter.unusedVariables false
set_option linter.unusedSimpArgs false
set_option linter.unnecessarySimpa false
section
variable {b j t m : Nat} {p q : ByteArray} {Fj F : Nat → Prop} {w w1 : World} {x : Tst}
theorem TAt.jleft {y : Jst} (h : TAt b j t m p q Fj w F x) (hl : LeftA (JnT b j q) w Fj y w1) : LeftA (Tn b j t m p q) w F ⟨y, x.L⟩ w1 := by
  obtain ⟨Fj', h1, h2, h3⟩ := hl
  have htl : t < w.heap.size := (Array.getElem?_eq_some_iff.1 h.blk).1
  have hml := h.rows.lt
  refine ⟨fun i => Fj' i ∨ i = t ∨ i = m, ⟨Fj', h1, (h2.block t htl h.off.1).trans h.blk, h.rows.kept (h2.block m hml h.off.2), ⟨fun hh => ?_, fun hh => ?_⟩, fun i => Iff.rfl, h.rises, h.plain⟩, h2.mono (fun i hi => (h.foot i).2 (.inl hi)), fun g hg => ?_⟩
  · rcases h3 t hh with hh | hh
    · exact h.off.1 hh
    · omega
  · rcases h3 m hh with hh | hh
    · exact h.off.2 hh
    · omega
  · rcases hg with hg | hg
    · exact (h3 g hg).imp (fun hh => (h.foot g).2 (.inl hh)) id
    · exact .inl ((h.foot g).2 (.inr hg))
end
section
variable {u pm : Nat} {tp : Option Addr} {vO : Value} {w w1 : World} {G : Nat → Prop} {l : List Ch}
end
end Go.Proofs.YtdfcbnejnnibpaaGreatDoor.Tb

namespace Go.Proofs.YtdfcbnejnnibpaaGreatDoor.Tb
open Go.RowKit
set_option linter.unusedVariables false
set_option linter.unusedSimpArgs false
set_option linter.unnecessarySimpa false
def TwoT (t b : Nat) (p : ByteArray) (W : World) : Prop := W.cell? ⟨t, 0, none⟩ = some (.pointer (some ⟨b, 0, none⟩)) ∧ W.cell? ⟨t, 1, none⟩ = some (.string p)
def TwoC (t j u n c : Nat) (a : Option Addr) (W : World) : Prop := W.cell? ⟨t, 2, none⟩ = some (.pointer (some ⟨j, 0, none⟩)) ∧ W.cell? ⟨u, 1, none⟩ = some (.slice a n c)
set_option maxRecDepth 100000 in
set_option maxHeartbeats 4000000 in
theorem packReg (ops : Array Oper) (hops : ops = (Rg.opsOf Tryz.f39 3)) (id : Nat) (t b k : Nat) (p r f : ByteArray) {u1 u2 u3 u4 u5 u6 u7 u8 u9 u10 u11 u12 u13 u14 u15 u16 u17 u18 u19 u20 u21 u22 u23 u24 u25 u26 : Value} (w : World)
    (B1 : Option Addr → Nat → Nat → World → Prop) (B2 B3 B4 : World → Prop) (hS : TwoT t b p w)
    (hA : Calls Tryz.prog 68 #[.pointer (some ⟨t, 0, none⟩)] w.drew fun e w' => ∃ a n c, e = .returned (.slice a n c) ∧ B1 a n c w') (hAS : ∀ a n c W, B1 a n c W → TwoT t b p W)
    (hB : ∀ a n c W, B1 a n c W → Calls Tryz.prog 36 #[.slice a n c] W fun e w' => e = .returned (.string r) ∧ B2 w') (hBS : ∀ W, B2 W → TwoT t b p W)
    (hC : ∀ W, B2 W → Calls Tryz.prog 63 #[.string r] W fun e w' => e = .returned (.string f) ∧ B3 w') (hCS : ∀ W, B3 W → TwoT t b p W)
    (hD : ∀ W, B3 W → Calls Tryz.prog 67 #[.pointer (some ⟨b, 0, none⟩), .string p, .string f] W fun e w' => e = .returned (.int .i64 (k : Nat)) ∧ B4 w') (hDS : ∀ W, B4 W → TwoT t b p W) :
    (Code.region id ops true).wp Tryz.prog (Rg.Only fun a' w' => ∃ (a5 : Option Addr) (n5 c5 : Nat), a' = ⟨#[(.pointer (some ⟨t, 0, none⟩)), u1, u2, (.int .i64 (k : Nat)), u4, u5, (.pointer (some ⟨t, 0, none⟩)), (.pointer (some ⟨t, 0, none⟩)), (.pointer (some ⟨t, 0, none⟩)), (.pointer (some ⟨b, 0, none⟩)), (.pointer (some ⟨t, 0, none⟩)), (.pointer (some ⟨t, 0, none⟩)), (.pointer (some ⟨t, 1, none⟩)), (.string p), (.pointer (some ⟨t, 0, none⟩)), (.slice a5 n5 c5), (.string r), (.string f), (.int .i64 (k : Nat)), u19, u20, u21, u22, u23, u24, u25, u26], []⟩ ∧ B4 w') ⟨#[(.pointer (some ⟨t, 0, none⟩)), u1, u2, u3, u4, u5, u6, u7, u8, u9, u10, u11, u12, u13, u14, u15, u16, u17, u18, u19, u20, u21, u22, u23, u24, u25, u26], []⟩ w := by
  subst hops
  have hNS : Region.noSelect (Rg.opsOf Tryz.f39 3) = true := by kernel_rfl
  refine wp_region_held_drew (S := TwoT t b p) (by kernel_rfl) hS (fun hHeld => ?_)
  rw [show (Rg.opsOf Tryz.f39 3).size = 14 by kernel_rfl]
  refine Rg.take (ops := (Rg.opsOf Tryz.f39 3)) 0 (some 6) ((.pointer (some ⟨t, 0, none⟩))) hNS (by kernel_rfl) (by kernel_rfl) (by kernel_rfl) (by kernel_rfl) (by kernel_rfl) hHeld (Rg.y_move (x := (Operand.tmp 0)) (Or.inl (by kernel_rfl)) (by kernel_rfl)) ?_
  refine Rg.take (ops := (Rg.opsOf Tryz.f39 3)) 1 (some 7) ((.pointer (some ⟨t, 0, none⟩))) hNS (by kernel_rfl) (by kernel_rfl) (by kernel_rfl) (by kernel_rfl) (by kernel_rfl) hHeld (Rg.y_nil (x := (Operand.tmp 6)) (by kernel_rfl) (by kernel_rfl)) ?_
  refine Rg.take (ops := (Rg.opsOf Tryz.f39 3)) 2 (some 8) ((.pointer (some ⟨t, 0, none⟩))) hNS (by kernel_rfl) (by kernel_rfl) (by kernel_rfl) (by kernel_rfl) (by kernel_rfl) hHeld (Rg.y_field (T := 59) (k := 0) (x := (Operand.tmp 7)) (vx := (.pointer (some ⟨t, 0, none⟩))) (by kernel_rfl) (by kernel_rfl) ?_) ?_
  · (intro w hSw; clear hSw; go_simp)
  refine Rg.take (ops := (Rg.opsOf Tryz.f39 3)) 3 (some 9) ((.pointer (some ⟨b, 0, none⟩))) hNS (by kernel_rfl) (by kernel_rfl) (by kernel_rfl) (by kernel_rfl) (by kernel_rfl) hHeld (Rg.y_load (T := 27) (x := (Operand.tmp 8)) (vx := (.pointer (some ⟨t, 0, none⟩))) (by kernel_rfl) (by kernel_rfl) ?_) ?_
  · (intro w hSw; obtain ⟨s0, s1⟩ := hSw; go_simp)
  refine Rg.take (ops := (Rg.opsOf Tryz.f39 3)) 4 (some 10) ((.pointer (some ⟨t, 0, none⟩))) hNS (by kernel_rfl) (by kernel_rfl) (by kernel_rfl) (by kernel_rfl) (by kernel_rfl) hHeld (Rg.y_move (x := (Operand.tmp 0)) (Or.inl (by kernel_rfl)) (by kernel_rfl)) ?_
  refine Rg.take (ops := (Rg.opsOf Tryz.f39 3)) 5 (some 11) ((.pointer (some ⟨t, 0, none⟩))) hNS (by kernel_rfl) (by kernel_rfl) (by kernel_rfl) (by kernel_rfl) (by kernel_rfl) hHeld (Rg.y_nil (x := (Operand.tmp 10)) (by kernel_rfl) (by kernel_rfl)) ?_
  refine Rg.take (ops := (Rg.opsOf Tryz.f39 3)) 6 (some 12) ((.pointer (some ⟨t, 1, none⟩))) hNS (by kernel_rfl) (by kernel_rfl) (by kernel_rfl) (by kernel_rfl) (by kernel_rfl) hHeld (Rg.y_field (T := 59) (k := 1) (x := (Operand.tmp 11)) (vx := (.pointer (some ⟨t, 0, none⟩))) (by kernel_rfl) (by kernel_rfl) ?_) ?_
  · (intro w hSw; clear hSw; go_simp)
  refine Rg.take (ops := (Rg.opsOf Tryz.f39 3)) 7 (some 13) ((.string p)) hNS (by kernel_rfl) (by kernel_rfl) (by kernel_rfl) (by kernel_rfl) (by kernel_rfl) hHeld (Rg.y_load (T := 9) (x := (Operand.tmp 12)) (vx := (.pointer (some ⟨t, 1, none⟩))) (by kernel_rfl) (by kernel_rfl) ?_) ?_
  · (intro w hSw; obtain ⟨s0, s1⟩ := hSw; go_simp)
  refine Rg.take (ops := (Rg.opsOf Tryz.f39 3)) 8 (some 14) ((.pointer (some ⟨t, 0, none⟩))) hNS (by kernel_rfl) (by kernel_rfl) (by kernel_rfl) (by kernel_rfl) (by kernel_rfl) hHeld (Rg.y_move (x := (Operand.tmp 0)) (Or.inl (by kernel_rfl)) (by kernel_rfl)) ?_
  refine Rg.call (ops := (Rg.opsOf Tryz.f39 3)) (fn := Tryz.f68) (xs := #[Operand.tmp 14]) (ats := #[23]) 9 (some 15) 68 #[(.pointer (some ⟨t, 0, none⟩))] (by kernel_rfl) (by kernel_rfl) (by kernel_rfl) (by kernel_rfl) (by kernel_rfl) Tryz.func68 (by kernel_rfl) (by kernel_rfl) (by kernel_rfl) ?_
  refine hA.mono ?_
  rintro e w5 ⟨a5, n5, c5, rfl, h5⟩
  refine ⟨_, rfl, hAS _ _ _ _ h5, fun hHeld => ?_⟩
  refine Rg.call (ops := (Rg.opsOf Tryz.f39 3)) (fn := Tryz.f36) (xs := #[Operand.tmp 15]) (ats := #[64]) 10 (some 16) 36 #[(.slice a5 n5 c5)] (by kernel_rfl) (by kernel_rfl) (by kernel_rfl) (by kernel_rfl) (by kernel_rfl) Tryz.func36 (by kernel_rfl) (by kernel_rfl) (by kernel_rfl) ?_
  refine (hB _ _ _ _ h5).mono ?_
  rintro e w6 ⟨rfl, h6⟩
  refine ⟨_, rfl, hBS _ h6, fun hHeld => ?_⟩
  refine Rg.call (ops := (Rg.opsOf Tryz.f39 3)) (fn := Tryz.f63) (xs := #[Operand.tmp 16]) (ats := #[9]) 11 (some 17) 63 #[(.string r)] (by kernel_rfl) (by kernel_rfl) (by kernel_rfl) (by kernel_rfl) (by kernel_rfl) Tryz.func63 (by kernel_rfl) (by kernel_rfl) (by kernel_rfl) ?_
  refine (hC _ h6).mono ?_
  rintro e w7 ⟨rfl, h7⟩
  refine ⟨_, rfl, hCS _ h7, fun hHeld => ?_⟩
  refine Rg.call (ops := (Rg.opsOf Tryz.f39 3)) (fn := Tryz.f67) (xs := #[Operand.tmp 9, Operand.tmp 13, Operand.tmp 17]) (ats := #[27, 9, 9]) 12 (some 18) 67 #[(.pointer (some ⟨b, 0, none⟩)), (.string p), (.string f)] (by kernel_rfl) (by kernel_rfl) (by kernel_rfl) (by kernel_rfl) (by kernel_rfl) Tryz.func67 (by kernel_rfl) (by kernel_rfl) (by kernel_rfl) ?_
  refine (hD _ h7).mono ?_
  rintro e w8 ⟨rfl, h8⟩
  refine ⟨_, rfl, hDS _ h8, fun hHeld => ?_⟩
  refine Rg.take (ops := (Rg.opsOf Tryz.f39 3)) 13 (some 3) ((.int .i64 (k : Nat))) hNS (by kernel_rfl) (by kernel_rfl) (by kernel_rfl) (by kernel_rfl) (by kernel_rfl) hHeld (Rg.y_move (x := (Operand.tmp 18)) (Or.inr (by kernel_rfl)) (by kernel_rfl)) ?_
  refine Rg.done (ops := (Rg.opsOf Tryz.f39 3)) (by kernel_rfl) ?_
  exact ⟨a5, n5, c5, by kernel_rfl, h8⟩
set_option maxRecDepth 100000 in
set_option maxHeartbeats 4000000 in
theorem commitReg (ops : Array Oper) (hops : ops = (Rg.opsOf Tryz.f14 6)) (id : Nat) (t j u n c k : Nat) (a : Option Addr) (r : ByteArray) {u1 u2 u4 u5 u6 u7 u8 u9 u10 u11 u12 u13 u14 u15 u16 u17 u18 u19 u20 u21 u22 u23 u24 u25 u26 u27 u28 u29 u30 u31 u32 u33 u34 u35 u36 u37 u38 u39 u40 u41 u42 u43 u44 u45 u46 u47 u48 u49 u50 u51 u52 u53 u54 u55 u56 u57 u58 : Value} (w : World)
    (B1 B2 : World → Prop) (hS : TwoC t j u n c a w)
    (hA : Calls Tryz.prog 36 #[.slice a n c] w.drew fun e w' => e = .returned (.string r) ∧ B1 w') (hAS : ∀ W, B1 W → TwoC t j u n c a W)
    (hB : ∀ W, B1 W → Calls Tryz.prog 35 #[.pointer (some ⟨j, 0, none⟩), .string r] W fun e w' => e = .returned (.int .i64 (k : Nat)) ∧ B2 w') (hBS : ∀ W, B2 W → TwoC t j u n c a W) :
    (Code.region id ops true).wp Tryz.prog (Rg.Only fun a' w' => a' = ⟨#[(.pointer (some ⟨u, 0, none⟩)), u1, u2, (.pointer (some ⟨t, 0, none⟩)), (.int .i64 (k : Nat)), u5, u6, u7, u8, u9, u10, u11, u12, u13, u14, u15, u16, u17, u18, u19, u20, u21, u22, u23, (.pointer (some ⟨t, 0, none⟩)), (.pointer (some ⟨t, 0, none⟩)), (.pointer (some ⟨t, 2, none⟩)), (.pointer (some ⟨j, 0, none⟩)), (.pointer (some ⟨u, 0, none⟩)), (.pointer (some ⟨u, 0, none⟩)), (.pointer (some ⟨u, 1, none⟩)), (.slice a n c), (.string r), (.int .i64 (k : Nat)), u34, u35, u36, u37, u38, u39, u40, u41, u42, u43, u44, u45, u46, u47, u48, u49, u50, u51, u52, u53, u54, u55, u56, u57, u58], []⟩ ∧ B2 w') ⟨#[(.pointer (some ⟨u, 0, none⟩)), u1, u2, (.pointer (some ⟨t, 0, none⟩)), u4, u5, u6, u7, u8, u9, u10, u11, u12, u13, u14, u15, u16, u17, u18, u19, u20, u21, u22, u23, u24, u25, u26, u27, u28, u29, u30, u31, u32, u33, u34, u35, u36, u37, u38, u39, u40, u41, u42, u43, u44, u45, u46, u47, u48, u49, u50, u51, u52, u53, u54, u55, u56, u57, u58], []⟩ w := by
  subst hops
  have hNS : Region.noSelect (Rg.opsOf Tryz.f14 6) = true := by kernel_rfl
  refine wp_region_held_drew (S := TwoC t j u n c a) (by kernel_rfl) hS (fun hHeld => ?_)
  rw [show (Rg.opsOf Tryz.f14 6).size = 11 by kernel_rfl]
  refine Rg.take (ops := (Rg.opsOf Tryz.f14 6)) 0 (some 24) ((.pointer (some ⟨t, 0, none⟩))) hNS (by kernel_rfl) (by kernel_rfl) (by kernel_rfl) (by kernel_rfl) (by kernel_rfl) hHeld (Rg.y_move (x := (Operand.tmp 3)) (Or.inl (by kernel_rfl)) (by kernel_rfl)) ?_
  refine Rg.take (ops := (Rg.opsOf Tryz.f14 6)) 1 (some 25) ((.pointer (some ⟨t, 0, none⟩))) hNS (by kernel_rfl) (by kernel_rfl) (by kernel_rfl) (by kernel_rfl) (by kernel_rfl) hHeld (Rg.y_nil (x := (Operand.tmp 24)) (by kernel_rfl) (by kernel_rfl)) ?_
  refine Rg.take (ops := (Rg.opsOf Tryz.f14 6)) 2 (some 26) ((.pointer (some ⟨t, 2, none⟩))) hNS (by kernel_rfl) (by kernel_rfl) (by kernel_rfl) (by kernel_rfl) (by kernel_rfl) hHeld (Rg.y_field (T := 59) (k := 2) (x := (Operand.tmp 25)) (vx := (.pointer (some ⟨t, 0, none⟩))) (by kernel_rfl) (by kernel_rfl) ?_) ?_
  · (intro w hSw; clear hSw; go_simp)
  refine Rg.take (ops := (Rg.opsOf Tryz.f14 6)) 3 (some 27) ((.pointer (some ⟨j, 0, none⟩))) hNS (by kernel_rfl) (by kernel_rfl) (by kernel_rfl) (by kernel_rfl) (by kernel_rfl) hHeld (Rg.y_load (T := 57) (x := (Operand.tmp 26)) (vx := (.pointer (some ⟨t, 2, none⟩))) (by kernel_rfl) (by kernel_rfl) ?_) ?_
  · (intro w hSw; obtain ⟨s0, s1⟩ := hSw; go_simp)
  refine Rg.take (ops := (Rg.opsOf Tryz.f14 6)) 4 (some 28) ((.pointer (some ⟨u, 0, none⟩))) hNS (by kernel_rfl) (by kernel_rfl) (by kernel_rfl) (by kernel_rfl) (by kernel_rfl) hHeld (Rg.y_move (x := (Operand.tmp 0)) (Or.inl (by kernel_rfl)) (by kernel_rfl)) ?_
  refine Rg.take (ops := (Rg.opsOf Tryz.f14 6)) 5 (some 29) ((.pointer (some ⟨u, 0, none⟩))) hNS (by kernel_rfl) (by kernel_rfl) (by kernel_rfl) (by kernel_rfl) (by kernel_rfl) hHeld (Rg.y_nil (x := (Operand.tmp 28)) (by kernel_rfl) (by kernel_rfl)) ?_
  refine Rg.take (ops := (Rg.opsOf Tryz.f14 6)) 6 (some 30) ((.pointer (some ⟨u, 1, none⟩))) hNS (by kernel_rfl) (by kernel_rfl) (by kernel_rfl) (by kernel_rfl) (by kernel_rfl) hHeld (Rg.y_field (T := 66) (k := 1) (x := (Operand.tmp 29)) (vx := (.pointer (some ⟨u, 0, none⟩))) (by kernel_rfl) (by kernel_rfl) ?_) ?_
  · (intro w hSw; clear hSw; go_simp)
  refine Rg.take (ops := (Rg.opsOf Tryz.f14 6)) 7 (some 31) ((.slice a n c)) hNS (by kernel_rfl) (by kernel_rfl) (by kernel_rfl) (by kernel_rfl) (by kernel_rfl) hHeld (Rg.y_load (T := 64) (x := (Operand.tmp 30)) (vx := (.pointer (some ⟨u, 1, none⟩))) (by kernel_rfl) (by kernel_rfl) ?_) ?_
  · (intro w hSw; obtain ⟨s0, s1⟩ := hSw; go_simp)
  refine Rg.call (ops := (Rg.opsOf Tryz.f14 6)) (fn := Tryz.f36) (xs := #[Operand.tmp 31]) (ats := #[64]) 8 (some 32) 36 #[(.slice a n c)] (by kernel_rfl) (by kernel_rfl) (by kernel_rfl) (by kernel_rfl) (by kernel_rfl) Tryz.func36 (by kernel_rfl) (by kernel_rfl) (by kernel_rfl) ?_
  refine hA.mono ?_
  rintro e w6 ⟨rfl, h6⟩
  refine ⟨_, rfl, hAS _ h6, fun hHeld => ?_⟩
  refine Rg.call (ops := (Rg.opsOf Tryz.f14 6)) (fn := Tryz.f35) (xs := #[Operand.tmp 27, Operand.tmp 32]) (ats := #[57, 9]) 9 (some 33) 35 #[(.pointer (some ⟨j, 0, none⟩)), (.string r)] (by kernel_rfl) (by kernel_rfl) (by kernel_rfl) (by kernel_rfl) (by kernel_rfl) Tryz.func35 (by kernel_rfl) (by kernel_rfl) (by kernel_rfl) ?_
  refine (hB _ h6).mono ?_
  rintro e w8 ⟨rfl, h8⟩
  refine ⟨_, rfl, hBS _ h8, fun hHeld => ?_⟩
  refine Rg.take (ops := (Rg.opsOf Tryz.f14 6)) 10 (some 4) ((.int .i64 (k : Nat))) hNS (by kernel_rfl) (by kernel_rfl) (by kernel_rfl) (by kernel_rfl) (by kernel_rfl) hHeld (Rg.y_move (x := (Operand.tmp 33)) (Or.inr (by kernel_rfl)) (by kernel_rfl)) ?_
  refine Rg.done (ops := (Rg.opsOf Tryz.f14 6)) (by kernel_rfl) ?_
  exact ⟨by kernel_rfl, h8⟩
end Go.Proofs.YtdfcbnejnnibpaaGreatDoor.Tb

namespace Go.Proofs.YtdfcbnejnnibpaaGreatDoor.Tb
open Go.RowKit Tx Pm Dk Wm Wr Wl Pl
set_option linter.unusedVariables false
set_option linter.unusedSimpArgs false
set_option linter.unnecessarySimpa false
theorem wt_whole_len (L : List It) : L.length * 40 ≤ wt (whole7 L) := by
  have := wt_len (whole7 L)
  unfold whole7 at this ⊢
  rwa [List.length_map] at this
theorem wt_whole_mem {L : List It} {x : It} (h : x ∈ L) : x.path.size + x.data.size + 40 ≤ wt (whole7 L) := wt_mem (c := ⟨x.path, x.data, false⟩) (List.mem_map.2 ⟨x, h, rfl⟩)
def PackOk (x : Tst) (p q : ByteArray) : Prop := FillOk x.j.s p (Fm.pk (rec7 (whole7 x.L))) ∧ ((fillS x.j.s p (Fm.pk (rec7 (whole7 x.L)))).1 = 0 → FillOk (fillS x.j.s p (Fm.pk (rec7 (whole7 x.L)))).2 q ⟨#[]⟩) ∧ wt (whole7 x.L) ≤ 1000000000 ∧ p.size ≤ 1000 ∧ q.size ≤ 1000
theorem pack_1 {x : Tst} {p q : ByteArray} {k : Nat} {s1 : St} (h : fillS x.j.s p (Fm.pk (rec7 (whole7 x.L))) = (k, s1)) (hk : k ≠ 0) : packS x p q = (k, ⟨⟨s1, x.j.R, x.j.dm⟩, x.L⟩) := by
  unfold packS; rw [h]; exact if_pos hk
theorem pack_2 {x : Tst} {p q : ByteArray} {k : Nat} {s1 : St} {y : Jst} (h : fillS x.j.s p (Fm.pk (rec7 (whole7 x.L))) = (0, s1)) (h2 : resetS ⟨s1, x.j.R, x.j.dm⟩ q = (k, y)) : packS x p q = (k, ⟨y, x.L⟩) := by
  unfold packS; rw [h]; simp only [h2]; exact if_neg (fun hh => hh rfl)
theorem TAt.disk {b j t m : Nat} {p q : ByteArray} {Fj F : Nat → Prop} {w W : World} {x : Tst} {s' : St} {k : Nat} {f : FuncId} {args : Array Value} (h : TAt b j t m p q Fj w F x) (hW : Below w.heap.size w W)
    (hc : ∀ {Fd}, ImpAt b W Fd x.j.s → Calls Tryz.prog f args W (Dos (ImpAt b) W Fd k s')) : Calls Tryz.prog f args W fun e w' => e = .returned (.int .i64 (k : Nat)) ∧ LeftA (Tn b j t m p q) w F ⟨⟨s', x.j.R, x.j.dm⟩, x.L⟩ w' := by
  have hw := h.below hW
  obtain ⟨v, Fd, hj⟩ := hw.jn
  refine (hc hj.dsk).mono ?_
  rintro e w' ⟨rfl, hl⟩
  obtain ⟨Fd', F', q1, c1, n1⟩ := hj.disk_left (imp_kind b) hl
  have h2 := hw.jleft (y := ⟨s', x.j.R, x.j.dm⟩) ⟨F', ⟨v, Fd', q1⟩, c1, n1⟩
  exact ⟨rfl, left_trans7 (Chg.of_below hW) (fun g hg => .inl hg) h2⟩
set_option maxRecDepth 100000 in
set_option maxHeartbeats 2000000 in
theorem pack_any (b j t m : Nat) {Fj F : Nat → Prop} {x : Tst} (p q : ByteArray) (w : World) (h : TAt b j t m p q Fj w F x) (o : PackOk x p q) :
    Calls Tryz.prog 39 #[.pointer (some ⟨t, 0, none⟩)] w fun e w' => e = .returned (.int .i64 ((packS x p q).1 : Nat)) ∧ LeftA (Tn b j t m p q) w F (packS x p q).2 w' := by
  obtain ⟨o1, o2, o3, o4, o5⟩ := o
  have hlen := wt_whole_len x.L
  have hsz : (rec7 (whole7 x.L)).size ≤ wt (whole7 x.L) + 10 := rec7_le (by omega)
  have hpk := Fm.pk_size (rec7 (whole7 x.L))
  have hvb := vb_len (x := (rec7 (whole7 x.L)).size) (by omega)
  obtain ⟨t0, t1, t2, t3⟩ := h.cell
  have hd1 := (Below.refl w.heap.size w).drew
  have h1 := h.below hd1
  have cw := whole_any t m x.L w.drew h1.cell.2.2.2 h1.rows h.rises (by omega) (fun y hy => by have := wt_whole_mem hy; omega)
  obtain ⟨k1, s1, hf⟩ : ∃ k s, fillS x.j.s p (Fm.pk (rec7 (whole7 x.L))) = (k, s) := ⟨_, _, rfl⟩
  have cf : ∀ W, Below w.heap.size w W → Calls Tryz.prog 67 #[.pointer (some ⟨b, 0, none⟩), .string p, .string (Fm.pk (rec7 (whole7 x.L)))] W fun e w' => e = .returned (.int .i64 (k1 : Nat)) ∧ LeftA (Tn b j t m p q) w F ⟨⟨s1, x.j.R, x.j.dm⟩, x.L⟩ w' := fun W hW =>
    h.disk hW (fun hd => by
      have := iFill_any b p (Fm.pk (rec7 (whole7 x.L))) W hd o1 o4 (by omega)
      rw [hf] at this
      exact this)
  have hS : ∀ W, Below w.heap.size w W → TwoT t b p W := fun W hW => ⟨(h.below hW).cell.1, (h.below hW).cell.2.1⟩
  have hDS : ∀ W, LeftA (Tn b j t m p q) w F ⟨⟨s1, x.j.R, x.j.dm⟩, x.L⟩ W → TwoT t b p W := fun W hW => by
    obtain ⟨F', ⟨Fj', hh⟩, _⟩ := hW
    exact ⟨hh.cell.1, hh.cell.2.1⟩
  have hrg := fun (ops : Array Oper) hops id => @packReg ops hops id t b k1 p (rec7 (whole7 x.L)) (Fm.pk (rec7 (whole7 x.L)))
  have hA : Calls Tryz.prog 68 #[.pointer (some ⟨t, 0, none⟩)] w.drew fun e w' => ∃ a n c, e = .returned (.slice a n c) ∧ (n ≤ c ∧ Opl w' a n (whole7 x.L) ∧ Below w.heap.size w w') := cw.mono fun e w' hh => by
    obtain ⟨v, rfl, hO, hb⟩ := hh
    obtain ⟨a, c, rfl, hl, hc, _⟩ := hO.form
    exact ⟨a, _, c, rfl, hc, hl, Tx.below_call hd1 hb⟩
  have hB : ∀ a n c W, (n ≤ c ∧ Opl W a n (whole7 x.L) ∧ Below w.heap.size w W) → Calls Tryz.prog 36 #[.slice a n c] W fun e w' => e = .returned (.string (rec7 (whole7 x.L))) ∧ Below w.heap.size w w' := fun a n c W hW =>
    (record_any a n c (whole7 x.L) W hW.2.1 (by omega) hW.1).mono fun e w' hh => ⟨hh.1, Tx.below_call hW.2.2 hh.2⟩
  have hC : ∀ W, Below w.heap.size w W → Calls Tryz.prog 63 #[.string (rec7 (whole7 x.L))] W fun e w' => e = .returned (.string (Fm.pk (rec7 (whole7 x.L)))) ∧ Below w.heap.size w w' := fun W hW =>
    (Fr.fPack_any (rec7 (whole7 x.L)) W (by omega)).mono fun e w' hh => ⟨hh.1, Tx.below_call hW hh.2⟩
  have HS := Lib.hid hS
  have HDS := Lib.hid hDS
  have HA := Lib.hid hA
  have HB := Lib.hid hB
  have HC := Lib.hid hC
  have HF := Lib.hid cf
  generalize hR7 : rec7 (whole7 x.L) = R7 at *
  generalize hPK : Fm.pk R7 = PK at *
  by_cases e1 : k1 ≠ 0
  · have hp : packS x p q = (k1, ⟨⟨s1, x.j.R, x.j.dm⟩, x.L⟩) := pack_1 (by rw [hR7, hPK]; exact hf) e1
    rw [hp]
    have n1 := neZ e1
    have h0 := Lib.hid (hS w (Below.refl _ _))
    clear h h1 o1 o2 o3 o4 o5 hlen hsz hpk hvb t0 t1 t2 t3 hd1 cw hf cf hS hDS hrg hA hB hC hp e1 hR7 hPK
    go_enter Tryz.func39, Tryz.ntmps39
    go_wp2_with fail
    refine Rg.wp_only ?_ (packReg _ (by kernel_rfl) _ t b k1 p R7 PK _ _ _ _ _ h0.out HA.out (fun a n c W hW => HS.out W hW.2.2) HB.out (fun W hW => HS.out W hW) HC.out (fun W hW => HS.out W hW) HF.out HDS.out)
    rintro _ w8 ⟨a5, n5, c5, rfl, h8⟩
    go_wp2_with fail
    go_ret
    exact ⟨rfl, h8⟩
  · obtain rfl : k1 = 0 := by omega
    have o2' := o2 (by rw [hf])
    rw [hf] at o2'
    simp only at o2'
    obtain ⟨k2, y, hrs⟩ : ∃ k y, resetS ⟨s1, x.j.R, x.j.dm⟩ q = (k, y) := ⟨_, _, rfl⟩
    have hp : packS x p q = (k2, ⟨y, x.L⟩) := pack_2 (by rw [hR7, hPK]; exact hf) hrs
    rw [hp]
    have h0 := Lib.hid (hS w (Below.refl _ _))
    have H2 := Lib.hid o2'
    have HRS := Lib.hid hrs
    have H5 := Lib.hid o5
    clear h h1 o1 o2 o3 o4 o5 hlen hsz hpk hvb t0 t1 t2 t3 hd1 cw hf cf hS hDS hrg hA hB hC hp e1 o2' hrs hR7 hPK
    go_enter Tryz.func39, Tryz.ntmps39
    go_wp2_with fail
    refine Rg.wp_only ?_ (packReg _ (by kernel_rfl) _ t b 0 p R7 PK _ _ _ _ _ h0.out HA.out (fun a n c W hW => HS.out W hW.2.2) HB.out (fun W hW => HS.out W hW) HC.out (fun W hW => HS.out W hW) HF.out HDS.out)
    rintro _ w8 ⟨a5, n5, c5, rfl, F8, ⟨Fj8, q8⟩, k8, n8⟩
    obtain ⟨_, _, t2, _⟩ := q8.cell
    obtain ⟨v8, Fd8, j8⟩ := q8.jn
    have cr := iReset_any b j q w8 j8 H2.out H5.out
    rw [HRS.out] at cr
    have HQ := Lib.hid (fun w' (hl : LeftA (JnT b j q) w8 Fj8 y w') => left_trans7 k8 n8 (q8.jleft (y := y) hl))
    clear q8 j8 k8 n8
    go_wp2_with fail
    go_at_call 69
    refine cr.mono ?_
    rintro e w9 ⟨rfl, h9⟩
    go_wp2_with fail
    go_ret
    exact ⟨rfl, HQ.out _ h9⟩
end Go.Proofs.YtdfcbnejnnibpaaGreatDoor.Tb

namespace Go.Proofs.YtdfcbnejnnibpaaGreatDoor.Tb
open Go.RowKit Tx Pm Dk Wm Wr Wl Pl
set_option linter.unusedVariables false
set_option linter.unusedSimpArgs false
set_option linter.unnecessarySimpa false
theorem bat_beside {b j t m u pm : Nat} {p q : ByteArray} {tp : Option Addr} {vO : Value} {w w1 : World} {F F1 G : Nat → Prop} {x y : Tst} {l : List Ch} (hB : BAt u pm tp vO w G l) (hd : ∀ i, F i → ¬ G i) (hc : Chg F w w1) (hn : ∀ g, F1 g → F g ∨ w.heap.size ≤ g) :
    BAt u pm tp vO w1 G l ∧ ∀ i, F1 i → ¬ G i :=
  ⟨hB.kept (fun i hi => hc.block i (hB.lt i hi) (fun hf => hd i hf hi)), fun i hi hg => by
    rcases hn i hi with hh | hh
    · exact hd i hh hg
    · have := hB.lt i hg; omega⟩
def CommitOk (x : Tst) (l : List Ch) (p q : ByteArray) : Prop := wt l ≤ 1000000000 ∧ AddOk x.j q (rec7 l) ∧ x.L.length + l.length ≤ 1000000000 ∧ q.size ≤ 1000 ∧ (addS x.j q (rec7 l)).2.R.length ≤ 10000000000 ∧ (16 ≤ (addS x.j q (rec7 l)).2.R.length → PackOk ⟨(addS x.j q (rec7 l)).2, all7 x.L l⟩ p q)
theorem commit_0 {x : Tst} {p q : ByteArray} : commitS x [] p q = (0, x) := rfl
theorem commit_1 {x : Tst} {l : List Ch} {p q : ByteArray} {k : Nat} {y : Jst} (hl : l ≠ []) (h : addS x.j q (rec7 l) = (k, y)) (hk : k ≠ 0) : commitS x l p q = (k, ⟨y, x.L⟩) := by
  unfold commitS; rw [if_neg hl, h]; exact if_pos hk
theorem commit_2 {x : Tst} {l : List Ch} {p q : ByteArray} {y : Jst} (hl : l ≠ []) (h : addS x.j q (rec7 l) = (0, y)) (h16 : ¬ 16 ≤ y.R.length) : commitS x l p q = (0, ⟨y, all7 x.L l⟩) := by
  unfold commitS; rw [if_neg hl, h]; simp only; rw [if_neg (fun hh => hh rfl), if_neg h16]
theorem commit_3 {x : Tst} {l : List Ch} {p q : ByteArray} {y : Jst} (hl : l ≠ []) (h : addS x.j q (rec7 l) = (0, y)) (h16 : 16 ≤ y.R.length) : commitS x l p q = packS ⟨y, all7 x.L l⟩ p q := by
  unfold commitS; rw [if_neg hl, h]; simp only; rw [if_neg (fun hh => hh rfl), if_pos h16]
theorem cleared {u pm : Nat} {tp : Option Addr} {vO : Value} {w : World} {G : Nat → Prop} {l : List Ch} (h : BAt u pm tp vO w G l) :
    ((w.alloc (.map #[] 0)).cell? ⟨u, 1, none⟩ = some vO ∧ (w.alloc (.map #[] 0)).frozen? ⟨u, 1, none⟩ = false) ∧
    (((w.alloc (.map #[] 0)).setCell ⟨u, 1, none⟩ (.slice none 0 0)).cell? ⟨u, 2, none⟩ = some (.map (some pm)) ∧ ((w.alloc (.map #[] 0)).setCell ⟨u, 1, none⟩ (.slice none 0 0)).frozen? ⟨u, 2, none⟩ = false) ∧
    BAt u w.heap.size tp (.slice none 0 0) (((w.alloc (.map #[] 0)).setCell ⟨u, 1, none⟩ (.slice none 0 0)).setCell ⟨u, 2, none⟩ (.map (some w.heap.size))) (fun i => i = u ∨ (Value.slice none 0 0).ownBlock = some i ∨ i = w.heap.size) [] ∧
    Chg (· = u) w (((w.alloc (.map #[] 0)).setCell ⟨u, 1, none⟩ (.slice none 0 0)).setCell ⟨u, 2, none⟩ (.map (some w.heap.size))) := by
  have hul : u < w.heap.size := h.lt u ((h.foot u).2 (.inl rfl))
  have hb0 : (w.alloc (.map #[] 0)).heap[u]? = some (.cells #[.pointer tp, vO, .map (some pm)] 66 (0, 0)) := (((Below.refl w.heap.size w).alloc (Nat.le_refl _) _).block u hul).trans h.blk
  have hb1 : ((w.alloc (.map #[] 0)).setCell ⟨u, 1, none⟩ (.slice none 0 0)).heap[u]? = some (.cells #[.pointer tp, .slice none 0 0, .map (some pm)] 66 (0, 0)) := by rw [set_block hb0]; rfl
  have hb2 : (((w.alloc (.map #[] 0)).setCell ⟨u, 1, none⟩ (.slice none 0 0)).setCell ⟨u, 2, none⟩ (.map (some w.heap.size))).heap[u]? = some (.cells #[.pointer tp, .slice none 0 0, .map (some w.heap.size)] 66 (0, 0)) := by rw [set_block hb1]; rfl
  refine ⟨⟨?_, ?_⟩, ⟨?_, ?_⟩, ⟨hb2, nil_OwnC _ _, ?_, (fun e => by cases e), List.Pairwise.nil, fun i => Iff.rfl⟩, ((Chg.of_below ((Below.refl w.heap.size w).alloc (Nat.le_refl _) _)).then (chg_set (b := u) (k := 1) _)).then (chg_set (b := u) (k := 2) _)⟩
  · unfold World.cell?; rw [hb0]; rfl
  · unfold World.frozen?; rw [hb0]; simp
  · unfold World.cell?; rw [hb1]; rfl
  · unfold World.frozen?; rw [hb1]; simp
  · exact ((pp_made w).kept (set_other _ (by omega))).kept (set_other _ (by omega))
def CommitTo (b j t m : Nat) (p q : ByteArray) (u : Nat) (w : World) (H : Nat → Prop) (r : Nat × Tst) (e : Ending) (w' : World) : Prop :=
  e = .returned (.int .i64 (r.1 : Nat)) ∧ LeftA (Tn b j t m p q) w H r.2 w' ∧ (r.1 = 0 → LeftA (TB b j t m p q u) w H (r.2, []) w')
theorem left_wide {α : Type} {Obj : World → (Nat → Prop) → α → Prop} {w w1 : World} {F H : Nat → Prop} {y : α} (hF : ∀ i, F i → H i) (h : LeftA Obj w F y w1) : LeftA Obj w H y w1 := by
  obtain ⟨F', h1, h2, h3⟩ := h
  exact ⟨F', h1, h2.mono hF, fun g hg => (h3 g hg).imp (fun hh => hF g hh) id⟩
theorem not_nil_len {l : List Ch} {n : Nat} (h : l ≠ []) (hn : n = l.length) : 0 < n := by
  cases l with
  | nil => exact absurd rfl h
  | cons x l => simp at hn; omega
set_option maxRecDepth 100000 in
set_option maxHeartbeats 4000000 in
theorem commit_any (b j t m u : Nat) {H : Nat → Prop} {x : Tst} {l : List Ch} (p q : ByteArray) (w : World) (h : TB b j t m p q u w H (x, l)) (o : CommitOk x l p q) :
    Calls Tryz.prog 14 #[.pointer (some ⟨u, 0, none⟩)] w (CommitTo b j t m p q u w H (commitS x l p q)) := by
  have h0 := h
  obtain ⟨F, G, ⟨Fj, hT⟩, ⟨pm, vO, hB⟩, hd, hH⟩ := h
  obtain ⟨o1, o2, o3, o4, o5, o6⟩ := o
  obtain ⟨c0, c1, c2⟩ := hB.cell
  obtain ⟨aO, cO, hvO, hO1, hO2, _⟩ := hB.ops.form
  obtain ⟨n, hn⟩ : ∃ n, n = l.length := ⟨_, rfl⟩
  rw [← hn] at hvO hO1 hO2
  by_cases hl : l = []
  · subst hl
    obtain rfl : n = 0 := hn
    rw [hvO] at c1
    have HE := Lib.hid (show CommitTo b j t m p q u w H (commitS x [] p q) (.returned (.int .i64 0)) w from ⟨rfl, ⟨F, ⟨Fj, hT⟩, Chg.refl _ _, fun g hg => .inl ((hH g).2 (.inl hg))⟩, fun _ => LeftA.of h0 (Chg.refl _ _)⟩)
    clear h0 hT hB hd hH o1 o2 o3 o4 o5 o6 hvO hO1
    go_enter Tryz.func14, Tryz.ntmps14
    go_wp2_with fail
    go_ret
    exact HE.out
  · have hpos := not_nil_len hl hn
    have hd1 := (Below.refl w.heap.size w).drew
    obtain ⟨k, y, hadd⟩ : ∃ k y, addS x.j q (rec7 l) = (k, y) := ⟨_, _, rfl⟩
    have hrec : ∀ W, Below w.heap.size w W → Calls Tryz.prog 36 #[.slice aO n cO] W fun e w' => e = .returned (.string (rec7 l)) ∧ Below w.heap.size w w' := fun W hW =>
      (record_any aO n cO l W (hO1.below hW) (by omega) hO2).mono fun e w' hh => ⟨hh.1, Tx.below_call hW hh.2⟩
    have hcall : ∀ W, Below w.heap.size w W → Calls Tryz.prog 35 #[.pointer (some ⟨j, 0, none⟩), .string (rec7 l)] W fun e w' => e = .returned (.int .i64 (k : Nat)) ∧ LeftA (Tn b j t m p q) w F ⟨y, x.L⟩ w' := fun W hW => by
      have hW2 := hT.below hW
      obtain ⟨v, Fd, hj⟩ := hW2.jn
      have c := iAdd_any b j q (rec7 l) W hj o2 o4
      rw [hadd] at c
      exact c.mono fun e w' hh => ⟨hh.1, left_trans7 (Chg.of_below hW) (fun g hg => .inl hg) (hW2.jleft (y := y) hh.2)⟩
    have hS : ∀ W, Below w.heap.size w W → TwoC t j u n cO aO W := fun W hW => ⟨(hT.below hW).cell.2.2.1, (hB.below hW).cell.2.1.trans (by rw [hvO])⟩
    have hS8 : ∀ W, LeftA (Tn b j t m p q) w F ⟨y, x.L⟩ W → TwoC t j u n cO aO W := fun W hW => by
      obtain ⟨F8, ⟨Fj8, h8⟩, k8, n8⟩ := hW
      exact ⟨h8.cell.2.2.1, (bat_beside (b := b) (j := j) (t := t) (m := m) (p := p) (q := q) (x := x) (y := x) hB hd k8 n8).1.cell.2.1.trans (by rw [hvO])⟩
    have HS := Lib.hid hS
    have HS8 := Lib.hid hS8
    have HREC := Lib.hid hrec
    have HCALL := Lib.hid hcall
    have hs0 := Lib.hid (hS w (Below.refl _ _))
    have hnz : ((n : Int) == 0) = false := by simp; omega
    have c1' := c1
    rw [hvO] at c1'
    by_cases hk : k ≠ 0
    · rw [commit_1 hl hadd hk]
      have nk := neZ hk
      have HK := Lib.hid hk
      have HH := Lib.hid hH
      clear h0 hT hB hd hH o1 o2 o3 o4 o5 o6 hvO hO1 hn hS hS8 hrec hcall hadd hk hl hd1 c1
      go_enter Tryz.func14, Tryz.ntmps14
      go_wp2_with fail
      refine Rg.wp_only ?_ (commitReg _ (by kernel_rfl) _ t j u n cO k aO (rec7 l) _ _ _ hs0.out (HREC.out _ (Below.refl w.heap.size w).drew) (fun W hW => HS.out W hW) HCALL.out HS8.out)
      rintro _ w8 ⟨rfl, h8⟩
      go_wp2_with fail
      go_ret
      exact ⟨rfl, left_wide (fun i hi => (HH.out i).2 (.inl hi)) h8, fun hh => absurd hh HK.out⟩
    · obtain rfl : k = 0 := by omega
      rw [hadd] at o5 o6
      simp only at o5 o6
      have hwl := wt_len l
      -- behind Add
      have hnext : ∀ w8, LeftA (Tn b j t m p q) w F ⟨y, x.L⟩ w8 → ∃ F8, (∃ Fj8, TAt b j t m p q Fj8 w8 F8 ⟨y, x.L⟩) ∧ BAt u pm (some ⟨t, 0, none⟩) vO w8 G l ∧ (∀ i, F8 i → ¬ G i) ∧ Chg F w w8 ∧ (∀ g, F8 g → F g ∨ w.heap.size ≤ g) := fun w8 hW => by
        obtain ⟨F8, h8, k8, n8⟩ := hW
        obtain ⟨a1, a2⟩ := bat_beside (b := b) (j := j) (t := t) (m := m) (p := p) (q := q) (x := x) (y := x) hB hd k8 n8
        exact ⟨F8, h8, a1, a2, k8, n8⟩
      have HNX := Lib.hid hnext
      have HH := Lib.hid hH
      have HN := Lib.hid hn
      have HV := Lib.hid hvO
      have HO3 := Lib.hid (show x.L.length + n ≤ 1000000000 by omega)
      have HKS := Lib.hid (show ∀ z ∈ l, z.key.size ≤ 1000000000000 from fun z hz => by have := wt_mem hz; omega)
      have HL := Lib.hid hl
      have HADD := Lib.hid hadd
      have H5 := Lib.hid o5
      have H6 := Lib.hid o6
      clear h0 hT hB hd hH o1 o2 o3 o4 o5 o6 hvO hO1 hn hS hS8 hrec hcall hadd hk hl hd1 c1 hnext hwl
      go_enter Tryz.func14, Tryz.ntmps14
      go_wp2_with fail
      refine Rg.wp_only ?_ (commitReg _ (by kernel_rfl) _ t j u n cO 0 aO (rec7 l) _ _ _ hs0.out (HREC.out _ (Below.refl w.heap.size w).drew) (fun W hW => HS.out W hW) HCALL.out HS8.out)
      rintro _ w8 ⟨rfl, h8⟩
      obtain ⟨F8, ⟨Fj8, hT8⟩, hB8, hd8, k8, n8⟩ := HNX.out _ h8
      obtain ⟨_, _, _, t83⟩ := hT8.cell
      obtain ⟨_, b81, _⟩ := hB8.cell
      obtain ⟨aP, cP, hvP, hOP, hcP, _⟩ := hB8.ops.form
      rw [HV.out, ← HN.out] at hvP
      injection hvP with e1 e2 e3
      subst e1 e3
      rw [← HN.out] at hOP
      have cd := do_any t m x.L aO n cO l w8 t83 hT8.rows hT8.rises hOP HO3.out HKS.out (by rw [HN.out]; exact hcP)
      rw [HV.out] at b81
      have HT8 := Lib.hid hT8
      have HB8 := Lib.hid hB8
      have HD8 := Lib.hid hd8
      have HK8 := Lib.hid k8
      have HN8 := Lib.hid n8
      clear hT8 hB8 hd8 k8 n8 hOP hcP h8 e2
      go_wp2_with fail
      go_at_call 37
      refine cd.mono ?_
      rintro e w9 ⟨rfl, hm9, hc9⟩
      have hT9 := HT8.out.turned hm9 hc9 (rises_all HT8.out.rises l) (plain_all HT8.out.plain l)
      have hm8 : F8 m := (HT8.out.foot m).2 (.inr (.inr rfl))
      have hB9 := HB8.out.kept (fun i hi => hc9.block i (HB8.out.lt i hi) (fun e => HD8.out m hm8 (e ▸ hi)))
      obtain ⟨⟨s1, s2⟩, ⟨s3, s4⟩, hBn, hcu⟩ := cleared hB9
      rw [HV.out] at s1
      have huG : G u := (HB8.out.foot u).2 (.inl rfl)
      have hT11 := hT9.kept (fun i hi => hcu.block i (hT9.lt i hi) (fun e => HD8.out i hi (e ▸ huG)))
      obtain ⟨_, _, t112, _⟩ := hT11.cell
      have hmm := @run_makeMap Tryz.prog
      have hz9 : w8.heap.size ≤ w9.heap.size := hc9.size
      have hz8 : w.heap.size ≤ w8.heap.size := HK8.out.size
      have hch9 : Chg H w w9 := (HK8.out.mono (fun i hi => (HH.out i).2 (.inl hi))).trans (hc9.mono (G := F8) (fun i hi => hi ▸ hm8)) (fun i hi => (HN8.out i hi).imp (fun hh => (HH.out i).2 (.inl hh)) id)
      have hch11 := hch9.then (hcu.mono (fun i hi => (HH.out i).2 (.inr (hi ▸ huG))))
      have hdis : ∀ i, F8 i → ¬ (i = u ∨ (Value.slice none 0 0).ownBlock = some i ∨ i = w9.heap.size) := fun i hi hh => by
        rcases hh with rfl | hh | rfl
        · exact HD8.out _ hi huG
        · cases hh
        · exact absurd (hT9.lt _ hi) (Nat.lt_irrefl _)
      obtain ⟨v11, Fd11, j11⟩ := hT11.jn
      have cr := iRecords_any (imp_kind b) b j q _ j11 H5.out
      have HT11 := Lib.hid hT11
      have HBn := Lib.hid hBn
      have HCH := Lib.hid hch11
      have HDIS := Lib.hid hdis
      have HSZ := Lib.hid (show w.heap.size ≤ w9.heap.size by omega)
      clear hT9 hB9 hBn hT11 hm9 hc9 hch9 hch11 hdis j11 hcu hz9 hz8 cd
      have HG8 := Lib.hid (show ∀ g, F8 g → H g ∨ w.heap.size ≤ g from fun g hg => (HN8.out g hg).imp (fun hh => (HH.out g).2 (.inl hh)) id)
      have HGB := Lib.hid (show ∀ g, (g = u ∨ (Value.slice none 0 0).ownBlock = some g ∨ g = w9.heap.size) → H g ∨ w.heap.size ≤ g from fun g hg => by
        rcases hg with rfl | hg | rfl
        · exact .inl ((HH.out _).2 (.inr huG))
        · cases hg
        · exact .inr HSZ.out)
      obtain ⟨N, hN⟩ : ∃ N, N = y.R.length := ⟨_, rfl⟩
      have HNN := Lib.hid hN
      clear hN
      go_wp2_with fail
      generalize ((w9.alloc (.map #[] 0)).setCell ⟨u, 1, none⟩ (.slice none 0 0)).setCell ⟨u, 2, none⟩ (.map (some w9.heap.size)) = W at HT11 HBn HCH cr t112 ⊢
      go_at_call 38
      refine cr.mono ?_
      rintro e w12 ⟨v12, rfl, h12, hb12⟩
      obtain ⟨a12, c12, hv12, _⟩ := h12.form
      rw [show (⟨y, all7 x.L l⟩ : Tst).j.R.length = N from HNN.out.symm] at hv12
      have hT12 := HT11.out.below hb12
      have hB12 := HBn.out.below hb12
      have hC12 : Chg H w w12 := HCH.out.then (Chg.of_below hb12)
      clear h12
      subst hv12
      by_cases h16 : 16 ≤ y.R.length
      · have hz16 : (16 : Int) ≤ (N : Int) := by rw [HNN.out]; omega
        have hcs : commitS x l p q = packS ⟨y, all7 x.L l⟩ p q := commit_3 HL.out HADD.out h16
        have cp := pack_any b j t m p q w12 hT12 (H6.out h16)
        have HCS := Lib.hid hcs
        have HP := Lib.hid (fun w' (hl : LeftA (Tn b j t m p q) w12 F8 (packS ⟨y, all7 x.L l⟩ p q).2 w') => (⟨left_trans7 hC12 HG8.out (left_wide (fun i hi => hi) hl), fun _ => by
          obtain ⟨F13, h13, k13, n13⟩ := hl
          obtain ⟨b1, b2⟩ := bat_beside (b := b) (j := j) (t := t) (m := m) (p := p) (q := q) (x := x) (y := x) hB12 HDIS.out k13 n13
          have hs12 := hC12.size
          refine ⟨fun i => F13 i ∨ (i = u ∨ (Value.slice none 0 0).ownBlock = some i ∨ i = w9.heap.size), ⟨F13, _, h13, ⟨_, _, b1⟩, b2, fun i => Iff.rfl⟩, hC12.trans k13 HG8.out, fun g hg => ?_⟩
          rcases hg with hg | hg
          · rcases n13 g hg with hh | hh
            · exact HG8.out g hh
            · exact .inr (by omega)
          · exact HGB.out g hg⟩ : LeftA (Tn b j t m p q) w H (packS ⟨y, all7 x.L l⟩ p q).2 w' ∧ ((packS ⟨y, all7 x.L l⟩ p q).1 = 0 → LeftA (TB b j t m p q u) w H ((packS ⟨y, all7 x.L l⟩ p q).2, []) w')))
        clear hT12 hB12 hC12 hcs h16
        go_wp2_with fail
        go_at_call 39
        refine cp.mono ?_
        rintro e w13 ⟨rfl, h13⟩
        obtain ⟨q1, q2⟩ := HP.out _ h13
        clear h13
        go_wp2_with fail
        go_ret
        rw [HCS.out]
        exact ⟨rfl, q1, q2⟩
      · have hz16 : ¬ (16 : Int) ≤ (N : Int) := by rw [HNN.out]; omega
        have hcs : commitS x l p q = (0, ⟨y, all7 x.L l⟩) := commit_2 HL.out HADD.out h16
        have HCS := Lib.hid hcs
        have HE := Lib.hid (show CommitTo b j t m p q u w H (0, ⟨y, all7 x.L l⟩) (.returned (.int .i64 0)) w12 from
          ⟨rfl, ⟨F8, ⟨_, hT12⟩, hC12, HG8.out⟩, fun _ => ⟨fun i => F8 i ∨ (i = u ∨ (Value.slice none 0 0).ownBlock = some i ∨ i = w9.heap.size), ⟨F8, _, ⟨_, hT12⟩, ⟨_, _, hB12⟩, HDIS.out, fun i => Iff.rfl⟩, hC12, fun g hg => hg.elim (HG8.out g) (HGB.out g)⟩⟩)
        clear hT12 hB12 hC12 hcs h16
        go_wp2_with fail
        go_ret
        rw [HCS.out]
        exact HE.out
end Go.Proofs.YtdfcbnejnnibpaaGreatDoor.Tb

namespace Go.Proofs.YtdfcbnejnnibpaaGreatDoor.Wl
open Go.RowKit Tx Pm Pl Pr Dk Fr
set_option linter.unusedVariables false
section
variable {α β : Type} {Obj : World → (Nat → Prop) → α → Prop} {Obj' : World → (Nat → Prop) → β → Prop} {w0 W : World} {x : α} {y : β}
end
abbrev Jb (b j : Nat) : World → (Nat → Prop) → Jst → Prop := Jn (ImpAt b) 114 b j pL
section
variable {w0 W : World} {b j k : Nat} {s s' : St} {x y : Jst}
theorem Own.disk (h : Own (Jb b j) w0 x W) : Own (ImpAt b) w0 x.s W := by
  obtain ⟨F, ⟨v, Fd, h1⟩, h2, h3⟩ := h
  exact ⟨Fd, h1.dsk, fun i hi => h2 i ((h1.foot i).2 (.inl hi)), h3⟩
end
end Go.Proofs.YtdfcbnejnnibpaaGreatDoor.Wl

namespace Go.Proofs.YtdfcbnejnnibpaaGreatDoor.Tb
open Go.RowKit Tx Pm Dk Wm Wr Wl
set_option linter.unusedVariables false
set_option linter.unusedSimpArgs false
set_option linter.unnecessarySimpa false
theorem pB_tT : pB ++ tT = pBT := by decide +kernel
section
variable {B BT G GT : Option Fi} {g f : Fi} {d : ByteArray} {st sm : Nat} {a : Int} {dn : Bool}
theorem o_log : (old (T7 B BT (some g) GT st sm a dn).L pG).data = g.data := by cases B <;> cases BT <;> cases GT <;> kernel_rfl
theorem t_append (ha : a ≠ 0) : appendS (T7 B BT (some g) GT st sm a false) pG d = (0, T7 B BT (some ⟨g.data ++ d, g.kept, true, g.anew, sm + 1⟩) GT (st + 1) (sm + 1) (dec a) false) := by
  unfold appendS
  rw [fits_none rfl]
  unfold T7
  rw [done_open ha]
  cases B <;> cases BT <;> cases GT <;> kernel_rfl
theorem t_append0 : appendS (T7 B BT (some g) GT st sm 0 false) pG d = (14, T7 B BT (some g) GT st sm (-1) true) := by
  unfold appendS
  rw [fits_none rfl]
  cases B <;> cases BT <;> cases GT <;> kernel_rfl
theorem t_sync (ha : a ≠ 0) : syncS (T7 B BT (some g) GT st sm a false) pG = (0, T7 B BT (some ⟨g.data, g.data, false, false, g.stamp⟩) GT (st + 1) sm (dec a) false) := by
  unfold syncS T7
  rw [done_open ha]
  cases B <;> cases BT <;> cases GT <;> kernel_rfl
theorem t_sync0 : syncS (T7 B BT (some g) GT st sm 0 false) pG = (14, T7 B BT (some g) GT st sm (-1) true) := by
  unfold syncS
  cases B <;> cases BT <;> cases GT <;> kernel_rfl
theorem b_write (ha : a ≠ 0) : writeS (T7 B BT G GT st sm a false) pBT d = (0, T7 B (some ⟨d, keptOf BT, true, true, sm + 1⟩) G GT (st + 1) (sm + 1) (dec a) false) := by
  unfold writeS
  rw [fits_none rfl]
  unfold T7
  rw [done_open ha]
  cases B <;> cases BT <;> cases G <;> cases GT <;> kernel_rfl
theorem b_write0 : writeS (T7 B BT G GT st sm 0 false) pBT d = (14, T7 B BT G GT st sm (-1) true) := by
  unfold writeS
  rw [fits_none rfl]
  cases B <;> cases BT <;> cases G <;> cases GT <;> kernel_rfl
theorem b_sync (ha : a ≠ 0) : syncS (T7 B (some f) G GT st sm a false) pBT = (0, T7 B (some ⟨f.data, f.data, false, false, f.stamp⟩) G GT (st + 1) sm (dec a) false) := by
  unfold syncS T7
  rw [done_open ha]
  cases B <;> cases G <;> cases GT <;> kernel_rfl
theorem b_sync0 : syncS (T7 B (some f) G GT st sm 0 false) pBT = (14, T7 B (some f) G GT st sm (-1) true) := by
  unfold syncS
  cases B <;> cases G <;> cases GT <;> kernel_rfl
theorem b_rename (ha : a ≠ 0) : renameS (T7 B (some f) G GT st sm a false) pBT pB = (0, T7 (some ⟨f.data, f.kept, f.loose, f.anew, sm + 1⟩) none G GT (st + 1) (sm + 1) (dec a) false) := by
  unfold renameS
  rw [fits_none rfl]
  unfold T7
  rw [done_open ha]
  cases B <;> cases G <;> cases GT <;> kernel_rfl
theorem b_rename0 : renameS (T7 B (some f) G GT st sm 0 false) pBT pB = (14, T7 B (some f) G GT st sm (-1) true) := by
  unfold renameS
  rw [fits_none rfl]
  cases B <;> cases G <;> cases GT <;> kernel_rfl
theorem g_rename0 : renameS (T7 B BT G (some f) st sm 0 false) pGT pG = (14, T7 B BT G (some f) st sm (-1) true) := by
  unfold renameS
  rw [fits_none rfl]
  cases B <;> cases BT <;> cases G <;> kernel_rfl
end
end Go.Proofs.YtdfcbnejnnibpaaGreatDoor.Tb

namespace Go.Proofs.YtdfcbnejnnibpaaGreatDoor.Tb
open Go.RowKit Tx Pm Dk Wm Wr Wl
set_option linter.unusedVariables false
set_option linter.unusedSimpArgs false
set_option linter.unnecessarySimpa false
theorem ook_app {d k : ByteArray} {n : Nat} (h : d.size ≤ 20000000000) (hk : k.size ≤ d.size) : Ook (some ⟨d, k, true, false, n⟩) := fun f hf => by
  injection hf with hf
  subst hf
  exact ⟨h, by show k.size ≤ _; omega, fun _ => hk, fun e => (by cases e)⟩
section
variable {B BT G GT : Option Fi} {g f : Fi} {d : ByteArray} {st sm : Nat} {a : Int} {dn : Bool}
end
section
variable {B BT G GT : Option Fi} {d : ByteArray} {st sm : Nat} {a : Int}
theorem dec_m1 {a : Int} (h : a = -1) : dec a = -1 := by subst h; rfl
theorem fillB (h : Sz B BT G GT st sm) (hd : d.size ≤ 20000000000) (ha : Rng a) : ∃ k s', fillS (T7 B BT G GT st sm a false) pB d = (k, s') ∧
    ((k = 0 ∧ ∃ a', s' = T7 (some (sy d (sm + 2))) none G GT (st + 3) (sm + 2) a' false ∧ Rng a' ∧ (a = -1 → a' = -1)) ∨ (k = 14 ∧ a ≠ -1 ∧ ∃ BT' st' sm', s' = T7 B BT' G GT st' sm' (-1) true ∧ Ook BT' ∧ st' ≤ st + 3 ∧ sm' ≤ sm + 2)) := by
  have hk := kept_ook h.bt
  unfold fillS
  rw [pB_tT]
  by_cases h1 : a = 0
  · subst h1
    rw [b_write0]
    exact ⟨14, _, rfl, .inr ⟨rfl, by decide, BT, st, sm, rfl, h.bt, by omega, by omega⟩⟩
  · rw [b_write h1]
    by_cases h2 : dec a = 0
    · simp only [h2, b_sync0]
      exact ⟨14, _, rfl, .inr ⟨rfl, fun e => (by rw [dec_m1 e] at h2; cases h2), _, st + 1, sm + 1, rfl, ook_raw hd hk, by omega, by omega⟩⟩
    · simp only [b_sync h2]
      by_cases h3 : dec (dec a) = 0
      · simp only [h3, b_rename0]
        exact ⟨14, _, rfl, .inr ⟨rfl, fun e => (by rw [dec_m1 (dec_m1 e)] at h3; cases h3), _, st + 1 + 1, sm + 1, rfl, ook_sy (n := sm + 1) hd, by omega, by omega⟩⟩
      · simp only [b_rename h3]
        exact ⟨0, _, rfl, .inl ⟨rfl, _, rfl, rng_dec (rng_dec (rng_dec ha)), fun e => dec_m1 (dec_m1 (dec_m1 e))⟩⟩
theorem fillG (h : Sz B BT G GT st sm) (hd : d.size ≤ 20000000000) (ha : Rng a) : ∃ k s', fillS (T7 B BT G GT st sm a false) pG d = (k, s') ∧
    ((k = 0 ∧ ∃ a', s' = T7 B BT (some (sy d (sm + 2))) none (st + 3) (sm + 2) a' false ∧ Rng a' ∧ (a = -1 → a' = -1)) ∨ (k = 14 ∧ a ≠ -1 ∧ ∃ GT' st' sm', s' = T7 B BT G GT' st' sm' (-1) true ∧ Ook GT' ∧ st' ≤ st + 3 ∧ sm' ≤ sm + 2)) := by
  have hk := kept_ook h.gt
  unfold fillS
  rw [pG_tT]
  by_cases h1 : a = 0
  · subst h1
    rw [g_write0]
    exact ⟨14, _, rfl, .inr ⟨rfl, by decide, GT, st, sm, rfl, h.gt, by omega, by omega⟩⟩
  · rw [g_write h1]
    by_cases h2 : dec a = 0
    · simp only [h2, g_sync0]
      exact ⟨14, _, rfl, .inr ⟨rfl, fun e => (by rw [dec_m1 e] at h2; cases h2), _, st + 1, sm + 1, rfl, ook_raw hd hk, by omega, by omega⟩⟩
    · simp only [g_sync h2]
      by_cases h3 : dec (dec a) = 0
      · simp only [h3, g_rename0]
        exact ⟨14, _, rfl, .inr ⟨rfl, fun e => (by rw [dec_m1 (dec_m1 e)] at h3; cases h3), _, st + 1 + 1, sm + 1, rfl, ook_sy (n := sm + 1) hd, by omega, by omega⟩⟩
      · simp only [g_rename h3]
        exact ⟨0, _, rfl, .inl ⟨rfl, _, rfl, rng_dec (rng_dec (rng_dec ha)), fun e => dec_m1 (dec_m1 (dec_m1 e))⟩⟩
theorem fillokB (h : Sz B BT G GT st sm) (hd : d.size ≤ 20000000000) (ha : Rng a) (hst : st ≤ 900000) (hsm : sm ≤ 900000) : FillOk (T7 B BT G GT st sm a false) pB d := by
  have hk := kept_ook h.bt
  refine ⟨t7_ok h ha, ?_, ?_⟩
  · rw [pB_tT]
    by_cases h1 : a = 0
    · subst h1; rw [b_write0]; exact t7_ok h rng_m1
    · rw [b_write h1]; exact t7_ok ⟨h.b, ook_raw hd hk, h.g, h.gt, by omega, by omega⟩ (rng_dec ha)
  · rw [pB_tT]
    by_cases h1 : a = 0
    · subst h1
      rw [b_write0]
      have e : syncS (T7 B BT G GT st sm (-1) true) pBT = (14, T7 B BT G GT st sm (-1) true) := by
        unfold syncS
        cases B <;> cases BT <;> cases G <;> cases GT <;> kernel_rfl
      show Ok (syncS (T7 B BT G GT st sm (-1) true) pBT).2
      rw [e]
      exact t7_ok h rng_m1
    · rw [b_write h1]
      show Ok (syncS (T7 B (some ⟨d, keptOf BT, true, true, sm + 1⟩) G GT (st + 1) (sm + 1) (dec a) false) pBT).2
      by_cases h2 : dec a = 0
      · rw [h2, b_sync0]; exact t7_ok ⟨h.b, ook_raw hd hk, h.g, h.gt, by omega, by omega⟩ rng_m1
      · rw [b_sync h2]; exact t7_ok ⟨h.b, ook_sy (n := sm + 1) hd, h.g, h.gt, by omega, by omega⟩ (rng_dec (rng_dec ha))
end
theorem add7 {B BT GT : Option Fi} {c r : ByteArray} {n st sm : Nat} {a : Int} {R : List ByteArray} {dm : Bool} (ha : Rng a) : ∃ k x', addS ⟨T7 B BT (some (sy c n)) GT st sm a false, R, dm⟩ pG r = (k, x') ∧
    ((k = 0 ∧ ∃ a', x' = ⟨T7 B BT (some (sy (c ++ Fm.pk r) (sm + 1))) GT (st + 2) (sm + 1) a' false, R ++ [r], dm⟩ ∧ Rng a' ∧ (a = -1 → a' = -1)) ∨
     (k = 14 ∧ a ≠ -1 ∧ ∃ G' st' sm', x' = ⟨T7 B BT G' GT st' sm' (-1) true, R, dm⟩ ∧ (G' = some (sy c n) ∨ G' = some ⟨c ++ Fm.pk r, c, true, false, sm + 1⟩) ∧ st' ≤ st + 2 ∧ sm' ≤ sm + 1)) := by
  unfold addS
  by_cases h1 : a = 0
  · subst h1
    simp only [t_append0]
    exact ⟨14, _, rfl, .inr ⟨rfl, by decide, _, st, sm, rfl, .inl rfl, by omega, by omega⟩⟩
  · simp only [t_append h1]
    by_cases h2 : dec a = 0
    · simp only [h2, t_sync0]
      exact ⟨14, _, rfl, .inr ⟨rfl, fun e => (by rw [dec_m1 e] at h2; cases h2), _, st + 1, sm + 1, rfl, .inr rfl, by omega, by omega⟩⟩
    · simp only [t_sync h2]
      exact ⟨0, _, rfl, .inl ⟨rfl, _, rfl, rng_dec (rng_dec ha), fun e => dec_m1 (dec_m1 e)⟩⟩
theorem addok7 {B BT GT : Option Fi} {c r : ByteArray} {n st sm : Nat} {a : Int} {R : List ByteArray} {dm : Bool} (h : Sz B BT (some (sy c n)) GT st sm) (ha : Rng a) (hr : r.size ≤ 1000000000) (hc : c.size + (Fm.pk r).size ≤ 20000000000) (hR : R.length ≤ 1000) (hst : st ≤ 900000) (hsm : sm ≤ 900000) :
    AddOk ⟨T7 B BT (some (sy c n)) GT st sm a false, R, dm⟩ pG r := by
  have hs : (c ++ Fm.pk r).size = c.size + (Fm.pk r).size := ByteArray.size_append
  refine ⟨t7_ok h ha, ?_, ?_, by omega, by show R.length ≤ _; omega⟩
  · show Ok (appendS (T7 B BT (some (sy c n)) GT st sm a false) pG (Fm.pk r)).2
    by_cases h1 : a = 0
    · subst h1; rw [t_append0]; exact t7_ok h rng_m1
    · rw [t_append h1]; exact t7_ok ⟨h.b, h.bt, ook_app (by show (c ++ Fm.pk r).size ≤ _; omega) (by show c.size ≤ (c ++ Fm.pk r).size; omega), h.gt, by omega, by omega⟩ (rng_dec ha)
  · show (old (T7 B BT (some (sy c n)) GT st sm a false).L pG).data.size + _ ≤ _
    rw [o_log]
    show c.size + _ ≤ _
    omega
end Go.Proofs.YtdfcbnejnnibpaaGreatDoor.Tb

namespace Go.Proofs.YtdfcbnejnnibpaaGreatDoor.Tb
open Go.RowKit Tx Pm Dk Wm Wr Wl Pl
set_option linter.unusedVariables false
set_option linter.unusedSimpArgs false
set_option linter.unnecessarySimpa false
section
variable {B BT GT : Option Fi} {L0 : List It} {l : List ByteArray} {r c : ByteArray} {n st sm : Nat} {a : Int}
end
section
variable {B BT GT : Option Fi} {c : ByteArray} {n st sm : Nat} {a : Int} {R : List ByteArray} {dm : Bool} {L : List It} {l : List Ch}
theorem pk_bound {r : ByteArray} (h : r.size ≤ 1000000000) : (Fm.pk r).size ≤ r.size + 14 := by
  have := vb_len (x := r.size) (by omega)
  rw [Fm.pk_size]
  omega
theorem pack_T (h : Sz B BT (some (sy c n)) GT st sm) (ha : Rng a) (hw : wt (whole7 L) ≤ 900000000) (hst : st ≤ 800000) (hsm : sm ≤ 800000) :
    PackOk ⟨⟨T7 B BT (some (sy c n)) GT st sm a false, R, dm⟩, L⟩ pB pG ∧ ∃ k y, packS ⟨⟨T7 B BT (some (sy c n)) GT st sm a false, R, dm⟩, L⟩ pB pG = (k, y) ∧
    ((k = 0 ∧ ∃ a', y = ⟨⟨T7 (some (sy (Fm.pk (rec7 (whole7 L))) (sm + 2))) none (some (sy ⟨#[]⟩ (sm + 4))) none (st + 6) (sm + 4) a' false, [], dm⟩, L⟩ ∧ Rng a' ∧ (a = -1 → a' = -1)) ∨
     (k = 14 ∧ a ≠ -1 ∧ ∃ BT' st' sm', y.j.s = T7 B BT' (some (sy c n)) GT st' sm' (-1) true ∧ Ook BT' ∧ st' ≤ st + 6 ∧ sm' ≤ sm + 4) ∨
     (k = 14 ∧ a ≠ -1 ∧ ∃ GT' st' sm', y.j.s = T7 (some (sy (Fm.pk (rec7 (whole7 L))) (sm + 2))) none (some (sy c n)) GT' st' sm' (-1) true ∧ Ook GT' ∧ st' ≤ st + 6 ∧ sm' ≤ sm + 4)) := by
  have hr := rec7_le (l := whole7 L) (by omega)
  have hp := pk_bound (r := rec7 (whole7 L)) (by omega)
  have hd : (Fm.pk (rec7 (whole7 L))).size ≤ 20000000000 := by omega
  obtain ⟨k1, s1, hf1, hc1⟩ := fillB h hd ha
  have hz2 : ∀ a', Rng a' → Sz (some (sy (Fm.pk (rec7 (whole7 L))) (sm + 2))) none (some (sy c n)) GT (st + 3) (sm + 2) := fun a' _ => ⟨ook_sy hd, ook_none, h.g, h.gt, by omega, by omega⟩
  refine ⟨⟨fillokB h hd ha (by omega) (by omega), fun h0 => ?_, by show wt (whole7 L) ≤ _; omega, by decide, by decide⟩, ?_⟩
  · have hf1' : fillS (T7 B BT (some (sy c n)) GT st sm a false) pB (Fm.pk (rec7 (whole7 L))) = (k1, s1) := hf1
    show FillOk (fillS (T7 B BT (some (sy c n)) GT st sm a false) pB (Fm.pk (rec7 (whole7 L)))).2 pG ⟨#[]⟩
    have h0 : (fillS (T7 B BT (some (sy c n)) GT st sm a false) pB (Fm.pk (rec7 (whole7 L)))).1 = 0 := h0
    rw [hf1'] at h0 ⊢
    rcases hc1 with ⟨_, a', rfl, ra, _⟩ | ⟨hk, _⟩
    · exact fillokG (hz2 a' ra) (by decide) ra (by omega) (by omega)
    · simp only at h0; omega
  · rcases hc1 with ⟨rfl, a', rfl, ra, rm⟩ | ⟨rfl, hne, BT', st', sm', rfl, o1, o2, o3⟩
    · obtain ⟨k2, s2, hf2, hc2⟩ := fillG (d := ⟨#[]⟩) (hz2 a' ra) (by decide) ra
      rcases hc2 with ⟨rfl, a2, rfl, ra2, rm2⟩ | ⟨rfl, hne2, GT', st', sm', rfl, o1, o2, o3⟩
      · refine ⟨0, _, pack_2 hf1 (by unfold resetS; simp only [hf2]; rfl), .inl ⟨rfl, a2, rfl, ra2, fun e => rm2 (rm e)⟩⟩
      · refine ⟨14, _, pack_2 hf1 (k := 14) (y := ⟨T7 (some (sy (Fm.pk (rec7 (whole7 L))) (sm + 2))) none (some (sy c n)) GT' st' sm' (-1) true, R, dm⟩) (by unfold resetS; simp only [hf2]; rfl), .inr (.inr ⟨rfl, fun e => hne2 (rm e), GT', st', sm', rfl, o1, by omega, by omega⟩)⟩
    · exact ⟨14, _, pack_1 hf1 (by decide), .inr (.inl ⟨rfl, hne, BT', st', sm', rfl, o1, by omega, by omega⟩)⟩
end
end Go.Proofs.YtdfcbnejnnibpaaGreatDoor.Tb

namespace Go.Proofs.YtdfcbnejnnibpaaGreatDoor.Tb
open Go.RowKit Tx Pm Dk Wm Wr Wl Pl
set_option linter.unusedVariables false
set_option linter.unusedSimpArgs false
set_option linter.unnecessarySimpa false
def ws (L : List It) : Nat := (L.map fun x => x.path.size + x.data.size + 40).sum
theorem ws_cons (x : It) (L : List It) : ws (x :: L) = x.path.size + x.data.size + 40 + ws L := by unfold ws; rw [List.map_cons, List.sum_cons]
theorem ws_append (a b : List It) : ws (a ++ b) = ws a + ws b := by unfold ws; rw [List.map_append, List.sum_append]
theorem wt_whole (L : List It) : wt (whole7 L) = ws L := by
  unfold wt whole7 ws
  rw [List.map_map]
  rfl
theorem ws_drop (L : List It) (p : ByteArray) : ws (drop L p) ≤ ws L := by
  induction L with
  | nil => exact Nat.le_refl _
  | cons x L ih =>
    unfold drop at ih ⊢
    rw [ws_cons, List.filter_cons]
    split
    · rw [ws_cons]; omega
    · omega
theorem ws_ins (L : List It) (x : It) : ws (ins L x) ≤ ws L + (x.path.size + x.data.size + 40) := by
  have e : ws L = ws (L.takeWhile (fun y => Op.bytesLess y.path.toList x.path.toList)) + ws (L.dropWhile (fun y => Op.bytesLess y.path.toList x.path.toList)) := by
    rw [← ws_append, List.takeWhile_append_dropWhile]
  unfold ins
  rw [ws_append, ws_cons]
  cases hd : L.dropWhile (fun y => Op.bytesLess y.path.toList x.path.toList) with
  | nil => rw [hd] at e; simp only; omega
  | cons y r =>
    rw [hd, ws_cons] at e
    simp only
    split
    · omega
    · rw [ws_cons]; omega
theorem ws_app (L : List It) (c : Ch) : ws (app L c) ≤ ws L + (c.key.size + c.val.size + 40) := by
  unfold app
  split
  · have := ws_drop L c.key; omega
  · exact ws_ins L (rw7 c.key c.val)
theorem ws_all (L : List It) (l : List Ch) : ws (all7 L l) ≤ ws L + wt l := by
  induction l generalizing L with
  | nil => exact Nat.le_add_right _ _
  | cons c l ih =>
    have h1 := ih (app L c)
    have h2 := ws_app L c
    rw [all7_cons, wt_cons]
    omega
section
variable {B BT GT : Option Fi} {c : ByteArray} {n st sm : Nat} {a : Int} {R : List ByteArray} {dm : Bool} {L : List It} {l : List Ch}
theorem pack_U (h : Sz B BT (some (sy c n)) GT st sm) (hw : ws L ≤ 900000000) (hst : st ≤ 800000) (hsm : sm ≤ 800000) :
    PackOk ⟨⟨T7 B BT (some (sy c n)) GT st sm (-1) false, R, dm⟩, L⟩ pB pG ∧ packS ⟨⟨T7 B BT (some (sy c n)) GT st sm (-1) false, R, dm⟩, L⟩ pB pG = (0, ⟨⟨T7 (some (sy (Fm.pk (rec7 (whole7 L))) (sm + 2))) none (some (sy ⟨#[]⟩ (sm + 4))) none (st + 6) (sm + 4) (-1) false, [], dm⟩, L⟩) := by
  obtain ⟨h1, k, y, h2, hcs⟩ := pack_T (B := B) (BT := BT) (GT := GT) (c := c) (n := n) (st := st) (sm := sm) (a := -1) (R := R) (dm := dm) (L := L) h rng_m1 (by rw [wt_whole]; exact hw) hst hsm
  refine ⟨h1, ?_⟩
  rw [h2]
  rcases hcs with ⟨rfl, a', rfl, _, ha⟩ | ⟨_, hne, _⟩ | ⟨_, hne, _⟩
  · rw [ha rfl]
  · exact absurd rfl hne
  · exact absurd rfl hne
end
section
variable {BT G GT : Option Fi} {f : Fi} {st sm : Nat} {bit : Int}
end
end Go.Proofs.YtdfcbnejnnibpaaGreatDoor.Tb

namespace Go.Proofs.YtdfcbnejnnibpaaGreatDoor.Rg
open Go.RowKit
set_option linter.unusedVariables false
set_option linter.unusedSimpArgs false
section
variable {P : Program} {ops : Array Oper} {R : Act → World → Prop} {S : World → Prop}
theorem y_build {o : Oper} {a : Act} {T : TypeId} {parts : Array (Nat × Operand)} {vs : Array (Nat × Value)} {v : Value} (ho : o.op = .build T parts) (hx : (parts.map fun (i, x) => (i, a.eval x)) = vs)
    (hv : ∀ w, S w → (Instr.build T vs).run P w = .ok v w) : ∀ w, S w → (execOp a.eval o).run P w = .ok (.value v) w := by
  intro w hw
  obtain ⟨dst, op, ty, pos, after, guard⟩ := o
  simp only at ho
  subst ho
  have := hv w hw
  simp only [execOp, Sem.run_bind]
  rw [hx, this]
  rfl
theorem y_sl1 {o : Oper} {a : Act} {T : TypeId} {x l : Operand} {vx vl v : Value} (ho : o.op = .slice T x (some l) none none) (hx : a.eval x = vx) (hl : a.eval l = vl)
    (hv : ∀ w, S w → (Instr.sliceAt T vx (some vl) none none).run P w = .ok v w) : ∀ w, S w → (execOp a.eval o).run P w = .ok (.value v) w := by
  intro w hw
  obtain ⟨dst, op, ty, pos, after, guard⟩ := o
  simp only at ho
  subst ho
  have := hv w hw
  simp only [execOp, hx, hl, Option.map_some, Option.map_none, Sem.run_bind]
  rw [this]
  rfl
theorem three {i j k : Nat} {fuel : Nat} {listed : Array Bool} {a : Act} {w : World} (hr : Region.ready .any ops listed = [i, j, k])
    (h1 : wpOp P ops (Only R) i (fun a' w' => S w' ∧ wpAnyH P .any ops (Only R) S fuel (listed.setIfInBounds i true) a' w') a w)
    (h2 : wpOp P ops (Only R) j (fun a' w' => S w' ∧ wpAnyH P .any ops (Only R) S fuel (listed.setIfInBounds j true) a' w') a w)
    (h3 : wpOp P ops (Only R) k (fun a' w' => S w' ∧ wpAnyH P .any ops (Only R) S fuel (listed.setIfInBounds k true) a' w') a w) : wpAnyH P .any ops (Only R) S (fuel + 1) listed a w :=
  wpAnyH_all hr (by simp) fun q hq => by
    rcases (by simpa using hq : q = i ∨ q = j ∨ q = k) with rfl | rfl | rfl
    · exact h1
    · exact h2
    · exact h3
theorem op_app (i : Nat) (d : Option Tmp) {T : TypeId} {x y : Operand} {vx vy : Value} {fuel : Nat} {listed : Array Bool} {a : Act} {w : World}
    (hi : decide (i < ops.size) = true) (hd : (opOf ops i).dst = d)
    (hw : Region.wanted (opOf ops i) (yielded ops a.tmps) = true) (ho : (opOf ops i).op = .call { callee := .builtin .append, args := #[x, y], argTypes := #[T, T] }) (hx : a.eval x = vx) (hy : a.eval y = vy)
    (h : ∀ ty, ∃ v w1, (Builtin.append_ #[T, T] ty #[vx, vy]).run P w = .ok v w1 ∧ S w1 ∧ (S w1 → wpAnyH P .any ops (Only R) S fuel (listed.setIfInBounds i true) (a.put d v) w1)) :
    wpOp P ops (Only R) i (fun a' w' => S w' ∧ wpAnyH P .any ops (Only R) S fuel (listed.setIfInBounds i true) a' w') a w := by
  subst hd
  unfold wpOp
  rw [opOf_some hi]
  simp only [hw, if_true]
  refine .inl ?_
  obtain ⟨v, w1, hrun, hS, hk⟩ := h (opOf ops i).type
  generalize opOf ops i = o at ho hrun hk ⊢
  obtain ⟨dst, op, ty, pos, after, guard⟩ := o
  simp only at ho hrun hk ⊢
  subst ho
  unfold Oper.wp
  simp only [execOp, resolve, invoke, builtin, Sem.run_bind, Sem.run_pure, Result.andThen_ok, List.map_toArray, List.map_cons, List.map_nil, hx, hy, hrun]
  exact ⟨hS, hk hS⟩
end
end Go.Proofs.YtdfcbnejnnibpaaGreatDoor.Rg
namespace Go.Proofs.YtdfcbnejnnibpaaGreatDoor.Cn
open Go.RowKit
set_option linter.unusedVariables false
set_option linter.unusedSimpArgs false
set_option linter.unnecessarySimpa false
set_option maxRecDepth 100000 in
set_option maxHeartbeats 4000000 in
theorem regRAdd (ops : Array Oper) (hops : ops = (Rg.opsOf Tryz.f11 2)) (id : Nat) (cb : Nat) (m1 : Int) (d : ByteArray) (vL : Value) {u2 u3 u4 u5 u6 u7 u8 u9 u10 u11 u12 u13 u14 u15 u16 u17 u18 u19 u20 u21 u22 u23 u24 u25 u26 u27 u28 u29 u30 : Value} (w : World) (B4 : Value → World → Prop)
    (hS : w.cell? ⟨cb, 1, none⟩ = some (.int .i64 m1)) (hL : w.drew.cell? ⟨cb, 0, none⟩ = some vL) (hL2 : (w.alloc (.cells #[.int .i64 m1, .string d] 74)).cell? ⟨cb, 0, none⟩ = some vL) (hS2 : (w.drew.alloc (.cells #[.int .i64 m1, .string d] 74)).cell? ⟨cb, 1, none⟩ = some (.int .i64 m1))
    (hE : ∀ ty, ∃ a8 n8 c8 w8, (Builtin.append_ #[33, 33] ty #[vL, .slice (some ⟨w.heap.size, 0, none⟩) 1 1]).run Tryz.prog (w.drew.alloc (.cells #[.int .i64 m1, .string d] 74)) = .ok (.slice a8 n8 c8) w8 ∧ w8.cell? ⟨cb, 0, none⟩ = some vL ∧ w8.frozen? ⟨cb, 0, none⟩ = false ∧
      w8.cell? ⟨cb, 1, none⟩ = some (.int .i64 m1) ∧ (w8.setCell ⟨cb, 0, none⟩ (.slice a8 n8 c8)).cell? ⟨cb, 1, none⟩ = some (.int .i64 m1) ∧ B4 (.slice a8 n8 c8) w8) :
    (Code.region id ops true).wp Tryz.prog (Rg.Only fun a' w' => ∃ (z8 : Nat) (a8 : Option Addr) (n8 c8 : Nat) (w8 : World), a' = ⟨#[(.pointer (some ⟨cb, 0, none⟩)), (.string d), u2, u3, u4, u5, u6, u7, u8, u9, u10, u11, (.pointer (some ⟨cb, 0, none⟩)), (.pointer (some ⟨cb, 0, none⟩)), (.pointer (some ⟨cb, 0, none⟩)), (.pointer (some ⟨cb, 0, none⟩)), vL, (.pointer (some ⟨cb, 0, none⟩)), (.pointer (some ⟨cb, 0, none⟩)), (.pointer (some ⟨cb, 1, none⟩)), (.int .i64 m1), (.string d), (.agg #[.int .i64 m1, .string d]), (.slice (some ⟨z8, 0, none⟩) 1 1), (.slice a8 n8 c8), (.pointer (some ⟨cb, 0, none⟩)), (.pointer (some ⟨cb, 0, none⟩)), u27, u28, u29, u30], []⟩ ∧ w' = w8.setCell ⟨cb, 0, none⟩ (.slice a8 n8 c8) ∧ B4 (.slice a8 n8 c8) w8) ⟨#[(.pointer (some ⟨cb, 0, none⟩)), (.string d), u2, u3, u4, u5, u6, u7, u8, u9, u10, u11, u12, u13, u14, u15, u16, u17, u18, u19, u20, u21, u22, u23, u24, u25, u26, u27, u28, u29, u30], []⟩ w := by
  subst hops
  have hNS : Region.noSelect (Rg.opsOf Tryz.f11 2) = true := by kernel_rfl
  refine wp_region_held_drew (S := fun V => V.cell? ⟨cb, 1, none⟩ = some (.int .i64 m1)) (by kernel_rfl) hS (fun hHeld => ?_)
  rw [show (Rg.opsOf Tryz.f11 2).size = 16 by kernel_rfl]
  refine Rg.take (ops := (Rg.opsOf Tryz.f11 2)) 0 (some 12) ((.pointer (some ⟨cb, 0, none⟩))) hNS (by kernel_rfl) (by kernel_rfl) (by kernel_rfl) (by kernel_rfl) (by kernel_rfl) hHeld (Rg.y_move (x := (Operand.tmp 0)) (Or.inl (by kernel_rfl)) (by kernel_rfl)) ?_
  refine Rg.take (ops := (Rg.opsOf Tryz.f11 2)) 1 (some 13) ((.pointer (some ⟨cb, 0, none⟩))) hNS (by kernel_rfl) (by kernel_rfl) (by kernel_rfl) (by kernel_rfl) (by kernel_rfl) hHeld (Rg.y_move (x := (Operand.tmp 0)) (Or.inl (by kernel_rfl)) (by kernel_rfl)) ?_
  refine Rg.take (ops := (Rg.opsOf Tryz.f11 2)) 2 (some 14) ((.pointer (some ⟨cb, 0, none⟩))) hNS (by kernel_rfl) (by kernel_rfl) (by kernel_rfl) (by kernel_rfl) (by kernel_rfl) hHeld (Rg.y_nil (x := (Operand.tmp 13)) (by kernel_rfl) (by kernel_rfl)) ?_
  refine Rg.take (ops := (Rg.opsOf Tryz.f11 2)) 3 (some 15) ((.pointer (some ⟨cb, 0, none⟩))) hNS (by kernel_rfl) (by kernel_rfl) (by kernel_rfl) (by kernel_rfl) (by kernel_rfl) hHeld (Rg.y_field (T := 35) (k := 0) (x := (Operand.tmp 14)) (vx := (.pointer (some ⟨cb, 0, none⟩))) (by kernel_rfl) (by kernel_rfl) ?_) ?_
  · (intro w hSw; clear hSw hE; go_simp)
  refine Rg.take (ops := (Rg.opsOf Tryz.f11 2)) 5 (some 17) ((.pointer (some ⟨cb, 0, none⟩))) hNS (by kernel_rfl) (by kernel_rfl) (by kernel_rfl) (by kernel_rfl) (by kernel_rfl) hHeld (Rg.y_move (x := (Operand.tmp 0)) (Or.inl (by kernel_rfl)) (by kernel_rfl)) ?_
  refine Rg.take (ops := (Rg.opsOf Tryz.f11 2)) 6 (some 18) ((.pointer (some ⟨cb, 0, none⟩))) hNS (by kernel_rfl) (by kernel_rfl) (by kernel_rfl) (by kernel_rfl) (by kernel_rfl) hHeld (Rg.y_nil (x := (Operand.tmp 17)) (by kernel_rfl) (by kernel_rfl)) ?_
  refine Rg.take (ops := (Rg.opsOf Tryz.f11 2)) 7 (some 19) ((.pointer (some ⟨cb, 1, none⟩))) hNS (by kernel_rfl) (by kernel_rfl) (by kernel_rfl) (by kernel_rfl) (by kernel_rfl) hHeld (Rg.y_field (T := 35) (k := 1) (x := (Operand.tmp 18)) (vx := (.pointer (some ⟨cb, 0, none⟩))) (by kernel_rfl) (by kernel_rfl) ?_) ?_
  · (intro w hSw; clear hSw hE; go_simp)
  refine Rg.take (ops := (Rg.opsOf Tryz.f11 2)) 8 (some 20) ((.int .i64 m1)) hNS (by kernel_rfl) (by kernel_rfl) (by kernel_rfl) (by kernel_rfl) (by kernel_rfl) hHeld (Rg.y_load (T := 3) (x := (Operand.tmp 19)) (vx := (.pointer (some ⟨cb, 1, none⟩))) (by kernel_rfl) (by kernel_rfl) ?_) ?_
  · (intro w hSw; clear hE; go_simp)
  refine Rg.take (ops := (Rg.opsOf Tryz.f11 2)) 9 (some 21) ((.string d)) hNS (by kernel_rfl) (by kernel_rfl) (by kernel_rfl) (by kernel_rfl) (by kernel_rfl) hHeld (Rg.y_move (x := (Operand.tmp 1)) (Or.inl (by kernel_rfl)) (by kernel_rfl)) ?_
  refine Rg.take (ops := (Rg.opsOf Tryz.f11 2)) 10 (some 22) ((.agg #[.int .i64 m1, .string d])) hNS (by kernel_rfl) (by kernel_rfl) (by kernel_rfl) (by kernel_rfl) (by kernel_rfl) hHeld (Rg.y_build (T := 74) (parts := #[(0, Operand.tmp 20), (1, Operand.tmp 21)]) (vs := #[(0, (.int .i64 m1)), (1, (.string d))]) (by kernel_rfl) (by kernel_rfl) ?_) ?_
  · (intro w hSw; clear hSw hE; go_simp)
  refine Rg.two (ops := (Rg.opsOf Tryz.f11 2)) (i := 4) (j := 11) (by kernel_rfl) ?_ ?_
  · refine Rg.op_load (ops := (Rg.opsOf Tryz.f11 2)) 4 (some 16) (T := 33) (x := (Operand.tmp 15)) (vx := (.pointer (some ⟨cb, 0, none⟩))) (v := vL) (by kernel_rfl) (by kernel_rfl) (by kernel_rfl) (by kernel_rfl) (by kernel_rfl) ?_ hHeld ?_
    · (clear hHeld hE; go_simp)
    refine Rg.bld (ops := (Rg.opsOf Tryz.f11 2)) 11 (some 23) (T := 33) (len := 1) (parts := #[(0, Operand.tmp 22)]) (vs := #[(0, (.agg #[.int .i64 m1, .string d]))]) (v := (.slice (some ⟨w.heap.size, 0, none⟩) 1 1)) (w1 := w.drew.alloc (.cells #[.int .i64 m1, .string d] 74)) (by kernel_rfl) (by kernel_rfl) (by kernel_rfl) (by kernel_rfl) (by kernel_rfl) (by kernel_rfl) ?_ (hS2) (fun hHeld => ?_)
    · (clear hHeld hE hL hL2; go_simp)
    refine Rg.app1 (ops := (Rg.opsOf Tryz.f11 2)) 12 (some 24) (T := 33) (x := (Operand.tmp 16)) (y := (Operand.tmp 23)) (vx := vL) (vy := (.slice (some ⟨w.heap.size, 0, none⟩) 1 1)) (by kernel_rfl) (by kernel_rfl) (by kernel_rfl) (by kernel_rfl) (by kernel_rfl) (by kernel_rfl) (by kernel_rfl) ?_
    intro ty
    obtain ⟨a8, n8, c8, w8, hr8, hl8, hf8, hS8, hS9, h8⟩ := hE ty
    refine ⟨_, w8, hr8, hS8, fun hHeld => ?_⟩
    refine Rg.take (ops := (Rg.opsOf Tryz.f11 2)) 13 (some 25) ((.pointer (some ⟨cb, 0, none⟩))) hNS (by kernel_rfl) (by kernel_rfl) (by kernel_rfl) (by kernel_rfl) (by kernel_rfl) hHeld (Rg.y_nil (x := (Operand.tmp 12)) (by kernel_rfl) (by kernel_rfl)) ?_
    refine Rg.take (ops := (Rg.opsOf Tryz.f11 2)) 14 (some 26) ((.pointer (some ⟨cb, 0, none⟩))) hNS (by kernel_rfl) (by kernel_rfl) (by kernel_rfl) (by kernel_rfl) (by kernel_rfl) hHeld (Rg.y_field (T := 35) (k := 0) (x := (Operand.tmp 25)) (vx := (.pointer (some ⟨cb, 0, none⟩))) (by kernel_rfl) (by kernel_rfl) ?_) ?_
    · (intro w hSw; clear hSw hE; go_simp)
    refine Rg.store (ops := (Rg.opsOf Tryz.f11 2)) 15 (T := 33) (x := (Operand.tmp 26)) (y := (Operand.tmp 24)) (vx := (.pointer (some ⟨cb, 0, none⟩))) (vy := (.slice a8 n8 c8)) (w1 := (w8.setCell ⟨cb, 0, none⟩ (.slice a8 n8 c8))) (by kernel_rfl) (by kernel_rfl) (by kernel_rfl) (by kernel_rfl) (by kernel_rfl) (by kernel_rfl) (by kernel_rfl) ?_ (hS9) (fun hHeld => ?_)
    · (clear hHeld hE hL hL2 hS8 hS9 hr8 h8; go_simp)
    refine Rg.done (ops := (Rg.opsOf Tryz.f11 2)) (by kernel_rfl) ?_
    exact ⟨w.heap.size, a8, n8, c8, w8, by kernel_rfl, rfl, h8⟩
  · refine Rg.op_bld (ops := (Rg.opsOf Tryz.f11 2)) 11 (some 23) (T := 33) (len := 1) (parts := #[(0, Operand.tmp 22)]) (vs := #[(0, (.agg #[.int .i64 m1, .string d]))]) (v := (.slice (some ⟨w.heap.size, 0, none⟩) 1 1)) (w1 := w.drew.alloc (.cells #[.int .i64 m1, .string d] 74)) (by kernel_rfl) (by kernel_rfl) (by kernel_rfl) (by kernel_rfl) (by kernel_rfl) ?_ (hS2) (fun hHeld => ?_)
    · (clear hHeld hE hL hL2; go_simp)
    refine Rg.one (ops := (Rg.opsOf Tryz.f11 2)) (i := 4) (by kernel_rfl) ?_
    refine Rg.op_load (ops := (Rg.opsOf Tryz.f11 2)) 4 (some 16) (T := 33) (x := (Operand.tmp 15)) (vx := (.pointer (some ⟨cb, 0, none⟩))) (v := vL) (by kernel_rfl) (by kernel_rfl) (by kernel_rfl) (by kernel_rfl) (by kernel_rfl) ?_ hHeld ?_
    · (clear hHeld hE; go_simp)
    refine Rg.app1 (ops := (Rg.opsOf Tryz.f11 2)) 12 (some 24) (T := 33) (x := (Operand.tmp 16)) (y := (Operand.tmp 23)) (vx := vL) (vy := (.slice (some ⟨w.heap.size, 0, none⟩) 1 1)) (by kernel_rfl) (by kernel_rfl) (by kernel_rfl) (by kernel_rfl) (by kernel_rfl) (by kernel_rfl) (by kernel_rfl) ?_
    intro ty
    obtain ⟨a8, n8, c8, w8, hr8, hl8, hf8, hS8, hS9, h8⟩ := hE ty
    refine ⟨_, w8, hr8, hS8, fun hHeld => ?_⟩
    refine Rg.take (ops := (Rg.opsOf Tryz.f11 2)) 13 (some 25) ((.pointer (some ⟨cb, 0, none⟩))) hNS (by kernel_rfl) (by kernel_rfl) (by kernel_rfl) (by kernel_rfl) (by kernel_rfl) hHeld (Rg.y_nil (x := (Operand.tmp 12)) (by kernel_rfl) (by kernel_rfl)) ?_
    refine Rg.take (ops := (Rg.opsOf Tryz.f11 2)) 14 (some 26) ((.pointer (some ⟨cb, 0, none⟩))) hNS (by kernel_rfl) (by kernel_rfl) (by kernel_rfl) (by kernel_rfl) (by kernel_rfl) hHeld (Rg.y_field (T := 35) (k := 0) (x := (Operand.tmp 25)) (vx := (.pointer (some ⟨cb, 0, none⟩))) (by kernel_rfl) (by kernel_rfl) ?_) ?_
    · (intro w hSw; clear hSw hE; go_simp)
    refine Rg.store (ops := (Rg.opsOf Tryz.f11 2)) 15 (T := 33) (x := (Operand.tmp 26)) (y := (Operand.tmp 24)) (vx := (.pointer (some ⟨cb, 0, none⟩))) (vy := (.slice a8 n8 c8)) (w1 := (w8.setCell ⟨cb, 0, none⟩ (.slice a8 n8 c8))) (by kernel_rfl) (by kernel_rfl) (by kernel_rfl) (by kernel_rfl) (by kernel_rfl) (by kernel_rfl) (by kernel_rfl) ?_ (hS9) (fun hHeld => ?_)
    · (clear hHeld hE hL hL2 hS8 hS9 hr8 h8; go_simp)
    refine Rg.done (ops := (Rg.opsOf Tryz.f11 2)) (by kernel_rfl) ?_
    exact ⟨w.heap.size, a8, n8, c8, w8, by kernel_rfl, rfl, h8⟩
set_option maxRecDepth 100000 in
set_option maxHeartbeats 8000000 in
theorem regRDrop (ops : Array Oper) (hops : ops = (Rg.opsOf Tryz.f13 4)) (id : Nat) (cb gL n c k : Nat) (aS : Addr) {u1 u2 u3 u4 u6 u7 u8 u9 u10 u11 u12 u13 u14 u15 u16 u17 u18 u19 u20 u21 u22 u23 u24 u25 u26 u27 u28 u29 : Value} (w : World) (B4 : Value → World → Prop) (hk : (k : Int) ≤ (n : Int)) (hkc : (k : Int) ≤ (c : Int)) (hk64 : (k : Int) + 1 ≤ 9223372036854775807)
    (hSL : ∀ V, (Instr.sliceAt 33 (.slice (some ⟨gL, 0, none⟩) n c) (some (.int .i64 ((k : Int) + 1))) none none).run Tryz.prog V = .ok (.slice (some aS) (n - (k + 1)) (c - (k + 1))) V)
    (hL : w.drew.cell? ⟨cb, 0, none⟩ = some (.slice (some ⟨gL, 0, none⟩) n c)) (hL2 : (w.alloc (.cells #[] 74)).cell? ⟨cb, 0, none⟩ = some (.slice (some ⟨gL, 0, none⟩) n c))
    (hE : ∀ ty, ∃ a8 n8 c8 w8, (Builtin.append_ #[33, 33] ty #[.slice (some ⟨w.heap.size, 0, none⟩) 0 0, .slice (some ⟨gL, 0, none⟩) k c]).run Tryz.prog (w.drew.alloc (.cells #[] 74)) = .ok (.slice a8 n8 c8) w8 ∧ w8.cell? ⟨cb, 0, none⟩ = some (.slice (some ⟨gL, 0, none⟩) n c) ∧
      ∀ ty, ∃ a9 n9 c9 w9, (Builtin.append_ #[33, 33] ty #[.slice a8 n8 c8, .slice (some aS) (n - (k + 1)) (c - (k + 1))]).run Tryz.prog w8 = .ok (.slice a9 n9 c9) w9 ∧ w9.cell? ⟨cb, 0, none⟩ = some (.slice (some ⟨gL, 0, none⟩) n c) ∧ w9.frozen? ⟨cb, 0, none⟩ = false ∧ B4 (.slice a9 n9 c9) w9) :
    (Code.region id ops true).wp Tryz.prog (Rg.Only fun a' w' => ∃ (z8 : Nat) (a8 : Option Addr) (n8 c8 : Nat) (a9 : Option Addr) (n9 c9 : Nat) (w9 : World), a' = ⟨#[(.pointer (some ⟨cb, 0, none⟩)), u1, u2, u3, u4, (.int .i64 (k : Nat)), u6, u7, u8, u9, u10, (.pointer (some ⟨cb, 0, none⟩)), (.slice (some ⟨z8, 0, none⟩) 0 0), (.pointer (some ⟨cb, 0, none⟩)), (.pointer (some ⟨cb, 0, none⟩)), (.pointer (some ⟨cb, 0, none⟩)), (.slice (some ⟨gL, 0, none⟩) n c), (.int .i64 (k : Nat)), (.slice (some ⟨gL, 0, none⟩) k c), (.slice a8 n8 c8), (.pointer (some ⟨cb, 0, none⟩)), (.pointer (some ⟨cb, 0, none⟩)), (.pointer (some ⟨cb, 0, none⟩)), (.slice (some ⟨gL, 0, none⟩) n c), (.int .i64 (k : Nat)), (.int .i64 ((k : Int) + 1)), (.slice (some aS) (n - (k + 1)) (c - (k + 1))), (.slice a9 n9 c9), (.pointer (some ⟨cb, 0, none⟩)), (.pointer (some ⟨cb, 0, none⟩))], []⟩ ∧ w' = w9.setCell ⟨cb, 0, none⟩ (.slice a9 n9 c9) ∧ B4 (.slice a9 n9 c9) w9) ⟨#[(.pointer (some ⟨cb, 0, none⟩)), u1, u2, u3, u4, (.int .i64 (k : Nat)), u6, u7, u8, u9, u10, u11, u12, u13, u14, u15, u16, u17, u18, u19, u20, u21, u22, u23, u24, u25, u26, u27, u28, u29], []⟩ w := by
  subst hops
  have hNS : Region.noSelect (Rg.opsOf Tryz.f13 4) = true := by kernel_rfl
  refine wp_region_held_drew (S := fun _ => True) (by kernel_rfl) trivial (fun hHeld => ?_)
  rw [show (Rg.opsOf Tryz.f13 4).size = 20 by kernel_rfl]
  refine Rg.take (ops := (Rg.opsOf Tryz.f13 4)) 0 (some 11) ((.pointer (some ⟨cb, 0, none⟩))) hNS (by kernel_rfl) (by kernel_rfl) (by kernel_rfl) (by kernel_rfl) (by kernel_rfl) hHeld (Rg.y_move (x := (Operand.tmp 0)) (Or.inl (by kernel_rfl)) (by kernel_rfl)) ?_
  refine Rg.take (ops := (Rg.opsOf Tryz.f13 4)) 2 (some 13) ((.pointer (some ⟨cb, 0, none⟩))) hNS (by kernel_rfl) (by kernel_rfl) (by kernel_rfl) (by kernel_rfl) (by kernel_rfl) hHeld (Rg.y_move (x := (Operand.tmp 0)) (Or.inl (by kernel_rfl)) (by kernel_rfl)) ?_
  refine Rg.take (ops := (Rg.opsOf Tryz.f13 4)) 3 (some 14) ((.pointer (some ⟨cb, 0, none⟩))) hNS (by kernel_rfl) (by kernel_rfl) (by kernel_rfl) (by kernel_rfl) (by kernel_rfl) hHeld (Rg.y_nil (x := (Operand.tmp 13)) (by kernel_rfl) (by kernel_rfl)) ?_
  refine Rg.take (ops := (Rg.opsOf Tryz.f13 4)) 4 (some 15) ((.pointer (some ⟨cb, 0, none⟩))) hNS (by kernel_rfl) (by kernel_rfl) (by kernel_rfl) (by kernel_rfl) (by kernel_rfl) hHeld (Rg.y_field (T := 35) (k := 0) (x := (Operand.tmp 14)) (vx := (.pointer (some ⟨cb, 0, none⟩))) (by kernel_rfl) (by kernel_rfl) ?_) ?_
  · (intro w hSw; clear hSw hE; go_simp)
  refine Rg.take (ops := (Rg.opsOf Tryz.f13 4)) 6 (some 17) ((.int .i64 (k : Nat))) hNS (by kernel_rfl) (by kernel_rfl) (by kernel_rfl) (by kernel_rfl) (by kernel_rfl) hHeld (Rg.y_move (x := (Operand.tmp 5)) (Or.inl (by kernel_rfl)) (by kernel_rfl)) ?_
  refine Rg.take (ops := (Rg.opsOf Tryz.f13 4)) 9 (some 20) ((.pointer (some ⟨cb, 0, none⟩))) hNS (by kernel_rfl) (by kernel_rfl) (by kernel_rfl) (by kernel_rfl) (by kernel_rfl) hHeld (Rg.y_move (x := (Operand.tmp 0)) (Or.inl (by kernel_rfl)) (by kernel_rfl)) ?_
  refine Rg.take (ops := (Rg.opsOf Tryz.f13 4)) 10 (some 21) ((.pointer (some ⟨cb, 0, none⟩))) hNS (by kernel_rfl) (by kernel_rfl) (by kernel_rfl) (by kernel_rfl) (by kernel_rfl) hHeld (Rg.y_nil (x := (Operand.tmp 20)) (by kernel_rfl) (by kernel_rfl)) ?_
  refine Rg.take (ops := (Rg.opsOf Tryz.f13 4)) 11 (some 22) ((.pointer (some ⟨cb, 0, none⟩))) hNS (by kernel_rfl) (by kernel_rfl) (by kernel_rfl) (by kernel_rfl) (by kernel_rfl) hHeld (Rg.y_field (T := 35) (k := 0) (x := (Operand.tmp 21)) (vx := (.pointer (some ⟨cb, 0, none⟩))) (by kernel_rfl) (by kernel_rfl) ?_) ?_
  · (intro w hSw; clear hSw hE; go_simp)
  refine Rg.take (ops := (Rg.opsOf Tryz.f13 4)) 13 (some 24) ((.int .i64 (k : Nat))) hNS (by kernel_rfl) (by kernel_rfl) (by kernel_rfl) (by kernel_rfl) (by kernel_rfl) hHeld (Rg.y_move (x := (Operand.tmp 5)) (Or.inl (by kernel_rfl)) (by kernel_rfl)) ?_
  refine Rg.take (ops := (Rg.opsOf Tryz.f13 4)) 14 (some 25) ((.int .i64 ((k : Int) + 1))) hNS (by kernel_rfl) (by kernel_rfl) (by kernel_rfl) (by kernel_rfl) (by kernel_rfl) hHeld (Rg.y_bin (b := BinOp.add) (T := 3) (R' := 3) (x := (Operand.tmp 24)) (y := (Operand.const (Value.int IntKind.i64 1))) (vx := (.int .i64 (k : Nat))) (vy := (Value.int IntKind.i64 1)) (by kernel_rfl) (by kernel_rfl) (by kernel_rfl) ?_) ?_
  · (intro w hSw; clear hSw hE; have hw : IntKind.i64.wrap ((k : Int) + 1) = (k : Int) + 1 := (by rw [IntKind.wrap_i64]; omega); go_simp)
  refine Rg.three (ops := (Rg.opsOf Tryz.f13 4)) (i := 1) (j := 5) (k := 12) (by kernel_rfl) ?_ ?_ ?_
  · refine Rg.op_bld (ops := (Rg.opsOf Tryz.f13 4)) 1 (some 12) (T := 33) (len := 0) (parts := #[]) (vs := #[]) (v := (.slice (some ⟨w.heap.size, 0, none⟩) 0 0)) (w1 := w.drew.alloc (.cells #[] 74)) (by kernel_rfl) (by kernel_rfl) (by kernel_rfl) (by kernel_rfl) (by kernel_rfl) ?_ (trivial) (fun hHeld => ?_)
    · (clear hHeld hE hL hL2; go_simp)
    refine Rg.two (ops := (Rg.opsOf Tryz.f13 4)) (i := 5) (j := 12) (by kernel_rfl) ?_ ?_
    · refine Rg.op_load (ops := (Rg.opsOf Tryz.f13 4)) 5 (some 16) (T := 33) (x := (Operand.tmp 15)) (vx := (.pointer (some ⟨cb, 0, none⟩))) (v := (.slice (some ⟨gL, 0, none⟩) n c)) (by kernel_rfl) (by kernel_rfl) (by kernel_rfl) (by kernel_rfl) (by kernel_rfl) ?_ hHeld ?_
      · (clear hHeld hE; go_simp)
      refine Rg.take (ops := (Rg.opsOf Tryz.f13 4)) 7 (some 18) ((.slice (some ⟨gL, 0, none⟩) k c)) hNS (by kernel_rfl) (by kernel_rfl) (by kernel_rfl) (by kernel_rfl) (by kernel_rfl) hHeld (Rg.y_slice (T := 33) (x := (Operand.tmp 16)) (h := (Operand.tmp 17)) (vx := (.slice (some ⟨gL, 0, none⟩) n c)) (vh := (.int .i64 (k : Nat))) (by kernel_rfl) (by kernel_rfl) (by kernel_rfl) ?_) ?_
      · (intro w hSw; clear hSw hE; have h1 := hk; have h2 := hkc; go_simp)
      refine Rg.two (ops := (Rg.opsOf Tryz.f13 4)) (i := 8) (j := 12) (by kernel_rfl) ?_ ?_
      · refine Rg.op_app (ops := (Rg.opsOf Tryz.f13 4)) 8 (some 19) (T := 33) (x := (Operand.tmp 12)) (y := (Operand.tmp 18)) (vx := (.slice (some ⟨w.heap.size, 0, none⟩) 0 0)) (vy := (.slice (some ⟨gL, 0, none⟩) k c)) (by kernel_rfl) (by kernel_rfl) (by kernel_rfl) (by kernel_rfl) (by kernel_rfl) (by kernel_rfl) ?_
        intro ty
        obtain ⟨a8, n8, c8, w8, hr8, hl8, hE2⟩ := hE ty
        refine ⟨_, w8, hr8, trivial, fun hHeld => ?_⟩
        refine Rg.one (ops := (Rg.opsOf Tryz.f13 4)) (i := 12) (by kernel_rfl) ?_
        refine Rg.op_load (ops := (Rg.opsOf Tryz.f13 4)) 12 (some 23) (T := 33) (x := (Operand.tmp 22)) (vx := (.pointer (some ⟨cb, 0, none⟩))) (v := (.slice (some ⟨gL, 0, none⟩) n c)) (by kernel_rfl) (by kernel_rfl) (by kernel_rfl) (by kernel_rfl) (by kernel_rfl) ?_ hHeld ?_
        · (clear hHeld hE; go_simp)
        refine Rg.take (ops := (Rg.opsOf Tryz.f13 4)) 15 (some 26) ((.slice (some aS) (n - (k + 1)) (c - (k + 1)))) hNS (by kernel_rfl) (by kernel_rfl) (by kernel_rfl) (by kernel_rfl) (by kernel_rfl) hHeld (Rg.y_sl1 (T := 33) (x := (Operand.tmp 23)) (l := (Operand.tmp 25)) (vx := (.slice (some ⟨gL, 0, none⟩) n c)) (vl := (.int .i64 ((k : Int) + 1))) (by kernel_rfl) (by kernel_rfl) (by kernel_rfl) ?_) ?_
        · (intro w hSw; clear hSw; exact hSL w)
        refine Rg.app1 (ops := (Rg.opsOf Tryz.f13 4)) 16 (some 27) (T := 33) (x := (Operand.tmp 19)) (y := (Operand.tmp 26)) (vx := (.slice a8 n8 c8)) (vy := (.slice (some aS) (n - (k + 1)) (c - (k + 1)))) (by kernel_rfl) (by kernel_rfl) (by kernel_rfl) (by kernel_rfl) (by kernel_rfl) (by kernel_rfl) (by kernel_rfl) ?_
        intro ty
        obtain ⟨a9, n9, c9, w9, hr9, hl9, hf9, h9⟩ := hE2 ty
        refine ⟨_, w9, hr9, trivial, fun hHeld => ?_⟩
        refine Rg.take (ops := (Rg.opsOf Tryz.f13 4)) 17 (some 28) ((.pointer (some ⟨cb, 0, none⟩))) hNS (by kernel_rfl) (by kernel_rfl) (by kernel_rfl) (by kernel_rfl) (by kernel_rfl) hHeld (Rg.y_nil (x := (Operand.tmp 11)) (by kernel_rfl) (by kernel_rfl)) ?_
        refine Rg.take (ops := (Rg.opsOf Tryz.f13 4)) 18 (some 29) ((.pointer (some ⟨cb, 0, none⟩))) hNS (by kernel_rfl) (by kernel_rfl) (by kernel_rfl) (by kernel_rfl) (by kernel_rfl) hHeld (Rg.y_field (T := 35) (k := 0) (x := (Operand.tmp 28)) (vx := (.pointer (some ⟨cb, 0, none⟩))) (by kernel_rfl) (by kernel_rfl) ?_) ?_
        · (intro w hSw; clear hSw hE; go_simp)
        refine Rg.store (ops := (Rg.opsOf Tryz.f13 4)) 19 (T := 33) (x := (Operand.tmp 29)) (y := (Operand.tmp 27)) (vx := (.pointer (some ⟨cb, 0, none⟩))) (vy := (.slice a9 n9 c9)) (w1 := (w9.setCell ⟨cb, 0, none⟩ (.slice a9 n9 c9))) (by kernel_rfl) (by kernel_rfl) (by kernel_rfl) (by kernel_rfl) (by kernel_rfl) (by kernel_rfl) (by kernel_rfl) ?_ (trivial) (fun hHeld => ?_)
        · (clear hHeld hE hE2 hL hL2 hl8 hr8 hr9 h9; go_simp)
        refine Rg.done (ops := (Rg.opsOf Tryz.f13 4)) (by kernel_rfl) ?_
        exact ⟨w.heap.size, a8, n8, c8, a9, n9, c9, w9, by kernel_rfl, rfl, h9⟩
      · refine Rg.op_load (ops := (Rg.opsOf Tryz.f13 4)) 12 (some 23) (T := 33) (x := (Operand.tmp 22)) (vx := (.pointer (some ⟨cb, 0, none⟩))) (v := (.slice (some ⟨gL, 0, none⟩) n c)) (by kernel_rfl) (by kernel_rfl) (by kernel_rfl) (by kernel_rfl) (by kernel_rfl) ?_ hHeld ?_
        · (clear hHeld hE; go_simp)
        refine Rg.take (ops := (Rg.opsOf Tryz.f13 4)) 15 (some 26) ((.slice (some aS) (n - (k + 1)) (c - (k + 1)))) hNS (by kernel_rfl) (by kernel_rfl) (by kernel_rfl) (by kernel_rfl) (by kernel_rfl) hHeld (Rg.y_sl1 (T := 33) (x := (Operand.tmp 23)) (l := (Operand.tmp 25)) (vx := (.slice (some ⟨gL, 0, none⟩) n c)) (vl := (.int .i64 ((k : Int) + 1))) (by kernel_rfl) (by kernel_rfl) (by kernel_rfl) ?_) ?_
        · (intro w hSw; clear hSw; exact hSL w)
        refine Rg.app1 (ops := (Rg.opsOf Tryz.f13 4)) 8 (some 19) (T := 33) (x := (Operand.tmp 12)) (y := (Operand.tmp 18)) (vx := (.slice (some ⟨w.heap.size, 0, none⟩) 0 0)) (vy := (.slice (some ⟨gL, 0, none⟩) k c)) (by kernel_rfl) (by kernel_rfl) (by kernel_rfl) (by kernel_rfl) (by kernel_rfl) (by kernel_rfl) (by kernel_rfl) ?_
        intro ty
        obtain ⟨a8, n8, c8, w8, hr8, hl8, hE2⟩ := hE ty
        refine ⟨_, w8, hr8, trivial, fun hHeld => ?_⟩
        refine Rg.app1 (ops := (Rg.opsOf Tryz.f13 4)) 16 (some 27) (T := 33) (x := (Operand.tmp 19)) (y := (Operand.tmp 26)) (vx := (.slice a8 n8 c8)) (vy := (.slice (some aS) (n - (k + 1)) (c - (k + 1)))) (by kernel_rfl) (by kernel_rfl) (by kernel_rfl) (by kernel_rfl) (by kernel_rfl) (by kernel_rfl) (by kernel_rfl) ?_
        intro ty
        obtain ⟨a9, n9, c9, w9, hr9, hl9, hf9, h9⟩ := hE2 ty
        refine ⟨_, w9, hr9, trivial, fun hHeld => ?_⟩
        refine Rg.take (ops := (Rg.opsOf Tryz.f13 4)) 17 (some 28) ((.pointer (some ⟨cb, 0, none⟩))) hNS (by kernel_rfl) (by kernel_rfl) (by kernel_rfl) (by kernel_rfl) (by kernel_rfl) hHeld (Rg.y_nil (x := (Operand.tmp 11)) (by kernel_rfl) (by kernel_rfl)) ?_
        refine Rg.take (ops := (Rg.opsOf Tryz.f13 4)) 18 (some 29) ((.pointer (some ⟨cb, 0, none⟩))) hNS (by kernel_rfl) (by kernel_rfl) (by kernel_rfl) (by kernel_rfl) (by kernel_rfl) hHeld (Rg.y_field (T := 35) (k := 0) (x := (Operand.tmp 28)) (vx := (.pointer (some ⟨cb, 0, none⟩))) (by kernel_rfl) (by kernel_rfl) ?_) ?_
        · (intro w hSw; clear hSw hE; go_simp)
        refine Rg.store (ops := (Rg.opsOf Tryz.f13 4)) 19 (T := 33) (x := (Operand.tmp 29)) (y := (Operand.tmp 27)) (vx := (.pointer (some ⟨cb, 0, none⟩))) (vy := (.slice a9 n9 c9)) (w1 := (w9.setCell ⟨cb, 0, none⟩ (.slice a9 n9 c9))) (by kernel_rfl) (by kernel_rfl) (by kernel_rfl) (by kernel_rfl) (by kernel_rfl) (by kernel_rfl) (by kernel_rfl) ?_ (trivial) (fun hHeld => ?_)
        · (clear hHeld hE hE2 hL hL2 hl8 hr8 hr9 h9; go_simp)
        refine Rg.done (ops := (Rg.opsOf Tryz.f13 4)) (by kernel_rfl) ?_
        exact ⟨w.heap.size, a8, n8, c8, a9, n9, c9, w9, by kernel_rfl, rfl, h9⟩
    · refine Rg.op_load (ops := (Rg.opsOf Tryz.f13 4)) 12 (some 23) (T := 33) (x := (Operand.tmp 22)) (vx := (.pointer (some ⟨cb, 0, none⟩))) (v := (.slice (some ⟨gL, 0, none⟩) n c)) (by kernel_rfl) (by kernel_rfl) (by kernel_rfl) (by kernel_rfl) (by kernel_rfl) ?_ hHeld ?_
      · (clear hHeld hE; go_simp)
      refine Rg.take (ops := (Rg.opsOf Tryz.f13 4)) 15 (some 26) ((.slice (some aS) (n - (k + 1)) (c - (k + 1)))) hNS (by kernel_rfl) (by kernel_rfl) (by kernel_rfl) (by kernel_rfl) (by kernel_rfl) hHeld (Rg.y_sl1 (T := 33) (x := (Operand.tmp 23)) (l := (Operand.tmp 25)) (vx := (.slice (some ⟨gL, 0, none⟩) n c)) (vl := (.int .i64 ((k : Int) + 1))) (by kernel_rfl) (by kernel_rfl) (by kernel_rfl) ?_) ?_
      · (intro w hSw; clear hSw; exact hSL w)
      refine Rg.one (ops := (Rg.opsOf Tryz.f13 4)) (i := 5) (by kernel_rfl) ?_
      refine Rg.op_load (ops := (Rg.opsOf Tryz.f13 4)) 5 (some 16) (T := 33) (x := (Operand.tmp 15)) (vx := (.pointer (some ⟨cb, 0, none⟩))) (v := (.slice (some ⟨gL, 0, none⟩) n c)) (by kernel_rfl) (by kernel_rfl) (by kernel_rfl) (by kernel_rfl) (by kernel_rfl) ?_ hHeld ?_
      · (clear hHeld hE; go_simp)
      refine Rg.take (ops := (Rg.opsOf Tryz.f13 4)) 7 (some 18) ((.slice (some ⟨gL, 0, none⟩) k c)) hNS (by kernel_rfl) (by kernel_rfl) (by kernel_rfl) (by kernel_rfl) (by kernel_rfl) hHeld (Rg.y_slice (T := 33) (x := (Operand.tmp 16)) (h := (Operand.tmp 17)) (vx := (.slice (some ⟨gL, 0, none⟩) n c)) (vh := (.int .i64 (k : Nat))) (by kernel_rfl) (by kernel_rfl) (by kernel_rfl) ?_) ?_
      · (intro w hSw; clear hSw hE; have h1 := hk; have h2 := hkc; go_simp)
      refine Rg.app1 (ops := (Rg.opsOf Tryz.f13 4)) 8 (some 19) (T := 33) (x := (Operand.tmp 12)) (y := (Operand.tmp 18)) (vx := (.slice (some ⟨w.heap.size, 0, none⟩) 0 0)) (vy := (.slice (some ⟨gL, 0, none⟩) k c)) (by kernel_rfl) (by kernel_rfl) (by kernel_rfl) (by kernel_rfl) (by kernel_rfl) (by kernel_rfl) (by kernel_rfl) ?_
      intro ty
      obtain ⟨a8, n8, c8, w8, hr8, hl8, hE2⟩ := hE ty
      refine ⟨_, w8, hr8, trivial, fun hHeld => ?_⟩
      refine Rg.app1 (ops := (Rg.opsOf Tryz.f13 4)) 16 (some 27) (T := 33) (x := (Operand.tmp 19)) (y := (Operand.tmp 26)) (vx := (.slice a8 n8 c8)) (vy := (.slice (some aS) (n - (k + 1)) (c - (k + 1)))) (by kernel_rfl) (by kernel_rfl) (by kernel_rfl) (by kernel_rfl) (by kernel_rfl) (by kernel_rfl) (by kernel_rfl) ?_
      intro ty
      obtain ⟨a9, n9, c9, w9, hr9, hl9, hf9, h9⟩ := hE2 ty
      refine ⟨_, w9, hr9, trivial, fun hHeld => ?_⟩
      refine Rg.take (ops := (Rg.opsOf Tryz.f13 4)) 17 (some 28) ((.pointer (some ⟨cb, 0, none⟩))) hNS (by kernel_rfl) (by kernel_rfl) (by kernel_rfl) (by kernel_rfl) (by kernel_rfl) hHeld (Rg.y_nil (x := (Operand.tmp 11)) (by kernel_rfl) (by kernel_rfl)) ?_
      refine Rg.take (ops := (Rg.opsOf Tryz.f13 4)) 18 (some 29) ((.pointer (some ⟨cb, 0, none⟩))) hNS (by kernel_rfl) (by kernel_rfl) (by kernel_rfl) (by kernel_rfl) (by kernel_rfl) hHeld (Rg.y_field (T := 35) (k := 0) (x := (Operand.tmp 28)) (vx := (.pointer (some ⟨cb, 0, none⟩))) (by kernel_rfl) (by kernel_rfl) ?_) ?_
      · (intro w hSw; clear hSw hE; go_simp)
      refine Rg.store (ops := (Rg.opsOf Tryz.f13 4)) 19 (T := 33) (x := (Operand.tmp 29)) (y := (Operand.tmp 27)) (vx := (.pointer (some ⟨cb, 0, none⟩))) (vy := (.slice a9 n9 c9)) (w1 := (w9.setCell ⟨cb, 0, none⟩ (.slice a9 n9 c9))) (by kernel_rfl) (by kernel_rfl) (by kernel_rfl) (by kernel_rfl) (by kernel_rfl) (by kernel_rfl) (by kernel_rfl) ?_ (trivial) (fun hHeld => ?_)
      · (clear hHeld hE hE2 hL hL2 hl8 hr8 hr9 h9; go_simp)
      refine Rg.done (ops := (Rg.opsOf Tryz.f13 4)) (by kernel_rfl) ?_
      exact ⟨w.heap.size, a8, n8, c8, a9, n9, c9, w9, by kernel_rfl, rfl, h9⟩
  · refine Rg.op_load (ops := (Rg.opsOf Tryz.f13 4)) 5 (some 16) (T := 33) (x := (Operand.tmp 15)) (vx := (.pointer (some ⟨cb, 0, none⟩))) (v := (.slice (some ⟨gL, 0, none⟩) n c)) (by kernel_rfl) (by kernel_rfl) (by kernel_rfl) (by kernel_rfl) (by kernel_rfl) ?_ hHeld ?_
    · (clear hHeld hE; go_simp)
    refine Rg.take (ops := (Rg.opsOf Tryz.f13 4)) 7 (some 18) ((.slice (some ⟨gL, 0, none⟩) k c)) hNS (by kernel_rfl) (by kernel_rfl) (by kernel_rfl) (by kernel_rfl) (by kernel_rfl) hHeld (Rg.y_slice (T := 33) (x := (Operand.tmp 16)) (h := (Operand.tmp 17)) (vx := (.slice (some ⟨gL, 0, none⟩) n c)) (vh := (.int .i64 (k : Nat))) (by kernel_rfl) (by kernel_rfl) (by kernel_rfl) ?_) ?_
    · (intro w hSw; clear hSw hE; have h1 := hk; have h2 := hkc; go_simp)
    refine Rg.two (ops := (Rg.opsOf Tryz.f13 4)) (i := 1) (j := 12) (by kernel_rfl) ?_ ?_
    · refine Rg.op_bld (ops := (Rg.opsOf Tryz.f13 4)) 1 (some 12) (T := 33) (len := 0) (parts := #[]) (vs := #[]) (v := (.slice (some ⟨w.heap.size, 0, none⟩) 0 0)) (w1 := w.drew.alloc (.cells #[] 74)) (by kernel_rfl) (by kernel_rfl) (by kernel_rfl) (by kernel_rfl) (by kernel_rfl) ?_ (trivial) (fun hHeld => ?_)
      · (clear hHeld hE hL hL2; go_simp)
      refine Rg.two (ops := (Rg.opsOf Tryz.f13 4)) (i := 8) (j := 12) (by kernel_rfl) ?_ ?_
      · refine Rg.op_app (ops := (Rg.opsOf Tryz.f13 4)) 8 (some 19) (T := 33) (x := (Operand.tmp 12)) (y := (Operand.tmp 18)) (vx := (.slice (some ⟨w.heap.size, 0, none⟩) 0 0)) (vy := (.slice (some ⟨gL, 0, none⟩) k c)) (by kernel_rfl) (by kernel_rfl) (by kernel_rfl) (by kernel_rfl) (by kernel_rfl) (by kernel_rfl) ?_
        intro ty
        obtain ⟨a8, n8, c8, w8, hr8, hl8, hE2⟩ := hE ty
        refine ⟨_, w8, hr8, trivial, fun hHeld => ?_⟩
        refine Rg.one (ops := (Rg.opsOf Tryz.f13 4)) (i := 12) (by kernel_rfl) ?_
        refine Rg.op_load (ops := (Rg.opsOf Tryz.f13 4)) 12 (some 23) (T := 33) (x := (Operand.tmp 22)) (vx := (.pointer (some ⟨cb, 0, none⟩))) (v := (.slice (some ⟨gL, 0, none⟩) n c)) (by kernel_rfl) (by kernel_rfl) (by kernel_rfl) (by kernel_rfl) (by kernel_rfl) ?_ hHeld ?_
        · (clear hHeld hE; go_simp)
        refine Rg.take (ops := (Rg.opsOf Tryz.f13 4)) 15 (some 26) ((.slice (some aS) (n - (k + 1)) (c - (k + 1)))) hNS (by kernel_rfl) (by kernel_rfl) (by kernel_rfl) (by kernel_rfl) (by kernel_rfl) hHeld (Rg.y_sl1 (T := 33) (x := (Operand.tmp 23)) (l := (Operand.tmp 25)) (vx := (.slice (some ⟨gL, 0, none⟩) n c)) (vl := (.int .i64 ((k : Int) + 1))) (by kernel_rfl) (by kernel_rfl) (by kernel_rfl) ?_) ?_
        · (intro w hSw; clear hSw; exact hSL w)
        refine Rg.app1 (ops := (Rg.opsOf Tryz.f13 4)) 16 (some 27) (T := 33) (x := (Operand.tmp 19)) (y := (Operand.tmp 26)) (vx := (.slice a8 n8 c8)) (vy := (.slice (some aS) (n - (k + 1)) (c - (k + 1)))) (by kernel_rfl) (by kernel_rfl) (by kernel_rfl) (by kernel_rfl) (by kernel_rfl) (by kernel_rfl) (by kernel_rfl) ?_
        intro ty
        obtain ⟨a9, n9, c9, w9, hr9, hl9, hf9, h9⟩ := hE2 ty
        refine ⟨_, w9, hr9, trivial, fun hHeld => ?_⟩
        refine Rg.take (ops := (Rg.opsOf Tryz.f13 4)) 17 (some 28) ((.pointer (some ⟨cb, 0, none⟩))) hNS (by kernel_rfl) (by kernel_rfl) (by kernel_rfl) (by kernel_rfl) (by kernel_rfl) hHeld (Rg.y_nil (x := (Operand.tmp 11)) (by kernel_rfl) (by kernel_rfl)) ?_
        refine Rg.take (ops := (Rg.opsOf Tryz.f13 4)) 18 (some 29) ((.pointer (some ⟨cb, 0, none⟩))) hNS (by kernel_rfl) (by kernel_rfl) (by kernel_rfl) (by kernel_rfl) (by kernel_rfl) hHeld (Rg.y_field (T := 35) (k := 0) (x := (Operand.tmp 28)) (vx := (.pointer (some ⟨cb, 0, none⟩))) (by kernel_rfl) (by kernel_rfl) ?_) ?_
        · (intro w hSw; clear hSw hE; go_simp)
        refine Rg.store (ops := (Rg.opsOf Tryz.f13 4)) 19 (T := 33) (x := (Operand.tmp 29)) (y := (Operand.tmp 27)) (vx := (.pointer (some ⟨cb, 0, none⟩))) (vy := (.slice a9 n9 c9)) (w1 := (w9.setCell ⟨cb, 0, none⟩ (.slice a9 n9 c9))) (by kernel_rfl) (by kernel_rfl) (by kernel_rfl) (by kernel_rfl) (by kernel_rfl) (by kernel_rfl) (by kernel_rfl) ?_ (trivial) (fun hHeld => ?_)
        · (clear hHeld hE hE2 hL hL2 hl8 hr8 hr9 h9; go_simp)
        refine Rg.done (ops := (Rg.opsOf Tryz.f13 4)) (by kernel_rfl) ?_
        exact ⟨w.heap.size, a8, n8, c8, a9, n9, c9, w9, by kernel_rfl, rfl, h9⟩
      · refine Rg.op_load (ops := (Rg.opsOf Tryz.f13 4)) 12 (some 23) (T := 33) (x := (Operand.tmp 22)) (vx := (.pointer (some ⟨cb, 0, none⟩))) (v := (.slice (some ⟨gL, 0, none⟩) n c)) (by kernel_rfl) (by kernel_rfl) (by kernel_rfl) (by kernel_rfl) (by kernel_rfl) ?_ hHeld ?_
        · (clear hHeld hE; go_simp)
        refine Rg.take (ops := (Rg.opsOf Tryz.f13 4)) 15 (some 26) ((.slice (some aS) (n - (k + 1)) (c - (k + 1)))) hNS (by kernel_rfl) (by kernel_rfl) (by kernel_rfl) (by kernel_rfl) (by kernel_rfl) hHeld (Rg.y_sl1 (T := 33) (x := (Operand.tmp 23)) (l := (Operand.tmp 25)) (vx := (.slice (some ⟨gL, 0, none⟩) n c)) (vl := (.int .i64 ((k : Int) + 1))) (by kernel_rfl) (by kernel_rfl) (by kernel_rfl) ?_) ?_
        · (intro w hSw; clear hSw; exact hSL w)
        refine Rg.app1 (ops := (Rg.opsOf Tryz.f13 4)) 8 (some 19) (T := 33) (x := (Operand.tmp 12)) (y := (Operand.tmp 18)) (vx := (.slice (some ⟨w.heap.size, 0, none⟩) 0 0)) (vy := (.slice (some ⟨gL, 0, none⟩) k c)) (by kernel_rfl) (by kernel_rfl) (by kernel_rfl) (by kernel_rfl) (by kernel_rfl) (by kernel_rfl) (by kernel_rfl) ?_
        intro ty
        obtain ⟨a8, n8, c8, w8, hr8, hl8, hE2⟩ := hE ty
        refine ⟨_, w8, hr8, trivial, fun hHeld => ?_⟩
        refine Rg.app1 (ops := (Rg.opsOf Tryz.f13 4)) 16 (some 27) (T := 33) (x := (Operand.tmp 19)) (y := (Operand.tmp 26)) (vx := (.slice a8 n8 c8)) (vy := (.slice (some aS) (n - (k + 1)) (c - (k + 1)))) (by kernel_rfl) (by kernel_rfl) (by kernel_rfl) (by kernel_rfl) (by kernel_rfl) (by kernel_rfl) (by kernel_rfl) ?_
        intro ty
        obtain ⟨a9, n9, c9, w9, hr9, hl9, hf9, h9⟩ := hE2 ty
        refine ⟨_, w9, hr9, trivial, fun hHeld => ?_⟩
        refine Rg.take (ops := (Rg.opsOf Tryz.f13 4)) 17 (some 28) ((.pointer (some ⟨cb, 0, none⟩))) hNS (by kernel_rfl) (by kernel_rfl) (by kernel_rfl) (by kernel_rfl) (by kernel_rfl) hHeld (Rg.y_nil (x := (Operand.tmp 11)) (by kernel_rfl) (by kernel_rfl)) ?_
        refine Rg.take (ops := (Rg.opsOf Tryz.f13 4)) 18 (some 29) ((.pointer (some ⟨cb, 0, none⟩))) hNS (by kernel_rfl) (by kernel_rfl) (by kernel_rfl) (by kernel_rfl) (by kernel_rfl) hHeld (Rg.y_field (T := 35) (k := 0) (x := (Operand.tmp 28)) (vx := (.pointer (some ⟨cb, 0, none⟩))) (by kernel_rfl) (by kernel_rfl) ?_) ?_
        · (intro w hSw; clear hSw hE; go_simp)
        refine Rg.store (ops := (Rg.opsOf Tryz.f13 4)) 19 (T := 33) (x := (Operand.tmp 29)) (y := (Operand.tmp 27)) (vx := (.pointer (some ⟨cb, 0, none⟩))) (vy := (.slice a9 n9 c9)) (w1 := (w9.setCell ⟨cb, 0, none⟩ (.slice a9 n9 c9))) (by kernel_rfl) (by kernel_rfl) (by kernel_rfl) (by kernel_rfl) (by kernel_rfl) (by kernel_rfl) (by kernel_rfl) ?_ (trivial) (fun hHeld => ?_)
        · (clear hHeld hE hE2 hL hL2 hl8 hr8 hr9 h9; go_simp)
        refine Rg.done (ops := (Rg.opsOf Tryz.f13 4)) (by kernel_rfl) ?_
        exact ⟨w.heap.size, a8, n8, c8, a9, n9, c9, w9, by kernel_rfl, rfl, h9⟩
    · refine Rg.op_load (ops := (Rg.opsOf Tryz.f13 4)) 12 (some 23) (T := 33) (x := (Operand.tmp 22)) (vx := (.pointer (some ⟨cb, 0, none⟩))) (v := (.slice (some ⟨gL, 0, none⟩) n c)) (by kernel_rfl) (by kernel_rfl) (by kernel_rfl) (by kernel_rfl) (by kernel_rfl) ?_ hHeld ?_
      · (clear hHeld hE; go_simp)
      refine Rg.take (ops := (Rg.opsOf Tryz.f13 4)) 15 (some 26) ((.slice (some aS) (n - (k + 1)) (c - (k + 1)))) hNS (by kernel_rfl) (by kernel_rfl) (by kernel_rfl) (by kernel_rfl) (by kernel_rfl) hHeld (Rg.y_sl1 (T := 33) (x := (Operand.tmp 23)) (l := (Operand.tmp 25)) (vx := (.slice (some ⟨gL, 0, none⟩) n c)) (vl := (.int .i64 ((k : Int) + 1))) (by kernel_rfl) (by kernel_rfl) (by kernel_rfl) ?_) ?_
      · (intro w hSw; clear hSw; exact hSL w)
      refine Rg.bld (ops := (Rg.opsOf Tryz.f13 4)) 1 (some 12) (T := 33) (len := 0) (parts := #[]) (vs := #[]) (v := (.slice (some ⟨w.heap.size, 0, none⟩) 0 0)) (w1 := w.drew.alloc (.cells #[] 74)) (by kernel_rfl) (by kernel_rfl) (by kernel_rfl) (by kernel_rfl) (by kernel_rfl) (by kernel_rfl) ?_ (trivial) (fun hHeld => ?_)
      · (clear hHeld hE hL hL2; go_simp)
      refine Rg.app1 (ops := (Rg.opsOf Tryz.f13 4)) 8 (some 19) (T := 33) (x := (Operand.tmp 12)) (y := (Operand.tmp 18)) (vx := (.slice (some ⟨w.heap.size, 0, none⟩) 0 0)) (vy := (.slice (some ⟨gL, 0, none⟩) k c)) (by kernel_rfl) (by kernel_rfl) (by kernel_rfl) (by kernel_rfl) (by kernel_rfl) (by kernel_rfl) (by kernel_rfl) ?_
      intro ty
      obtain ⟨a8, n8, c8, w8, hr8, hl8, hE2⟩ := hE ty
      refine ⟨_, w8, hr8, trivial, fun hHeld => ?_⟩
      refine Rg.app1 (ops := (Rg.opsOf Tryz.f13 4)) 16 (some 27) (T := 33) (x := (Operand.tmp 19)) (y := (Operand.tmp 26)) (vx := (.slice a8 n8 c8)) (vy := (.slice (some aS) (n - (k + 1)) (c - (k + 1)))) (by kernel_rfl) (by kernel_rfl) (by kernel_rfl) (by kernel_rfl) (by kernel_rfl) (by kernel_rfl) (by kernel_rfl) ?_
      intro ty
      obtain ⟨a9, n9, c9, w9, hr9, hl9, hf9, h9⟩ := hE2 ty
      refine ⟨_, w9, hr9, trivial, fun hHeld => ?_⟩
      refine Rg.take (ops := (Rg.opsOf Tryz.f13 4)) 17 (some 28) ((.pointer (some ⟨cb, 0, none⟩))) hNS (by kernel_rfl) (by kernel_rfl) (by kernel_rfl) (by kernel_rfl) (by kernel_rfl) hHeld (Rg.y_nil (x := (Operand.tmp 11)) (by kernel_rfl) (by kernel_rfl)) ?_
      refine Rg.take (ops := (Rg.opsOf Tryz.f13 4)) 18 (some 29) ((.pointer (some ⟨cb, 0, none⟩))) hNS (by kernel_rfl) (by kernel_rfl) (by kernel_rfl) (by kernel_rfl) (by kernel_rfl) hHeld (Rg.y_field (T := 35) (k := 0) (x := (Operand.tmp 28)) (vx := (.pointer (some ⟨cb, 0, none⟩))) (by kernel_rfl) (by kernel_rfl) ?_) ?_
      · (intro w hSw; clear hSw hE; go_simp)
      refine Rg.store (ops := (Rg.opsOf Tryz.f13 4)) 19 (T := 33) (x := (Operand.tmp 29)) (y := (Operand.tmp 27)) (vx := (.pointer (some ⟨cb, 0, none⟩))) (vy := (.slice a9 n9 c9)) (w1 := (w9.setCell ⟨cb, 0, none⟩ (.slice a9 n9 c9))) (by kernel_rfl) (by kernel_rfl) (by kernel_rfl) (by kernel_rfl) (by kernel_rfl) (by kernel_rfl) (by kernel_rfl) ?_ (trivial) (fun hHeld => ?_)
      · (clear hHeld hE hE2 hL hL2 hl8 hr8 hr9 h9; go_simp)
      refine Rg.done (ops := (Rg.opsOf Tryz.f13 4)) (by kernel_rfl) ?_
      exact ⟨w.heap.size, a8, n8, c8, a9, n9, c9, w9, by kernel_rfl, rfl, h9⟩
  · refine Rg.op_load (ops := (Rg.opsOf Tryz.f13 4)) 12 (some 23) (T := 33) (x := (Operand.tmp 22)) (vx := (.pointer (some ⟨cb, 0, none⟩))) (v := (.slice (some ⟨gL, 0, none⟩) n c)) (by kernel_rfl) (by kernel_rfl) (by kernel_rfl) (by kernel_rfl) (by kernel_rfl) ?_ hHeld ?_
    · (clear hHeld hE; go_simp)
    refine Rg.take (ops := (Rg.opsOf Tryz.f13 4)) 15 (some 26) ((.slice (some aS) (n - (k + 1)) (c - (k + 1)))) hNS (by kernel_rfl) (by kernel_rfl) (by kernel_rfl) (by kernel_rfl) (by kernel_rfl) hHeld (Rg.y_sl1 (T := 33) (x := (Operand.tmp 23)) (l := (Operand.tmp 25)) (vx := (.slice (some ⟨gL, 0, none⟩) n c)) (vl := (.int .i64 ((k : Int) + 1))) (by kernel_rfl) (by kernel_rfl) (by kernel_rfl) ?_) ?_
    · (intro w hSw; clear hSw; exact hSL w)
    refine Rg.two (ops := (Rg.opsOf Tryz.f13 4)) (i := 1) (j := 5) (by kernel_rfl) ?_ ?_
    · refine Rg.op_bld (ops := (Rg.opsOf Tryz.f13 4)) 1 (some 12) (T := 33) (len := 0) (parts := #[]) (vs := #[]) (v := (.slice (some ⟨w.heap.size, 0, none⟩) 0 0)) (w1 := w.drew.alloc (.cells #[] 74)) (by kernel_rfl) (by kernel_rfl) (by kernel_rfl) (by kernel_rfl) (by kernel_rfl) ?_ (trivial) (fun hHeld => ?_)
      · (clear hHeld hE hL hL2; go_simp)
      refine Rg.one (ops := (Rg.opsOf Tryz.f13 4)) (i := 5) (by kernel_rfl) ?_
      refine Rg.op_load (ops := (Rg.opsOf Tryz.f13 4)) 5 (some 16) (T := 33) (x := (Operand.tmp 15)) (vx := (.pointer (some ⟨cb, 0, none⟩))) (v := (.slice (some ⟨gL, 0, none⟩) n c)) (by kernel_rfl) (by kernel_rfl) (by kernel_rfl) (by kernel_rfl) (by kernel_rfl) ?_ hHeld ?_
      · (clear hHeld hE; go_simp)
      refine Rg.take (ops := (Rg.opsOf Tryz.f13 4)) 7 (some 18) ((.slice (some ⟨gL, 0, none⟩) k c)) hNS (by kernel_rfl) (by kernel_rfl) (by kernel_rfl) (by kernel_rfl) (by kernel_rfl) hHeld (Rg.y_slice (T := 33) (x := (Operand.tmp 16)) (h := (Operand.tmp 17)) (vx := (.slice (some ⟨gL, 0, none⟩) n c)) (vh := (.int .i64 (k : Nat))) (by kernel_rfl) (by kernel_rfl) (by kernel_rfl) ?_) ?_
      · (intro w hSw; clear hSw hE; have h1 := hk; have h2 := hkc; go_simp)
      refine Rg.app1 (ops := (Rg.opsOf Tryz.f13 4)) 8 (some 19) (T := 33) (x := (Operand.tmp 12)) (y := (Operand.tmp 18)) (vx := (.slice (some ⟨w.heap.size, 0, none⟩) 0 0)) (vy := (.slice (some ⟨gL, 0, none⟩) k c)) (by kernel_rfl) (by kernel_rfl) (by kernel_rfl) (by kernel_rfl) (by kernel_rfl) (by kernel_rfl) (by kernel_rfl) ?_
      intro ty
      obtain ⟨a8, n8, c8, w8, hr8, hl8, hE2⟩ := hE ty
      refine ⟨_, w8, hr8, trivial, fun hHeld => ?_⟩
      refine Rg.app1 (ops := (Rg.opsOf Tryz.f13 4)) 16 (some 27) (T := 33) (x := (Operand.tmp 19)) (y := (Operand.tmp 26)) (vx := (.slice a8 n8 c8)) (vy := (.slice (some aS) (n - (k + 1)) (c - (k + 1)))) (by kernel_rfl) (by kernel_rfl) (by kernel_rfl) (by kernel_rfl) (by kernel_rfl) (by kernel_rfl) (by kernel_rfl) ?_
      intro ty
      obtain ⟨a9, n9, c9, w9, hr9, hl9, hf9, h9⟩ := hE2 ty
      refine ⟨_, w9, hr9, trivial, fun hHeld => ?_⟩
      refine Rg.take (ops := (Rg.opsOf Tryz.f13 4)) 17 (some 28) ((.pointer (some ⟨cb, 0, none⟩))) hNS (by kernel_rfl) (by kernel_rfl) (by kernel_rfl) (by kernel_rfl) (by kernel_rfl) hHeld (Rg.y_nil (x := (Operand.tmp 11)) (by kernel_rfl) (by kernel_rfl)) ?_
      refine Rg.take (ops := (Rg.opsOf Tryz.f13 4)) 18 (some 29) ((.pointer (some ⟨cb, 0, none⟩))) hNS (by kernel_rfl) (by kernel_rfl) (by kernel_rfl) (by kernel_rfl) (by kernel_rfl) hHeld (Rg.y_field (T := 35) (k := 0) (x := (Operand.tmp 28)) (vx := (.pointer (some ⟨cb, 0, none⟩))) (by kernel_rfl) (by kernel_rfl) ?_) ?_
      · (intro w hSw; clear hSw hE; go_simp)
      refine Rg.store (ops := (Rg.opsOf Tryz.f13 4)) 19 (T := 33) (x := (Operand.tmp 29)) (y := (Operand.tmp 27)) (vx := (.pointer (some ⟨cb, 0, none⟩))) (vy := (.slice a9 n9 c9)) (w1 := (w9.setCell ⟨cb, 0, none⟩ (.slice a9 n9 c9))) (by kernel_rfl) (by kernel_rfl) (by kernel_rfl) (by kernel_rfl) (by kernel_rfl) (by kernel_rfl) (by kernel_rfl) ?_ (trivial) (fun hHeld => ?_)
      · (clear hHeld hE hE2 hL hL2 hl8 hr8 hr9 h9; go_simp)
      refine Rg.done (ops := (Rg.opsOf Tryz.f13 4)) (by kernel_rfl) ?_
      exact ⟨w.heap.size, a8, n8, c8, a9, n9, c9, w9, by kernel_rfl, rfl, h9⟩
    · refine Rg.op_load (ops := (Rg.opsOf Tryz.f13 4)) 5 (some 16) (T := 33) (x := (Operand.tmp 15)) (vx := (.pointer (some ⟨cb, 0, none⟩))) (v := (.slice (some ⟨gL, 0, none⟩) n c)) (by kernel_rfl) (by kernel_rfl) (by kernel_rfl) (by kernel_rfl) (by kernel_rfl) ?_ hHeld ?_
      · (clear hHeld hE; go_simp)
      refine Rg.take (ops := (Rg.opsOf Tryz.f13 4)) 7 (some 18) ((.slice (some ⟨gL, 0, none⟩) k c)) hNS (by kernel_rfl) (by kernel_rfl) (by kernel_rfl) (by kernel_rfl) (by kernel_rfl) hHeld (Rg.y_slice (T := 33) (x := (Operand.tmp 16)) (h := (Operand.tmp 17)) (vx := (.slice (some ⟨gL, 0, none⟩) n c)) (vh := (.int .i64 (k : Nat))) (by kernel_rfl) (by kernel_rfl) (by kernel_rfl) ?_) ?_
      · (intro w hSw; clear hSw hE; have h1 := hk; have h2 := hkc; go_simp)
      refine Rg.bld (ops := (Rg.opsOf Tryz.f13 4)) 1 (some 12) (T := 33) (len := 0) (parts := #[]) (vs := #[]) (v := (.slice (some ⟨w.heap.size, 0, none⟩) 0 0)) (w1 := w.drew.alloc (.cells #[] 74)) (by kernel_rfl) (by kernel_rfl) (by kernel_rfl) (by kernel_rfl) (by kernel_rfl) (by kernel_rfl) ?_ (trivial) (fun hHeld => ?_)
      · (clear hHeld hE hL hL2; go_simp)
      refine Rg.app1 (ops := (Rg.opsOf Tryz.f13 4)) 8 (some 19) (T := 33) (x := (Operand.tmp 12)) (y := (Operand.tmp 18)) (vx := (.slice (some ⟨w.heap.size, 0, none⟩) 0 0)) (vy := (.slice (some ⟨gL, 0, none⟩) k c)) (by kernel_rfl) (by kernel_rfl) (by kernel_rfl) (by kernel_rfl) (by kernel_rfl) (by kernel_rfl) (by kernel_rfl) ?_
      intro ty
      obtain ⟨a8, n8, c8, w8, hr8, hl8, hE2⟩ := hE ty
      refine ⟨_, w8, hr8, trivial, fun hHeld => ?_⟩
      refine Rg.app1 (ops := (Rg.opsOf Tryz.f13 4)) 16 (some 27) (T := 33) (x := (Operand.tmp 19)) (y := (Operand.tmp 26)) (vx := (.slice a8 n8 c8)) (vy := (.slice (some aS) (n - (k + 1)) (c - (k + 1)))) (by kernel_rfl) (by kernel_rfl) (by kernel_rfl) (by kernel_rfl) (by kernel_rfl) (by kernel_rfl) (by kernel_rfl) ?_
      intro ty
      obtain ⟨a9, n9, c9, w9, hr9, hl9, hf9, h9⟩ := hE2 ty
      refine ⟨_, w9, hr9, trivial, fun hHeld => ?_⟩
      refine Rg.take (ops := (Rg.opsOf Tryz.f13 4)) 17 (some 28) ((.pointer (some ⟨cb, 0, none⟩))) hNS (by kernel_rfl) (by kernel_rfl) (by kernel_rfl) (by kernel_rfl) (by kernel_rfl) hHeld (Rg.y_nil (x := (Operand.tmp 11)) (by kernel_rfl) (by kernel_rfl)) ?_
      refine Rg.take (ops := (Rg.opsOf Tryz.f13 4)) 18 (some 29) ((.pointer (some ⟨cb, 0, none⟩))) hNS (by kernel_rfl) (by kernel_rfl) (by kernel_rfl) (by kernel_rfl) (by kernel_rfl) hHeld (Rg.y_field (T := 35) (k := 0) (x := (Operand.tmp 28)) (vx := (.pointer (some ⟨cb, 0, none⟩))) (by kernel_rfl) (by kernel_rfl) ?_) ?_
      · (intro w hSw; clear hSw hE; go_simp)
      refine Rg.store (ops := (Rg.opsOf Tryz.f13 4)) 19 (T := 33) (x := (Operand.tmp 29)) (y := (Operand.tmp 27)) (vx := (.pointer (some ⟨cb, 0, none⟩))) (vy := (.slice a9 n9 c9)) (w1 := (w9.setCell ⟨cb, 0, none⟩ (.slice a9 n9 c9))) (by kernel_rfl) (by kernel_rfl) (by kernel_rfl) (by kernel_rfl) (by kernel_rfl) (by kernel_rfl) (by kernel_rfl) ?_ (trivial) (fun hHeld => ?_)
      · (clear hHeld hE hE2 hL hL2 hl8 hr8 hr9 h9; go_simp)
      refine Rg.done (ops := (Rg.opsOf Tryz.f13 4)) (by kernel_rfl) ?_
      exact ⟨w.heap.size, a8, n8, c8, a9, n9, c9, w9, by kernel_rfl, rfl, h9⟩
end Go.Proofs.YtdfcbnejnnibpaaGreatDoor.Cn

namespace Go.Proofs.YtdfcbnejnnibpaaGreatDoor.Wl
open Go.RowKit Tx Pm Pl Pr Dk
set_option linter.unusedVariables false
structure Kd {α : Type} (O : World → (Nat → Prop) → α → Prop) : Prop where
  lt : ∀ {w F s}, O w F s → ∀ i, F i → i < w.heap.size
  kept : ∀ {w w1 F s}, O w F s → (∀ i, F i → w1.heap[i]? = w.heap[i]?) → O w1 F s
section
variable {α β γ : Type} {OA : World → (Nat → Prop) → α → Prop} {OB : World → (Nat → Prop) → β → Prop} {OC : World → (Nat → Prop) → γ → Prop} {w0 W : World} {x : α} {y : β} {z : γ} {q : Option (Nat × Obj)}
def Tw (OA : World → (Nat → Prop) → α → Prop) (OB : World → (Nat → Prop) → β → Prop) (w0 : World) (q : Option (Nat × Obj)) (x : α) (y : β) (W : World) : Prop :=
  ∃ F G, OA W F x ∧ OB W G y ∧ (∀ i, F i → ¬ G i) ∧ (∀ i, F i ∨ G i → w0.heap.size ≤ i) ∧ Below w0.heap.size w0 W ∧ ∀ p, q = some p → W.heap[p.1]? = some p.2 ∧ ¬ F p.1 ∧ ¬ G p.1
theorem Tw.bel (h : Tw OA OB w0 q x y W) : Below w0.heap.size w0 W := by
  obtain ⟨_, _, _, _, _, _, h, _⟩ := h
  exact h
theorem Tw.turn (h : Tw OA OB w0 q x y W) : Tw OB OA w0 q y x W := by
  obtain ⟨F, G, h1, h2, h3, h4, h5, h6⟩ := h
  exact ⟨G, F, h2, h1, fun i hi hj => h3 i hj hi, fun i hi => h4 i hi.symm, h5, fun p hp => ⟨(h6 p hp).1, (h6 p hp).2.2, (h6 p hp).2.1⟩⟩
theorem Tw.drop (h : Tw OA OB w0 q x y W) : Tw OA OB w0 none x y W := by
  obtain ⟨F, G, h1, h2, h3, h4, h5, h6⟩ := h
  exact ⟨F, G, h1, h2, h3, h4, h5, fun p hp => by cases hp⟩
theorem tw_left (kA : Kd OA) (kB : Kd OB) {F G : Nat → Prop} {w' : World} (h1 : OA W F x) (h2 : OB W G y) (h3 : ∀ i, F i → ¬ G i) (h4 : ∀ i, F i ∨ G i → w0.heap.size ≤ i) (h5 : Below w0.heap.size w0 W) (h6 : ∀ p, q = some p → W.heap[p.1]? = some p.2 ∧ ¬ F p.1 ∧ ¬ G p.1) (hl : LeftA OC W F z w') : Tw OC OB w0 q z y w' := by
  obtain ⟨F', l1, l2, l3⟩ := hl
  have hs := h5.size
  have hltB := kB.lt h2
  have hkB : ∀ i, G i → w'.heap[i]? = W.heap[i]? := fun i hi => l2.block i (hltB i hi) (fun hf => h3 i hf hi)
  refine ⟨F', G, l1, kB.kept h2 hkB, fun i hi hg => ?_, fun i hi => ?_, h5.trans ⟨l2.os, l2.tape, l2.output, l2.size, fun i hi => l2.block i (Nat.lt_of_lt_of_le hi hs) (fun hf => by have := h4 i (.inl hf); omega)⟩, fun p hp => ?_⟩
  · rcases l3 i hi with hh | hh
    · exact h3 i hh hg
    · have := hltB i hg; omega
  · rcases hi with hi | hi
    · rcases l3 i hi with hh | hh
      · exact h4 i (.inl hh)
      · omega
    · exact h4 i (.inr hi)
  · obtain ⟨q1, q2, q3⟩ := h6 p hp
    have hplt := (Array.getElem?_eq_some_iff.1 q1).1
    exact ⟨(l2.block p.1 hplt q2).trans q1, fun hf => by rcases l3 _ hf with hh | hh; exact q2 hh; omega, q3⟩
theorem Tw.callA (kA : Kd OA) (kB : Kd OB) {f : FuncId} {args : Array Value} {P : Ending → Prop} (h : Tw OA OB w0 q x y W) (hc : ∀ F, OA W F x → Calls Tryz.prog f args W fun e w' => P e ∧ LeftA OC W F z w') : Calls Tryz.prog f args W fun e w' => P e ∧ Tw OC OB w0 q z y w' := by
  obtain ⟨F, G, h1, h2, h3, h4, h5, h6⟩ := h
  exact (hc F h1).mono fun e w' hh => ⟨hh.1, tw_left kA kB h1 h2 h3 h4 h5 h6 hh.2⟩
theorem Tw.callB (kA : Kd OA) (kB : Kd OB) {f : FuncId} {args : Array Value} {P : Ending → Prop} (h : Tw OA OB w0 q x y W) (hc : ∀ F, OB W F y → Calls Tryz.prog f args W fun e w' => P e ∧ LeftA OC W F z w') : Calls Tryz.prog f args W fun e w' => P e ∧ Tw OA OC w0 q x z w' :=
  (h.turn.callA kB kA hc).mono fun e w' hh => ⟨hh.1, hh.2.turn⟩
theorem Tw.below (kA : Kd OA) (kB : Kd OB) {w' : World} (h : Tw OA OB w0 q x y W) (hb : Below W.heap.size W w') : Tw OA OB w0 q x y w' := by
  obtain ⟨F, G, h1, h2, h3, h4, h5, h6⟩ := h
  exact ⟨F, G, kA.kept h1 (fun i hi => hb.block i (kA.lt h1 i hi)), kB.kept h2 (fun i hi => hb.block i (kB.lt h2 i hi)), h3, h4, below_call h5 hb, fun p hp => ⟨(hb.block p.1 (Array.getElem?_eq_some_iff.1 (h6 p hp).1).1).trans (h6 p hp).1, (h6 p hp).2⟩⟩
theorem Tw.box (kA : Kd OA) (kB : Kd OB) (h : Tw OA OB w0 none x y W) (o : Obj) : Tw OA OB w0 (some (W.heap.size, o)) x y (W.alloc o) := by
  obtain ⟨F, G, h1, h2, h3, h4, h5, h6⟩ := h
  have hbl := (Below.refl W.heap.size W).alloc (Nat.le_refl _) o
  refine ⟨F, G, kA.kept h1 (fun i hi => hbl.block i (kA.lt h1 i hi)), kB.kept h2 (fun i hi => hbl.block i (kB.lt h2 i hi)), h3, h4, below_call h5 hbl, fun p hp => ?_⟩
  injection hp with hp
  subst hp
  exact ⟨new_at W o rfl, fun hf => by have := kA.lt h1 _ hf; omega, fun hf => by have := kB.lt h2 _ hf; omega⟩
theorem Tw.at {bs : Nat} {o : Obj} (h : Tw OA OB w0 (some (bs, o)) x y W) : W.heap[bs]? = some o := by
  obtain ⟨_, _, _, _, _, _, _, h6⟩ := h
  exact (h6 _ rfl).1
end
end Go.Proofs.YtdfcbnejnnibpaaGreatDoor.Wl

namespace Go.Proofs.YtdfcbnejnnibpaaGreatDoor.Cn
open Go.RowKit Tx Pm Dk Wm Wr Wl Pl Tb Bl
set_option linter.unusedVariables false
set_option linter.unusedSimpArgs false
set_option linter.unnecessarySimpa false
abbrev Ent := Nat × ByteArray
def cellsR (p : Ent) : List Value := [.int .i64 (p.1 : Nat), .string p.2]
def oneV (p : Ent) : Value := .agg #[.int .i64 (p.1 : Nat), .string p.2]
theorem infoR : (Tryz.prog.info? 74).map (fun i => (i.zero, i.size, i.bytes)) = some (some (oneV (0, ⟨#[]⟩)), 2, 24) := by kernel_rfl
theorem onecellR (x : Ent) : ∀ u ∈ cellsR x, u.oneCell' = true := by
  intro u hu
  simp only [cellsR, List.mem_cons, List.not_mem_nil, or_false] at hu
  rcases hu with rfl | rfl <;> rfl
theorem onecellsR (E : List Ent) : ∀ u ∈ E.flatMap cellsR, u.oneCell' = true := by
  intro u hu
  obtain ⟨x, _, hx⟩ := List.mem_flatMap.1 hu
  exact onecellR x u hx
theorem flat_lenR (E : List Ent) : (E.flatMap cellsR).length = E.length * 2 := by
  induction E with
  | nil => rfl
  | cons x E ih => rw [List.flatMap_cons, List.length_append, ih, List.length_cons, Nat.succ_mul]; simp [cellsR]; omega
def Esl (w : World) (a : Option Addr) (n : Nat) (E : List Ent) : Prop := E.length = n ∧ (n = 0 ∨ ∃ g off, a = some ⟨g, off, none⟩ ∧ g < w.heap.size ∧ ∀ k x, E[k]? = some x →
  w.cell? ⟨g, off + k * 2, none⟩ = some (.int .i64 (x.1 : Nat)) ∧ w.cell? ⟨g, off + k * 2 + 1, none⟩ = some (.string x.2))
theorem Esl.below {w w1 : World} {a : Option Addr} {n : Nat} {E : List Ent} (h : Esl w a n E) (hb : Below w.heap.size w w1) : Esl w1 a n E := by
  refine ⟨h.1, ?_⟩
  rcases h.2 with h0 | ⟨g, off, ha, hlt, hc⟩
  · exact .inl h0
  · refine .inr ⟨g, off, ha, Nat.lt_of_lt_of_le hlt hb.size, fun k x hx => ?_⟩
    obtain ⟨h1, h2⟩ := hc k x hx
    exact ⟨(hb.cell (p := ⟨g, _, none⟩) hlt).trans h1, (hb.cell (p := ⟨g, _, none⟩) hlt).trans h2⟩
theorem Esl.nth {w : World} {a : Option Addr} {n : Nat} {E : List Ent} (h : Esl w a n E) {k : Nat} {x : Ent} (hx : E[k]? = some x) : ∃ g off, a = some ⟨g, off, none⟩ ∧ g < w.heap.size ∧ w.cell? ⟨g, off + k * 2, none⟩ = some (.int .i64 (x.1 : Nat)) ∧ w.cell? ⟨g, off + k * 2 + 1, none⟩ = some (.string x.2) := by
  have hk := (List.getElem?_eq_some_iff.1 hx).1
  rcases h.2 with h0 | ⟨g, off, ha, hlt, hc⟩
  · rw [h.1] at hk; omega
  · exact ⟨g, off, ha, hlt, hc k x hx⟩
def OwR (w : World) (B : Nat) (v : Value) (E : List Ent) : Prop := w.ownsRow B 74 2 v E.length (E.flatMap cellsR)
theorem OwR.form {w : World} {B : Nat} {v : Value} {E : List Ent} (h : OwR w B v E) : ∃ a c, v = .slice a E.length c ∧ Esl w a E.length E ∧ E.length ≤ c ∧ c ≤ maxLen := by
  have hh := h
  rcases h.2 with ⟨rfl, h0⟩ | ⟨g, cap, cur, rfl, hg, hh2, hn, hc, _⟩
  · exact ⟨none, 0, by rw [h0], ⟨rfl, .inl h0⟩, by omega, Nat.zero_le _⟩
  · refine ⟨some ⟨g, 0, none⟩, cap, rfl, ⟨rfl, .inr ⟨g, 0, rfl, (Array.getElem?_eq_some_iff.1 hh2).1, fun k x hx => ?_⟩⟩, hn, hc⟩
    have hc : ∀ j u, j < 2 → (cellsR x)[j]? = some u → w.cell? ⟨g, 0 + k * 2 + j, none⟩ = some u := by
      intro j u hj hu
      have := hh.cells (g := g) rfl (k * 2 + j) u ((flat_at cellsR 2 (fun _ => rfl) E k x j hx hj).trans hu)
      rw [WideShapes.add_plain, Nat.zero_add] at this
      rw [Nat.zero_add]
      exact this
    exact ⟨hc 0 _ (by omega) rfl, hc 1 _ (by omega) rfl⟩
def placeE (E : List Ent) (n : Int) : Int := match E.findIdx? (fun p => decide ((p.1 : Int) = n)) with
  | some i => (i : Nat)
  | none => -1
set_option maxRecDepth 100000 in
set_option maxHeartbeats 2000000 in
theorem place_any (cb : Nat) (a : Option Addr) (n c : Nat) (E : List Ent) (z : Int) (w : World) (hc0 : w.cell? ⟨cb, 0, none⟩ = some (.slice a n c)) (h : Esl w a n E) (hc : n ≤ c) (hn : n ≤ 1000000) (hE : ∀ p ∈ E, p.1 ≤ 1000000000) :
    Calls Tryz.prog 34 #[.pointer (some ⟨cb, 0, none⟩), .int .i64 z] w fun e w' => e = .returned (.int .i64 (placeE E z)) ∧ Below w.heap.size w w' := by
  have HST := Lib.hid (fun V (hV : Below w.heap.size w V) => And.intro ((hV.cell (p := ⟨cb, 0, none⟩) (World.block_lt_of_cell? w _ hc0)).trans hc0) (h.below hV))
  have HL := Lib.hid h.1
  have HE := Lib.hid hE
  clear h hE hc0
  go_enter Tryz.func34, Tryz.ntmps34
  go_wp2_with fail
  go_loopw [5] (fun iv wr => ∃ i : Nat, i ≤ n ∧ iv = .int .i64 i ∧ Hid (∀ x ∈ E.take i, (x.1 : Int) ≠ z) ∧ Below w.heap.size w wr) (fun iv _ => n - (intOf iv).toNat)
  case atStart => exact ⟨0, Nat.zero_le _, rfl, (fun x hx => by cases hx), Below.refl _ _⟩
  case round =>
    obtain ⟨i, hi, rfl, hno, hB⟩ := hrel
    obtain ⟨gc, hs⟩ := HST.out _ hB
    by_cases hlt : i < n
    · obtain ⟨x, hx⟩ : ∃ x, E[i]? = some x := ⟨_, List.getElem?_eq_getElem (by rw [HL.out]; exact hlt)⟩
      obtain ⟨g, off, rfl, hgl, g0, g1⟩ := hs.nth hx
      have hiz : (i : Int) < (n : Int) := by omega
      have HX := Lib.hid hx
      by_cases he : (x.1 : Int) = z
      · have hpl : placeE E z = (i : Nat) := by
          unfold placeE
          have : E.findIdx? (fun p => decide ((p.1 : Int) = z)) = some i := by
            have hil := (List.getElem?_eq_some_iff.1 hx).1
            refine (List.findIdx?_eq_some_iff_getElem).2 ⟨hil, ?_, fun k hk => ?_⟩
            · rw [List.getElem?_eq_getElem hil] at hx
              injection hx with hx
              rw [hx]
              simpa using he
            · have hm : E[k]'(by omega) ∈ E.take i := by
                rw [List.mem_take_iff_getElem]
                exact ⟨k, by omega, rfl⟩
              simpa using hno.out _ hm
          rw [this]
        have HPL := Lib.hid hpl
        have hb : ((x.1 : Int) == z) = true := by rw [he]; exact beq_self_eq_true _
        obtain ⟨k1, d1⟩ := x
        simp only at g0 g1 hb
        clear hx he hpl hno hs
        go_wp2_with fail
        go_ret
        rw [HPL.out]
        exact ⟨rfl, hB⟩
      · have hno2 : Hid (∀ y ∈ E.take (i + 1), (y.1 : Int) ≠ z) := Lib.hid (fun y hy => by
          rw [take_snoc10 hx] at hy
          rcases List.mem_append.1 hy with hy | hy
          · exact hno.out y hy
          · rw [List.mem_singleton.1 hy]; exact he)
        have hb : ((x.1 : Int) == z) = false := beq_eq_false_iff_ne.2 he
        obtain ⟨k1, d1⟩ := x
        simp only at g0 g1 hb
        clear hx he hno hs
        go_wp2_with fail
        go_roundw
        case rel => exact ⟨i + 1, by omega, by go_num, hno2, hB⟩
        case measure => simp [intOf]; omega
    · obtain rfl : i = n := by omega
      have hpl : placeE E z = -1 := by
        unfold placeE
        have : E.findIdx? (fun p => decide ((p.1 : Int) = z)) = none := List.findIdx?_eq_none_iff.2 (fun x hx => by
          have := hno.out x (by rw [List.take_of_length_le (by rw [HL.out]; exact Nat.le_refl _)]; exact hx)
          simpa using this)
        rw [this]
      have HPL := Lib.hid hpl
      clear hpl hno hs hlt
      go_wp2_with fail
      go_ret
      rw [HPL.out]
      exact ⟨rfl, hB⟩
structure RAt (cb : Nat) (v : Value) (w : World) (F : Nat → Prop) (y : List Ent × Nat) : Prop where
  blk : w.heap[cb]? = some (.cells #[v, .int .i64 (y.2 : Nat)] 35 (0, 0))
  row : OwR w 0 v y.1
  ne : v.ownBlock ≠ some cb
  foot : ∀ i, F i ↔ i = cb ∨ v.ownBlock = some i
def RefC (cb : Nat) (w : World) (F : Nat → Prop) (y : List Ent × Nat) : Prop := ∃ v, RAt cb v w F y
theorem row_kept {w w1 : World} {B n s : Nat} {T : TypeId} {v : Value} {xs : List Value} (h : w.ownsRow B T s v n xs) (hk : ∀ g, v.ownBlock = some g → w1.heap[g]? = w.heap[g]?) : w1.ownsRow B T s v n xs := by
  obtain ⟨h1, h2⟩ := h
  rcases h2 with h2 | ⟨g, cap, cur, rfl, hg, hh, hr⟩
  · exact ⟨h1, .inl h2⟩
  · exact ⟨h1, .inr ⟨g, cap, cur, rfl, hg, (hk g rfl).trans hh, hr⟩⟩
theorem kd_refC (cb : Nat) : Kd (RefC cb) := ⟨fun {w F s} h i hi => by
    obtain ⟨v, h⟩ := h
    rcases (h.foot i).1 hi with rfl | hi
    · exact (Array.getElem?_eq_some_iff.1 h.blk).1
    · exact (h.row.lt i hi).2, fun {w w1 F s} h hk => by
    obtain ⟨v, h⟩ := h
    exact ⟨v, (hk cb ((h.foot cb).2 (.inl rfl))).trans h.blk, row_kept h.row (fun g hg => hk g ((h.foot g).2 (.inr hg))), h.ne, h.foot⟩⟩
theorem chg_grownB {w w1 : World} {F : Nat → Prop} {q : Option Nat} (h : w.grownBy w1 q) (hF : ∀ g, q = some g → F g) : Chg F w w1 := ⟨h.os, h.tape, h.output, h.size, fun k hk hn => h.block k hk (fun e => hn (hF k e.symm))⟩
theorem ref_turn {cb : Nat} {v v' : Value} {w W1 W8 : World} {F : Nat → Prop} {E E' : List Ent} {M M' : Nat} (h : RAt cb v w F (E, M)) (hc1 : Chg F w W1) (hc8 : Chg F W1 W8) (hb : W8.heap[cb]? = some (.cells #[v, .int .i64 (M' : Nat)] 35 (0, 0)))
    (hr : OwR W8 0 v' E') (hn : v'.ownBlock = v.ownBlock ∨ ∀ g, v'.ownBlock = some g → W1.heap.size ≤ g) : (W8.cell? ⟨cb, 0, none⟩ = some v ∧ W8.frozen? ⟨cb, 0, none⟩ = false ∧ W8.cell? ⟨cb, 1, none⟩ = some (.int .i64 (M' : Nat))) ∧ LeftA (RefC cb) w F (E', M') (W8.setCell ⟨cb, 0, none⟩ v') ∧ (W8.setCell ⟨cb, 0, none⟩ v').cell? ⟨cb, 1, none⟩ = some (.int .i64 (M' : Nat)) := by
  have hcbF : F cb := (h.foot cb).2 (.inl rfl)
  have hcbl : cb < w.heap.size := (Array.getElem?_eq_some_iff.1 h.blk).1
  have hne : v'.ownBlock ≠ some cb := by
    rcases hn with hn | hn
    · rw [hn]; exact h.ne
    · intro e
      have := hn cb e
      have := hc1.size
      omega
  have hb9 : (W8.setCell ⟨cb, 0, none⟩ v').heap[cb]? = some (.cells #[v', .int .i64 (M' : Nat)] 35 (0, 0)) := by rw [set_block hb]; rfl
  have hset : Chg (· = cb) W8 (W8.setCell ⟨cb, 0, none⟩ v') := chg_set (b := cb) (k := 0) v'
  refine ⟨⟨?_, ?_, ?_⟩, ⟨fun i => i = cb ∨ v'.ownBlock = some i, ⟨v', hb9, ?_, hne, fun i => Iff.rfl⟩, ?_, fun g hg => ?_⟩, ?_⟩
  · unfold World.cell?; rw [hb]; rfl
  · unfold World.frozen?; rw [hb]; simp
  · unfold World.cell?; rw [hb]; rfl
  · exact row_kept hr (fun g hg => hset.block g (hr.lt g hg).2 (fun e => hne (by rw [← e]; exact hg)))
  · exact (hc1.trans hc8 (fun g hg => .inl hg)).trans (hset.mono (fun i hi => by rw [hi]; exact hcbF)) (fun g hg => .inl hg)
  · rcases hg with rfl | hg
    · exact .inl hcbF
    · rcases hn with hn | hn
      · exact .inl ((h.foot g).2 (.inr (by rw [← hn]; exact hg)))
      · exact .inr (Nat.le_trans hc1.size (hn g hg))
  · unfold World.cell?; rw [hb9]; rfl
end Go.Proofs.YtdfcbnejnnibpaaGreatDoor.Cn
