/-
  DiskKeeps: what was synced survives every loss; what was written as a whole and not synced is then what was synced before, or a beginning of it; what was put behind is kept up to some byte: the law returns true, and writes nothing that was there.
-/
import Derived.Test.YtcbnpdognadilaaQ3
import Derived.SizedLaws
import Derived.ChangeOld
import Derived.LoopN
/- A file moved onto another, both of them synced: what each call answers, in the document's own disk. -/
namespace Go.Proofs.Ytcbnpdognadilaa.Dk
open Go.RowKit Tx Pm
set_option linter.unusedVariables false

theorem fits_none {s : St} (h : s.rooms = []) (p : ByteArray) (m : Int) : fits s p m = true := by
  unfold fits
  rw [h, List.all_nil, Bool.or_true]
def dirV : It := ⟨pV, true, ⟨#[]⟩, ⟨#[]⟩, false, false, 0⟩
def m1 (a : ByteArray) : St := ⟨[dirV, ⟨pVA, false, a, ⟨#[]⟩, true, true, 1⟩], [], 2, 1, -1, false⟩
def m2 (a : ByteArray) : St := ⟨[dirV, ⟨pVA, false, a, a, false, false, 1⟩], [], 3, 1, -1, false⟩
def m3 (a b : ByteArray) : St := ⟨[dirV, ⟨pVA, false, a, a, false, false, 1⟩, ⟨pVB, false, b, ⟨#[]⟩, true, true, 2⟩], [], 4, 2, -1, false⟩
def m4 (a b : ByteArray) : St := ⟨[dirV, ⟨pVA, false, a, a, false, false, 1⟩, ⟨pVB, false, b, b, false, false, 2⟩], [], 5, 2, -1, false⟩
/-- Moved. -/
def m5 (b : ByteArray) : St := ⟨[dirV, ⟨pVA, false, b, b, false, false, 3⟩], [], 6, 3, -1, false⟩
/-- Stopped. -/
def m6 (a b : ByteArray) : St := { m4 a b with down := true }
theorem m1_write (a : ByteArray) : writeS a1S pVA a = (0, m1 a) := by
  unfold writeS
  rw [fits_none (by decide +kernel)]
  kernel_rfl
theorem m2_sync (a : ByteArray) : syncS (m1 a) pVA = (0, m2 a) := by kernel_rfl
theorem m3_write (a b : ByteArray) : writeS (m2 a) pVB b = (0, m3 a b) := by
  unfold writeS
  rw [fits_none rfl]
  kernel_rfl
theorem m4_sync (a b : ByteArray) : syncS (m3 a b) pVB = (0, m4 a b) := by kernel_rfl
theorem m5_rename (a b : ByteArray) : renameS (m4 a b) pVB pVA = (0, m5 b) := by
  unfold renameS
  rw [fits_none rfl]
  kernel_rfl
theorem m6_rename (a b : ByteArray) : renameS { m4 a b with armed := 0 } pVB pVA = (14, m6 a b) := by
  unfold renameS
  rw [fits_none rfl]
  kernel_rfl
theorem m5_restart (b : ByteArray) (loss : Int) : restartS (m5 b) loss = m5 b := by
  unfold restartS
  kernel_rfl
theorem m6_restart (a b : ByteArray) (loss : Int) : restartS (m6 a b) loss = m4 a b := by
  unfold restartS
  kernel_rfl
theorem m5_a (b : ByteArray) : readS (m5 b) pVA = (b, 0) := by kernel_rfl
theorem m5_b (b : ByteArray) : readS (m5 b) pVB = (⟨#[]⟩, 11) := by kernel_rfl
theorem m4_a (a b : ByteArray) : readS (m4 a b) pVA = (a, 0) := by kernel_rfl
theorem m4_b (a b : ByteArray) : readS (m4 a b) pVB = (b, 0) := by kernel_rfl
theorem m5_used (b : ByteArray) : used (m5 b).L pV = b.size := by
  have h : used (m5 b).L pV = 0 + (b.size + 0) := by kernel_rfl
  omega
end Go.Proofs.Ytcbnpdognadilaa.Dk

/- What a restart keeps: what each call of DiskKeeps answers, in the document's own disk. -/
namespace Go.Proofs.Ytcbnpdognadilaa.Dk
open Go.RowKit Tx Pm
set_option linter.unusedVariables false

def pVC : ByteArray := ⟨#[118, 47, 99]⟩
/-- A file that is synced, one that is not. -/
def syn (p x : ByteArray) (n : Nat) : It := ⟨p, false, x, x, false, false, n⟩
def raw (p x : ByteArray) (n : Nat) : It := ⟨p, false, x, ⟨#[]⟩, true, true, n⟩
def kA (x : ByteArray) : St := ⟨[dirV, raw pVA x 1], [], 2, 1, -1, false⟩
def kA' (x : ByteArray) : St := ⟨[dirV, syn pVA x 1], [], 3, 1, -1, false⟩
def kB (x : ByteArray) : St := ⟨[dirV, syn pVA x 1, raw pVB x 2], [], 4, 2, -1, false⟩
def kB' (x : ByteArray) : St := ⟨[dirV, syn pVA x 1, syn pVB x 2], [], 5, 2, -1, false⟩
def kC (x : ByteArray) : St := ⟨[dirV, syn pVA x 1, syn pVB x 2, raw pVC x 3], [], 6, 3, -1, false⟩
def kC' (x : ByteArray) : St := ⟨[dirV, syn pVA x 1, syn pVB x 2, syn pVC x 3], [], 7, 3, -1, false⟩
def kD (x y : ByteArray) : St := ⟨[dirV, syn pVA x 1, ⟨pVB, false, x ++ y, x, true, false, 4⟩, syn pVC x 3], [], 8, 4, -1, false⟩
def kE (x y z : ByteArray) : St := ⟨[dirV, syn pVA x 1, ⟨pVB, false, x ++ y, x, true, false, 4⟩, ⟨pVC, false, z, x, true, true, 5⟩], [], 9, 5, -1, false⟩
theorem kA_write (x : ByteArray) : writeS a1S pVA x = (0, kA x) := by
  unfold writeS
  rw [fits_none (by decide +kernel)]
  kernel_rfl
theorem kA_sync (x : ByteArray) : syncS (kA x) pVA = (0, kA' x) := by kernel_rfl
theorem kB_write (x : ByteArray) : writeS (kA' x) pVB x = (0, kB x) := by
  unfold writeS
  rw [fits_none rfl]
  kernel_rfl
theorem kB_sync (x : ByteArray) : syncS (kB x) pVB = (0, kB' x) := by kernel_rfl
theorem kC_write (x : ByteArray) : writeS (kB' x) pVC x = (0, kC x) := by
  unfold writeS
  rw [fits_none rfl]
  kernel_rfl
theorem kC_sync (x : ByteArray) : syncS (kC x) pVC = (0, kC' x) := by kernel_rfl
theorem kD_append (x y : ByteArray) : appendS (kC' x) pVB y = (0, kD x y) := by
  unfold appendS
  rw [fits_none rfl]
  kernel_rfl
theorem kE_write (x y z : ByteArray) : writeS (kD x y) pVC z = (0, kE x y z) := by
  unfold writeS
  rw [fits_none rfl]
  kernel_rfl
theorem restart_loose (loss : Nat) {x : It} (h : x.loose = true) (l : List It) (n st : Nat) : restartL loss (x :: l) n st = ({ lose (mix loss (n + 1)) x with stamp := st + 1 } :: (restartL loss l (n + 1) (st + 1)).1, (restartL loss l (n + 1) (st + 1)).2) := by
  rw [restartL, if_pos h]
theorem restart_synced (loss : Nat) {x : It} (h : x.loose = false) (l : List It) (n st : Nat) : restartL loss (x :: l) n st = (x :: (restartL loss l n st).1, (restartL loss l n st).2) := by
  rw [restartL, if_neg (by rw [h]; decide)]
theorem lose_stamp (pick : Nat) (p x k : ByteArray) (a : Bool) (st n : Nat) : { lose pick ⟨p, false, x, k, true, a, st⟩ with stamp := n } = syn p (lose pick ⟨p, false, x, k, true, a, st⟩).data n := by
  unfold lose syn
  rfl
theorem pre_of (t : ByteArray) (k : Nat) (hk : k ≤ t.size) : (t.extract 0 k).size = k ∧ t.extract 0 k = t.extract 0 (t.extract 0 k).size := by
  have h : (t.extract 0 k).size = k := by rw [ByteArray.size_extract]; omega
  exact ⟨h, by rw [h]⟩
theorem lose_old (n : Nat) (p x w : ByteArray) (st : Nat) (hw : x.size ≤ w.size) : ∃ b, (lose n ⟨p, false, w, x, true, false, st⟩).data = b ∧ x.size ≤ b.size ∧ b.size ≤ w.size ∧ b = w.extract 0 b.size := by
  have hm : n % (w.size - x.size + 1) < w.size - x.size + 1 := Nat.mod_lt _ (by omega)
  obtain ⟨h1, h2⟩ := pre_of w (x.size + n % (w.size - x.size + 1)) (by omega)
  refine ⟨w.extract 0 (x.size + n % (w.size - x.size + 1)), ?_, by omega, by omega, h2⟩
  unfold lose
  simp only [Bool.false_eq_true, if_false]
theorem lose_new (n : Nat) (p x z : ByteArray) (st : Nat) : ∃ c, (lose n ⟨p, false, z, x, true, true, st⟩).data = c ∧ (c = x ∨ (c.size ≤ z.size ∧ c = z.extract 0 c.size)) := by
  have hm : n % (z.size + 2) < z.size + 2 := Nat.mod_lt _ (by omega)
  have e : (lose n ⟨p, false, z, x, true, true, st⟩).data = if n % (z.size + 2) = 0 then x else z.extract 0 (n % (z.size + 2) - 1) := by
    unfold lose
    simp only [if_true]
  refine ⟨_, e, ?_⟩
  split
  · exact .inl rfl
  · obtain ⟨h1, h2⟩ := pre_of z (n % (z.size + 2) - 1) (by omega)
    exact .inr ⟨by omega, h2⟩
theorem kE_restart (x y z : ByteArray) (loss : Int) : ∃ b c : ByteArray, restartS (kE x y z) loss = ⟨[dirV, syn pVA x 1, syn pVB b 6, syn pVC c 7], [], 9, 7, -1, false⟩ ∧
    (x.size ≤ b.size ∧ b.size ≤ (x ++ y).size ∧ b = (x ++ y).extract 0 b.size) ∧ (c = x ∨ (c.size ≤ z.size ∧ c = z.extract 0 c.size)) := by
  obtain ⟨b, hb, hb2⟩ := lose_old (mix (u64 loss) (0 + 1)) pVB x (x ++ y) 4 (by rw [ByteArray.size_append]; omega)
  obtain ⟨c, hc, hc2⟩ := lose_new (mix (u64 loss) (0 + 1 + 1)) pVC x z 5
  refine ⟨b, c, ?_, hb2, hc2⟩
  unfold restartS kE
  simp only
  rw [restart_synced _ rfl, restart_synced _ rfl, restart_loose _ rfl, restart_loose _ rfl, lose_stamp, lose_stamp, hb, hc]
  simp only [restartL]
theorem k_reads (x b c : ByteArray) : readS ⟨[dirV, syn pVA x 1, syn pVB b 6, syn pVC c 7], [], 9, 7, -1, false⟩ pVA = (x, 0) ∧ readS ⟨[dirV, syn pVA x 1, syn pVB b 6, syn pVC c 7], [], 9, 7, -1, false⟩ pVB = (b, 0) ∧ readS ⟨[dirV, syn pVA x 1, syn pVB b 6, syn pVC c 7], [], 9, 7, -1, false⟩ pVC = (c, 0) := ⟨by kernel_rfl, by kernel_rfl, by kernel_rfl⟩

/-! DiskStops -/
/-- Behind the file's first write, armed, after k appends that went through. -/
def sK (t : ByteArray) (n : Int) (k : Nat) : St := ⟨[dirV, ⟨pVA, false, t, ⟨#[]⟩, true, true, 1 + k⟩], [], 2 + k, 1 + k, if n < 0 then -1 else n - k, false⟩
/-- Stopped. -/
def sD (t : ByteArray) (k : Nat) : St := ⟨[dirV, ⟨pVA, false, t, ⟨#[]⟩, true, true, 1 + k⟩], [], 2 + k, 1 + k, -1, true⟩
theorem s_write : writeS a1S pVA ⟨#[]⟩ = (0, ⟨[dirV, ⟨pVA, false, ⟨#[]⟩, ⟨#[]⟩, true, true, 1⟩], [], 2, 1, -1, false⟩) := by
  unfold writeS
  rw [fits_none (by decide +kernel)]
  kernel_rfl
theorem s_append_open (t y : ByteArray) (st sn : Nat) (A : Int) (hA : A ≠ 0) : appendS ⟨[dirV, ⟨pVA, false, t, ⟨#[]⟩, true, true, sn⟩], [], st, sn, A, false⟩ pVA y = (0, ⟨[dirV, ⟨pVA, false, t ++ y, ⟨#[]⟩, true, true, sn + 1⟩], [], st + 1, sn + 1, if A > 0 then A - 1 else A, false⟩) := by
  have hd : done ⟨[dirV, ⟨pVA, false, t, ⟨#[]⟩, true, true, sn⟩], [], st, sn, A, false⟩ = (0, ⟨[dirV, ⟨pVA, false, t, ⟨#[]⟩, true, true, sn⟩], [], st + 1, sn, if A > 0 then A - 1 else A, false⟩) := by
    unfold done
    rw [if_neg (by exact hA)]
  unfold appendS
  have h1 : there ⟨[dirV, ⟨pVA, false, t, ⟨#[]⟩, true, true, sn⟩], [], st, sn, A, false⟩ pVA = 0 := by kernel_rfl
  rw [fits_none rfl, hd, if_neg (by rw [h1]; decide), if_neg (by decide), if_neg (by show ¬ (0 ≠ 0); decide)]
  change (_ : Nat × St) = _
  kernel_rfl
theorem s_append_stop (t y : ByteArray) (st sn : Nat) : appendS ⟨[dirV, ⟨pVA, false, t, ⟨#[]⟩, true, true, sn⟩], [], st, sn, 0, false⟩ pVA y = (14, ⟨[dirV, ⟨pVA, false, t, ⟨#[]⟩, true, true, sn⟩], [], st, sn, -1, true⟩) := by
  unfold appendS
  rw [fits_none rfl]
  kernel_rfl
theorem s_append (t y : ByteArray) (n : Int) (k : Nat) (hk : n < 0 ∨ (k : Int) < n) : appendS (sK t n k) pVA y = (0, sK (t ++ y) n (k + 1)) := by
  unfold sK
  rw [s_append_open t y (2 + k) (1 + k) _ (by split <;> omega)]
  have e : (if (if n < 0 then (-1 : Int) else n - k) > 0 then (if n < 0 then (-1 : Int) else n - k) - 1 else (if n < 0 then (-1 : Int) else n - k)) = if n < 0 then -1 else n - ((k + 1 : Nat) : Int) := by split <;> split <;> omega
  rw [e]
  have e2 : 1 + k + 1 = 1 + (k + 1) := by omega
  have e3 : 2 + k + 1 = 2 + (k + 1) := by omega
  rw [e2, e3]
theorem s_stop (t y : ByteArray) (n : Nat) : appendS (sK t n n) pVA y = (14, sD t n) := by
  have e : (if (n : Int) < 0 then (-1 : Int) else (n : Int) - (n : Int)) = 0 := by split <;> omega
  unfold sK
  rw [e, s_append_stop t y (2 + n) (1 + n)]
  rfl
theorem s_down (t y : ByteArray) (k : Nat) : appendS (sD t k) pVA y = (14, sD t k) := by
  unfold appendS
  rw [fits_none rfl]
  kernel_rfl
theorem s_read (t : ByteArray) (n : Int) (k : Nat) : readS (sK t n k) pVA = (t, 0) := by kernel_rfl
theorem s_readD (t : ByteArray) (k : Nat) : readS (sD t k) pVA = (⟨#[]⟩, 14) := by kernel_rfl
def pW : ByteArray := ⟨#[119]⟩
theorem s_mkdirD (t : ByteArray) (k : Nat) : mkdirS (sD t k) pW = (14, sD t k) := by kernel_rfl
theorem s_syncD (t : ByteArray) (k : Nat) : syncS (sD t k) pVA = (14, sD t k) := by kernel_rfl
theorem s_restartD (t : ByteArray) (k : Nat) (loss : Int) : (restartS (sD t k) loss).down = false ∧ (mkdirS (restartS (sD t k) loss) pW).1 = 0 := ⟨rfl, by kernel_rfl⟩
end Go.Proofs.Ytcbnpdognadilaa.Dk

/- A disk of package disk that the call itself has made, call by call. -/
namespace Go.Proofs.Ytcbnpdognadilaa.Dk
open Go.RowKit Tx Pm Pl Pr
set_option linter.unusedVariables false

/-- The call's own disk, in the state s. -/
def Own1 (w0 : World) (b bi bl : Nat) (s : St) (W : World) : Prop := ∃ l, Ia b bi bl l W s ∧ Good s ∧ (∀ i, Ft b bi bl i → w0.heap.size ≤ i) ∧ Below w0.heap.size w0 W
theorem Own1.bel {w0 W : World} {b bi bl : Nat} {s : St} (h : Own1 w0 b bi bl s W) : Below w0.heap.size w0 W := by
  obtain ⟨_, _, _, _, h⟩ := h
  exact h
theorem Own1.lt {w0 W : World} {b bi bl : Nat} {s : St} (h : Own1 w0 b bi bl s W) : ∀ i, Ft b bi bl i → i < W.heap.size := by
  obtain ⟨_, h, _⟩ := h
  exact h.lt
theorem Own1.good {w0 W : World} {b bi bl : Nat} {s : St} (h : Own1 w0 b bi bl s W) : Good s := by
  obtain ⟨_, _, h, _⟩ := h
  exact h
theorem Own1.below {w0 W W1 : World} {b bi bl : Nat} {s : St} (h : Own1 w0 b bi bl s W) (hb : Below W.heap.size W W1) : Own1 w0 b bi bl s W1 := by
  obtain ⟨l, h1, h2, h3, h4⟩ := h
  exact ⟨l, h1.below hb, h2, h3, below_call h4 hb⟩
theorem own_new (w0 : World) {W w1 : World} (hb : Below w0.heap.size w0 W) {e : Ending} (h : ∃ b bi bl, e = .returned (.pointer (some ⟨b, 0, none⟩)) ∧ Ia b bi bl (-1) w1 newS ∧ (∀ i, Ft b bi bl i → W.heap.size ≤ i) ∧ Below W.heap.size W w1) :
    ∃ b bi bl, e = .returned (.pointer (some ⟨b, 0, none⟩)) ∧ Own1 w0 b bi bl newS w1 := by
  obtain ⟨b, bi, bl, he, hI, hF, hb1⟩ := h
  exact ⟨b, bi, bl, he, -1, hI, good_new, fun i hi => Nat.le_trans hb.size (hF i hi), below_call hb hb1⟩
theorem Own1.step {w0 W W1 : World} {b bi bl : Nat} {s' : St} (h3 : ∀ i, Ft b bi bl i → w0.heap.size ≤ i) (h4 : Below w0.heap.size w0 W) (hg : Good s') (h : Ip b bi bl W s' W1) : Own1 w0 b bi bl s' W1 ∧ Chg (Ft b bi bl) W W1 := by
  obtain ⟨l, h1, h2⟩ := h
  exact ⟨⟨l, h1, hg, h3, h4.trans (below_chg h2 h3 h4.size)⟩, h2⟩
/-- A call answers a number. -/
def Num (w0 W : World) (b bi bl : Nat) (k : Nat) (s : St) (e : Ending) (w' : World) : Prop := e = .returned (.int .i64 (k : Nat)) ∧ Own1 w0 b bi bl s w' ∧ Chg (Ft b bi bl) W w'
section
variable {w0 W : World} {b bi bl k : Nat} {s s' : St}
theorem o_mkdir {p : ByteArray} (h : Own1 w0 b bi bl s W) (ok : Ok s) (hp : p.size ≤ 8000000000000) (he : mkdirS s p = (k, s')) : Calls Try.prog 10 #[.pointer (some ⟨b, 0, none⟩), .string p] W (Num w0 W b bi bl k s') := by
  obtain ⟨l, h1, h2, h3, h4⟩ := h
  have hg := good_mkdir (p := p) h2
  have c := iMkdir_any b bi bl l s p W h1 h2 ok hp
  rw [he] at c hg
  exact c.mono fun e w' hh => ⟨hh.1, Own1.step h3 h4 hg hh.2⟩
theorem o_write {p q : ByteArray} (h : Own1 w0 b bi bl s W) (ok : Ok s) (hp : p.size ≤ 8000000000000) (hq : q.size ≤ 1000000000000000000) (he : writeS s p q = (k, s')) : Calls Try.prog 11 #[.pointer (some ⟨b, 0, none⟩), .string p, .string q] W (Num w0 W b bi bl k s') := by
  obtain ⟨l, h1, h2, h3, h4⟩ := h
  have hg := good_write (p := p) (d := q) h2
  have c := iWrite_any b bi bl l s p q W h1 h2 ok hp hq
  rw [he] at c hg
  exact c.mono fun e w' hh => ⟨hh.1, Own1.step h3 h4 hg hh.2⟩
theorem o_append {p q : ByteArray} (h : Own1 w0 b bi bl s W) (ok : Ok s) (hp : p.size ≤ 8000000000000) (hq : q.size ≤ 1000000000000000000) (hs : (old s.L p).data.size + q.size ≤ 1000000000000000000) (he : appendS s p q = (k, s')) : Calls Try.prog 13 #[.pointer (some ⟨b, 0, none⟩), .string p, .string q] W (Num w0 W b bi bl k s') := by
  obtain ⟨l, h1, h2, h3, h4⟩ := h
  have hg := good_append (p := p) (d := q) h2
  have c := iAppend_any b bi bl l s p q W h1 h2 ok hp hq hs
  rw [he] at c hg
  exact c.mono fun e w' hh => ⟨hh.1, Own1.step h3 h4 hg hh.2⟩
theorem o_sync {p : ByteArray} (h : Own1 w0 b bi bl s W) (ok : Ok s) (hp : p.size ≤ 8000000000000) (he : syncS s p = (k, s')) : Calls Try.prog 12 #[.pointer (some ⟨b, 0, none⟩), .string p] W (Num w0 W b bi bl k s') := by
  obtain ⟨l, h1, h2, h3, h4⟩ := h
  have hg := good_sync (p := p) h2
  have c := iSync_any b bi bl l s p W h1 h2 ok hp
  rw [he] at c hg
  exact c.mono fun e w' hh => ⟨hh.1, Own1.step h3 h4 hg hh.2⟩
theorem o_rename {p q : ByteArray} (h : Own1 w0 b bi bl s W) (ok : Ok s) (hp : p.size ≤ 8000000000000) (hq : q.size ≤ 8000000000000) (he : renameS s p q = (k, s')) : Calls Try.prog 19 #[.pointer (some ⟨b, 0, none⟩), .string p, .string q] W (Num w0 W b bi bl k s') := by
  obtain ⟨l, h1, h2, h3, h4⟩ := h
  have hg := good_rename (f := p) (t := q) h2
  have c := iRename_any b bi bl l s p q W h1 h2 ok hp hq
  rw [he] at c hg
  exact c.mono fun e w' hh => ⟨hh.1, Own1.step h3 h4 hg hh.2⟩
theorem o_limit {p : ByteArray} {m : Int} (h : Own1 w0 b bi bl s W) (ok : Ok s) (hp : p.size ≤ 8000000000000) (hm : -9223372036854775808 ≤ m ∧ m ≤ 9223372036854775807) (he : limitS s p m = (k, s')) : Calls Try.prog 21 #[.pointer (some ⟨b, 0, none⟩), .string p, .int .i64 m] W (Num w0 W b bi bl k s') := by
  obtain ⟨l, h1, h2, h3, h4⟩ := h
  have hg := good_limit (v := p) (n := m) h2
  have c := iLimit_any b bi bl l s p m W h1 hp hm ok.rooms
  rw [he] at c hg
  exact c.mono fun e w' hh => ⟨hh.1, Own1.step h3 h4 hg hh.2⟩
theorem o_arm {m : Int} (h : Own1 w0 b bi bl s W) (hm : -9223372036854775808 ≤ m ∧ m ≤ 9223372036854775807) (he : { s with armed := if m < 0 then -1 else m } = s') : Calls Try.prog 17 #[.pointer (some ⟨b, 0, none⟩), .int .i64 m] W fun e w' => e = .returned (.tuple #[]) ∧ Own1 w0 b bi bl s' w' ∧ Chg (Ft b bi bl) W w' := by
  obtain ⟨l, h1, h2, h3, h4⟩ := h
  have hg : Good { s with armed := if m < 0 then -1 else m } := good_of h2 rfl rfl
  have c := iArm_any b bi bl l s m W h1 hm
  rw [he] at c hg
  exact c.mono fun e w' hh => ⟨hh.1, Own1.step h3 h4 hg hh.2⟩
theorem o_restart {m : Int} (h : Own1 w0 b bi bl s W) (hs : SoundW s) (hn : s.L.length ≤ 1000000000) (hps : ∀ x ∈ s.L, x.path.size ≤ 8000000000000) (hm : -9223372036854775808 ≤ m ∧ m ≤ 9223372036854775807) (he : restartS s m = s') : Calls Try.prog 14 #[.pointer (some ⟨b, 0, none⟩), .int .i64 m] W (Num w0 W b bi bl 0 s') := by
  obtain ⟨l, h1, h2, h3, h4⟩ := h
  have hg := good_restart (loss := m) h2
  have c := iRestart_any b bi bl l s m W h1 h2 hs hn hps hm
  rw [he] at c hg
  exact c.mono fun e w' hh => ⟨hh.1, Own1.step h3 h4 hg hh.2⟩
theorem o_read {p t : ByteArray} (h : Own1 w0 b bi bl s W) (hp : p.size ≤ 8000000000000) (he : readS s p = (t, k)) : Calls Try.prog 15 #[.pointer (some ⟨b, 0, none⟩), .string p] W fun e w' => e = .returned (.tuple #[.string t, .int .i64 (k : Nat)]) ∧ Own1 w0 b bi bl s w' ∧ Chg (Ft b bi bl) W w' := by
  have h' := h
  obtain ⟨l, h1, h2, h3, h4⟩ := h
  have c := iRead_any b bi bl l s p W h1 h2 hp
  rw [he] at c
  exact c.mono fun e w' hh => ⟨hh.1, h'.below hh.2, Chg.of_below hh.2⟩
theorem o_used {p : ByteArray} (h : Own1 w0 b bi bl s W) (hf : Fit s) (he : used s.L p = k) : Calls Try.prog 20 #[.pointer (some ⟨b, 0, none⟩), .string p] W fun e w' => e = .returned (.int .i64 (k : Nat)) ∧ Own1 w0 b bi bl s w' ∧ Chg (Ft b bi bl) W w' := by
  have h' := h
  obtain ⟨l, h1, h2, h3, h4⟩ := h
  have c := iUsed_any b bi bl l s p W h1 h2.rises hf
  rw [he] at c
  exact c.mono fun e w' hh => ⟨hh.1, h'.below hh.2, Chg.of_below hh.2⟩
theorem o_down (h : Own1 w0 b bi bl s W) : Calls Try.prog 16 #[.pointer (some ⟨b, 0, none⟩)] W fun e w' => e = .returned (.bool s.down) ∧ Own1 w0 b bi bl s w' ∧ Chg (Ft b bi bl) W w' := by
  have h' := h
  obtain ⟨l, h1, h2, h3, h4⟩ := h
  exact (iDown_any b bi bl l s W h1).mono fun e w' hh => ⟨hh.1, h'.below (same_below hh.2), Chg.of_below (same_below hh.2)⟩
theorem o_steps (h : Own1 w0 b bi bl s W) : Calls Try.prog 18 #[.pointer (some ⟨b, 0, none⟩)] W fun e w' => e = .returned (.int .i64 (s.steps : Nat)) ∧ Own1 w0 b bi bl s w' ∧ Chg (Ft b bi bl) W w' := by
  have h' := h
  obtain ⟨l, h1, h2, h3, h4⟩ := h
  exact (iSteps_any b bi bl l s W h1).mono fun e w' hh => ⟨hh.1, h'.below (same_below hh.2), Chg.of_below (same_below hh.2)⟩
theorem o_awake (h : Own1 w0 b bi bl s W) : Calls Try.prog 9 #[] W fun e w' => e = .returned (.bool true) ∧ Own1 w0 b bi bl s w' ∧ Chg (Ft b bi bl) W w' := (awake_any5 imp_impl W).mono fun e w' hh => ⟨hh.1, h.below hh.2, Chg.of_below hh.2⟩
end
/-- A state of few, small items. -/
theorem ok_small {s : St} (hl : s.L.length ≤ 1000) (hp : ∀ x ∈ s.L, x.path.size ≤ 1000) (hd : ∀ x ∈ s.L, x.data.size ≤ 1000000000000000) (hr : s.rooms.length ≤ 1000) (hst : s.steps ≤ 1000) (hsm : s.stamps ≤ 1000) (ha : -1 ≤ s.armed ∧ s.armed ≤ 9223372036854775807) : Ok s := by
  have hw := whole_le (B := 1000000000000000) hd
  have hm : s.L.length * 1000000000000000 ≤ 1000000000000000000 := Nat.le_trans (Nat.mul_le_mul_right _ hl) (by decide)
  exact ⟨⟨by omega, fun x hx => by have := hp x hx; omega, by omega⟩, by omega, by omega, by omega, by omega⟩
theorem a1_mk : mkdirS newS pV = (0, a1S) := Prod.ext a1_ok rfl
theorem a1_is : a1S = ⟨[dirV], [], 1, 0, -1, false⟩ := by kernel_rfl
end Go.Proofs.Ytcbnpdognadilaa.Dk

namespace Go.Proofs.Ytcbnpdognadilaa.diskKeeps
open Go.ChangeMaps (open_string shut_string)
open Go.ChangeShapes Go.WideShapes Go.ChangeAt Go.RowKit Tx Pm Dk
set_option linter.unusedVariables false

theorem ok_lit {l : List It} {R : List Rm} {st sm : Nat} {A : Int} {dn : Bool} {k : Nat} (hk : l.length = k) (hl : k ≤ 1000) (hr : R.length ≤ 1000) (hst : st ≤ 1000) (hsm : sm ≤ 1000) (ha : -1 ≤ A ∧ A ≤ 9223372036854775807) (h : ∀ x ∈ l, x.path.size ≤ 1000 ∧ x.data.size ≤ 281474976702464) : Ok ⟨l, R, st, sm, A, dn⟩ :=
  ok_small (by show l.length ≤ _; omega) (fun x hx => (h x hx).1) (fun x hx => by have := (h x hx).2; omega) hr hst hsm ha
/-- The three names, at block g. -/
structure Nms (g : Nat) (W : World) : Prop where
  t0 : W.cell? ⟨g, 0, none⟩ = some (.string ⟨#[118, 47, 97]⟩)
  t1 : W.cell? ⟨g, 1, none⟩ = some (.string ⟨#[118, 47, 98]⟩)
  t2 : W.cell? ⟨g, 2, none⟩ = some (.string ⟨#[118, 47, 99]⟩)
theorem Nms.chg {g : Nat} {W W1 : World} {F : Nat → Prop} (h : Nms g W) (hc : Chg F W W1) (hn : ¬ F g) : Nms g W1 := by
  have hg := World.block_lt_of_cell? W _ h.t0
  have e := hc.block g hg hn
  refine ⟨?_, ?_, ?_⟩
  · have := h.t0; unfold World.cell? at *; rw [e]; exact this
  · have := h.t1; unfold World.cell? at *; rw [e]; exact this
  · have := h.t2; unfold World.cell? at *; rw [e]; exact this
theorem nms_new (W : World) (T : TypeId) : Nms W.heap.size (W.alloc (.cells #[.string ⟨#[118, 47, 97]⟩, .string ⟨#[118, 47, 98]⟩, .string ⟨#[118, 47, 99]⟩] T)) := by
  refine ⟨?_, ?_, ?_⟩ <;> · rw [World.cell?_alloc_at _ _ _ _ rfl]; rfl
theorem sz0 : dirV.path.size ≤ 1000 ∧ dirV.data.size ≤ 281474976702464 := by decide
theorem mem2 {x a b : It} (h : x ∈ [a, b]) : x = a ∨ x = b := by simpa using h
theorem mem3 {x a b c : It} (h : x ∈ [a, b, c]) : x = a ∨ x = b ∨ x = c := by simpa using h
theorem mem4 {x a b c d : It} (h : x ∈ [a, b, c, d]) : x = a ∨ x = b ∨ x = c ∨ x = d := by simpa using h
theorem pa : pVA.size ≤ 1000 := by decide
theorem pb : pVB.size ≤ 1000 := by decide
theorem pc : pVC.size ≤ 1000 := by decide
theorem app_le {x y : ByteArray} (hx : x.size ≤ 140737488351232) (hy : y.size ≤ 140737488351232) : (x ++ y).size ≤ 281474976702464 := by rw [ByteArray.size_append]; omega
theorem szA (x : ByteArray) (hx : x.size ≤ 140737488351232) : ∀ q ∈ (kA x).L, q.path.size ≤ 1000 ∧ q.data.size ≤ 281474976702464 := fun q hq => by
  rcases mem2 hq with rfl | rfl
  · exact sz0
  · exact ⟨pa, by show x.size ≤ _; omega⟩
theorem szA2 (x : ByteArray) (hx : x.size ≤ 140737488351232) : ∀ q ∈ (kA' x).L, q.path.size ≤ 1000 ∧ q.data.size ≤ 281474976702464 := fun q hq => by
  rcases mem2 hq with rfl | rfl
  · exact sz0
  · exact ⟨pa, by show x.size ≤ _; omega⟩
theorem szB (x : ByteArray) (hx : x.size ≤ 140737488351232) : ∀ q ∈ (kB x).L, q.path.size ≤ 1000 ∧ q.data.size ≤ 281474976702464 := fun q hq => by
  rcases mem3 hq with rfl | rfl | rfl
  · exact sz0
  · exact ⟨pa, by show x.size ≤ _; omega⟩
  · exact ⟨pb, by show x.size ≤ _; omega⟩
theorem szB2 (x : ByteArray) (hx : x.size ≤ 140737488351232) : ∀ q ∈ (kB' x).L, q.path.size ≤ 1000 ∧ q.data.size ≤ 281474976702464 := fun q hq => by
  rcases mem3 hq with rfl | rfl | rfl
  · exact sz0
  · exact ⟨pa, by show x.size ≤ _; omega⟩
  · exact ⟨pb, by show x.size ≤ _; omega⟩
theorem szC (x : ByteArray) (hx : x.size ≤ 140737488351232) : ∀ q ∈ (kC x).L, q.path.size ≤ 1000 ∧ q.data.size ≤ 281474976702464 := fun q hq => by
  rcases mem4 hq with rfl | rfl | rfl | rfl
  · exact sz0
  · exact ⟨pa, by show x.size ≤ _; omega⟩
  · exact ⟨pb, by show x.size ≤ _; omega⟩
  · exact ⟨pc, by show x.size ≤ _; omega⟩
theorem szC2 (x : ByteArray) (hx : x.size ≤ 140737488351232) : ∀ q ∈ (kC' x).L, q.path.size ≤ 1000 ∧ q.data.size ≤ 281474976702464 := fun q hq => by
  rcases mem4 hq with rfl | rfl | rfl | rfl
  · exact sz0
  · exact ⟨pa, by show x.size ≤ _; omega⟩
  · exact ⟨pb, by show x.size ≤ _; omega⟩
  · exact ⟨pc, by show x.size ≤ _; omega⟩
theorem szD (x y : ByteArray) (hx : x.size ≤ 140737488351232) (hy : y.size ≤ 140737488351232) : ∀ q ∈ (kD x y).L, q.path.size ≤ 1000 ∧ q.data.size ≤ 281474976702464 := fun q hq => by
  rcases mem4 hq with rfl | rfl | rfl | rfl
  · exact sz0
  · exact ⟨pa, by show x.size ≤ _; omega⟩
  · exact ⟨pb, by show (x ++ y).size ≤ _; exact app_le hx hy⟩
  · exact ⟨pc, by show x.size ≤ _; omega⟩
theorem szE (x y z : ByteArray) (hx : x.size ≤ 140737488351232) (hy : y.size ≤ 140737488351232) (hz : z.size ≤ 140737488351232) : ∀ q ∈ (kE x y z).L, q.path.size ≤ 1000 ∧ q.data.size ≤ 281474976702464 := fun q hq => by
  rcases mem4 hq with rfl | rfl | rfl | rfl
  · exact sz0
  · exact ⟨pa, by show x.size ≤ _; omega⟩
  · exact ⟨pb, by show (x ++ y).size ≤ _; exact app_le hx hy⟩
  · exact ⟨pc, by show z.size ≤ _; omega⟩
theorem sndE (x y z : ByteArray) (hx : x.size ≤ 140737488351232) (hy : y.size ≤ 140737488351232) (hz : z.size ≤ 140737488351232) : SoundW (kE x y z) := by
  refine ⟨rises_paths (a := [dirV, mk pVA, mk pVB, mk pVC]) rfl (by show List.Pairwise _ _; decide +kernel), fun q hq ha => ?_, fun q hq => ?_, by show 5 + 4 ≤ _; omega⟩
  · rcases mem4 hq with rfl | rfl | rfl | rfl
    · exact Nat.le_refl _
    · exact Nat.le_refl _
    · show x.size ≤ (x ++ y).size
      rw [ByteArray.size_append]; omega
    · cases ha
  · have := app_le hx hy
    rcases mem4 hq with rfl | rfl | rfl | rfl
    · decide
    · exact ⟨by show x.size ≤ _; omega, by show x.size ≤ _; omega⟩
    · exact ⟨by show (x ++ y).size ≤ _; omega, by show x.size ≤ _; omega⟩
    · exact ⟨by show z.size ≤ _; omega, by show x.size ≤ _; omega⟩
theorem oldC (x : ByteArray) : (old (kC' x).L pVB).data = x := by kernel_rfl
set_option maxRecDepth 100000 in
set_option maxHeartbeats 4000000 in
theorem walk (x y z : ByteArray) (loss : Int) (w : World) (hx : x.size ≤ 140737488351232) (hy : y.size ≤ 140737488351232) (hz : z.size ≤ 140737488351232) (hl : -9223372036854775808 ≤ loss ∧ loss ≤ 9223372036854775807) :
    Calls Try.prog 3 #[.string x, .string y, .string z, .int .i64 loss] w fun e w' => e = .returned (.bool true) ∧ Below w.heap.size w w' := by
  have z1 : Ok a1S := by rw [a1_is]; exact ok_small (by decide) (by decide) (by decide) (by decide) (by decide) (by decide) (by decide)
  have z0 : Ok newS := ok_small (by decide) (by decide) (by decide) (by decide) (by decide) (by decide) (by decide)
  have yA : Ok (kA x) := ok_lit (R := []) (st := 2) (sm := 1) (A := -1) (k := 2) rfl (by decide) (by decide) (by decide) (by decide) (by decide) (szA x hx)
  have yA2 : Ok (kA' x) := ok_lit (R := []) (st := 3) (sm := 1) (A := -1) (k := 2) rfl (by decide) (by decide) (by decide) (by decide) (by decide) (szA2 x hx)
  have yB : Ok (kB x) := ok_lit (R := []) (st := 4) (sm := 2) (A := -1) (k := 3) rfl (by decide) (by decide) (by decide) (by decide) (by decide) (szB x hx)
  have yB2 : Ok (kB' x) := ok_lit (R := []) (st := 5) (sm := 2) (A := -1) (k := 3) rfl (by decide) (by decide) (by decide) (by decide) (by decide) (szB2 x hx)
  have yC : Ok (kC x) := ok_lit (R := []) (st := 6) (sm := 3) (A := -1) (k := 4) rfl (by decide) (by decide) (by decide) (by decide) (by decide) (szC x hx)
  have yC2 : Ok (kC' x) := ok_lit (R := []) (st := 7) (sm := 3) (A := -1) (k := 4) rfl (by decide) (by decide) (by decide) (by decide) (by decide) (szC2 x hx)
  have yD : Ok (kD x y) := ok_lit (R := []) (st := 8) (sm := 4) (A := -1) (k := 4) rfl (by decide) (by decide) (by decide) (by decide) (by decide) (szD x y hx hy)
  have yE : Ok (kE x y z) := ok_lit (R := []) (st := 9) (sm := 5) (A := -1) (k := 4) rfl (by decide) (by decide) (by decide) (by decide) (by decide) (szE x y z hx hy hz)
  have hxy : x.size + y.size ≤ 281474976702464 := by omega
  have hsz : (x ++ y).size = x.size + y.size := ByteArray.size_append
  obtain ⟨b9, c9, hrs, ⟨hb1, hb2, hb3⟩, hc⟩ := kE_restart x y z loss
  obtain ⟨r1, r2, r3⟩ := k_reads x b9 c9
  have e1 : (x.toList == x.toList) = true := beq_self_eq_true _
  have e2 : (b9.toList == ((x ++ y).extract 0 b9.size).toList) = true := by rw [← hb3]; exact beq_self_eq_true _
  rw [hsz] at hb2
  by_cases hcx : c9 = x
  · have e3 : (c9.toList == x.toList) = true := by rw [hcx]; exact beq_self_eq_true _
    clear hc hb3 hcx
    go_enter Try.func3, Try.ntmps3
    go_wp2_with fail
    go_at_call 8
    refine (iNew_any _).mono ?_
    rintro e w1 hn1
    obtain ⟨b, bi, bl, rfl, o1⟩ := own_new w (Below.refl _ _) hn1
    clear hn1
    go_wp2_with fail
    go_at_call 9
    refine (o_awake o1).mono ?_
    rintro e w2 ⟨rfl, o2, k2⟩
    go_wp2_with fail
    go_at_call 10
    refine (o_mkdir (p := pV) o2 z0 (by decide) a1_mk).mono ?_
    rintro e w3 ⟨rfl, o3, k3⟩
    have ng : ¬ Ft b bi bl w3.heap.size := fun h => by have := o3.lt _ h; omega
    have N3 := nms_new w3 9
    have NG := Lib.hid ng
    clear ng
    go_wp2_with fail
    refine wp_loop_rounds 4 ?_
    rw [rounds_succ]
    go_wp2_with fail
    go_at_call 11
    refine (o_write (p := pVA) (q := x) (o3.below ((Below.refl _ w3).alloc (Nat.le_refl _) _)) z1 (by decide) (by omega) (kA_write x)).mono ?_
    rintro e w4 ⟨rfl, o4, k4⟩
    obtain ⟨t0, t1, t2⟩ := N3.chg k4 NG.out
    have N4 := N3.chg k4 NG.out
    go_wp2_with fail
    go_at_call 12
    refine (o_sync (p := pVA) o4 yA (by decide) (kA_sync x)).mono ?_
    rintro e w5 ⟨rfl, o5, k5⟩
    obtain ⟨t40, t41, t42⟩ := N4.chg k5 NG.out
    have N5 := N4.chg k5 NG.out
    go_wp2_with fail
    rw [rounds_succ]
    go_wp2_with fail
    go_at_call 11
    refine (o_write (p := pVB) (q := x) o5 yA2 (by decide) (by omega) (kB_write x)).mono ?_
    rintro e w6 ⟨rfl, o6, k6⟩
    obtain ⟨t50, t51, t52⟩ := N5.chg k6 NG.out
    have N6 := N5.chg k6 NG.out
    go_wp2_with fail
    go_at_call 12
    refine (o_sync (p := pVB) o6 yB (by decide) (kB_sync x)).mono ?_
    rintro e w7 ⟨rfl, o7, k7⟩
    obtain ⟨t60, t61, t62⟩ := N6.chg k7 NG.out
    have N7 := N6.chg k7 NG.out
    go_wp2_with fail
    rw [rounds_succ]
    go_wp2_with fail
    go_at_call 11
    refine (o_write (p := pVC) (q := x) o7 yB2 (by decide) (by omega) (kC_write x)).mono ?_
    rintro e w8 ⟨rfl, o8, k8⟩
    obtain ⟨t70, t71, t72⟩ := N7.chg k8 NG.out
    have N8 := N7.chg k8 NG.out
    go_wp2_with fail
    go_at_call 12
    refine (o_sync (p := pVC) o8 yC (by decide) (kC_sync x)).mono ?_
    rintro e w9 ⟨rfl, o9, k9⟩
    obtain ⟨t80, t81, t82⟩ := N8.chg k9 NG.out
    have N9 := N8.chg k9 NG.out
    go_wp2_with fail
    rw [rounds_succ]
    go_wp2_with fail
    go_at_call 13
    refine (o_append (p := pVB) (q := y) o9 yC2 (by decide) (by omega) (by rw [oldC]; omega) (kD_append x y)).mono ?_
    rintro e w10 ⟨rfl, o10, k10⟩
    go_wp2_with fail
    go_at_call 11
    refine (o_write (p := pVC) (q := z) o10 yD (by decide) (by omega) (kE_write x y z)).mono ?_
    rintro e w11 ⟨rfl, o11, k11⟩
    go_wp2_with fail
    go_at_call 14
    refine (o_restart (m := loss) o11 (sndE x y z hx hy hz) (by show 4 ≤ _; omega) (fun q hq => by have := (szE x y z hx hy hz q hq).1; omega) hl hrs).mono ?_
    rintro e w12 ⟨rfl, o12, k12⟩
    go_wp2_with fail
    go_at_call 15
    refine (o_read (p := pVA) o12 (by decide) r1).mono ?_
    rintro e w13 ⟨rfl, o13, k13⟩
    go_wp2_with fail
    go_at_call 15
    refine (o_read (p := pVB) o13 (by decide) r2).mono ?_
    rintro e w14 ⟨rfl, o14, k14⟩
    go_wp2_with fail
    go_at_call 15
    refine (o_read (p := pVC) o14 (by decide) r3).mono ?_
    rintro e w15 ⟨rfl, o15, k15⟩
    go_wp2_with fail
    go_at_call 16
    refine (o_down o15).mono ?_
    rintro e w16 ⟨rfl, o16, k16⟩
    go_wp2_with fail
    go_ret
    exact ⟨rfl, o16.bel⟩
  · obtain ⟨hc1, hc2⟩ := hc.resolve_left hcx
    have e3 : (c9.toList == x.toList) = false := bytes_ne hcx
    have e4 : (c9.toList == (z.extract 0 c9.size).toList) = true := by rw [← hc2]; exact beq_self_eq_true _
    clear hc hb3 hcx hc2
    go_enter Try.func3, Try.ntmps3
    go_wp2_with fail
    go_at_call 8
    refine (iNew_any _).mono ?_
    rintro e w1 hn1
    obtain ⟨b, bi, bl, rfl, o1⟩ := own_new w (Below.refl _ _) hn1
    clear hn1
    go_wp2_with fail
    go_at_call 9
    refine (o_awake o1).mono ?_
    rintro e w2 ⟨rfl, o2, k2⟩
    go_wp2_with fail
    go_at_call 10
    refine (o_mkdir (p := pV) o2 z0 (by decide) a1_mk).mono ?_
    rintro e w3 ⟨rfl, o3, k3⟩
    have ng : ¬ Ft b bi bl w3.heap.size := fun h => by have := o3.lt _ h; omega
    have N3 := nms_new w3 9
    have NG := Lib.hid ng
    clear ng
    go_wp2_with fail
    refine wp_loop_rounds 4 ?_
    rw [rounds_succ]
    go_wp2_with fail
    go_at_call 11
    refine (o_write (p := pVA) (q := x) (o3.below ((Below.refl _ w3).alloc (Nat.le_refl _) _)) z1 (by decide) (by omega) (kA_write x)).mono ?_
    rintro e w4 ⟨rfl, o4, k4⟩
    obtain ⟨t0, t1, t2⟩ := N3.chg k4 NG.out
    have N4 := N3.chg k4 NG.out
    go_wp2_with fail
    go_at_call 12
    refine (o_sync (p := pVA) o4 yA (by decide) (kA_sync x)).mono ?_
    rintro e w5 ⟨rfl, o5, k5⟩
    obtain ⟨t40, t41, t42⟩ := N4.chg k5 NG.out
    have N5 := N4.chg k5 NG.out
    go_wp2_with fail
    rw [rounds_succ]
    go_wp2_with fail
    go_at_call 11
    refine (o_write (p := pVB) (q := x) o5 yA2 (by decide) (by omega) (kB_write x)).mono ?_
    rintro e w6 ⟨rfl, o6, k6⟩
    obtain ⟨t50, t51, t52⟩ := N5.chg k6 NG.out
    have N6 := N5.chg k6 NG.out
    go_wp2_with fail
    go_at_call 12
    refine (o_sync (p := pVB) o6 yB (by decide) (kB_sync x)).mono ?_
    rintro e w7 ⟨rfl, o7, k7⟩
    obtain ⟨t60, t61, t62⟩ := N6.chg k7 NG.out
    have N7 := N6.chg k7 NG.out
    go_wp2_with fail
    rw [rounds_succ]
    go_wp2_with fail
    go_at_call 11
    refine (o_write (p := pVC) (q := x) o7 yB2 (by decide) (by omega) (kC_write x)).mono ?_
    rintro e w8 ⟨rfl, o8, k8⟩
    obtain ⟨t70, t71, t72⟩ := N7.chg k8 NG.out
    have N8 := N7.chg k8 NG.out
    go_wp2_with fail
    go_at_call 12
    refine (o_sync (p := pVC) o8 yC (by decide) (kC_sync x)).mono ?_
    rintro e w9 ⟨rfl, o9, k9⟩
    obtain ⟨t80, t81, t82⟩ := N8.chg k9 NG.out
    have N9 := N8.chg k9 NG.out
    go_wp2_with fail
    rw [rounds_succ]
    go_wp2_with fail
    go_at_call 13
    refine (o_append (p := pVB) (q := y) o9 yC2 (by decide) (by omega) (by rw [oldC]; omega) (kD_append x y)).mono ?_
    rintro e w10 ⟨rfl, o10, k10⟩
    go_wp2_with fail
    go_at_call 11
    refine (o_write (p := pVC) (q := z) o10 yD (by decide) (by omega) (kE_write x y z)).mono ?_
    rintro e w11 ⟨rfl, o11, k11⟩
    go_wp2_with fail
    go_at_call 14
    refine (o_restart (m := loss) o11 (sndE x y z hx hy hz) (by show 4 ≤ _; omega) (fun q hq => by have := (szE x y z hx hy hz q hq).1; omega) hl hrs).mono ?_
    rintro e w12 ⟨rfl, o12, k12⟩
    go_wp2_with fail
    go_at_call 15
    refine (o_read (p := pVA) o12 (by decide) r1).mono ?_
    rintro e w13 ⟨rfl, o13, k13⟩
    go_wp2_with fail
    go_at_call 15
    refine (o_read (p := pVB) o13 (by decide) r2).mono ?_
    rintro e w14 ⟨rfl, o14, k14⟩
    go_wp2_with fail
    go_at_call 15
    refine (o_read (p := pVC) o14 (by decide) r3).mono ?_
    rintro e w15 ⟨rfl, o15, k15⟩
    go_wp2_with fail
    go_at_call 16
    refine (o_down o15).mono ?_
    rintro e w16 ⟨rfl, o16, k16⟩
    go_wp2_with fail
    go_ret
    exact ⟨rfl, o16.bel⟩

theorem own : ownKnob Try.prog.godebug = none := by kernel_rfl
theorem laidOut : laidOutB Try.prog = true := by kernel_rfl

set_option maxRecDepth 100000 in
theorem contract (H : Type) (enc : TypeId × Value → H) (W : World) (base : Nat) (args : Array Value) (ds gs : List (DataW H)) (before : List MemPlace)
    (hval0 : ∀ (j : Nat) t v, Try.f3.params[j]? = some t → args[j]? = some v → Value.okWide Try.prog W .any base t v)
    (hW : DataW.Whole enc Try.prog Try.f3.params.toList Rows.diskKeepsSpec.vars false W args.toList ds gs before)
    (hsz0 : (DataW.weightsEach Try.prog (Try.f3.params.toList ++ Rows.diskKeepsSpec.plain.varTypes Try.prog) (ds ++ gs)).all (· ≤ reachBytes) = true) :
    Calls Try.prog 3 args W fun e W' => ∃ v, e = .returned v ∧ Rows.diskKeepsSpec.post enc Try.prog Try.f3 false true false false W args v W' := by
  have hval : ∀ (j : Nat) t v, Try.f3.params[j]? = some t → args[j]? = some v → Value.okWide Try.prog W .any base t v := hval0
  have hsz := hsz0
  clear hsz0
  have hW' := hW
  obtain ⟨p, q, hA0, hV, rfl, hfz, hnd⟩ := hW
  have hA : DataW.TrodAll enc Try.prog W 0 (fun _ => true) true Try.f3.params.toList args.toList ds p := hA0
  rw [Try.params3] at hA hval hsz
  obtain ⟨v0, vs0, d0, ds0, p0, q0, hargs, rfl, rfl, h0, r0⟩ := trodAll_cons hA
  obtain ⟨v1, vs1, d1, ds1, p1, q1, rfl, rfl, rfl, h1, r1⟩ := trodAll_cons r0
  obtain ⟨v2, vs2, d2, ds2, p2, q2, rfl, rfl, rfl, h2, r2⟩ := trodAll_cons r1
  obtain ⟨v3, vs3, d3, ds3, p3, q3, rfl, rfl, rfl, h3, r3⟩ := trodAll_cons r2
  obtain ⟨rfl, rfl, rfl⟩ := trodAll_nil r3
  obtain rfl : args = #[v0, v1, v2, v3] := by cases args; simp_all
  obtain ⟨rfl, rfl⟩ := trodVars_none hV
  obtain ⟨s0, rfl, rfl, rfl, w0⟩ := open_string Try.underlying9 (hval 0 9 v0 rfl rfl) h0
  have hreach0 : s0.size ≤ 140737488351232 := by
    have := sized_string hsz (j := 0) (t := 9) rfl rfl
    simpa [reachBytes] using this
  obtain ⟨s1, rfl, rfl, rfl, w1⟩ := open_string Try.underlying9 (hval 1 9 v1 rfl rfl) h1
  have hreach1 : s1.size ≤ 140737488351232 := by
    have := sized_string hsz (j := 1) (t := 9) rfl rfl
    simpa [reachBytes] using this
  obtain ⟨s2, rfl, rfl, rfl, w2⟩ := open_string Try.underlying9 (hval 2 9 v2 rfl rfl) h2
  have hreach2 : s2.size ≤ 140737488351232 := by
    have := sized_string hsz (j := 2) (t := 9) rfl rfl
    simpa [reachBytes] using this
  obtain ⟨a3, rfl, rfl, rfl, w3⟩ := open_int Try.underlying3 (hval 3 3 v3 rfl rfl) h3
  have bd3 : -9223372036854775808 ≤ a3 ∧ a3 ≤ 9223372036854775807 := by simpa [Lit.wf, IntKind.min, IntKind.max, IntKind.signed, IntKind.bits] using w3
  clear hA0 hval0
  refine (walk s0 s1 s2 a3 W hreach0 hreach1 hreach2 bd3).mono fun e W' ⟨he, bel⟩ => ?_
  subst he
  exact ⟨_, rfl, _, _, _, [], _, [], hW', trodAll_mk1 (shut_bool Try.underlying4 _), (trodAll_cons_mk (shut_string Try.underlying9 w0) (trodAll_cons_mk (shut_string Try.underlying9 w1) (trodAll_cons_mk (shut_string Try.underlying9 w2) (trodAll_cons_mk (shut_int Try.underlying3 w3) trodAll_mk0)))), rfl, bel.frame _, fun h => by cases h⟩

set_option maxRecDepth 100000 in
theorem lifted (os : Os) (started : os.Started) (H : Type) (enc : TypeId × Value → H) :
    ReturnsInHanded {} Try.checked os 3 .any (Rows.diskKeepsSpec.pre6 enc Try.prog Try.f3 Rows.diskKeepsRow.domain false) (Rows.diskKeepsSpec.post enc Try.prog Try.f3 false true false false) := by
  refine returnsInHanded_of_change_sized (C := Try.checked) own started (by kernel_rfl) Try.func3
    (ChangeSpec.witness6 (enc := enc) (C := Try.checked) false ⟨#[], #[.string ByteArray.empty, .string ByteArray.empty, .string ByteArray.empty, .int .i64 0], []⟩ 8 (by kernel_rfl) (by kernel_rfl) (by kernel_rfl) (by kernel_rfl)) ?_
  intro W base args ds gs before hval0 hW _ hsz0 _
  exact contract H enc W base args ds gs before hval0 hW hsz0

theorem over : Rows.diskKeepsRow.holds Try.pinned (OpenSpec.ofChange Rows.diskKeepsSpec) :=
  OpenClaim.holds_of_wide 3 Try.f3 rfl rfl rfl rfl rfl rfl rfl ⟨rfl, rfl, rfl, rfl, rfl⟩ rfl rfl rfl rfl rfl (by kernel_rfl) Try.func3 (by kernel_rfl)
    (of_decide_eq_true (by kernel_rfl)) (by unfold Func.isWrapper; first | (rw [if_pos (by decide +kernel)]; kernel_rfl) | (rw [if_neg (by decide +kernel)]; exact ⟨rfl, rfl⟩))
    (fun os started H enc _ => lifted os started H enc)

end Go.Proofs.Ytcbnpdognadilaa.diskKeeps
namespace Go.Proofs.Ytcbnpdognadilaa
theorem diskKeeps_holds : Rows.DiskKeepsSaid := diskKeeps.over
#print axioms diskKeeps_holds
end Go.Proofs.Ytcbnpdognadilaa
