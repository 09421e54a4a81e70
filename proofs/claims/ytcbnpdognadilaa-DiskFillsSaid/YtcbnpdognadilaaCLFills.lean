/-
  DiskFills: a volume's files never have more bytes than its limit says, as long as it held them when the limit was set; what is refused has changed nothing: the law returns true, and writes nothing that was there.
-/
import Derived.Test.YtcbnpdognadilaaQ3
import Derived.SliceStrings
import Derived.SizedLaws
import Derived.ChangeOld
import Derived.LoopN
/- A file moved onto another, both of them synced: what each call answers, in the document's own disk. -/
namespace Go.Proofs.Ytcbnpdognadilaa.Dk
open Go.RowKit Tx Pm
set_option linter.unusedVariables false

theorem fits_none {s : St} (h : s.rooms = []) (p : ByteArray) (m : Int) : fits s p m = true := by
  unfold fits
  rw [h, List.all_nil, Bool.or_true]
def dirV : It := ⟨pV, true, ⟨#[]⟩, ⟨#[]⟩, false, false, 0⟩
def m1 (a : ByteArray) : St := ⟨[dirV, ⟨pVA, false, a, ⟨#[]⟩, true, true, 1⟩], [], 2, 1, -1, false⟩
def m2 (a : ByteArray) : St := ⟨[dirV, ⟨pVA, false, a, a, false, false, 1⟩], [], 3, 1, -1, false⟩
def m3 (a b : ByteArray) : St := ⟨[dirV, ⟨pVA, false, a, a, false, false, 1⟩, ⟨pVB, false, b, ⟨#[]⟩, true, true, 2⟩], [], 4, 2, -1, false⟩
def m4 (a b : ByteArray) : St := ⟨[dirV, ⟨pVA, false, a, a, false, false, 1⟩, ⟨pVB, false, b, b, false, false, 2⟩], [], 5, 2, -1, false⟩
/-- Moved. -/
def m5 (b : ByteArray) : St := ⟨[dirV, ⟨pVA, false, b, b, false, false, 3⟩], [], 6, 3, -1, false⟩
/-- Stopped. -/
def m6 (a b : ByteArray) : St := { m4 a b with down := true }
theorem m1_write (a : ByteArray) : writeS a1S pVA a = (0, m1 a) := by
  unfold writeS
  rw [fits_none (by decide +kernel)]
  kernel_rfl
theorem m2_sync (a : ByteArray) : syncS (m1 a) pVA = (0, m2 a) := by kernel_rfl
theorem m3_write (a b : ByteArray) : writeS (m2 a) pVB b = (0, m3 a b) := by
  unfold writeS
  rw [fits_none rfl]
  kernel_rfl
theorem m4_sync (a b : ByteArray) : syncS (m3 a b) pVB = (0, m4 a b) := by kernel_rfl
theorem m5_rename (a b : ByteArray) : renameS (m4 a b) pVB pVA = (0, m5 b) := by
  unfold renameS
  rw [fits_none rfl]
  kernel_rfl
theorem m6_rename (a b : ByteArray) : renameS { m4 a b with armed := 0 } pVB pVA = (14, m6 a b) := by
  unfold renameS
  rw [fits_none rfl]
  kernel_rfl
theorem m5_restart (b : ByteArray) (loss : Int) : restartS (m5 b) loss = m5 b := by
  unfold restartS
  kernel_rfl
theorem m6_restart (a b : ByteArray) (loss : Int) : restartS (m6 a b) loss = m4 a b := by
  unfold restartS
  kernel_rfl
theorem m5_a (b : ByteArray) : readS (m5 b) pVA = (b, 0) := by kernel_rfl
theorem m5_b (b : ByteArray) : readS (m5 b) pVB = (⟨#[]⟩, 11) := by kernel_rfl
theorem m4_a (a b : ByteArray) : readS (m4 a b) pVA = (a, 0) := by kernel_rfl
theorem m4_b (a b : ByteArray) : readS (m4 a b) pVB = (b, 0) := by kernel_rfl
theorem m5_used (b : ByteArray) : used (m5 b).L pV = b.size := by
  have h : used (m5 b).L pV = 0 + (b.size + 0) := by kernel_rfl
  omega
end Go.Proofs.Ytcbnpdognadilaa.Dk

/- What a restart keeps: what each call of DiskKeeps answers, in the document's own disk. -/
namespace Go.Proofs.Ytcbnpdognadilaa.Dk
open Go.RowKit Tx Pm
set_option linter.unusedVariables false

def pVC : ByteArray := ⟨#[118, 47, 99]⟩
/-- A file that is synced, one that is not. -/
def syn (p x : ByteArray) (n : Nat) : It := ⟨p, false, x, x, false, false, n⟩
def raw (p x : ByteArray) (n : Nat) : It := ⟨p, false, x, ⟨#[]⟩, true, true, n⟩
def kA (x : ByteArray) : St := ⟨[dirV, raw pVA x 1], [], 2, 1, -1, false⟩
def kA' (x : ByteArray) : St := ⟨[dirV, syn pVA x 1], [], 3, 1, -1, false⟩
def kB (x : ByteArray) : St := ⟨[dirV, syn pVA x 1, raw pVB x 2], [], 4, 2, -1, false⟩
def kB' (x : ByteArray) : St := ⟨[dirV, syn pVA x 1, syn pVB x 2], [], 5, 2, -1, false⟩
def kC (x : ByteArray) : St := ⟨[dirV, syn pVA x 1, syn pVB x 2, raw pVC x 3], [], 6, 3, -1, false⟩
def kC' (x : ByteArray) : St := ⟨[dirV, syn pVA x 1, syn pVB x 2, syn pVC x 3], [], 7, 3, -1, false⟩
def kD (x y : ByteArray) : St := ⟨[dirV, syn pVA x 1, ⟨pVB, false, x ++ y, x, true, false, 4⟩, syn pVC x 3], [], 8, 4, -1, false⟩
def kE (x y z : ByteArray) : St := ⟨[dirV, syn pVA x 1, ⟨pVB, false, x ++ y, x, true, false, 4⟩, ⟨pVC, false, z, x, true, true, 5⟩], [], 9, 5, -1, false⟩
theorem kA_write (x : ByteArray) : writeS a1S pVA x = (0, kA x) := by
  unfold writeS
  rw [fits_none (by decide +kernel)]
  kernel_rfl
theorem kA_sync (x : ByteArray) : syncS (kA x) pVA = (0, kA' x) := by kernel_rfl
theorem kB_write (x : ByteArray) : writeS (kA' x) pVB x = (0, kB x) := by
  unfold writeS
  rw [fits_none rfl]
  kernel_rfl
theorem kB_sync (x : ByteArray) : syncS (kB x) pVB = (0, kB' x) := by kernel_rfl
theorem kC_write (x : ByteArray) : writeS (kB' x) pVC x = (0, kC x) := by
  unfold writeS
  rw [fits_none rfl]
  kernel_rfl
theorem kC_sync (x : ByteArray) : syncS (kC x) pVC = (0, kC' x) := by kernel_rfl
theorem kD_append (x y : ByteArray) : appendS (kC' x) pVB y = (0, kD x y) := by
  unfold appendS
  rw [fits_none rfl]
  kernel_rfl
theorem kE_write (x y z : ByteArray) : writeS (kD x y) pVC z = (0, kE x y z) := by
  unfold writeS
  rw [fits_none rfl]
  kernel_rfl
theorem restart_loose (loss : Nat) {x : It} (h : x.loose = true) (l : List It) (n st : Nat) : restartL loss (x :: l) n st = ({ lose (mix loss (n + 1)) x with stamp := st + 1 } :: (restartL loss l (n + 1) (st + 1)).1, (restartL loss l (n + 1) (st + 1)).2) := by
  rw [restartL, if_pos h]
theorem restart_synced (loss : Nat) {x : It} (h : x.loose = false) (l : List It) (n st : Nat) : restartL loss (x :: l) n st = (x :: (restartL loss l n st).1, (restartL loss l n st).2) := by
  rw [restartL, if_neg (by rw [h]; decide)]
theorem lose_stamp (pick : Nat) (p x k : ByteArray) (a : Bool) (st n : Nat) : { lose pick ⟨p, false, x, k, true, a, st⟩ with stamp := n } = syn p (lose pick ⟨p, false, x, k, true, a, st⟩).data n := by
  unfold lose syn
  rfl
theorem pre_of (t : ByteArray) (k : Nat) (hk : k ≤ t.size) : (t.extract 0 k).size = k ∧ t.extract 0 k = t.extract 0 (t.extract 0 k).size := by
  have h : (t.extract 0 k).size = k := by rw [ByteArray.size_extract]; omega
  exact ⟨h, by rw [h]⟩
theorem lose_old (n : Nat) (p x w : ByteArray) (st : Nat) (hw : x.size ≤ w.size) : ∃ b, (lose n ⟨p, false, w, x, true, false, st⟩).data = b ∧ x.size ≤ b.size ∧ b.size ≤ w.size ∧ b = w.extract 0 b.size := by
  have hm : n % (w.size - x.size + 1) < w.size - x.size + 1 := Nat.mod_lt _ (by omega)
  obtain ⟨h1, h2⟩ := pre_of w (x.size + n % (w.size - x.size + 1)) (by omega)
  refine ⟨w.extract 0 (x.size + n % (w.size - x.size + 1)), ?_, by omega, by omega, h2⟩
  unfold lose
  simp only [Bool.false_eq_true, if_false]
theorem lose_new (n : Nat) (p x z : ByteArray) (st : Nat) : ∃ c, (lose n ⟨p, false, z, x, true, true, st⟩).data = c ∧ (c = x ∨ (c.size ≤ z.size ∧ c = z.extract 0 c.size)) := by
  have hm : n % (z.size + 2) < z.size + 2 := Nat.mod_lt _ (by omega)
  have e : (lose n ⟨p, false, z, x, true, true, st⟩).data = if n % (z.size + 2) = 0 then x else z.extract 0 (n % (z.size + 2) - 1) := by
    unfold lose
    simp only [if_true]
  refine ⟨_, e, ?_⟩
  split
  · exact .inl rfl
  · obtain ⟨h1, h2⟩ := pre_of z (n % (z.size + 2) - 1) (by omega)
    exact .inr ⟨by omega, h2⟩
theorem kE_restart (x y z : ByteArray) (loss : Int) : ∃ b c : ByteArray, restartS (kE x y z) loss = ⟨[dirV, syn pVA x 1, syn pVB b 6, syn pVC c 7], [], 9, 7, -1, false⟩ ∧
    (x.size ≤ b.size ∧ b.size ≤ (x ++ y).size ∧ b = (x ++ y).extract 0 b.size) ∧ (c = x ∨ (c.size ≤ z.size ∧ c = z.extract 0 c.size)) := by
  obtain ⟨b, hb, hb2⟩ := lose_old (mix (u64 loss) (0 + 1)) pVB x (x ++ y) 4 (by rw [ByteArray.size_append]; omega)
  obtain ⟨c, hc, hc2⟩ := lose_new (mix (u64 loss) (0 + 1 + 1)) pVC x z 5
  refine ⟨b, c, ?_, hb2, hc2⟩
  unfold restartS kE
  simp only
  rw [restart_synced _ rfl, restart_synced _ rfl, restart_loose _ rfl, restart_loose _ rfl, lose_stamp, lose_stamp, hb, hc]
  simp only [restartL]
theorem k_reads (x b c : ByteArray) : readS ⟨[dirV, syn pVA x 1, syn pVB b 6, syn pVC c 7], [], 9, 7, -1, false⟩ pVA = (x, 0) ∧ readS ⟨[dirV, syn pVA x 1, syn pVB b 6, syn pVC c 7], [], 9, 7, -1, false⟩ pVB = (b, 0) ∧ readS ⟨[dirV, syn pVA x 1, syn pVB b 6, syn pVC c 7], [], 9, 7, -1, false⟩ pVC = (c, 0) := ⟨by kernel_rfl, by kernel_rfl, by kernel_rfl⟩

/-! DiskStops -/
/-- Behind the file's first write, armed, after k appends that went through. -/
def sK (t : ByteArray) (n : Int) (k : Nat) : St := ⟨[dirV, ⟨pVA, false, t, ⟨#[]⟩, true, true, 1 + k⟩], [], 2 + k, 1 + k, if n < 0 then -1 else n - k, false⟩
/-- Stopped. -/
def sD (t : ByteArray) (k : Nat) : St := ⟨[dirV, ⟨pVA, false, t, ⟨#[]⟩, true, true, 1 + k⟩], [], 2 + k, 1 + k, -1, true⟩
theorem s_write : writeS a1S pVA ⟨#[]⟩ = (0, ⟨[dirV, ⟨pVA, false, ⟨#[]⟩, ⟨#[]⟩, true, true, 1⟩], [], 2, 1, -1, false⟩) := by
  unfold writeS
  rw [fits_none (by decide +kernel)]
  kernel_rfl
theorem s_append_open (t y : ByteArray) (st sn : Nat) (A : Int) (hA : A ≠ 0) : appendS ⟨[dirV, ⟨pVA, false, t, ⟨#[]⟩, true, true, sn⟩], [], st, sn, A, false⟩ pVA y = (0, ⟨[dirV, ⟨pVA, false, t ++ y, ⟨#[]⟩, true, true, sn + 1⟩], [], st + 1, sn + 1, if A > 0 then A - 1 else A, false⟩) := by
  have hd : done ⟨[dirV, ⟨pVA, false, t, ⟨#[]⟩, true, true, sn⟩], [], st, sn, A, false⟩ = (0, ⟨[dirV, ⟨pVA, false, t, ⟨#[]⟩, true, true, sn⟩], [], st + 1, sn, if A > 0 then A - 1 else A, false⟩) := by
    unfold done
    rw [if_neg (by exact hA)]
  unfold appendS
  have h1 : there ⟨[dirV, ⟨pVA, false, t, ⟨#[]⟩, true, true, sn⟩], [], st, sn, A, false⟩ pVA = 0 := by kernel_rfl
  rw [fits_none rfl, hd, if_neg (by rw [h1]; decide), if_neg (by decide), if_neg (by show ¬ (0 ≠ 0); decide)]
  change (_ : Nat × St) = _
  kernel_rfl
theorem s_append_stop (t y : ByteArray) (st sn : Nat) : appendS ⟨[dirV, ⟨pVA, false, t, ⟨#[]⟩, true, true, sn⟩], [], st, sn, 0, false⟩ pVA y = (14, ⟨[dirV, ⟨pVA, false, t, ⟨#[]⟩, true, true, sn⟩], [], st, sn, -1, true⟩) := by
  unfold appendS
  rw [fits_none rfl]
  kernel_rfl
theorem s_append (t y : ByteArray) (n : Int) (k : Nat) (hk : n < 0 ∨ (k : Int) < n) : appendS (sK t n k) pVA y = (0, sK (t ++ y) n (k + 1)) := by
  unfold sK
  rw [s_append_open t y (2 + k) (1 + k) _ (by split <;> omega)]
  have e : (if (if n < 0 then (-1 : Int) else n - k) > 0 then (if n < 0 then (-1 : Int) else n - k) - 1 else (if n < 0 then (-1 : Int) else n - k)) = if n < 0 then -1 else n - ((k + 1 : Nat) : Int) := by split <;> split <;> omega
  rw [e]
  have e2 : 1 + k + 1 = 1 + (k + 1) := by omega
  have e3 : 2 + k + 1 = 2 + (k + 1) := by omega
  rw [e2, e3]
theorem s_stop (t y : ByteArray) (n : Nat) : appendS (sK t n n) pVA y = (14, sD t n) := by
  have e : (if (n : Int) < 0 then (-1 : Int) else (n : Int) - (n : Int)) = 0 := by split <;> omega
  unfold sK
  rw [e, s_append_stop t y (2 + n) (1 + n)]
  rfl
theorem s_down (t y : ByteArray) (k : Nat) : appendS (sD t k) pVA y = (14, sD t k) := by
  unfold appendS
  rw [fits_none rfl]
  kernel_rfl
theorem s_read (t : ByteArray) (n : Int) (k : Nat) : readS (sK t n k) pVA = (t, 0) := by kernel_rfl
theorem s_readD (t : ByteArray) (k : Nat) : readS (sD t k) pVA = (⟨#[]⟩, 14) := by kernel_rfl
def pW : ByteArray := ⟨#[119]⟩
theorem s_mkdirD (t : ByteArray) (k : Nat) : mkdirS (sD t k) pW = (14, sD t k) := by kernel_rfl
theorem s_syncD (t : ByteArray) (k : Nat) : syncS (sD t k) pVA = (14, sD t k) := by kernel_rfl
theorem s_restartD (t : ByteArray) (k : Nat) (loss : Int) : (restartS (sD t k) loss).down = false ∧ (mkdirS (restartS (sD t k) loss) pW).1 = 0 := ⟨rfl, by kernel_rfl⟩
end Go.Proofs.Ytcbnpdognadilaa.Dk

/- A disk of package disk that the call itself has made, call by call. -/
namespace Go.Proofs.Ytcbnpdognadilaa.Dk
open Go.RowKit Tx Pm Pl Pr
set_option linter.unusedVariables false

/-- The call's own disk, in the state s. -/
def Own1 (w0 : World) (b bi bl : Nat) (s : St) (W : World) : Prop := ∃ l, Ia b bi bl l W s ∧ Good s ∧ (∀ i, Ft b bi bl i → w0.heap.size ≤ i) ∧ Below w0.heap.size w0 W
theorem Own1.bel {w0 W : World} {b bi bl : Nat} {s : St} (h : Own1 w0 b bi bl s W) : Below w0.heap.size w0 W := by
  obtain ⟨_, _, _, _, h⟩ := h
  exact h
theorem Own1.lt {w0 W : World} {b bi bl : Nat} {s : St} (h : Own1 w0 b bi bl s W) : ∀ i, Ft b bi bl i → i < W.heap.size := by
  obtain ⟨_, h, _⟩ := h
  exact h.lt
theorem Own1.good {w0 W : World} {b bi bl : Nat} {s : St} (h : Own1 w0 b bi bl s W) : Good s := by
  obtain ⟨_, _, h, _⟩ := h
  exact h
theorem Own1.below {w0 W W1 : World} {b bi bl : Nat} {s : St} (h : Own1 w0 b bi bl s W) (hb : Below W.heap.size W W1) : Own1 w0 b bi bl s W1 := by
  obtain ⟨l, h1, h2, h3, h4⟩ := h
  exact ⟨l, h1.below hb, h2, h3, below_call h4 hb⟩
theorem own_new (w0 : World) {W w1 : World} (hb : Below w0.heap.size w0 W) {e : Ending} (h : ∃ b bi bl, e = .returned (.pointer (some ⟨b, 0, none⟩)) ∧ Ia b bi bl (-1) w1 newS ∧ (∀ i, Ft b bi bl i → W.heap.size ≤ i) ∧ Below W.heap.size W w1) :
    ∃ b bi bl, e = .returned (.pointer (some ⟨b, 0, none⟩)) ∧ Own1 w0 b bi bl newS w1 := by
  obtain ⟨b, bi, bl, he, hI, hF, hb1⟩ := h
  exact ⟨b, bi, bl, he, -1, hI, good_new, fun i hi => Nat.le_trans hb.size (hF i hi), below_call hb hb1⟩
theorem Own1.step {w0 W W1 : World} {b bi bl : Nat} {s' : St} (h3 : ∀ i, Ft b bi bl i → w0.heap.size ≤ i) (h4 : Below w0.heap.size w0 W) (hg : Good s') (h : Ip b bi bl W s' W1) : Own1 w0 b bi bl s' W1 ∧ Chg (Ft b bi bl) W W1 := by
  obtain ⟨l, h1, h2⟩ := h
  exact ⟨⟨l, h1, hg, h3, h4.trans (below_chg h2 h3 h4.size)⟩, h2⟩
/-- A call answers a number. -/
def Num (w0 W : World) (b bi bl : Nat) (k : Nat) (s : St) (e : Ending) (w' : World) : Prop := e = .returned (.int .i64 (k : Nat)) ∧ Own1 w0 b bi bl s w' ∧ Chg (Ft b bi bl) W w'
section
variable {w0 W : World} {b bi bl k : Nat} {s s' : St}
theorem o_mkdir {p : ByteArray} (h : Own1 w0 b bi bl s W) (ok : Ok s) (hp : p.size ≤ 8000000000000) (he : mkdirS s p = (k, s')) : Calls Try.prog 10 #[.pointer (some ⟨b, 0, none⟩), .string p] W (Num w0 W b bi bl k s') := by
  obtain ⟨l, h1, h2, h3, h4⟩ := h
  have hg := good_mkdir (p := p) h2
  have c := iMkdir_any b bi bl l s p W h1 h2 ok hp
  rw [he] at c hg
  exact c.mono fun e w' hh => ⟨hh.1, Own1.step h3 h4 hg hh.2⟩
theorem o_write {p q : ByteArray} (h : Own1 w0 b bi bl s W) (ok : Ok s) (hp : p.size ≤ 8000000000000) (hq : q.size ≤ 1000000000000000000) (he : writeS s p q = (k, s')) : Calls Try.prog 11 #[.pointer (some ⟨b, 0, none⟩), .string p, .string q] W (Num w0 W b bi bl k s') := by
  obtain ⟨l, h1, h2, h3, h4⟩ := h
  have hg := good_write (p := p) (d := q) h2
  have c := iWrite_any b bi bl l s p q W h1 h2 ok hp hq
  rw [he] at c hg
  exact c.mono fun e w' hh => ⟨hh.1, Own1.step h3 h4 hg hh.2⟩
theorem o_append {p q : ByteArray} (h : Own1 w0 b bi bl s W) (ok : Ok s) (hp : p.size ≤ 8000000000000) (hq : q.size ≤ 1000000000000000000) (hs : (old s.L p).data.size + q.size ≤ 1000000000000000000) (he : appendS s p q = (k, s')) : Calls Try.prog 13 #[.pointer (some ⟨b, 0, none⟩), .string p, .string q] W (Num w0 W b bi bl k s') := by
  obtain ⟨l, h1, h2, h3, h4⟩ := h
  have hg := good_append (p := p) (d := q) h2
  have c := iAppend_any b bi bl l s p q W h1 h2 ok hp hq hs
  rw [he] at c hg
  exact c.mono fun e w' hh => ⟨hh.1, Own1.step h3 h4 hg hh.2⟩
theorem o_sync {p : ByteArray} (h : Own1 w0 b bi bl s W) (ok : Ok s) (hp : p.size ≤ 8000000000000) (he : syncS s p = (k, s')) : Calls Try.prog 12 #[.pointer (some ⟨b, 0, none⟩), .string p] W (Num w0 W b bi bl k s') := by
  obtain ⟨l, h1, h2, h3, h4⟩ := h
  have hg := good_sync (p := p) h2
  have c := iSync_any b bi bl l s p W h1 h2 ok hp
  rw [he] at c hg
  exact c.mono fun e w' hh => ⟨hh.1, Own1.step h3 h4 hg hh.2⟩
theorem o_rename {p q : ByteArray} (h : Own1 w0 b bi bl s W) (ok : Ok s) (hp : p.size ≤ 8000000000000) (hq : q.size ≤ 8000000000000) (he : renameS s p q = (k, s')) : Calls Try.prog 19 #[.pointer (some ⟨b, 0, none⟩), .string p, .string q] W (Num w0 W b bi bl k s') := by
  obtain ⟨l, h1, h2, h3, h4⟩ := h
  have hg := good_rename (f := p) (t := q) h2
  have c := iRename_any b bi bl l s p q W h1 h2 ok hp hq
  rw [he] at c hg
  exact c.mono fun e w' hh => ⟨hh.1, Own1.step h3 h4 hg hh.2⟩
theorem o_limit {p : ByteArray} {m : Int} (h : Own1 w0 b bi bl s W) (ok : Ok s) (hp : p.size ≤ 8000000000000) (hm : -9223372036854775808 ≤ m ∧ m ≤ 9223372036854775807) (he : limitS s p m = (k, s')) : Calls Try.prog 21 #[.pointer (some ⟨b, 0, none⟩), .string p, .int .i64 m] W (Num w0 W b bi bl k s') := by
  obtain ⟨l, h1, h2, h3, h4⟩ := h
  have hg := good_limit (v := p) (n := m) h2
  have c := iLimit_any b bi bl l s p m W h1 hp hm ok.rooms
  rw [he] at c hg
  exact c.mono fun e w' hh => ⟨hh.1, Own1.step h3 h4 hg hh.2⟩
theorem o_arm {m : Int} (h : Own1 w0 b bi bl s W) (hm : -9223372036854775808 ≤ m ∧ m ≤ 9223372036854775807) (he : { s with armed := if m < 0 then -1 else m } = s') : Calls Try.prog 17 #[.pointer (some ⟨b, 0, none⟩), .int .i64 m] W fun e w' => e = .returned (.tuple #[]) ∧ Own1 w0 b bi bl s' w' ∧ Chg (Ft b bi bl) W w' := by
  obtain ⟨l, h1, h2, h3, h4⟩ := h
  have hg : Good { s with armed := if m < 0 then -1 else m } := good_of h2 rfl rfl
  have c := iArm_any b bi bl l s m W h1 hm
  rw [he] at c hg
  exact c.mono fun e w' hh => ⟨hh.1, Own1.step h3 h4 hg hh.2⟩
theorem o_restart {m : Int} (h : Own1 w0 b bi bl s W) (hs : SoundW s) (hn : s.L.length ≤ 1000000000) (hps : ∀ x ∈ s.L, x.path.size ≤ 8000000000000) (hm : -9223372036854775808 ≤ m ∧ m ≤ 9223372036854775807) (he : restartS s m = s') : Calls Try.prog 14 #[.pointer (some ⟨b, 0, none⟩), .int .i64 m] W (Num w0 W b bi bl 0 s') := by
  obtain ⟨l, h1, h2, h3, h4⟩ := h
  have hg := good_restart (loss := m) h2
  have c := iRestart_any b bi bl l s m W h1 h2 hs hn hps hm
  rw [he] at c hg
  exact c.mono fun e w' hh => ⟨hh.1, Own1.step h3 h4 hg hh.2⟩
theorem o_read {p t : ByteArray} (h : Own1 w0 b bi bl s W) (hp : p.size ≤ 8000000000000) (he : readS s p = (t, k)) : Calls Try.prog 15 #[.pointer (some ⟨b, 0, none⟩), .string p] W fun e w' => e = .returned (.tuple #[.string t, .int .i64 (k : Nat)]) ∧ Own1 w0 b bi bl s w' ∧ Chg (Ft b bi bl) W w' := by
  have h' := h
  obtain ⟨l, h1, h2, h3, h4⟩ := h
  have c := iRead_any b bi bl l s p W h1 h2 hp
  rw [he] at c
  exact c.mono fun e w' hh => ⟨hh.1, h'.below hh.2, Chg.of_below hh.2⟩
theorem o_used {p : ByteArray} (h : Own1 w0 b bi bl s W) (hf : Fit s) (he : used s.L p = k) : Calls Try.prog 20 #[.pointer (some ⟨b, 0, none⟩), .string p] W fun e w' => e = .returned (.int .i64 (k : Nat)) ∧ Own1 w0 b bi bl s w' ∧ Chg (Ft b bi bl) W w' := by
  have h' := h
  obtain ⟨l, h1, h2, h3, h4⟩ := h
  have c := iUsed_any b bi bl l s p W h1 h2.rises hf
  rw [he] at c
  exact c.mono fun e w' hh => ⟨hh.1, h'.below hh.2, Chg.of_below hh.2⟩
theorem o_down (h : Own1 w0 b bi bl s W) : Calls Try.prog 16 #[.pointer (some ⟨b, 0, none⟩)] W fun e w' => e = .returned (.bool s.down) ∧ Own1 w0 b bi bl s w' ∧ Chg (Ft b bi bl) W w' := by
  have h' := h
  obtain ⟨l, h1, h2, h3, h4⟩ := h
  exact (iDown_any b bi bl l s W h1).mono fun e w' hh => ⟨hh.1, h'.below (same_below hh.2), Chg.of_below (same_below hh.2)⟩
theorem o_steps (h : Own1 w0 b bi bl s W) : Calls Try.prog 18 #[.pointer (some ⟨b, 0, none⟩)] W fun e w' => e = .returned (.int .i64 (s.steps : Nat)) ∧ Own1 w0 b bi bl s w' ∧ Chg (Ft b bi bl) W w' := by
  have h' := h
  obtain ⟨l, h1, h2, h3, h4⟩ := h
  exact (iSteps_any b bi bl l s W h1).mono fun e w' hh => ⟨hh.1, h'.below (same_below hh.2), Chg.of_below (same_below hh.2)⟩
theorem o_awake (h : Own1 w0 b bi bl s W) : Calls Try.prog 9 #[] W fun e w' => e = .returned (.bool true) ∧ Own1 w0 b bi bl s w' ∧ Chg (Ft b bi bl) W w' := (awake_any5 imp_impl W).mono fun e w' hh => ⟨hh.1, h.below hh.2, Chg.of_below hh.2⟩
end
/-- A state of few, small items. -/
theorem ok_small {s : St} (hl : s.L.length ≤ 1000) (hp : ∀ x ∈ s.L, x.path.size ≤ 1000) (hd : ∀ x ∈ s.L, x.data.size ≤ 1000000000000000) (hr : s.rooms.length ≤ 1000) (hst : s.steps ≤ 1000) (hsm : s.stamps ≤ 1000) (ha : -1 ≤ s.armed ∧ s.armed ≤ 9223372036854775807) : Ok s := by
  have hw := whole_le (B := 1000000000000000) hd
  have hm : s.L.length * 1000000000000000 ≤ 1000000000000000000 := Nat.le_trans (Nat.mul_le_mul_right _ hl) (by decide)
  exact ⟨⟨by omega, fun x hx => by have := hp x hx; omega, by omega⟩, by omega, by omega, by omega, by omega⟩
theorem a1_mk : mkdirS newS pV = (0, a1S) := Prod.ext a1_ok rfl
theorem a1_is : a1S = ⟨[dirV], [], 1, 0, -1, false⟩ := by kernel_rfl
end Go.Proofs.Ytcbnpdognadilaa.Dk

/- An argument that is a list of texts: its texts, their bulk, their sizes. -/
namespace Go.Proofs.Ytcbnpdognadilaa.Dk
open Go.ChangeShapes Go.WideShapes Go.ChangeAt Go.RowKit Tx
set_option linter.unusedVariables false

theorem bulk_strs {H : Type} (l : List ByteArray) : Rows.uptoBulkAll (strs (H := H) l) = (l.map (·.size)).sum + l.length := by
  induction l with
  | nil => rfl
  | cons s l ih =>
    have e : Rows.uptoBulkAll (strs (H := H) (s :: l)) = (s.data.toList.length + 1) + Rows.uptoBulkAll (strs (H := H) l) := rfl
    rw [e, ih, len_l, List.map_cons, List.sum_cons, List.length_cons]
    omega
theorem str_weights {H : Type} (s : ByteArray) : DataW.weights Try.prog 9 (.lit (.string s.data.toList) : DataW H) = [s.data.toList.length] := by
  rw [DataW.weights]
theorem strs_weights {H : Type} {x : ByteArray} {n : Nat} : ∀ {l : List ByteArray}, x ∈ l → n ∈ DataW.weights Try.prog 9 (.lit (.string x.data.toList) : DataW H) → n ∈ DataW.weightsAll Try.prog 9 (strs (H := H) l)
  | y :: l, hx, hn => by
    have e : strs (H := H) (y :: l) = .lit (.string y.data.toList) :: strs l := rfl
    rw [e, DataW.weightsAll, List.mem_append]
    rcases List.mem_cons.1 hx with rfl | hx
    · exact .inl hn
    · exact .inr (strs_weights hx hn)
/-- Each text is of a size that a machine may hold. -/
def Wide1 (l : List ByteArray) : Prop := ∀ x ∈ l, x.size ≤ 140737488351232
theorem wide_strs {H : Type} {ts : List TypeId} {ds : List (DataW H)} (h : (DataW.weightsEach Try.prog ts ds).all (· ≤ reachBytes) = true) {j : Nat} {l : List ByteArray} {rest : List (DataW H)} (ht : ts[j]? = some 27) (hd : ds[j]? = some (.slice (strs l) rest)) : Wide1 l := by
  intro x hx
  have hall := List.all_eq_true.1 h
  have hm := DataW.weights_mem_each (P := Try.prog) ht hd x.data.toList.length (by
    rw [DataW.weights, Try.underlying27]
    exact List.mem_cons_of_mem _ (List.mem_append_left _ (strs_weights hx (by rw [str_weights]; simp))))
  have := of_decide_eq_true (hall _ hm)
  rw [len_l] at this
  exact this
theorem arg_texts {H : Type} {enc : TypeId × Value → H} {w : World} {base : Nat} {spare : Nat → Bool} {held : Bool} {a : Option Addr} {n c : Nat} {d : DataW H} {p : List MemPlace} (h : DataW.Trod enc Try.prog w base spare held 27 (.slice a n c) d p) :
    ∃ l : List ByteArray, Strs w a n l ∧ (l.map (·.size)).sum ≤ Rows.uptoBulk d ∧ l.length ≤ Rows.uptoBulk d ∧ n ≤ c ∧ c ≤ 9223372036854775807 ∧ ∀ {ts : List TypeId} {ds : List (DataW H)} {j : Nat}, (DataW.weightsEach Try.prog ts ds).all (· ≤ reachBytes) = true → ts[j]? = some 27 → ds[j]? = some d → Wide1 l := by
  obtain ⟨fuel, hf⟩ := h
  rcases open_strings Try.underlying27 Try.underlying9 (by kernel_rfl) hf with ⟨hcs, _⟩ | ⟨x, len, cap, ss, hcs, _, hl, hm, hz, hx, hcell, _⟩
  · simp [Value.cells] at hcs
    obtain ⟨rfl, rfl, rfl⟩ := hcs
    exact ⟨[], ⟨rfl, .inl rfl⟩, Nat.zero_le _, Nat.zero_le _, by omega, by omega, fun _ _ _ x hx => by cases hx⟩
  · simp [Value.cells] at hcs
    obtain ⟨rfl, rfl, rfl⟩ := hcs
    unfold maxLen at hm
    have hz' : n ≤ ss.length := by rw [hz]; split <;> omega
    have hd : d = .slice (strs (ss.take n)) (strs (ss.drop n)) := congrArg Prod.fst hx
    have e : Rows.uptoBulk d = Rows.uptoBulkAll (strs (H := H) (ss.take n)) + Rows.uptoBulkAll (strs (H := H) (ss.drop n)) + 1 := by rw [hd]; rfl
    rw [bulk_strs] at e
    have hlen : (ss.take n).length = n := by rw [List.length_take]; omega
    refine ⟨ss.take n, ⟨hlen, ?_⟩, by omega, by omega, hl, by omega, fun h1 h2 h3 => wide_strs h1 h2 (by rw [h3, hd])⟩
    by_cases h0 : n = 0
    · exact .inl h0
    · right
      obtain ⟨b, off, spot⟩ := x
      have hc0 := hcell 0 (by omega)
      have hspot : spot = none := by simpa [Addr.add] using World.cell?_spot hc0
      subst hspot
      refine ⟨b, off, rfl, ?_, fun k y hk => ?_⟩
      · have := World.block_lt_of_cell? w _ hc0
        rwa [WideShapes.add_plain] at this
      · have hk2 := (List.getElem?_eq_some_iff.1 hk).1
        rw [hlen] at hk2
        have hk3 := hcell k (by omega)
        rw [WideShapes.add_plain] at hk3
        rw [hk3]
        rw [List.getElem?_take_of_lt hk2] at hk
        rw [List.getD_eq_getElem?_getD, hk]
        rfl
end Go.Proofs.Ytcbnpdognadilaa.Dk

namespace Go.Proofs.Ytcbnpdognadilaa.diskFills
open Go.ChangeMaps (open_string shut_string)
open Go.ChangeShapes Go.WideShapes Go.ChangeAt Go.RowKit Tx Pm Dk
set_option linter.unusedVariables false

def pWA : ByteArray := ⟨#[119, 47, 97]⟩
def dirW : It := ⟨pW, true, ⟨#[]⟩, ⟨#[]⟩, false, false, 0⟩
def wit : It := ⟨pWA, false, ⟨#[102, 114, 101, 101]⟩, ⟨#[]⟩, true, true, 1⟩
/-- A file that may be there. -/
def fil (p : ByteArray) : Option (ByteArray × Nat) → List It
  | none => []
  | some x => [⟨p, false, x.1, ⟨#[]⟩, true, true, x.2⟩]
def dat : Option (ByteArray × Nat) → ByteArray
  | none => ⟨#[]⟩
  | some x => x.1
def num : Option (ByteArray × Nat) → Nat
  | none => 11
  | some _ => 0
def FS (N : Nat) (a b c : Option (ByteArray × Nat)) (st sm : Nat) : St := ⟨dirV :: (fil pVA a ++ (fil pVB b ++ (fil pVC c ++ [dirW, wit]))), [⟨pV, N⟩], st, sm, -1, false⟩
def f2 : St := ⟨[dirV, dirW], [], 2, 0, -1, false⟩
def f3 : St := ⟨[dirV, dirW, wit], [], 3, 1, -1, false⟩
theorem f2_mk : mkdirS a1S pW = (0, f2) := by kernel_rfl
theorem f3_write : writeS f2 pWA ⟨#[102, 114, 101, 101]⟩ = (0, f3) := by
  unfold writeS
  rw [fits_none rfl]
  kernel_rfl
theorem f4_limit (N : Nat) : limitS f3 pV (N : Int) = (0, FS N none none none 3 1) := by
  unfold limitS
  rw [if_neg (by omega)]
  kernel_rfl
theorem f4_bad {n : Int} (h : n < 0) : limitS f3 pV n = (1, f3) := by
  unfold limitS
  rw [if_pos h]
theorem used_app (l r : List It) (v : ByteArray) : used (l ++ r) v = used l v + used r v := by
  unfold used
  rw [List.map_append, List.sum_append]
theorem used_cons (x : It) (r : List It) (v : ByteArray) : used (x :: r) v = (if vol x.path = v then x.data.size else 0) + used r v := rfl
theorem used_fil {p v : ByteArray} (o : Option (ByteArray × Nat)) (h : vol p = v) : used (fil p o) v = (dat o).size := by
  cases o with
  | none => rfl
  | some x =>
    show used [_] v = _
    rw [used_cons, if_pos (by exact h)]
    rfl
theorem used_fs (N : Nat) (a b c : Option (ByteArray × Nat)) (st sm : Nat) : used (FS N a b c st sm).L pV = (dat a).size + (dat b).size + (dat c).size := by
  have e : used [dirW, wit] pV = 0 := by kernel_rfl
  have e2 : (if vol dirV.path = pV then dirV.data.size else 0) = 0 := by kernel_rfl
  unfold FS
  rw [used_cons, used_app, used_app, used_app, used_fil a (by kernel_rfl), used_fil b (by kernel_rfl), used_fil c (by kernel_rfl), e, e2]
  omega
theorem used_w (N : Nat) (a b c : Option (ByteArray × Nat)) (st sm : Nat) : used (FS N a b c st sm).L pW = 4 := by
  have e : used [dirW, wit] pW = 4 := by kernel_rfl
  have e2 : (if vol dirV.path = pW then dirV.data.size else 0) = 0 := by kernel_rfl
  have no : ∀ (p : ByteArray) (o : Option (ByteArray × Nat)), vol p ≠ pW → used (fil p o) pW = 0 := fun p o h => by
    cases o with
    | none => rfl
    | some x =>
      show used [_] pW = _
      rw [used_cons, if_neg (by exact h)]
      rfl
  unfold FS
  rw [used_cons, used_app, used_app, used_app, no _ a (by decide +kernel), no _ b (by decide +kernel), no _ c (by decide +kernel), e, e2]
theorem fits_fs (N : Nat) (a b c : Option (ByteArray × Nat)) (st sm : Nat) {p : ByteArray} (h : vol p = pV) (more : Int) : fits (FS N a b c st sm) p more = (decide (more ≤ 0) || !decide ((((dat a).size + (dat b).size + (dat c).size : Nat) : Int) + more > N)) := by
  have e : fits (FS N a b c st sm) p more = (decide (more ≤ 0) || (!(decide (pV = vol p) && decide (((used (FS N a b c st sm).L (vol p) : Nat) : Int) + more > (N : Int))) && true)) := rfl
  rw [e, h, used_fs, Bool.and_true]
  simp
theorem read_pVA (N : Nat) (a b c : Option (ByteArray × Nat)) (st sm : Nat) : readS (FS N a b c st sm) pVA = (dat a, num a) := by
  cases a <;> cases b <;> cases c <;> kernel_rfl
theorem old_pVA (N : Nat) (a b c : Option (ByteArray × Nat)) (st sm : Nat) : (old (FS N a b c st sm).L pVA).data = dat a := by
  cases a <;> cases b <;> cases c <;> kernel_rfl
theorem write_pVA (N : Nat) (a b c : Option (ByteArray × Nat)) (st sm : Nat) (t : ByteArray) : writeS (FS N a b c st sm) pVA t = if (decide (((t.size : Int) - ((dat a).size : Int)) ≤ 0) || !decide ((((dat a).size + (dat b).size + (dat c).size : Nat) : Int) + ((t.size : Int) - ((dat a).size : Int)) > N)) = false then (13, FS N a b c st sm) else (0, FS N (some (t, sm + 1)) b c (st + 1) (sm + 1)) := by
  unfold writeS
  rw [old_pVA, fits_fs N a b c st sm (by kernel_rfl)]
  generalize (decide (((t.size : Int) - ((dat a).size : Int)) ≤ 0) || !decide ((((dat a).size + (dat b).size + (dat c).size : Nat) : Int) + ((t.size : Int) - ((dat a).size : Int)) > N)) = B
  cases B <;> cases a <;> cases b <;> cases c <;> kernel_rfl
theorem read_pVB (N : Nat) (a b c : Option (ByteArray × Nat)) (st sm : Nat) : readS (FS N a b c st sm) pVB = (dat b, num b) := by
  cases a <;> cases b <;> cases c <;> kernel_rfl
theorem old_pVB (N : Nat) (a b c : Option (ByteArray × Nat)) (st sm : Nat) : (old (FS N a b c st sm).L pVB).data = dat b := by
  cases a <;> cases b <;> cases c <;> kernel_rfl
theorem write_pVB (N : Nat) (a b c : Option (ByteArray × Nat)) (st sm : Nat) (t : ByteArray) : writeS (FS N a b c st sm) pVB t = if (decide (((t.size : Int) - ((dat b).size : Int)) ≤ 0) || !decide ((((dat a).size + (dat b).size + (dat c).size : Nat) : Int) + ((t.size : Int) - ((dat b).size : Int)) > N)) = false then (13, FS N a b c st sm) else (0, FS N a (some (t, sm + 1)) c (st + 1) (sm + 1)) := by
  unfold writeS
  rw [old_pVB, fits_fs N a b c st sm (by kernel_rfl)]
  generalize (decide (((t.size : Int) - ((dat b).size : Int)) ≤ 0) || !decide ((((dat a).size + (dat b).size + (dat c).size : Nat) : Int) + ((t.size : Int) - ((dat b).size : Int)) > N)) = B
  cases B <;> cases a <;> cases b <;> cases c <;> kernel_rfl
theorem read_pVC (N : Nat) (a b c : Option (ByteArray × Nat)) (st sm : Nat) : readS (FS N a b c st sm) pVC = (dat c, num c) := by
  cases a <;> cases b <;> cases c <;> kernel_rfl
theorem old_pVC (N : Nat) (a b c : Option (ByteArray × Nat)) (st sm : Nat) : (old (FS N a b c st sm).L pVC).data = dat c := by
  cases a <;> cases b <;> cases c <;> kernel_rfl
theorem write_pVC (N : Nat) (a b c : Option (ByteArray × Nat)) (st sm : Nat) (t : ByteArray) : writeS (FS N a b c st sm) pVC t = if (decide (((t.size : Int) - ((dat c).size : Int)) ≤ 0) || !decide ((((dat a).size + (dat b).size + (dat c).size : Nat) : Int) + ((t.size : Int) - ((dat c).size : Int)) > N)) = false then (13, FS N a b c st sm) else (0, FS N a b (some (t, sm + 1)) (st + 1) (sm + 1)) := by
  unfold writeS
  rw [old_pVC, fits_fs N a b c st sm (by kernel_rfl)]
  generalize (decide (((t.size : Int) - ((dat c).size : Int)) ≤ 0) || !decide ((((dat a).size + (dat b).size + (dat c).size : Nat) : Int) + ((t.size : Int) - ((dat c).size : Int)) > N)) = B
  cases B <;> cases a <;> cases b <;> cases c <;> kernel_rfl
/-- Behind k rounds. -/
structure Fil (N k : Nat) (s : St) : Prop where
  is : ∃ a b c st sm, s = FS N a b c st sm ∧ st ≤ 3 + k ∧ sm ≤ 1 + k ∧ (dat a).size ≤ 140737488351232 ∧ (dat b).size ≤ 140737488351232 ∧ (dat c).size ≤ 140737488351232 ∧ (dat a).size + (dat b).size + (dat c).size ≤ N
theorem fil_zero (N : Nat) : Fil N 0 (FS N none none none 3 1) := ⟨none, none, none, 3, 1, rfl, by omega, by omega, by decide, by decide, by decide, Nat.zero_le _⟩
def nm (r : Nat) : ByteArray := if r = 0 then pVA else if r = 1 then pVB else pVC
theorem mem_fil {p : ByteArray} {o : Option (ByteArray × Nat)} {x : It} (h : x ∈ fil p o) : x.path = p ∧ x.data = dat o := by
  cases o with
  | none => cases h
  | some y =>
    rcases List.mem_singleton.1 h with rfl
    exact ⟨rfl, rfl⟩
theorem len_fil (p : ByteArray) (o : Option (ByteArray × Nat)) : (fil p o).length ≤ 1 := by
  cases o
  · exact Nat.zero_le _
  · exact Nat.le_refl _
theorem Fil.ok {N k : Nat} {s : St} (h : Fil N k s) (hk : k ≤ 100) : Ok s := by
  obtain ⟨a, b, c, st, sm, rfl, h1, h2, h3, h4, h5, _⟩ := h.is
  have l1 := len_fil pVA a
  have l2 := len_fil pVB b
  have l3 := len_fil pVC c
  have hm : ∀ x ∈ (FS N a b c st sm).L, x.path.size ≤ 1000 ∧ x.data.size ≤ 1000000000000000 := by
    intro x hx
    rcases List.mem_cons.1 hx with rfl | hx
    · decide
    rcases List.mem_append.1 hx with hx | hx
    · obtain ⟨e1, e2⟩ := mem_fil hx
      rw [e1, e2]
      exact ⟨by decide, by omega⟩
    rcases List.mem_append.1 hx with hx | hx
    · obtain ⟨e1, e2⟩ := mem_fil hx
      rw [e1, e2]
      exact ⟨by decide, by omega⟩
    rcases List.mem_append.1 hx with hx | hx
    · obtain ⟨e1, e2⟩ := mem_fil hx
      rw [e1, e2]
      exact ⟨by decide, by omega⟩
    · have : x = dirW ∨ x = wit := by simpa using hx
      rcases this with rfl | rfl <;> decide
  refine ok_small ?_ (fun x hx => (hm x hx).1) (fun x hx => (hm x hx).2) (by show 1 ≤ 1000; omega) (by show st ≤ _; omega) (by show sm ≤ _; omega) (by show -1 ≤ (-1 : Int) ∧ (-1 : Int) ≤ _; omega)
  show (dirV :: (fil pVA a ++ (fil pVB b ++ (fil pVC c ++ [dirW, wit])))).length ≤ 1000
  rw [List.length_cons, List.length_append, List.length_append, List.length_append]
  show _ + (_ + (_ + 2)) + 1 ≤ 1000
  omega
theorem Fil.up {N k : Nat} {s : St} (h : Fil N k s) : Fil N (k + 1) s := by
  obtain ⟨a, b, c, st, sm, e, h1, h2, h⟩ := h.is
  exact ⟨a, b, c, st, sm, e, by omega, by omega, h⟩
theorem Fil.w {N k : Nat} {s : St} (h : Fil N k s) : used s.L pW = 4 := by
  obtain ⟨a, b, c, st, sm, rfl, _⟩ := h.is
  exact used_w N a b c st sm
theorem Fil.round {N k : Nat} {s : St} (h : Fil N k s) (r : Nat) (t : ByteArray) (ht : t.size ≤ 140737488351232) : ∃ was kr u, readS s (nm r) = (was, kr) ∧ used s.L pV = u ∧ u ≤ N ∧ was.size ≤ u ∧ u ≤ 422212465053696 ∧
    ((∃ s' u', writeS s (nm r) t = (0, s') ∧ Fil N (k + 1) s' ∧ readS s' (nm r) = (t, 0) ∧ used s'.L pV = u' ∧ u' ≤ N) ∨ (writeS s (nm r) t = (13, s) ∧ (N : Int) - t.size < (u : Int) - was.size)) := by
  obtain ⟨a, b, c, st, sm, rfl, h1, h2, h3, h4, h5, h6⟩ := h.is
  unfold nm
  split
  ·
    refine ⟨_, _, _, read_pVA N a b c st sm, used_fs N a b c st sm, h6, by omega, by omega, ?_⟩
    rw [write_pVA]
    have hd : (dat (some (t, sm + 1))).size = t.size := rfl
    by_cases hf : (t.size : Int) - ((dat a).size : Int) ≤ 0 ∨ ¬ ((((dat a).size + (dat b).size + (dat c).size : Nat) : Int) + ((t.size : Int) - ((dat a).size : Int)) > N)
    · have e : (decide (((t.size : Int) - ((dat a).size : Int)) ≤ 0) || !decide ((((dat a).size + (dat b).size + (dat c).size : Nat) : Int) + ((t.size : Int) - ((dat a).size : Int)) > N)) = true := by simpa using hf
      rw [e, if_neg (by decide)]
      exact .inl ⟨_, _, rfl, ⟨_, _, _, _, _, rfl, by omega, by omega, ht, h4, h5, by rw [hd]; omega⟩, read_pVA N (some (t, sm + 1)) b c (st + 1) (sm + 1), used_fs N (some (t, sm + 1)) b c (st + 1) (sm + 1), by rw [hd]; omega⟩
    · have e : (decide (((t.size : Int) - ((dat a).size : Int)) ≤ 0) || !decide ((((dat a).size + (dat b).size + (dat c).size : Nat) : Int) + ((t.size : Int) - ((dat a).size : Int)) > N)) = false := by simpa using hf
      rw [e, if_pos rfl]
      exact .inr ⟨rfl, by omega⟩
  split
  ·
    refine ⟨_, _, _, read_pVB N a b c st sm, used_fs N a b c st sm, h6, by omega, by omega, ?_⟩
    rw [write_pVB]
    have hd : (dat (some (t, sm + 1))).size = t.size := rfl
    by_cases hf : (t.size : Int) - ((dat b).size : Int) ≤ 0 ∨ ¬ ((((dat a).size + (dat b).size + (dat c).size : Nat) : Int) + ((t.size : Int) - ((dat b).size : Int)) > N)
    · have e : (decide (((t.size : Int) - ((dat b).size : Int)) ≤ 0) || !decide ((((dat a).size + (dat b).size + (dat c).size : Nat) : Int) + ((t.size : Int) - ((dat b).size : Int)) > N)) = true := by simpa using hf
      rw [e, if_neg (by decide)]
      exact .inl ⟨_, _, rfl, ⟨_, _, _, _, _, rfl, by omega, by omega, h3, ht, h5, by rw [hd]; omega⟩, read_pVB N a (some (t, sm + 1)) c (st + 1) (sm + 1), used_fs N a (some (t, sm + 1)) c (st + 1) (sm + 1), by rw [hd]; omega⟩
    · have e : (decide (((t.size : Int) - ((dat b).size : Int)) ≤ 0) || !decide ((((dat a).size + (dat b).size + (dat c).size : Nat) : Int) + ((t.size : Int) - ((dat b).size : Int)) > N)) = false := by simpa using hf
      rw [e, if_pos rfl]
      exact .inr ⟨rfl, by omega⟩
  ·
    refine ⟨_, _, _, read_pVC N a b c st sm, used_fs N a b c st sm, h6, by omega, by omega, ?_⟩
    rw [write_pVC]
    have hd : (dat (some (t, sm + 1))).size = t.size := rfl
    by_cases hf : (t.size : Int) - ((dat c).size : Int) ≤ 0 ∨ ¬ ((((dat a).size + (dat b).size + (dat c).size : Nat) : Int) + ((t.size : Int) - ((dat c).size : Int)) > N)
    · have e : (decide (((t.size : Int) - ((dat c).size : Int)) ≤ 0) || !decide ((((dat a).size + (dat b).size + (dat c).size : Nat) : Int) + ((t.size : Int) - ((dat c).size : Int)) > N)) = true := by simpa using hf
      rw [e, if_neg (by decide)]
      exact .inl ⟨_, _, rfl, ⟨_, _, _, _, _, rfl, by omega, by omega, h3, h4, ht, by rw [hd]; omega⟩, read_pVC N a b (some (t, sm + 1)) (st + 1) (sm + 1), used_fs N a b (some (t, sm + 1)) (st + 1) (sm + 1), by rw [hd]; omega⟩
    · have e : (decide (((t.size : Int) - ((dat c).size : Int)) ≤ 0) || !decide ((((dat a).size + (dat b).size + (dat c).size : Nat) : Int) + ((t.size : Int) - ((dat c).size : Int)) > N)) = false := by simpa using hf
      rw [e, if_pos rfl]
      exact .inr ⟨rfl, by omega⟩
/-- The three names, at block g. -/
structure Nms (g : Nat) (W : World) : Prop where
  t0 : W.cell? ⟨g, 0, none⟩ = some (.string ⟨#[118, 47, 97]⟩)
  t1 : W.cell? ⟨g, 1, none⟩ = some (.string ⟨#[118, 47, 98]⟩)
  t2 : W.cell? ⟨g, 2, none⟩ = some (.string ⟨#[118, 47, 99]⟩)
theorem Nms.chg {g : Nat} {W W1 : World} {F : Nat → Prop} (h : Nms g W) (hc : Chg F W W1) (hn : ¬ F g) : Nms g W1 := by
  have hg := World.block_lt_of_cell? W _ h.t0
  have e := hc.block g hg hn
  refine ⟨?_, ?_, ?_⟩
  · have := h.t0; unfold World.cell? at *; rw [e]; exact this
  · have := h.t1; unfold World.cell? at *; rw [e]; exact this
  · have := h.t2; unfold World.cell? at *; rw [e]; exact this
theorem nms_new (W : World) (T : TypeId) : Nms W.heap.size (W.alloc (.cells #[.string ⟨#[118, 47, 97]⟩, .string ⟨#[118, 47, 98]⟩, .string ⟨#[118, 47, 99]⟩] T)) := by
  refine ⟨?_, ?_, ?_⟩ <;> · rw [World.cell?_alloc_at _ _ _ _ rfl]; rfl
theorem ok_f2 : Ok f2 := ok_small (by decide) (by decide) (by decide) (by decide) (by decide) (by decide) (by decide)
theorem ok_f3 : Ok f3 := ok_small (by decide) (by decide) (by decide) (by decide) (by decide) (by decide) (by decide)
/-- What each round finds. -/
structure At3 (w : World) (b bi bl g N k : Nat) (wr : World) : Prop where
  is : ∃ s, Fil N k s ∧ Own1 w b bi bl s wr
  nms : Nms g wr
  not : ¬ Ft b bi bl g
set_option maxRecDepth 100000 in
set_option maxHeartbeats 4000000 in
theorem walk (M : Int) (A : Option Addr) (n c : Nat) (l : List ByteArray) (w : World) (hM : -9223372036854775808 ≤ M ∧ M ≤ 9223372036854775807) (hS : Strs w A n l) (hc : n ≤ c ∧ c ≤ 9223372036854775807) (hb : Wide1 l) :
    Calls Try.prog 6 #[.int .i64 M, .slice A n c] w fun e w' => e = .returned (.bool true) ∧ Below w.heap.size w w' := by
  have z1 : Ok a1S := by rw [a1_is]; exact ok_small (by decide) (by decide) (by decide) (by decide) (by decide) (by decide) (by decide)
  have z0 : Ok newS := ok_small (by decide) (by decide) (by decide) (by decide) (by decide) (by decide) (by decide)
  have hcell : ∀ W, Below w.heap.size w W → ∀ k y, l[k]? = some y → ∃ b off, A = some ⟨b, off, none⟩ ∧ W.cell? ⟨b, off + k, none⟩ = some (.string y) := by
    intro W hW k y hy
    have hkl := (List.getElem?_eq_some_iff.1 hy).1
    rcases hS.2 with h0 | ⟨b, off, rfl, hlt, hcc⟩
    · have := hS.1; omega
    · exact ⟨b, off, rfl, (hW.cell (p := ⟨b, off + k, none⟩) hlt).trans (hcc k y hy)⟩
  have HC := Lib.hid hcell
  have HB := Lib.hid hb
  have HL := Lib.hid hS.1
  clear hcell hb hS
  go_enter Try.func6, Try.ntmps6
  go_wp2_with fail
  go_at_call 8
  refine (iNew_any _).mono ?_
  rintro e w1 hn1
  obtain ⟨b, bi, bl, rfl, o1⟩ := own_new w (Below.refl _ _) hn1
  clear hn1
  go_wp2_with fail
  go_at_call 9
  refine (o_awake o1).mono ?_
  rintro e w2 ⟨rfl, o2, k2⟩
  go_wp2_with fail
  go_at_call 10
  refine (o_mkdir (p := pV) o2 z0 (by decide) a1_mk).mono ?_
  rintro e w3 ⟨rfl, o3, k3⟩
  go_wp2_with fail
  go_at_call 10
  refine (o_mkdir (p := pW) o3 z1 (by decide) f2_mk).mono ?_
  rintro e w4 ⟨rfl, o4, k4⟩
  go_wp2_with fail
  go_at_call 11
  refine (o_write (p := pWA) (q := ⟨#[102, 114, 101, 101]⟩) o4 ok_f2 (by decide) (by decide) f3_write).mono ?_
  rintro e w5 ⟨rfl, o5, k5⟩
  clear o1 o2 o3 o4 k2 k3 k4 k5 z0 z1
  by_cases hM0 : M < 0
  · go_wp2_with fail
    go_at_call 21
    refine (o_limit (m := M) o5 ok_f3 (by decide) hM (f4_bad hM0)).mono ?_
    rintro e w6 ⟨rfl, o6, k6⟩
    go_wp2_with fail
    go_at_call 21
    refine (o_limit (m := M) o6 ok_f3 (by decide) hM (f4_bad hM0)).mono ?_
    rintro e w7 ⟨rfl, o7, k7⟩
    go_wp2_with fail
    go_ret
    exact ⟨rfl, o7.bel⟩
  · obtain ⟨N, rfl⟩ : ∃ N : Nat, M = N := ⟨M.toNat, by omega⟩
    go_wp2_with fail
    go_at_call 21
    refine (o_limit (m := N) o5 ok_f3 (by decide) hM (f4_limit N)).mono ?_
    rintro e w6 ⟨rfl, o6, k6⟩
    have ng : ¬ Ft b bi bl w6.heap.size := fun h => by have := o6.lt _ h; omega
    have N6 := nms_new w6 9
    have NG := Lib.hid ng
    have o7 := o6.below ((Below.refl _ w6).alloc (Nat.le_refl _) (.cells #[.string ⟨#[118, 47, 97]⟩, .string ⟨#[118, 47, 98]⟩, .string ⟨#[118, 47, 99]⟩] 9))
    have H7 : Hid (At3 w b bi bl w6.heap.size N 0 (w6.alloc (.cells #[.string ⟨#[118, 47, 97]⟩, .string ⟨#[118, 47, 98]⟩, .string ⟨#[118, 47, 99]⟩] 9))) := Lib.hid ⟨⟨_, fil_zero N, o7⟩, N6, ng⟩
    clear ng k6
    go_wp2_with fail
    clear N6 NG o6
    obtain ⟨g, hg⟩ : ∃ g, w6.heap.size = g := ⟨_, rfl⟩
    rw [hg]
    go_loopw [7] (fun iv wr => ∃ (k : Nat), k ≤ n ∧ k ≤ 60 ∧ iv = .int .i64 k ∧ At3 w b bi bl g N k wr) (fun i _ => n - (intOf i).toNat)
    case atStart => exact ⟨0, Nat.zero_le _, Nat.zero_le _, rfl, hg ▸ H7.out⟩
    case round =>
      obtain ⟨k, hkn, hk60, rfl, hat⟩ := hrel
      obtain ⟨⟨s, hF, o6⟩, N6, ng⟩ := hat
      have NG := Lib.hid ng
      clear ng hg H7
      have HO := Lib.hid (hF.ok (by omega))
      by_cases hlt : k < n ∧ k < 60
      · obtain ⟨hlt, hl60⟩ := hlt
        obtain ⟨y, hx⟩ : ∃ y, l[k]? = some y := ⟨_, List.getElem?_eq_getElem (by rw [HL.out]; exact hlt)⟩
        have hy := HB.out y (List.mem_of_getElem? hx)
        obtain ⟨ba, off, rfl, g0⟩ := HC.out _ o6.bel k y hx
        have HG : Hid (∀ W, Below w.heap.size w W → W.cell? ⟨ba, off + k, none⟩ = some (.string y)) := Lib.hid (fun W hW => by
          obtain ⟨b2, f2, e2, g⟩ := HC.out W hW k y hx
          cases e2
          exact g)
        clear hx
        have e1 : (y.toList == y.toList) = true := beq_self_eq_true _
        obtain ⟨t0, t1, t2⟩ := N6
        have N6 : Nms g _ := ⟨t0, t1, t2⟩
        rcases (show (k : Int) % 3 = 0 ∨ (k : Int) % 3 = 1 ∨ (k : Int) % 3 = 2 by omega) with hm | hm | hm
        · obtain ⟨was, kr, u, hr, hu, huN, hwu, hu9, hcase⟩ := hF.round 0 y hy
          rw [show nm 0 = pVA from rfl] at hr hcase
          have e2 : (was.toList == was.toList) = true := beq_self_eq_true _
          rcases hcase with ⟨s', u', hw, hF2, hr2, hu2, hu2N⟩ | ⟨hw, hful⟩
          · have HO2 := Lib.hid (hF2.ok (by omega))
            go_wp2_with fail
            go_at_call 15
            refine (o_read (p := pVA) o6 (by decide) hr).mono ?_
            rintro e w7 ⟨rfl, o7, k7⟩
            have N7 := N6.chg k7 NG.out
            have g7 := HG.out _ o7.bel
            go_wp2_with fail
            go_at_call 20
            refine (o_used (p := pV) o7 HO.out.fit hu).mono ?_
            rintro e w8 ⟨rfl, o8, k8⟩
            have N8 := N7.chg k8 NG.out
            have g8 := HG.out _ o8.bel
            go_wp2_with fail
            go_at_call 11
            refine (o_write (p := pVA) (q := y) o8 HO.out (by decide) (by omega) hw).mono ?_
            rintro e w9 ⟨rfl, o9, k9⟩
            have N9 := N8.chg k9 NG.out
            have g9 := HG.out _ o9.bel
            go_wp2_with fail
            go_at_call 15
            refine (o_read (p := pVA) o9 (by decide) hr2).mono ?_
            rintro e w10 ⟨rfl, o10, k10⟩
            have N10 := N9.chg k10 NG.out
            have g10 := HG.out _ o10.bel
            go_wp2_with fail
            go_at_call 20
            refine (o_used (p := pV) o10 HO2.out.fit hu2).mono ?_
            rintro e w11 ⟨rfl, o11, k11⟩
            have N11 := N10.chg k11 NG.out
            have g11 := HG.out _ o11.bel
            go_wp2_with fail
            go_roundw
            case rel => exact ⟨k + 1, by omega, by omega, by go_num, ⟨⟨_, hF2, o11⟩, N11, NG.out⟩⟩
            case measure => simp [intOf]; omega
          ·
            go_wp2_with fail
            go_at_call 15
            refine (o_read (p := pVA) o6 (by decide) hr).mono ?_
            rintro e w7 ⟨rfl, o7, k7⟩
            have N7 := N6.chg k7 NG.out
            have g7 := HG.out _ o7.bel
            go_wp2_with fail
            go_at_call 20
            refine (o_used (p := pV) o7 HO.out.fit hu).mono ?_
            rintro e w8 ⟨rfl, o8, k8⟩
            have N8 := N7.chg k8 NG.out
            have g8 := HG.out _ o8.bel
            go_wp2_with fail
            go_at_call 11
            refine (o_write (p := pVA) (q := y) o8 HO.out (by decide) (by omega) hw).mono ?_
            rintro e w9 ⟨rfl, o9, k9⟩
            have N9 := N8.chg k9 NG.out
            have g9 := HG.out _ o9.bel
            go_wp2_with fail
            go_at_call 15
            refine (o_read (p := pVA) o9 (by decide) hr).mono ?_
            rintro e w10 ⟨rfl, o10, k10⟩
            have N10 := N9.chg k10 NG.out
            have g10 := HG.out _ o10.bel
            go_wp2_with fail
            go_at_call 20
            refine (o_used (p := pV) o10 HO.out.fit hu).mono ?_
            rintro e w11 ⟨rfl, o11, k11⟩
            have N11 := N10.chg k11 NG.out
            have g11 := HG.out _ o11.bel
            go_wp2_with fail
            go_at_call 20
            refine (o_used (p := pV) o11 HO.out.fit hu).mono ?_
            rintro e w12 ⟨rfl, o12, k12⟩
            have N12 := N11.chg k12 NG.out
            have g12 := HG.out _ o12.bel
            go_wp2_with fail
            go_roundw
            case rel => exact ⟨k + 1, by omega, by omega, by go_num, ⟨⟨_, hF.up, o12⟩, N12, NG.out⟩⟩
            case measure => simp [intOf]; omega
        · obtain ⟨was, kr, u, hr, hu, huN, hwu, hu9, hcase⟩ := hF.round 1 y hy
          rw [show nm 1 = pVB from rfl] at hr hcase
          have e2 : (was.toList == was.toList) = true := beq_self_eq_true _
          rcases hcase with ⟨s', u', hw, hF2, hr2, hu2, hu2N⟩ | ⟨hw, hful⟩
          · have HO2 := Lib.hid (hF2.ok (by omega))
            go_wp2_with fail
            go_at_call 15
            refine (o_read (p := pVB) o6 (by decide) hr).mono ?_
            rintro e w7 ⟨rfl, o7, k7⟩
            have N7 := N6.chg k7 NG.out
            have g7 := HG.out _ o7.bel
            go_wp2_with fail
            go_at_call 20
            refine (o_used (p := pV) o7 HO.out.fit hu).mono ?_
            rintro e w8 ⟨rfl, o8, k8⟩
            have N8 := N7.chg k8 NG.out
            have g8 := HG.out _ o8.bel
            go_wp2_with fail
            go_at_call 11
            refine (o_write (p := pVB) (q := y) o8 HO.out (by decide) (by omega) hw).mono ?_
            rintro e w9 ⟨rfl, o9, k9⟩
            have N9 := N8.chg k9 NG.out
            have g9 := HG.out _ o9.bel
            go_wp2_with fail
            go_at_call 15
            refine (o_read (p := pVB) o9 (by decide) hr2).mono ?_
            rintro e w10 ⟨rfl, o10, k10⟩
            have N10 := N9.chg k10 NG.out
            have g10 := HG.out _ o10.bel
            go_wp2_with fail
            go_at_call 20
            refine (o_used (p := pV) o10 HO2.out.fit hu2).mono ?_
            rintro e w11 ⟨rfl, o11, k11⟩
            have N11 := N10.chg k11 NG.out
            have g11 := HG.out _ o11.bel
            go_wp2_with fail
            go_roundw
            case rel => exact ⟨k + 1, by omega, by omega, by go_num, ⟨⟨_, hF2, o11⟩, N11, NG.out⟩⟩
            case measure => simp [intOf]; omega
          ·
            go_wp2_with fail
            go_at_call 15
            refine (o_read (p := pVB) o6 (by decide) hr).mono ?_
            rintro e w7 ⟨rfl, o7, k7⟩
            have N7 := N6.chg k7 NG.out
            have g7 := HG.out _ o7.bel
            go_wp2_with fail
            go_at_call 20
            refine (o_used (p := pV) o7 HO.out.fit hu).mono ?_
            rintro e w8 ⟨rfl, o8, k8⟩
            have N8 := N7.chg k8 NG.out
            have g8 := HG.out _ o8.bel
            go_wp2_with fail
            go_at_call 11
            refine (o_write (p := pVB) (q := y) o8 HO.out (by decide) (by omega) hw).mono ?_
            rintro e w9 ⟨rfl, o9, k9⟩
            have N9 := N8.chg k9 NG.out
            have g9 := HG.out _ o9.bel
            go_wp2_with fail
            go_at_call 15
            refine (o_read (p := pVB) o9 (by decide) hr).mono ?_
            rintro e w10 ⟨rfl, o10, k10⟩
            have N10 := N9.chg k10 NG.out
            have g10 := HG.out _ o10.bel
            go_wp2_with fail
            go_at_call 20
            refine (o_used (p := pV) o10 HO.out.fit hu).mono ?_
            rintro e w11 ⟨rfl, o11, k11⟩
            have N11 := N10.chg k11 NG.out
            have g11 := HG.out _ o11.bel
            go_wp2_with fail
            go_at_call 20
            refine (o_used (p := pV) o11 HO.out.fit hu).mono ?_
            rintro e w12 ⟨rfl, o12, k12⟩
            have N12 := N11.chg k12 NG.out
            have g12 := HG.out _ o12.bel
            go_wp2_with fail
            go_roundw
            case rel => exact ⟨k + 1, by omega, by omega, by go_num, ⟨⟨_, hF.up, o12⟩, N12, NG.out⟩⟩
            case measure => simp [intOf]; omega
        · obtain ⟨was, kr, u, hr, hu, huN, hwu, hu9, hcase⟩ := hF.round 2 y hy
          rw [show nm 2 = pVC from rfl] at hr hcase
          have e2 : (was.toList == was.toList) = true := beq_self_eq_true _
          rcases hcase with ⟨s', u', hw, hF2, hr2, hu2, hu2N⟩ | ⟨hw, hful⟩
          · have HO2 := Lib.hid (hF2.ok (by omega))
            go_wp2_with fail
            go_at_call 15
            refine (o_read (p := pVC) o6 (by decide) hr).mono ?_
            rintro e w7 ⟨rfl, o7, k7⟩
            have N7 := N6.chg k7 NG.out
            have g7 := HG.out _ o7.bel
            go_wp2_with fail
            go_at_call 20
            refine (o_used (p := pV) o7 HO.out.fit hu).mono ?_
            rintro e w8 ⟨rfl, o8, k8⟩
            have N8 := N7.chg k8 NG.out
            have g8 := HG.out _ o8.bel
            go_wp2_with fail
            go_at_call 11
            refine (o_write (p := pVC) (q := y) o8 HO.out (by decide) (by omega) hw).mono ?_
            rintro e w9 ⟨rfl, o9, k9⟩
            have N9 := N8.chg k9 NG.out
            have g9 := HG.out _ o9.bel
            go_wp2_with fail
            go_at_call 15
            refine (o_read (p := pVC) o9 (by decide) hr2).mono ?_
            rintro e w10 ⟨rfl, o10, k10⟩
            have N10 := N9.chg k10 NG.out
            have g10 := HG.out _ o10.bel
            go_wp2_with fail
            go_at_call 20
            refine (o_used (p := pV) o10 HO2.out.fit hu2).mono ?_
            rintro e w11 ⟨rfl, o11, k11⟩
            have N11 := N10.chg k11 NG.out
            have g11 := HG.out _ o11.bel
            go_wp2_with fail
            go_roundw
            case rel => exact ⟨k + 1, by omega, by omega, by go_num, ⟨⟨_, hF2, o11⟩, N11, NG.out⟩⟩
            case measure => simp [intOf]; omega
          ·
            go_wp2_with fail
            go_at_call 15
            refine (o_read (p := pVC) o6 (by decide) hr).mono ?_
            rintro e w7 ⟨rfl, o7, k7⟩
            have N7 := N6.chg k7 NG.out
            have g7 := HG.out _ o7.bel
            go_wp2_with fail
            go_at_call 20
            refine (o_used (p := pV) o7 HO.out.fit hu).mono ?_
            rintro e w8 ⟨rfl, o8, k8⟩
            have N8 := N7.chg k8 NG.out
            have g8 := HG.out _ o8.bel
            go_wp2_with fail
            go_at_call 11
            refine (o_write (p := pVC) (q := y) o8 HO.out (by decide) (by omega) hw).mono ?_
            rintro e w9 ⟨rfl, o9, k9⟩
            have N9 := N8.chg k9 NG.out
            have g9 := HG.out _ o9.bel
            go_wp2_with fail
            go_at_call 15
            refine (o_read (p := pVC) o9 (by decide) hr).mono ?_
            rintro e w10 ⟨rfl, o10, k10⟩
            have N10 := N9.chg k10 NG.out
            have g10 := HG.out _ o10.bel
            go_wp2_with fail
            go_at_call 20
            refine (o_used (p := pV) o10 HO.out.fit hu).mono ?_
            rintro e w11 ⟨rfl, o11, k11⟩
            have N11 := N10.chg k11 NG.out
            have g11 := HG.out _ o11.bel
            go_wp2_with fail
            go_at_call 20
            refine (o_used (p := pV) o11 HO.out.fit hu).mono ?_
            rintro e w12 ⟨rfl, o12, k12⟩
            have N12 := N11.chg k12 NG.out
            have g12 := HG.out _ o12.bel
            go_wp2_with fail
            go_roundw
            case rel => exact ⟨k + 1, by omega, by omega, by go_num, ⟨⟨_, hF.up, o12⟩, N12, NG.out⟩⟩
            case measure => simp [intOf]; omega
      · have hend : ¬ k < n ∨ (k < n ∧ ¬ k < 60) := by omega
        have hu := hF.w
        rcases hend with he1 | ⟨he1, he2⟩
        all_goals
          clear hlt
          go_wp2_with fail
          go_at_call 20
          refine (o_used (p := pW) o6 HO.out.fit hu).mono ?_
          rintro e w7 ⟨rfl, o7, k7⟩
          go_wp2_with fail
          go_ret
          exact ⟨rfl, o7.bel⟩

theorem own : ownKnob Try.prog.godebug = none := by kernel_rfl
theorem laidOut : laidOutB Try.prog = true := by kernel_rfl

set_option maxRecDepth 100000 in
theorem contract (H : Type) (enc : TypeId × Value → H) (W : World) (base : Nat) (args : Array Value) (ds gs : List (DataW H)) (before : List MemPlace)
    (hval0 : ∀ (j : Nat) t v, Try.f6.params[j]? = some t → args[j]? = some v → Value.okWide Try.prog W .any base t v)
    (hW : DataW.Whole enc Try.prog Try.f6.params.toList Rows.diskFillsSpec.vars false W args.toList ds gs before)
    (hsz0 : (DataW.weightsEach Try.prog (Try.f6.params.toList ++ Rows.diskFillsSpec.plain.varTypes Try.prog) (ds ++ gs)).all (· ≤ reachBytes) = true) :
    Calls Try.prog 6 args W fun e W' => ∃ v, e = .returned v ∧ Rows.diskFillsSpec.post enc Try.prog Try.f6 false true false false W args v W' := by
  have hval : ∀ (j : Nat) t v, Try.f6.params[j]? = some t → args[j]? = some v → Value.okWide Try.prog W .any base t v := hval0
  have hsz := hsz0
  clear hsz0
  have hW' := hW
  obtain ⟨p, q, hA0, hV, rfl, hfz, hnd⟩ := hW
  have hA : DataW.TrodAll enc Try.prog W 0 (fun _ => true) true Try.f6.params.toList args.toList ds p := hA0
  rw [Try.params6] at hA hval hsz
  obtain ⟨v0, vs0, d0, ds0, p0, q0, hargs, rfl, rfl, h0, r0⟩ := trodAll_cons hA
  obtain ⟨v1, vs1, d1, ds1, p1, q1, rfl, rfl, rfl, h1, r1⟩ := trodAll_cons r0
  obtain ⟨rfl, rfl, rfl⟩ := trodAll_nil r1
  obtain rfl : args = #[v0, v1] := by cases args; simp_all
  obtain ⟨rfl, rfl⟩ := trodVars_none hV
  obtain ⟨a0, rfl, rfl, rfl, w0⟩ := open_int Try.underlying3 (hval 0 3 v0 rfl rfl) h0
  have bd0 : -9223372036854775808 ≤ a0 ∧ a0 ≤ 9223372036854775807 := by simpa [Lit.wf, IntKind.min, IntKind.max, IntKind.signed, IntKind.bits] using w0
  obtain ⟨A1, n1, c1, rfl⟩ := okWide_slice Try.underlying27 (hval 1 27 v1 rfl rfl)
  have k1 := h1
  have lt1 : ∀ x ∈ p1, x.block < W.heap.size := by obtain ⟨m, hm⟩ := k1; exact DataW.trod_lt m _ _ _ hm
  clear hA0 hval0
  obtain ⟨l1, e1, _, _, hc1, hcc1, hz1⟩ := arg_texts k1
  refine (walk a0 A1 n1 c1 l1 W bd0 e1 ⟨hc1, hcc1⟩ (hz1 hsz (j := 1) rfl rfl)).mono fun e W' ⟨he, bel⟩ => ?_
  subst he
  exact ⟨_, rfl, _, _, _, [], _, [], hW', trodAll_mk1 (shut_bool Try.underlying4 _), (trodAll_cons_mk (shut_int Try.underlying3 w0) (trodAll_cons_mk (Below.trod laidOut (by kernel_rfl) (of_decide_eq_true (by kernel_rfl)) k1 bel lt1) trodAll_mk0)), rfl, bel.frame _, fun h => by cases h⟩

set_option maxRecDepth 100000 in
theorem lifted (os : Os) (started : os.Started) (H : Type) (enc : TypeId × Value → H) :
    ReturnsInHanded {} Try.checked os 6 .any (Rows.diskFillsSpec.pre6 enc Try.prog Try.f6 Rows.diskFillsRow.domain false) (Rows.diskFillsSpec.post enc Try.prog Try.f6 false true false false) := by
  refine returnsInHanded_of_change_sized (C := Try.checked) own started (by kernel_rfl) Try.func6
    (ChangeSpec.witness6 (enc := enc) (C := Try.checked) false ⟨#[], #[.int .i64 0, .slice none 0 0], []⟩ 8 (by kernel_rfl) (by kernel_rfl) (by kernel_rfl) (by kernel_rfl)) ?_
  intro W base args ds gs before hval0 hW _ hsz0 _
  exact contract H enc W base args ds gs before hval0 hW hsz0

theorem over : Rows.diskFillsRow.holds Try.pinned (OpenSpec.ofChange Rows.diskFillsSpec) :=
  OpenClaim.holds_of_wide 6 Try.f6 rfl rfl rfl rfl rfl rfl rfl ⟨rfl, rfl, rfl, rfl, rfl⟩ rfl rfl rfl rfl rfl (by kernel_rfl) Try.func6 (by kernel_rfl)
    (of_decide_eq_true (by kernel_rfl)) (by unfold Func.isWrapper; first | (rw [if_pos (by decide +kernel)]; kernel_rfl) | (rw [if_neg (by decide +kernel)]; exact ⟨rfl, rfl⟩))
    (fun os started H enc _ => lifted os started H enc)

end Go.Proofs.Ytcbnpdognadilaa.diskFills
namespace Go.Proofs.Ytcbnpdognadilaa
theorem diskFills_holds : Rows.DiskFillsSaid := diskFills.over
#print axioms diskFills_holds
end Go.Proofs.Ytcbnpdognadilaa
