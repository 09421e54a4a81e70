/- The document's ReadText, and the methods of wire.Reader: contracts. -/
import Derived.Test.YtpfgijmhoenpkaaRead
namespace Go.Proofs.Ytpfgijmhoenpkaa.Wr
open Go.RowKit Wm
set_option linter.unusedVariables false

theorem rdU_ok {l : List UInt8} {x n : Nat} (h : rdU l = (x, n, 0)) : n ≤ l.length ∧ vb x = l.take n ∧ 0 < n ∧ x ≤ 9223372036854775807 ∧ rd l = (x, n, 0) := by
  rcases rdU_cases l with ⟨h1, _⟩ | ⟨h1, _⟩ | ⟨_, _, _, _, h1⟩ | ⟨x', n', h2, hx, h1⟩
  · rw [h1] at h; simp at h
  · rw [h1] at h; simp at h
  · rw [h1] at h; simp at h
  · rw [h1] at h
    simp only [Prod.mk.injEq] at h
    obtain ⟨rfl, rfl, _⟩ := h
    have := rd_ok h2
    exact ⟨this.1, this.2.1, this.2.2.1, hx, h2⟩

/-- What reading a text comes to. -/
theorem rdT_cases (s : ByteArray) : (∃ e, e ≠ 0 ∧ e ≤ 3 ∧ rdU s.data.toList = (0, 0, e) ∧ rdT s = (ByteArray.empty, 0, e)) ∨
    (∃ x n, rdU s.data.toList = (x, n, 0) ∧ n ≤ s.size ∧ s.size - n < x ∧ x ≤ 9223372036854775807 ∧ rdT s = (ByteArray.empty, 0, 2)) ∨
    ∃ x n, rdU s.data.toList = (x, n, 0) ∧ n ≤ s.size ∧ x ≤ s.size - n ∧ rdT s = (s.extract n (n + x), n + x, 0) := by
  unfold rdT
  rcases rdU_cases s.data.toList with ⟨h, _⟩ | ⟨h, _⟩ | ⟨_, _, _, _, h⟩ | ⟨x, n, _, _, h⟩
  · left; exact ⟨2, by omega, by omega, h, by rw [h]; rfl⟩
  · left; exact ⟨3, by omega, by omega, h, by rw [h]; rfl⟩
  · left; exact ⟨3, by omega, by omega, h, by rw [h]; rfl⟩
  · right
    have hk := rdU_ok h
    have hn := hk.1
    rw [len_l] at hn
    by_cases hx : x ≤ s.size - n
    · right
      exact ⟨x, n, h, hn, hx, by rw [h]; simp; omega⟩
    · left
      exact ⟨x, n, h, hn, by omega, hk.2.2.2.1, by rw [h]; simp; omega⟩

theorem ret3s {x x' : ByteArray} {y z y' z' : Int} (h : x = x') (h2 : y = y') (h3 : z = z') :
    Ending.returned (.tuple #[.string x, .int .i64 y, .int .i64 z]) = .returned (.tuple #[.string x', .int .i64 y', .int .i64 z']) := by rw [h, h2, h3]

/-! ### a reader -/
/-- Block b is a reader that has s left. -/
def Rat (w : World) (b : Nat) (s : ByteArray) : Prop := w.cell? ⟨b, 0, none⟩ = some (.string s) ∧ w.frozen? ⟨b, 0, none⟩ = false

theorem grown_refl (w : World) (r : Option Nat) : w.grownBy w r := ⟨rfl, rfl, rfl, Nat.le_refl _, fun _ _ _ => rfl⟩
theorem grown_set (w : World) (b : Nat) (u : Value) : w.grownBy (w.setCell ⟨b, 0, none⟩ u) (some b) :=
  ⟨rfl, rfl, rfl, by simp [World.setCell], fun k _ hne => Below.heap_setCell w ⟨b, 0, none⟩ u k (fun e => hne (by rw [e]))⟩
theorem rat_set {w : World} {b : Nat} {s : ByteArray} (h : Rat w b s) (t : ByteArray) : Rat (w.setCell ⟨b, 0, none⟩ (.string t)) b t := by
  obtain ⟨h1, h2⟩ := h
  exact ⟨World.cell?_setCell_same _ _ _ h1, (World.frozen?_setCell _ _ _ _).trans h2⟩

theorem ret2i {x y x' y' : Int} (h : x = x') (h2 : y = y') : Ending.returned (.tuple #[.int .i64 x, .int .i64 y]) = .returned (.tuple #[.int .i64 x', .int .i64 y']) := by rw [h, h2]

theorem extract_le (s : ByteArray) (n : Nat) (h : n ≤ s.size) : (s.extract n s.size).size = s.size - n := by simp

set_option maxRecDepth 100000 in
theorem uint_any (b : Nat) (s : ByteArray) (w : World) (h : Rat w b s) (hs : s.size ≤ maxLen) :
    Calls Try.prog 19 #[.pointer (some ⟨b, 0, none⟩)] w fun e w' => e = .returned (.tuple #[.int .i64 ((rdU s.data.toList).1 : Int), .int .i64 ((rdU s.data.toList).2.2 : Int)]) ∧ Rat w' b (s.extract (rdU s.data.toList).2.1 s.size) ∧ w.grownBy w' (some b) := by
  have c := number_any s w hs
  have hall := rat_set h
  have hsame : Rat w b (s.extract 0 s.size) := by rw [extract_all]; exact h
  obtain ⟨h1, h2⟩ := h
  unfold maxLen at hs
  rcases rdU_cases s.data.toList with ⟨hr, _⟩ | ⟨hr, _⟩ | ⟨_, _, _, _, hr⟩ | ⟨x, n, _, _, hr⟩
  rotate_right
  · obtain ⟨hn, _, _, hx, _⟩ := rdU_ok hr
    rw [len_l] at hn
    rw [hr] at c ⊢
    have hn' : (n : Int) ≤ s.size := by omega
    clear hr
    go_enter Try.func19, Try.ntmps19
    go_wp2_with (go_at_call 27; refine c.mono ?_; rintro e w' ⟨rfl, rfl⟩)
    go_ret2
    exact ⟨rfl, hall _, grown_set _ _ _⟩
  all_goals
    rw [hr] at c ⊢
    clear hr
    go_enter Try.func19, Try.ntmps19
    go_wp2_with (go_at_call 27; refine c.mono ?_; rintro e w' ⟨rfl, rfl⟩)
    go_ret2
    exact ⟨rfl, hsame, grown_refl _ _⟩

theorem ret2s {x x' : ByteArray} {y y' : Int} (h : x = x') (h2 : y = y') : Ending.returned (.tuple #[.string x, .int .i64 y]) = .returned (.tuple #[.string x', .int .i64 y']) := by rw [h, h2]

theorem behind (s : ByteArray) (n x : Nat) (h : n ≤ s.size) (hx : x ≤ s.size - n) : (s.extract n s.size).extract x (s.size - n) = s.extract (n + x) s.size := by
  rw [ByteArray.extract_extract]
  congr 1
  omega
theorem front (s : ByteArray) (n x : Nat) (h : n ≤ s.size) (hx : x ≤ s.size - n) : (s.extract n s.size).extract 0 x = s.extract n (n + x) := by
  rw [ByteArray.extract_extract]
  congr 1
  omega

set_option maxRecDepth 100000 in
theorem left_any (b : Nat) (s : ByteArray) (w : World) (h : Rat w b s) (hs : s.size ≤ maxLen) :
    Calls Try.prog 20 #[.pointer (some ⟨b, 0, none⟩)] w fun e w' => e = .returned (.int .i64 (s.size : Int)) ∧ w = w' := by
  obtain ⟨h1, h2⟩ := h
  unfold maxLen at hs
  go_enter Try.func20, Try.ntmps20
  go_wp2
  go_ret
  exact ⟨rfl, rfl⟩

/-- The error of Done. -/
def dn (n : Nat) : Int := if n = 0 then 0 else 5
set_option maxRecDepth 100000 in
theorem uint_nil (w : World) : Calls Try.prog 19 #[.pointer none] w fun e w' => e = .returned (.tuple #[.int .i64 0, .int .i64 1]) ∧ w = w' := by
  go_enter Try.func19, Try.ntmps19
  go_wp2
  go_ret2
  exact ⟨rfl, rfl⟩
set_option maxRecDepth 100000 in
theorem left_nil (w : World) : Calls Try.prog 20 #[.pointer none] w fun e w' => e = .returned (.int .i64 0) ∧ w = w' := by
  go_enter Try.func20, Try.ntmps20
  go_wp2
  go_ret
  exact ⟨rfl, rfl⟩
set_option maxRecDepth 100000 in
theorem new_any (s : ByteArray) (w : World) :
    Calls Try.prog 18 #[.string s] w fun e w' => e = .returned (.pointer (some ⟨w.heap.size, 0, none⟩)) ∧ w.alloc (.cells #[.string s] 62) = w' := by
  go_enter Try.func18, Try.ntmps18
  go_wp2
  go_ret
  exact ⟨rfl, rfl⟩
theorem rat_new (w : World) (s : ByteArray) : Rat (w.alloc (.cells #[.string s] 62)) w.heap.size s := by
  constructor
  · go_simp
  · go_simp

end Go.Proofs.Ytpfgijmhoenpkaa.Wr
