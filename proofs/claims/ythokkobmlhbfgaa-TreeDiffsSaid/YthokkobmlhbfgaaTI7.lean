/- Sub; whether something stands below a path; Same: contracts. -/
import Derived.Test.YthokkobmlhbfgaaTI6
namespace Go.Proofs.Ythokkobmlhbfgaa.En
open Go.RowKit Tx Pm Pr
set_option linter.unusedVariables false

/-- A box of one cell stands in every later world. -/
theorem box_of {w0 W : World} {v : Value} {t : TypeId} (h : Below (w0.alloc (.cells #[v] t)).heap.size (w0.alloc (.cells #[v] t)) W) : W.cell? ⟨w0.heap.size, 0, none⟩ = some v := by
  have hlt : w0.heap.size < (w0.alloc (.cells #[v] t)).heap.size := by simp
  refine (h.cell (p := ⟨w0.heap.size, _, none⟩) hlt).trans ?_
  simp

set_option maxRecDepth 100000 in
set_option maxHeartbeats 1000000 in
theorem subC_any (bx : Nat) (q p : ByteArray) (W : World) (hx : W.cell? ⟨bx, 0, none⟩ = some (.string p)) (hq : q.size ≤ 8000000000000) (hp : p.size ≤ 8000000000000) :
    Calls Try.prog 35 (#[.string q] ++ #[.pointer (some ⟨bx, 0, none⟩)]) W fun e w' => e = .returned (.bool (und q.data.toList p.data.toList)) ∧ Below W.heap.size W w' := by
  have cu := fun W => pUnder_any q p W (by omega) (by omega)
  obtain ⟨U, hU⟩ : ∃ U, U = und q.data.toList p.data.toList := ⟨_, rfl⟩
  rw [← hU] at cu
  rw [← hU]
  clear hU
  go_enter Try.func35, Try.ntmps35
  go_wp2_with fail
  go_at_call 36
  refine (cu _).mono ?_
  rintro e w1 ⟨rfl, hb1⟩
  go_wp2_with fail
  go_ret
  exact ⟨rfl, hb1⟩

set_option maxRecDepth 100000 in
set_option maxHeartbeats 1000000 in
theorem subI_any (a : Option Addr) (n c : Nat) (l : List Et) (p : ByteArray) (w : World) (hl : Ents w a n l) (hn : n ≤ 1000000000000) (hs : Small l) (hp : p.size ≤ 8000000000000) :
    Calls Try.prog 15 #[.slice a n c, .string p] w (SubTo l p w) := by
  have hB : ∀ o, Below w.heap.size w (w.alloc o) := fun o => (Below.refl _ _).alloc (Nat.le_refl _) _
  have eg : ∀ args w, (callFunc 35 args).run Try.prog w = .ok (.enter 35 args) w := enters_of Try.func35 (by kernel_rfl) rfl
  have cp := part_any 35 #[.pointer (some ⟨w.heap.size, 0, none⟩)] eg (fun x => und x.path.data.toList p.data.toList) a n c l (w.alloc (.cells #[.string p] 9)) (hl.below (hB _)) hn
    (fun W x hW hx => subC_any w.heap.size x.path p W (box_of hW) (hs x hx).1 hp)
  clear hl hs
  go_enter Try.func15, Try.ntmps15
  go_wp2_with fail
  go_at_call 34
  refine cp.mono ?_
  rintro e w1 ⟨v, rfl, hown, hb1⟩
  go_wp2_with fail
  go_ret
  refine ⟨v, rfl, row_base hown (by simp), below_call (hB _) hb1⟩

set_option maxRecDepth 100000 in
set_option maxHeartbeats 1000000 in
theorem replC_any (bx : Nat) (q p : ByteArray) (W : World) (hx : W.cell? ⟨bx, 0, none⟩ = some (.string p)) (hq : q.size ≤ 8000000000000) (hp : p.size ≤ 8000000000000) :
    Calls Try.prog 47 (#[.string q] ++ #[.pointer (some ⟨bx, 0, none⟩)]) W fun e w' => e = .returned (.bool (!und q.data.toList p.data.toList)) ∧ Below W.heap.size W w' := by
  have cu := fun W => pUnder_any q p W (by omega) (by omega)
  obtain ⟨U, hU⟩ : ∃ U, U = und q.data.toList p.data.toList := ⟨_, rfl⟩
  rw [← hU] at cu
  rw [← hU]
  clear hU
  go_enter Try.func47, Try.ntmps47
  go_wp2_with fail
  go_at_call 36
  refine (cu _).mono ?_
  rintro e w1 ⟨rfl, hb1⟩
  go_wp2_with fail
  go_ret
  exact ⟨rfl, hb1⟩

/-- Does an entry stand below a path? -/
def bel (p : ByteArray) (x : Et) : Bool := !decide (x.path = p) && und x.path.data.toList p.data.toList
set_option maxRecDepth 100000 in
set_option maxHeartbeats 1000000 in
theorem belC_any (bx : Nat) (x : Et) (p : ByteArray) (W : World) (hbx : bx < W.heap.size) (hx : W.cell? ⟨bx, 0, none⟩ = some (.string p)) (hq : x.path.size ≤ 8000000000000) (hp : p.size ≤ 8000000000000) :
    Calls Try.prog 83 (#[ev x] ++ #[.pointer (some ⟨bx, 0, none⟩)]) W fun e w' => e = .returned (.bool (bel p x)) ∧ Below W.heap.size W w' := by
  have hB : ∀ o, Below W.heap.size W (W.alloc o) := fun o => (Below.refl _ _).alloc (Nat.le_refl _) _
  obtain ⟨P, K, D⟩ := x
  simp only at hq
  have d1 := ((hB (.cells #[.string P, .int .i64 K, .string D] 51)).cell (p := ⟨bx, 0, none⟩) hbx).trans hx
  have cu := fun W => pUnder_any P p W (by omega) (by omega)
  have hne : bx ≠ W.heap.size := by omega
  unfold ev
  by_cases hP : P = p
  · have hv : bel p ⟨P, K, D⟩ = false := by rw [bel, decide_eq_true hP]; rfl
    have e : (P.toList == p.toList) = true := by rw [hP]; exact beq_self_eq_true _
    rw [hv]
    clear hv hP cu
    go_enter Try.func83, Try.ntmps83
    go_wp2_with fail
    go_ret
    exact ⟨rfl, hB _⟩
  · have hv : bel p ⟨P, K, D⟩ = und P.data.toList p.data.toList := by rw [bel, decide_eq_false hP]; rfl
    have e := bytes_ne hP
    rw [hv]
    obtain ⟨U, hU⟩ : ∃ U, U = und P.data.toList p.data.toList := ⟨_, rfl⟩
    rw [← hU] at cu
    rw [← hU]
    clear hv hP hU
    go_enter Try.func83, Try.ntmps83
    go_wp2_with fail
    go_at_call 36
    refine (cu _).mono ?_
    rintro e w1 ⟨rfl, hb1⟩
    go_wp2_with fail
    go_ret
    exact ⟨rfl, below_call (hB _) hb1⟩

def IdxTo (l : List Et) (f : Et → Bool) (w : World) (e : Ending) (w' : World) : Prop := ∃ r : Int, (e = .returned (.int .i64 r) ∧ (decide (0 ≤ r) = l.any f)) ∧ -1 ≤ r ∧ r ≤ 9223372036854775807 ∧ Below w.heap.size w w'
set_option maxRecDepth 100000 in
set_option maxHeartbeats 4000000 in
theorem indexE_any (g : Nat) (cb : Array Value) (eg : ∀ args w, (callFunc g args).run Try.prog w = .ok (.enter g args) w) (f : Et → Bool) (a : Option Addr) (n c : Nat) (l : List Et) (w : World) (hl : Ents w a n l) (hn : n ≤ 1000000000000)
    (hf : ∀ W x, Below w.heap.size w W → x ∈ l → Calls Try.prog g (#[ev x] ++ cb) W fun e w' => e = .returned (.bool (f x)) ∧ Below W.heap.size W w') :
    Calls Try.prog 103 #[.slice a n c, .func (.func g) #[] cb] w (IdxTo l f w) := by
  obtain ⟨hln, hc⟩ := hl
  by_cases h0 : n = 0
  · subst h0
    obtain rfl : l = [] := List.length_eq_zero_iff.1 hln
    clear hc hf
    go_enter Try.func103, Try.ntmps103
    go_wp2_with fail
    go_loop [8] (fun i => i = .int .i64 0) (fun _ => 0)
    case atStart => exact rfl
    case round =>
      obtain rfl := hrel
      go_wp2_with fail
      go_ret
      exact ⟨-1, ⟨rfl, rfl⟩, by omega, by omega, Below.refl _ _⟩
  · obtain ⟨b, off, rfl, hb, hc⟩ := hc.resolve_left h0
    have HC := Lib.hid hc
    have HF := Lib.hid hf
    clear hc h0 hf
    go_enter Try.func103, Try.ntmps103
    go_wp2_with fail
    go_loopw [8] (fun i wr => ∃ k : Nat, k ≤ n ∧ i = .int .i64 k ∧ Hid ((l.take k).any f = false) ∧ Below w.heap.size w wr) (fun i _ => n - (intOf i).toNat)
    case atStart => exact ⟨0, Nat.zero_le _, rfl, rfl, Below.refl _ _⟩
    case round =>
      obtain ⟨k, hk, rfl, hT, hB⟩ := hrel
      by_cases hlt : k < n
      · obtain ⟨x, hx⟩ : ∃ x, l[k]? = some x := ⟨_, List.getElem?_eq_getElem (by omega)⟩
        obtain ⟨c1, c2, c3⟩ := HC.out k x hx
        have d1 := (hB.cell (p := ⟨b, _, none⟩) hb).trans c1
        have d2 := (hB.cell (p := ⟨b, _, none⟩) hb).trans c2
        have d3 := (hB.cell (p := ⟨b, _, none⟩) hb).trans c3
        have cu := HF.out _ x hB (List.mem_of_getElem? hx)
        have hltz : (k : Int) < (n : Int) := by omega
        have hhit : f x = true → l.any f = true := fun h => List.any_eq_true.2 ⟨x, List.mem_of_getElem? hx, h⟩
        have hmiss : f x = false → (l.take (k + 1)).any f = false := fun h => by rw [take_snoc hx, List.any_append, hT.out]; simp [h]
        obtain ⟨F, hF⟩ : ∃ F, F = f x := ⟨_, rfl⟩
        rw [← hF] at cu hhit hmiss
        obtain ⟨P, K, D⟩ := x
        unfold ev at cu
        simp only at d1 d2 d3 cu
        clear hF hT hx c1 c2 c3 hln
        cases F with
        | true =>
          have HH := Lib.hid (hhit rfl)
          clear hhit hmiss
          go_wp2_with fail
          go_at_fn g
          refine cu.mono ?_
          rintro e w1 ⟨rfl, hb1⟩
          go_wp2_with fail
          go_ret
          exact ⟨(k : Int), ⟨rfl, by rw [HH.out]; exact decide_eq_true (by omega)⟩, by omega, by omega, below_call hB hb1⟩
        | false =>
          have HM := Lib.hid (hmiss rfl)
          clear hhit hmiss
          go_wp2_with fail
          go_at_fn g
          refine cu.mono ?_
          rintro e w1 ⟨rfl, hb1⟩
          go_wp2_with fail
          go_roundw
          case rel => exact ⟨k + 1, by omega, by go_num, HM, below_call hB hb1⟩
          case measure => simp [intOf]; omega
      · obtain rfl : k = n := by omega
        have h := hT.out
        rw [List.take_of_length_le (by omega)] at h
        have HE := Lib.hid h
        clear hT h hln
        go_wp2_with fail
        go_ret
        exact ⟨-1, ⟨rfl, by rw [HE.out]; rfl⟩, by omega, by omega, hB⟩

set_option maxRecDepth 100000 in
set_option maxHeartbeats 1000000 in
theorem containsE_any (g : Nat) (cb : Array Value) (eg : ∀ args w, (callFunc g args).run Try.prog w = .ok (.enter g args) w) (f : Et → Bool) (a : Option Addr) (n c : Nat) (l : List Et) (w : World) (hl : Ents w a n l) (hn : n ≤ 1000000000000)
    (hf : ∀ W x, Below w.heap.size w W → x ∈ l → Calls Try.prog g (#[ev x] ++ cb) W fun e w' => e = .returned (.bool (f x)) ∧ Below W.heap.size W w') :
    Calls Try.prog 82 #[.slice a n c, .func (.func g) #[] cb] w fun e w' => e = .returned (.bool (l.any f)) ∧ Below w.heap.size w w' := by
  have ci := indexE_any g cb eg f a n c l w hl hn hf
  obtain ⟨R, hR⟩ : ∃ R, R = l.any f := ⟨_, rfl⟩
  rw [← hR]
  have HR := Lib.hid hR
  clear hR hl hf
  go_enter Try.func82, Try.ntmps82
  go_wp2_with fail
  go_at_call 103
  refine ci.mono ?_
  rintro e w1 ⟨r, ⟨rfl, hr⟩, h1, h2, hb1⟩
  have HRR := Lib.hid hr
  clear hr
  go_wp2_with fail
  go_ret
  exact ⟨by rw [HR.out, ← HRR.out]; rfl, hb1⟩

set_option maxRecDepth 100000 in
set_option maxHeartbeats 1000000 in
theorem anyBelow_any (a : Option Addr) (n c : Nat) (l : List Et) (p : ByteArray) (w : World) (hl : Ents w a n l) (hn : n ≤ 1000000000000) (hs : Small l) (hp : p.size ≤ 8000000000000) :
    Calls Try.prog 61 #[.slice a n c, .string p] w fun e w' => e = .returned (.bool (l.any (bel p))) ∧ Below w.heap.size w w' := by
  have hB : ∀ o, Below w.heap.size w (w.alloc o) := fun o => (Below.refl _ _).alloc (Nat.le_refl _) _
  have eg : ∀ args w, (callFunc 83 args).run Try.prog w = .ok (.enter 83 args) w := enters_of Try.func83 (by kernel_rfl) rfl
  have cp := containsE_any 83 #[.pointer (some ⟨w.heap.size, 0, none⟩)] eg (bel p) a n c l (w.alloc (.cells #[.string p] 9)) (hl.below (hB _)) hn
    (fun W x hW hx => belC_any w.heap.size x p W (by have := hW.size; simp at this; omega) (box_of hW) (hs x hx).1 hp)
  obtain ⟨R, hR⟩ : ∃ R, R = l.any (bel p) := ⟨_, rfl⟩
  rw [← hR] at cp
  rw [← hR]
  clear hl hs hR
  go_enter Try.func61, Try.ntmps61
  go_wp2_with fail
  go_at_call 82
  refine cp.mono ?_
  rintro e w1 ⟨rfl, hb1⟩
  go_wp2_with fail
  go_ret
  exact ⟨rfl, below_call (hB _) hb1⟩
end Go.Proofs.Ythokkobmlhbfgaa.En
