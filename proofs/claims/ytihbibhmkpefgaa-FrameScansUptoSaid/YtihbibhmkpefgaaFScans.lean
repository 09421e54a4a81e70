/-
  FrameScans, up to the bound: for every string (of at most 1048576 letters or so): frame.Scan tells the frames, the place and the error that the document's own Scan tells, and each call makes new memory: the law returns true, and writes nothing that was there. Condition: the bound of the second form.
-/
import Derived.Test.YtihbibhmkpefgaaFAwake
import Derived.Test.YtihbibhmkpefgaaApart3
import Derived.ProofKit
import Derived.OpenShut
import Derived.ShutString
import Derived.SizedLaws
import Derived.ChangeOld
import Derived.JoinedCond
import Derived.Deep.CondSized
namespace Go.Proofs.Ytihbibhmkpefgaa.frameScans
open Go.ChangeMaps (open_string shut_string)
open Go.ChangeShapes Go.WideShapes Go.ChangeAt Go.RowKit Wm Wr Fm Fr Ap
set_option linter.unusedVariables false

/-- What Scan answers: a list of its own. -/
def ScanOwn (l : List ByteArray) (m f : Nat) (w : World) (e : Ending) (w' : World) : Prop := ∃ av cv, e = .returned (.tuple #[.slice av l.length cv, .int .i64 (m : Int), .int .i64 (f : Int)]) ∧ Texts w' w.heap.size (.slice av l.length cv) l ∧ Strs w' av l.length l ∧ Below w.heap.size w w'
theorem scan_own {f : FuncId} {s : ByteArray} {l : List ByteArray} {m g : Nat} (h : sc s 0 = (l, m, g)) (w : World) (hc : Calls Try.prog f #[.string s] w (ScanTo s w)) : Calls Try.prog f #[.string s] w (ScanOwn l m g w) := by
  refine hc.mono fun e w' ⟨v, he, htx, hb⟩ => ?_
  rw [h] at he htx
  obtain ⟨a, c, hv, hst, _, _⟩ := htx.form
  rw [hv] at htx
  exact ⟨a, c, by rw [he, hv], htx, hst, hb⟩
theorem texts_row {w : World} {B B2 n c : Nat} {a : Option Addr} {l : List ByteArray} (h : Texts w B (.slice a n c) l) (hB : B2 ≤ B) (hn : l.length = n) : w.ownsRow B2 9 1 (.slice a n c) n (l.map sv) := by
  subst hn
  refine ⟨h.1, ?_⟩
  rcases h.2 with h0 | ⟨g, cap, cur, hv, hg, r⟩
  · exact .inl h0
  · exact .inr ⟨g, cap, cur, hv, by omega, r⟩
theorem texts_block {w : World} {B n c : Nat} {a : Option Addr} {x : Addr} {l : List ByteArray} (h : Texts w B (.slice a n c) l) (ha : a = some x) : B ≤ x.block ∧ x.block < w.heap.size := by
  rcases h.2 with ⟨hv, _⟩ | ⟨g, cap, cur, hv, hg, hh, _⟩
  · injection hv with h1
    rw [ha] at h1
    cases h1
  · injection hv with h1
    rw [ha] at h1
    injection h1 with h1
    subst h1
    exact ⟨hg, (Array.getElem?_eq_some_iff.1 hh).1⟩

/-- Two lists, as Apart takes them. -/
def two (a b : Option Addr) (n ca cb bo B : Nat) : Ls := { m := 2, A := fun j => if j = 0 then a else b, N := fun _ => n, C := fun j => if j = 0 then ca else cb, bo := bo, B := B }
theorem two_apart {w : World} {a b : Option Addr} {n ca cb B Ba Bb : Nat} {l : List ByteArray} (hn : n ≤ 1048576) (hl : l.length = n) (ha : Texts w Ba (.slice a n ca) l) (hb : Texts w Bb (.slice b n cb) l) (h1 : B ≤ Ba) (h2 : B ≤ Bb) (hsep : ∀ x, a = some x → x.block < Bb) (hBw : B ≤ w.heap.size) :
    Calls Try.prog 20 #[.slice (some ⟨w.heap.size, 0, none⟩) 2 2] (w.alloc (.cells #[.slice a n ca, .slice b n cb] 33)) fun e w' => e = .returned (.bool true) ∧ Below B (w.alloc (.cells #[.slice a n ca, .slice b n cb] 33)) w' := by
  have ra := (texts_row ha h1 hl).alloc (.cells #[.slice a n ca, .slice b n cb] 33)
  have rb := (texts_row hb h2 hl).alloc (.cells #[.slice a n ca, .slice b n cb] 33)
  refine apart_any (two a b n ca cb w.heap.size B) 2 _ (by show 2 ≤ 1048576; omega) (fun j _ => hn) (by rw [World.size_alloc]; show B ≤ _; omega) (by rw [World.size_alloc]; show w.heap.size < _; omega) hBw ?_ ?_ ?_
  · have key : ∀ x, a = some x → b ≠ some x := fun x h3 h4 => by
      have h5 := hsep x h3
      have h6 := (texts_block hb h4).1
      omega
    refine ⟨fun i j hi hj hne x h3 => ?_, fun j hj g h3 => ?_⟩
    · have hi : i < 2 := hi
      have hj : j < 2 := hj
      show (if j = 0 then a else b) ≠ some x
      have h3 : (if i = 0 then a else b) = some x := h3
      by_cases hi0 : i = 0
      · rw [if_pos hi0] at h3
        rw [if_neg (by omega)]
        exact key x h3
      · rw [if_neg hi0] at h3
        rw [if_pos (by omega)]
        exact fun h4 => key x h4 h3
    · have h3 : (if j = 0 then a else b) = some ⟨g, 0, none⟩ := h3
      show g ≠ w.heap.size
      by_cases hj0 : j = 0
      · rw [if_pos hj0] at h3
        have : g < w.heap.size := (texts_block ha h3).2
        omega
      · rw [if_neg hj0] at h3
        have : g < w.heap.size := (texts_block hb h3).2
        omega
  · intro j hj
    have hj : j < 2 := hj
    match j, hj with
    | 0, _ => show (w.alloc _).cell? ⟨w.heap.size, 0, none⟩ = _; go_simp; exact ⟨rfl, rfl, rfl⟩
    | 1, _ => show (w.alloc _).cell? ⟨w.heap.size, 1, none⟩ = _; go_simp; exact ⟨rfl, rfl, rfl⟩
  · intro j hj
    have hj : j < 2 := hj
    match j, hj with
    | 0, _ => exact ⟨l.map sv, ra, fun k hk hh => by omega⟩
    | 1, _ => exact ⟨l.map sv, rb, fun k hk hh => by omega⟩

set_option maxRecDepth 100000 in
set_option maxHeartbeats 4000000 in
theorem walk (s : ByteArray) (w : World) (hs : s.size ≤ 1048576) :
    Calls Try.prog 5 #[.string s] w fun e w' => e = .returned (.bool true) ∧ Below w.heap.size w w' := by
  obtain ⟨l, m, f, h⟩ := trip (sc s 0)
  have hll : l.length ≤ 1048576 := by
    have hsc := sc_count s
    rw [h] at hsc
    have : l.length ≤ s.size := hsc
    omega
  have c1 := fun W => scan_own h W (fScan_any s W (by omega))
  have c2 := fun W => scan_own h W (refScan_any s W (by omega))
  obtain ⟨n, hn⟩ : ∃ n, n = l.length := ⟨_, rfl⟩
  clear h
  go_enter Try.func5, Try.ntmps5
  go_wp2_with fail
  go_at_call 17
  refine (c1 _).mono ?_
  rintro e w1 ⟨a, ca, rfl, ta, sa, hb1⟩
  go_wp2_with fail
  go_at_call 18
  refine (c2 _).mono ?_
  rintro e w2 ⟨b, cb, rfl, tb, sb, hb2⟩
  go_wp2_with fail
  go_at_call 17
  refine (c1 _).mono ?_
  rintro e w3 ⟨c, cc, rfl, tc, sc', hb3⟩
  rw [← hn] at ta tb tc sa sb sc' ⊢
  have hnn : n ≤ 1048576 := by omega
  have HNN := Lib.hid hn
  clear hn hll
  have ta2 := ta.below hb2
  have sa2 := sa.below hb2
  have ta3 := ta2.below hb3
  have sa3 := sa2.below hb3
  have sb3 := sb.below hb3
  have hB2 := below_call hb1 hb2
  have hB3 := below_call hB2 hb3
  have hsep : ∀ x, a = some x → x.block < w2.heap.size := fun x hx => Nat.lt_of_lt_of_le (texts_block ta hx).2 hb2.size
  have HS := Lib.hid hsep
  clear ta sa ta2 sa2 sb tb c1 c2 hsep
  go_wp2_with fail
  go_at_call 8
  refine (awake_any2 _).mono ?_
  rintro e w4 ⟨rfl, hb4⟩
  have cs1 := same_true a b n ca cb l w4 (by omega) (sa3.below hb4) (sb3.below hb4)
  go_wp2_with fail
  go_at_call 19
  refine cs1.mono ?_
  rintro e w5 ⟨rfl, hb5⟩
  have cs2 := same_true c b n cc cb l w5 (by omega) ((sc'.below hb4).below hb5) ((sb3.below hb4).below hb5)
  go_wp2_with fail
  go_at_call 19
  refine cs2.mono ?_
  rintro e w6 ⟨rfl, hb6⟩
  have ta6 := ((ta3.below hb4).below hb5).below hb6
  have tc6 := ((tc.below hb4).below hb5).below hb6
  have hB6 := below_call (below_call (below_call hB3 hb4) hb5) hb6
  have ca6 := two_apart (B := w.heap.size) hnn HNN.out.symm ta6 tc6 (Nat.le_refl _) hB2.size HS.out hB6.size
  have hBn := below_new (o := .cells #[.slice a n ca, .slice c n cc] 33) hB6
  clear cs1 cs2 sa3 sb3 sc' ta3 tc ta6 tc6 hB2 hB3 hB6 hb1 hb2 hb3 hb4 hb5 hb6 HS
  go_wp2_with fail
  go_at_call 20
  refine ca6.mono ?_
  rintro e w7 ⟨rfl, hb7⟩
  go_wp2_with fail
  go_ret
  exact ⟨rfl, hBn.trans hb7⟩

theorem own : ownKnob Try.prog.godebug = none := by kernel_rfl
theorem laidOut : laidOutB Try.prog = true := by kernel_rfl

theorem contract (H : Type) (enc : TypeId × Value → H) (W : World) (base : Nat) (args : Array Value) (ds gs : List (DataW H)) (before : List MemPlace)
    (hval0 : ∀ (j : Nat) t v, Try.f5.params[j]? = some t → args[j]? = some v → Value.okWide Try.prog W .any base t v)
    (hW : DataW.Whole enc Try.prog Try.f5.params.toList Rows.frameScansSpec.vars false W args.toList ds gs before)
    (hk : Rows.uptoSmall H (ds ++ gs) = true)
    (hsz0 : (DataW.weightsEach Try.prog (Try.f5.params.toList ++ Rows.frameScansSpec.plain.varTypes Try.prog) (ds ++ gs)).all (· ≤ reachBytes) = true) :
    Calls Try.prog 5 args W fun e W' => ∃ v, e = .returned v ∧ Rows.frameScansSpec.post enc Try.prog Try.f5 false true false false W args v W' := by
  have hval : ∀ (j : Nat) t v, Try.f5.params[j]? = some t → args[j]? = some v → Value.okWide Try.prog W .any base t v := hval0
  have hsz := hsz0
  clear hsz0
  have hW' := hW
  obtain ⟨p, q, hA0, hV, rfl, hfz, hnd⟩ := hW
  have hA : DataW.TrodAll enc Try.prog W 0 (fun _ => true) true Try.f5.params.toList args.toList ds p := hA0
  rw [Try.params5] at hA hval hsz
  obtain ⟨v0, vs0, d0, ds0, p0, q0, hargs, rfl, rfl, h0, r0⟩ := trodAll_cons hA
  obtain ⟨rfl, rfl, rfl⟩ := trodAll_nil r0
  obtain rfl : args = #[v0] := by cases args; simp_all
  obtain ⟨rfl, rfl⟩ := trodVars_none hV
  obtain ⟨s0, rfl, rfl, rfl, w0⟩ := open_string Try.underlying9 (hval 0 9 v0 rfl rfl) h0
  have hreach0 : s0.size ≤ 140737488351232 := by
    have := sized_string hsz (j := 0) (t := 9) rfl rfl
    simpa [reachBytes] using this
  clear hA0 hval0
  have hbulk : s0.size ≤ 1048576 := by
    have h := of_decide_eq_true hk
    rw [List.append_nil] at h
    have x : Rows.uptoBulkAll [DataW.lit (H := H) (.string s0.data.toList)] = s0.data.toList.length + 1 + 0 := rfl
    rw [x, len_l] at h
    omega
  refine (walk s0 W hbulk).mono fun e W' ⟨he, bel⟩ => ?_
  subst he
  exact ⟨_, rfl, _, _, _, [], _, [], hW', trodAll_mk1 (shut_bool Try.underlying4 _), (trodAll_cons_mk (shut_string Try.underlying9 w0) trodAll_mk0), rfl, bel.frame _, fun h => by cases h⟩

set_option maxRecDepth 100000 in
theorem lifted (os : Os) (started : os.Started) (H : Type) (enc : TypeId × Value → H) (F : Stop.Interp) :
    ReturnsInHanded {} Try.checked os 5 .any ((Rows.OpenSpec.upto Rows.frameScansSpec).pre6 enc Try.prog Try.f5 Rows.frameScansUptoRow.domain false) (((Rows.OpenSpec.upto Rows.frameScansSpec).at F).post enc Try.prog Try.f5 false true false false) := by
  refine returnsInHanded_of_cond_sized (C := Try.checked) (s := Rows.OpenSpec.upto Rows.frameScansSpec) (k := Rows.uptoSmall) rfl own started (by kernel_rfl) Try.func5
    (OpenSpec.witness (enc := enc) (C := Try.checked) (s := Rows.OpenSpec.upto Rows.frameScansSpec) (k := Rows.uptoSmall) rfl false ⟨#[], #[.string ByteArray.empty], []⟩ 8 (by kernel_rfl) (by kernel_rfl) (by kernel_rfl)
      (x := ([.lit (.string [])], [], [])) (by kernel_rfl) rfl (by kernel_rfl)) ?_
  intro W base args ds gs before hval hW _ hk hsz0 _
  exact contract H enc W base args ds gs before hval hW hk hsz0

theorem over : Rows.frameScansUptoRow.holds Try.pinned (Rows.OpenSpec.upto Rows.frameScansSpec) :=
  OpenClaim.holds_of_cond 5 Try.f5 rfl rfl rfl rfl rfl rfl rfl ⟨rfl, rfl, rfl, rfl, rfl⟩ rfl rfl rfl rfl rfl (by kernel_rfl) Try.func5 (by kernel_rfl)
    (of_decide_eq_true (by kernel_rfl)) (by unfold Func.isWrapper; first | (rw [if_pos (by decide +kernel)]; kernel_rfl) | (rw [if_neg (by decide +kernel)]; exact ⟨rfl, rfl⟩))
    (fun os started H enc _ F => lifted os started H enc F)

end Go.Proofs.Ytihbibhmkpefgaa.frameScans
namespace Go.Proofs.Ytihbibhmkpefgaa
theorem frameScansUpto_holds : Rows.FrameScansUptoSaid := frameScans.over
#print axioms frameScansUpto_holds
end Go.Proofs.Ytihbibhmkpefgaa
