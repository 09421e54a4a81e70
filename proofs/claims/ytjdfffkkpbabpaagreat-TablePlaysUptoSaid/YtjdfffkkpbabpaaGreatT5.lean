/- Texts of this seat, one behind the other. -/
import Derived.Test.YtjdfffkkpbabpaaGreatT4
import Derived.Laws.ResultCell
import Derived.Laws.AppendOwn
namespace Go.Proofs.YtjdfffkkpbabpaaGreat.Wl
open Go.RowKit Tx Pm Dk Fr
set_option linter.unusedVariables false
theorem new_mid {O : World → (Nat → Prop) → St → Prop} {T : TypeId} {b : Nat} {p : ByteArray} {v : Value} {w W : World} {F : Nat → Prop} {x : Jst} {o : Obj} (h : Mid O T b w.heap.size p v (w.alloc o) (fun i => F i ∨ i = w.heap.size) x W) : LeftA (Jn O T b w.heap.size p) w F x W := left_new h.left
set_option maxRecDepth 100000 in
set_option maxHeartbeats 4000000 in
theorem rOpen_any (b : Nat) {F : Nat → Prop} {s : St} (p : ByteArray) (w : World) (h : RefAt b w F s) (o : OpenOk s p) (hn : s.L.length ≤ 1000000000) (hz : (readS s p).1.size ≤ 8796093022207) (hp : p.size ≤ 1000) :
    Calls Tryz.prog 36 #[.pointer (some ⟨b, 0, none⟩), .string p] w (OpenTo (RefAt b) 86 b p w F (openS s p)) := by
  have kk := ref_kind b
  have hJ := jat_new kk 86 b p h
  obtain ⟨o1, o2⟩ := o
  obtain ⟨ob, hob⟩ : ∃ ob : Obj, ob = .cells #[.pointer (some ⟨b, 0, none⟩), .string p, .slice none 0 0, .bool false] 86 := ⟨_, rfl⟩
  rw [← hob] at hJ
  have ck := (rw_kind p hJ.dsk hn).mono fun e w' (hh : _ ∧ w.alloc ob = w') => (⟨hh.1, same_belowW hh.2⟩ : _ ∧ Below (w.alloc ob).heap.size (w.alloc ob) w')
  have HOB := Lib.hid hob
  have hlast : ∀ {v : Value} {x : Jst} {W : World}, Mid (RefAt b) 86 b w.heap.size p v (w.alloc ob) (fun i => F i ∨ i = w.heap.size) x W → LeftA (Jn (RefAt b) 86 b w.heap.size p) w F x W := fun hh => new_mid hh
  have HLAST : Hid (∀ (v : Value) (x : Jst) (W : World), Mid (RefAt b) 86 b w.heap.size p v (w.alloc ob) (fun i => F i ∨ i = w.heap.size) x W → LeftA (Jn (RefAt b) 86 b w.heap.size p) w F x W) := Lib.hid (fun v x W hh => hlast hh)
  clear hlast
  by_cases hk : kind s.L p = 0
  · obtain ⟨k1, s1, h1⟩ : ∃ k s1, fillS s p ⟨#[]⟩ = (k, s1) := ⟨_, _, rfl⟩
    rw [open_0 hk h1]
    have c1 : ∀ W, Below (w.alloc ob).heap.size (w.alloc ob) W → Calls Tryz.prog 47 #[.pointer (some ⟨b, 0, none⟩), .string p, .string ⟨#[]⟩] W fun e w' => e = .returned (.int .i64 (k1 : Nat)) ∧ Mid (RefAt b) 86 b w.heap.size p (.slice none 0 0) (w.alloc ob) (fun i => F i ∨ i = w.heap.size) ⟨s1, [], false⟩ w' := fun W hW => (Mid.of kk hJ hW).call kk (fun hd => by
      have := rFill_any b p ⟨#[]⟩ W hd (o1 hk) hp (by decide)
      rw [h1] at this
      exact this)
    have HC1 := Lib.hid c1
    rw [hk] at ck
    clear h o1 o2 hk h1 hJ c1 hob
    by_cases e1 : k1 ≠ 0
    · have n1 := Dk.ne_eq e1
      have HE := Lib.hid e1
      clear e1
      go_enter Tryz.func36, Tryz.ntmps36
      go_wp2_with fail
      go_at_call 30
      rw [← HOB.out]
      refine ck.mono ?_
      rintro e w4 ⟨rfl, hb4⟩
      go_wp2_with fail
      go_at_call 47
      refine (HC1.out _ hb4).mono ?_
      rintro e w5 ⟨rfl, h5⟩
      go_wp2_with fail
      go_ret2
      unfold OpenTo
      exact .inr ⟨HE.out, rfl, jn_disk (HLAST.out _ _ _ h5)⟩
    · obtain rfl : k1 = 0 := by omega
      clear e1
      go_enter Tryz.func36, Tryz.ntmps36
      go_wp2_with fail
      go_at_call 30
      rw [← HOB.out]
      refine ck.mono ?_
      rintro e w4 ⟨rfl, hb4⟩
      go_wp2_with fail
      go_at_call 47
      refine (HC1.out _ hb4).mono ?_
      rintro e w5 ⟨rfl, h5⟩
      go_wp2_with fail
      go_ret2
      unfold OpenTo
      exact .inl ⟨rfl, _, rfl, HLAST.out _ _ _ h5⟩
  · have nk := Dk.ne_eq hk
    obtain ⟨q1, q2, q3⟩ := o2 hk
    obtain ⟨t, k, hrd⟩ : ∃ t k, readS s p = (t, k) := ⟨_, _, rfl⟩
    have cr := fun W (hW : Below (w.alloc ob).heap.size (w.alloc ob) W) => rw_read p (hJ.below kk hW).dsk hn
    rw [hrd] at q1 q2 q3 cr hz
    simp only at q1 q2 q3 cr hz
    have HCR := Lib.hid cr
    clear cr
    by_cases hk0 : k ≠ 0
    · rw [open_1 hk hrd hk0]
      have n0 := Dk.ne_eq hk0
      have HE := Lib.hid hk0
      have hfin : ∀ W, Below (w.alloc ob).heap.size (w.alloc ob) W → Dk.Left (RefAt b) w F s W := fun W hW => jn_disk (HLAST.out _ _ _ (Mid.of kk hJ hW))
      have HF := Lib.hid hfin
      generalize kind s.L p = K at ck nk
      clear h o1 o2 hk hfin hrd hk0 q1 q2 q3 hJ hob hz
      go_enter Tryz.func36, Tryz.ntmps36
      go_wp2_with fail
      go_at_call 30
      rw [← HOB.out]
      refine ck.mono ?_
      rintro e w4 ⟨rfl, hb4⟩
      go_wp2_with fail
      go_at_call 32
      refine (HCR.out _ hb4).mono ?_
      rintro e w5 ⟨rfl, h5⟩
      go_wp2_with fail
      go_ret2
      unfold OpenTo
      exact .inr ⟨HE.out, rfl, HF.out _ (below_call hb4 h5)⟩
    · obtain rfl : k = 0 := by omega
      obtain ⟨R, g, e, hsc⟩ := Fm.trip (Fm.sc t 0)
      have hgl := sc_le t
      have cs := fun W => Fr.refScan_any t W hz
      unfold Fr.ScanTo at cs
      rw [hsc] at q2 q3 hgl cs
      simp only at q2 q3 hgl cs
      have HH := Lib.hid hJ
      have hgz : (g : Int) ≤ (t.size : Int) := by omega
      have hts : (t.size : Int) ≤ 1000000000000000000 := by omega
      by_cases he : e = 0
      · subst he
        rw [open_2 hk hrd hsc]
        generalize kind s.L p = K at ck nk
        clear h o1 o2 hk hrd hk0 q1 q2 q3 hsc hJ hob hz
        go_enter Tryz.func36, Tryz.ntmps36
        go_wp2_with fail
        go_at_call 30
        rw [← HOB.out]
        refine ck.mono ?_
        rintro e w4 ⟨rfl, hb4⟩
        go_wp2_with fail
        go_at_call 32
        refine (HCR.out _ hb4).mono ?_
        rintro e w5 ⟨rfl, h5⟩
        have hb5 := below_call hb4 h5
        go_wp2_with fail
        go_at_call 83
        refine (cs _).mono ?_
        rintro e w6 ⟨v, rfl, htx, hb6'⟩
        have hb6 := below_call hb5 hb6'
        obtain ⟨⟨g1, g2⟩, ⟨g3, g4⟩, hfin⟩ := HH.out.scanned kk (dm := false) hb6 htx hb5.size
        obtain ⟨a6, c6, hv⟩ := own_form htx
        obtain ⟨n6, hn6⟩ : ∃ n6, n6 = R.length := ⟨_, rfl⟩
        rw [← hn6] at hv
        have HFIN := Lib.hid hfin
        clear hn6 htx hfin hb6' h5
        subst hv
        go_wp2_with fail
        go_ret2
        unfold OpenTo
        exact .inl ⟨rfl, _, rfl, HLAST.out _ _ _ HFIN.out⟩
      · have hfk := q3 he
        obtain ⟨k1, s1, h1⟩ : ∃ k s1, fillS s p (t.extract 0 g) = (k, s1) := ⟨_, _, rfl⟩
        rw [open_3 hk hrd hsc he h1]
        have hxs : (t.extract 0 g).size ≤ 1000000000000000000 := by rw [ByteArray.size_extract]; omega
        have c1 : ∀ (v : Value) (dm : Bool) (W : World), Mid (RefAt b) 86 b w.heap.size p v (w.alloc ob) (fun i => F i ∨ i = w.heap.size) ⟨s, R, dm⟩ W → Calls Tryz.prog 47 #[.pointer (some ⟨b, 0, none⟩), .string p, .string (t.extract 0 g)] W fun e w' => e = .returned (.int .i64 (k1 : Nat)) ∧ Mid (RefAt b) 86 b w.heap.size p v (w.alloc ob) (fun i => F i ∨ i = w.heap.size) ⟨s1, R, dm⟩ w' := fun v dm W hW => hW.call (x := ⟨s, R, dm⟩) kk (fun hd => by
          have := rFill_any b p (t.extract 0 g) W hd hfk hp hxs
          rw [h1] at this
          exact this)
        have HC1 := Lib.hid c1
        have ne0 := Dk.ne_eq he
        have hbad : bad e = (decide (e = 6) || decide (e = 3)) := rfl
        generalize kind s.L p = K at ck nk
        clear h o1 o2 hk hrd hk0 q1 q2 q3 hsc hJ hob hz hfk h1 hxs c1
        have n6 : ((e : Int) == 6) = decide (e = 6) := by by_cases h : e = 6 <;> simp [h]; omega
        have n3 : ((e : Int) == 3) = decide (e = 3) := by by_cases h : e = 3 <;> simp [h]; omega
        rw [hbad]
        clear hbad he
        generalize decide (e = 6) = b6 at n6 ⊢
        generalize decide (e = 3) = b3 at n3 ⊢
        by_cases e1 : k1 ≠ 0
        · have n1 := Dk.ne_eq e1
          have HE := Lib.hid e1
          clear e1
          go_enter Tryz.func36, Tryz.ntmps36
          go_wp2_with fail
          go_at_call 30
          rw [← HOB.out]
          refine ck.mono ?_
          rintro e w4 ⟨rfl, hb4⟩
          go_wp2_with fail
          go_at_call 32
          refine (HCR.out _ hb4).mono ?_
          rintro e w5 ⟨rfl, h5⟩
          have hb5 := below_call hb4 h5
          go_wp2_with fail
          go_at_call 83
          refine (cs _).mono ?_
          rintro e w6 ⟨v, rfl, htx, hb6'⟩
          have hb6 := below_call hb5 hb6'
          obtain ⟨⟨g1, g2⟩, ⟨g3, g4⟩, hfin⟩ := HH.out.scanned kk (dm := b6 || b3) hb6 htx hb5.size
          obtain ⟨a6, c6, hv⟩ := own_form htx
          obtain ⟨n6, hn6⟩ : ∃ n6, n6 = R.length := ⟨_, rfl⟩
          rw [← hn6] at hv
          have HFIN := Lib.hid hfin
          clear hn6 htx hfin hb6' h5
          subst hv
          have hc6 := HC1.out _ _ _ HFIN.out
          cases b6
          · cases b3
            · rw [show (false || false) = false from rfl] at hc6 ⊢
              go_wp2_with fail
              go_at_call 47
              refine hc6.mono ?_
              rintro e w7 ⟨rfl, h7⟩
              go_wp2_with fail
              go_ret2
              unfold OpenTo
              exact .inr ⟨HE.out, rfl, jn_disk (HLAST.out _ _ _ h7)⟩
            · rw [show (false || true) = true from rfl] at hc6 ⊢
              go_wp2_with fail
              go_at_call 47
              refine hc6.mono ?_
              rintro e w7 ⟨rfl, h7⟩
              go_wp2_with fail
              go_ret2
              unfold OpenTo
              exact .inr ⟨HE.out, rfl, jn_disk (HLAST.out _ _ _ h7)⟩
          · cases b3
            · rw [show (true || false) = true from rfl] at hc6 ⊢
              go_wp2_with fail
              go_at_call 47
              refine hc6.mono ?_
              rintro e w7 ⟨rfl, h7⟩
              go_wp2_with fail
              go_ret2
              unfold OpenTo
              exact .inr ⟨HE.out, rfl, jn_disk (HLAST.out _ _ _ h7)⟩
            · rw [show (true || true) = true from rfl] at hc6 ⊢
              go_wp2_with fail
        · obtain rfl : k1 = 0 := by omega
          clear e1
          go_enter Tryz.func36, Tryz.ntmps36
          go_wp2_with fail
          go_at_call 30
          rw [← HOB.out]
          refine ck.mono ?_
          rintro e w4 ⟨rfl, hb4⟩
          go_wp2_with fail
          go_at_call 32
          refine (HCR.out _ hb4).mono ?_
          rintro e w5 ⟨rfl, h5⟩
          have hb5 := below_call hb4 h5
          go_wp2_with fail
          go_at_call 83
          refine (cs _).mono ?_
          rintro e w6 ⟨v, rfl, htx, hb6'⟩
          have hb6 := below_call hb5 hb6'
          obtain ⟨⟨g1, g2⟩, ⟨g3, g4⟩, hfin⟩ := HH.out.scanned kk (dm := b6 || b3) hb6 htx hb5.size
          obtain ⟨a6, c6, hv⟩ := own_form htx
          obtain ⟨n6, hn6⟩ : ∃ n6, n6 = R.length := ⟨_, rfl⟩
          rw [← hn6] at hv
          have HFIN := Lib.hid hfin
          clear hn6 htx hfin hb6' h5
          subst hv
          have hc6 := HC1.out _ _ _ HFIN.out
          cases b6
          · cases b3
            · rw [show (false || false) = false from rfl] at hc6 ⊢
              go_wp2_with fail
              go_at_call 47
              refine hc6.mono ?_
              rintro e w7 ⟨rfl, h7⟩
              go_wp2_with fail
              go_ret2
              unfold OpenTo
              exact .inl ⟨rfl, _, rfl, HLAST.out _ _ _ h7⟩
            · rw [show (false || true) = true from rfl] at hc6 ⊢
              go_wp2_with fail
              go_at_call 47
              refine hc6.mono ?_
              rintro e w7 ⟨rfl, h7⟩
              go_wp2_with fail
              go_ret2
              unfold OpenTo
              exact .inl ⟨rfl, _, rfl, HLAST.out _ _ _ h7⟩
          · cases b3
            · rw [show (true || false) = true from rfl] at hc6 ⊢
              go_wp2_with fail
              go_at_call 47
              refine hc6.mono ?_
              rintro e w7 ⟨rfl, h7⟩
              go_wp2_with fail
              go_ret2
              unfold OpenTo
              exact .inl ⟨rfl, _, rfl, HLAST.out _ _ _ h7⟩
            · rw [show (true || true) = true from rfl] at hc6 ⊢
              go_wp2_with fail
end Go.Proofs.YtjdfffkkpbabpaaGreat.Wl

namespace Go.Proofs.YtjdfffkkpbabpaaGreat.Tb
open Go.RowKit Tx Pm Dk Wm Wr
set_option linter.unusedVariables false
set_option linter.unusedSimpArgs false
set_option linter.unnecessarySimpa false
structure Ch where
  key : ByteArray
  val : ByteArray
  gone : Bool
def ch0 : Ch := ⟨⟨#[]⟩, ⟨#[]⟩, false⟩
def norm (c : Ch) : Ch := if c.gone then ⟨c.key, ⟨#[]⟩, true⟩ else c
def parts (c : Ch) : List ByteArray := if c.gone then [vs 0, ts c.key] else [vs 1, ts c.key, ts c.val]
def recP (l : List Ch) : List ByteArray := vs l.length :: l.flatMap parts
def rec7 (l : List Ch) : ByteArray := cat (recP l)
def tl (t : ByteArray) : List UInt8 := vb t.size ++ t.data.toList
def pl (c : Ch) : List UInt8 := if c.gone then vb 0 ++ tl c.key else vb 1 ++ (tl c.key ++ tl c.val)
def recl (l : List Ch) : List UInt8 := vb l.length ++ l.flatMap pl
theorem ts_tl (t : ByteArray) : (ts t).data.toList = tl t := by rw [ts, ByteArray.data_append, Array.toList_append, vs_list]; rfl
theorem parts_pl (c : Ch) : ((parts c).map (·.data.toList)).flatten = pl c := by
  unfold parts pl
  split
  · simp only [List.map_cons, List.map_nil, List.flatten_cons, List.flatten_nil, List.append_nil, ts_tl, vs_list]
  · simp only [List.map_cons, List.map_nil, List.flatten_cons, List.flatten_nil, List.append_nil, ts_tl, vs_list]
theorem all_pl : ∀ l : List Ch, ((l.flatMap parts).map (·.data.toList)).flatten = l.flatMap pl
  | [] => rfl
  | c :: l => by rw [List.flatMap_cons, List.flatMap_cons, List.map_append, List.flatten_append, parts_pl, all_pl l]
theorem rec7_is (l : List Ch) : rec7 l = ⟨(recl l).toArray⟩ := by
  unfold rec7 cat recP recl
  rw [List.map_cons, List.flatten_cons, all_pl, vs_list]
theorem rec7_list (l : List Ch) : (rec7 l).data.toList = recl l := by rw [rec7_is]
theorem rec7_size (l : List Ch) : (rec7 l).size = (recl l).length := by rw [← Wm.len_l, rec7_list]
theorem tl_len {t : ByteArray} (h : t.size ≤ 9223372036854775807) : (tl t).length ≤ t.size + 10 := by
  have := vb_len (x := t.size) (by omega)
  rw [tl, List.length_append, Wm.len_l]
  omega
theorem pl_len {c : Ch} (hk : c.key.size ≤ 9223372036854775807) (hv : c.val.size ≤ 9223372036854775807) : (pl c).length ≤ c.key.size + c.val.size + 40 := by
  have h1 := tl_len hk
  have h2 := tl_len hv
  have h3 := vb_len (x := 0) (by omega)
  have h4 := vb_len (x := 1) (by omega)
  unfold pl
  split <;> simp only [List.length_append] <;> omega
def wt (l : List Ch) : Nat := (l.map fun c => c.key.size + c.val.size + 40).sum
theorem wt_cons (c : Ch) (l : List Ch) : wt (c :: l) = c.key.size + c.val.size + 40 + wt l := by unfold wt; rw [List.map_cons, List.sum_cons]
theorem wt_append (a b : List Ch) : wt (a ++ b) = wt a + wt b := by unfold wt; rw [List.map_append, List.sum_append]
theorem wt_mem {l : List Ch} {c : Ch} (h : c ∈ l) : c.key.size + c.val.size + 40 ≤ wt l := by
  induction l with
  | nil => cases h
  | cons x l ih =>
    rw [wt_cons]
    rcases List.mem_cons.1 h with rfl | h
    · omega
    · have := ih h; omega
theorem wt_len (l : List Ch) : l.length * 40 ≤ wt l := by
  induction l with
  | nil => exact Nat.zero_le _
  | cons x l ih => rw [wt_cons, List.length_cons]; omega
theorem all_len : ∀ {l : List Ch}, wt l ≤ 9223372036854775807 → (l.flatMap pl).length ≤ wt l
  | [], _ => Nat.zero_le _
  | c :: l, h => by
    rw [wt_cons] at h ⊢
    have h1 := pl_len (c := c) (by omega) (by omega)
    have h2 := all_len (l := l) (by omega)
    rw [List.flatMap_cons, List.length_append]
    omega
theorem rec7_le {l : List Ch} (h : wt l ≤ 9223372036854775807) : (rec7 l).size ≤ wt l + 10 := by
  have h1 := wt_len l
  have h2 := vb_len (x := l.length) (by omega)
  have h3 := all_len h
  rw [rec7_size, recl, List.length_append]
  omega
def rdOp (s : ByteArray) : Ch × Nat × Nat :=
  if (rdU s.data.toList).2.2 ≠ 0 then (ch0, 0, (rdU s.data.toList).2.2) else
  if 1 < (rdU s.data.toList).1 then (ch0, 0, 3) else
  if (rdT (s.extract (rdU s.data.toList).2.1 s.size)).2.2 ≠ 0 then (ch0, 0, (rdT (s.extract (rdU s.data.toList).2.1 s.size)).2.2) else
  if (rdU s.data.toList).1 = 0 then (⟨(rdT (s.extract (rdU s.data.toList).2.1 s.size)).1, ⟨#[]⟩, true⟩, (rdU s.data.toList).2.1 + (rdT (s.extract (rdU s.data.toList).2.1 s.size)).2.1, 0) else
  if (rdT (s.extract ((rdU s.data.toList).2.1 + (rdT (s.extract (rdU s.data.toList).2.1 s.size)).2.1) s.size)).2.2 ≠ 0 then (ch0, 0, (rdT (s.extract ((rdU s.data.toList).2.1 + (rdT (s.extract (rdU s.data.toList).2.1 s.size)).2.1) s.size)).2.2) else
  (⟨(rdT (s.extract (rdU s.data.toList).2.1 s.size)).1, (rdT (s.extract ((rdU s.data.toList).2.1 + (rdT (s.extract (rdU s.data.toList).2.1 s.size)).2.1) s.size)).1, false⟩,
    (rdU s.data.toList).2.1 + (rdT (s.extract (rdU s.data.toList).2.1 s.size)).2.1 + (rdT (s.extract ((rdU s.data.toList).2.1 + (rdT (s.extract (rdU s.data.toList).2.1 s.size)).2.1) s.size)).2.1, 0)
section
variable {s : ByteArray} {k m n n2 e : Nat} {t t2 : ByteArray}
theorem rdOp_1 (h : rdU s.data.toList = (k, m, e)) (he : e ≠ 0) : rdOp s = (ch0, 0, e) := by unfold rdOp; rw [h]; exact if_pos he
theorem rdOp_2 (h : rdU s.data.toList = (k, m, 0)) (hk : 1 < k) : rdOp s = (ch0, 0, 3) := by
  unfold rdOp; rw [h, if_neg (fun hh => hh rfl)]; exact if_pos hk
theorem rdOp_3 (h : rdU s.data.toList = (k, m, 0)) (hk : k ≤ 1) (h1 : rdT (s.extract m s.size) = (t, n, e)) (he : e ≠ 0) : rdOp s = (ch0, 0, e) := by
  unfold rdOp; rw [h, if_neg (fun hh => hh rfl), if_neg (by show ¬ 1 < k; omega)]
  simp only [h1]
  exact if_pos he
theorem rdOp_4 (h : rdU s.data.toList = (0, m, 0)) (h1 : rdT (s.extract m s.size) = (t, n, 0)) : rdOp s = (⟨t, ⟨#[]⟩, true⟩, m + n, 0) := by
  unfold rdOp; rw [h, if_neg (fun hh => hh rfl), if_neg (by show ¬ 1 < 0; omega)]
  simp only [h1]
  rfl
theorem rdOp_5 (h : rdU s.data.toList = (1, m, 0)) (h1 : rdT (s.extract m s.size) = (t, n, 0)) (h2 : rdT (s.extract (m + n) s.size) = (t2, n2, e)) (he : e ≠ 0) : rdOp s = (ch0, 0, e) := by
  unfold rdOp; rw [h, if_neg (fun hh => hh rfl), if_neg (by show ¬ 1 < 1; omega)]
  simp only [h1, h2]
  rw [if_neg (fun hh => hh rfl), if_neg (by decide)]
  exact if_pos he
theorem rdOp_6 (h : rdU s.data.toList = (1, m, 0)) (h1 : rdT (s.extract m s.size) = (t, n, 0)) (h2 : rdT (s.extract (m + n) s.size) = (t2, n2, 0)) : rdOp s = (⟨t, t2, false⟩, m + n + n2, 0) := by
  unfold rdOp; rw [h, if_neg (fun hh => hh rfl), if_neg (by show ¬ 1 < 1; omega)]
  simp only [h1, h2]
  rfl
end
theorem rdOp_cases (s : ByteArray) :
    (∃ k m e, rdU s.data.toList = (k, m, e) ∧ e ≠ 0 ∧ rdOp s = (ch0, 0, e)) ∨
    (∃ k m, rdU s.data.toList = (k, m, 0) ∧ 1 < k ∧ rdOp s = (ch0, 0, 3)) ∨
    (∃ k m t n e, rdU s.data.toList = (k, m, 0) ∧ k ≤ 1 ∧ rdT (s.extract m s.size) = (t, n, e) ∧ e ≠ 0 ∧ rdOp s = (ch0, 0, e)) ∨
    (∃ m t n, rdU s.data.toList = (0, m, 0) ∧ rdT (s.extract m s.size) = (t, n, 0) ∧ rdOp s = (⟨t, ⟨#[]⟩, true⟩, m + n, 0)) ∨
    (∃ m t n t2 n2 e, rdU s.data.toList = (1, m, 0) ∧ rdT (s.extract m s.size) = (t, n, 0) ∧ rdT (s.extract (m + n) s.size) = (t2, n2, e) ∧ e ≠ 0 ∧ rdOp s = (ch0, 0, e)) ∨
    (∃ m t n t2 n2, rdU s.data.toList = (1, m, 0) ∧ rdT (s.extract m s.size) = (t, n, 0) ∧ rdT (s.extract (m + n) s.size) = (t2, n2, 0) ∧ rdOp s = (⟨t, t2, false⟩, m + n + n2, 0)) := by
  obtain ⟨k, m, e, h⟩ := Fm.trip (rdU s.data.toList)
  by_cases he : e = 0
  · subst he
    by_cases hk : 1 < k
    · exact .inr (.inl ⟨k, m, h, hk, rdOp_2 h hk⟩)
    · obtain ⟨t, n, e, h1⟩ := Fm.trip (rdT (s.extract m s.size))
      by_cases he : e = 0
      · subst he
        rcases (show k = 0 ∨ k = 1 by omega) with rfl | rfl
        · exact .inr (.inr (.inr (.inl ⟨m, t, n, h, h1, rdOp_4 h h1⟩)))
        · obtain ⟨t2, n2, e, h2⟩ := Fm.trip (rdT (s.extract (m + n) s.size))
          by_cases he : e = 0
          · subst he
            exact .inr (.inr (.inr (.inr (.inr ⟨m, t, n, t2, n2, h, h1, h2, rdOp_6 h h1 h2⟩))))
          · exact .inr (.inr (.inr (.inr (.inl ⟨m, t, n, t2, n2, e, h, h1, h2, he, rdOp_5 h h1 h2 he⟩))))
      · exact .inr (.inr (.inl ⟨k, m, t, n, e, h, by omega, h1, he, rdOp_3 h (by omega) h1 he⟩))
  · exact .inl ⟨k, m, e, h, he, rdOp_1 h he⟩
def rdN (s : ByteArray) : Nat → Nat → List Ch × Nat × Nat
  | 0, a => ([], a, 0)
  | n + 1, a => if (rdOp (s.extract a s.size)).2.2 ≠ 0 then ([], a, (rdOp (s.extract a s.size)).2.2) else
    ((rdOp (s.extract a s.size)).1 :: (rdN s n (a + (rdOp (s.extract a s.size)).2.1)).1, (rdN s n (a + (rdOp (s.extract a s.size)).2.1)).2.1, (rdN s n (a + (rdOp (s.extract a s.size)).2.1)).2.2)
theorem rdN_bad {s : ByteArray} {n a m e : Nat} {c : Ch} (h : rdOp (s.extract a s.size) = (c, m, e)) (he : e ≠ 0) : rdN s (n + 1) a = ([], a, e) := by rw [rdN, h]; exact if_pos he
theorem rdN_one {s : ByteArray} {n a m : Nat} {c : Ch} (h : rdOp (s.extract a s.size) = (c, m, 0)) : rdN s (n + 1) a = (c :: (rdN s n (a + m)).1, (rdN s n (a + m)).2.1, (rdN s n (a + m)).2.2) := by rw [rdN, h]; exact if_neg (fun hh => hh rfl)
def opsS (s : ByteArray) : List Ch × Nat :=
  if (rdU s.data.toList).2.2 ≠ 0 then ([], (rdU s.data.toList).2.2) else
  if (rdN s (rdU s.data.toList).1 (rdU s.data.toList).2.1).2.2 ≠ 0 then ([], (rdN s (rdU s.data.toList).1 (rdU s.data.toList).2.1).2.2) else
  if (rdN s (rdU s.data.toList).1 (rdU s.data.toList).2.1).2.1 < s.size then ([], 5) else ((rdN s (rdU s.data.toList).1 (rdU s.data.toList).2.1).1, 0)
section
variable {s : ByteArray} {k m a e : Nat} {l : List Ch}
theorem opsS_1 (h : rdU s.data.toList = (k, m, e)) (he : e ≠ 0) : opsS s = ([], e) := by unfold opsS; rw [h]; exact if_pos he
theorem opsS_2 (h : rdU s.data.toList = (k, m, 0)) (h1 : rdN s k m = (l, a, e)) (he : e ≠ 0) : opsS s = ([], e) := by
  unfold opsS; rw [h, if_neg (fun hh => hh rfl)]; simp only [h1]; exact if_pos he
theorem opsS_3 (h : rdU s.data.toList = (k, m, 0)) (h1 : rdN s k m = (l, a, 0)) (ha : a < s.size) : opsS s = ([], 5) := by
  unfold opsS; rw [h, if_neg (fun hh => hh rfl)]; simp only [h1]; rw [if_neg (fun hh => hh rfl)]; exact if_pos ha
theorem opsS_4 (h : rdU s.data.toList = (k, m, 0)) (h1 : rdN s k m = (l, a, 0)) (ha : ¬ a < s.size) : opsS s = (l, 0) := by
  unfold opsS; rw [h, if_neg (fun hh => hh rfl)]; simp only [h1]; rw [if_neg (fun hh => hh rfl)]; exact if_neg ha
end
theorem rdT_back (t : ByteArray) (m : List UInt8) (h : t.size ≤ 9223372036854775807) : rdT ⟨(tl t ++ m).toArray⟩ = (t, (tl t).length, 0) := by
  have := Fr.rdT_front t m h
  rw [tl, List.append_assoc, this, List.length_append, Wm.len_l]
theorem rdU_back (x : Nat) (r : List UInt8) (h : x ≤ 9223372036854775807) : rdU (vb x ++ r) = (x, (vb x).length, 0) := by
  unfold rdU
  rw [rd_vb x r (by omega), if_neg (by show ¬ (0 = 0 ∧ 9223372036854775807 < x); omega)]
theorem ext_at (p r : List UInt8) : (⟨(p ++ r).toArray⟩ : ByteArray).extract p.length (⟨(p ++ r).toArray⟩ : ByteArray).size = ⟨r.toArray⟩ := by
  apply ByteArray.ext
  rw [ByteArray.data_extract]
  apply Array.toList_inj.1
  simp [ByteArray.size]
theorem rdOp_back (c : Ch) (r : List UInt8) (hk : c.key.size ≤ 9223372036854775807) (hv : c.val.size ≤ 9223372036854775807) : rdOp ⟨(pl c ++ r).toArray⟩ = (norm c, (pl c).length, 0) := by
  obtain ⟨key, val, gone⟩ := c
  cases gone with
  | true =>
    have e : pl ⟨key, val, true⟩ ++ r = vb 0 ++ (tl key ++ r) := by unfold pl; simp
    have e1 : pl ⟨key, val, true⟩ = vb 0 ++ tl key := rfl
    rw [e, e1]
    have h0 : rdU (⟨(vb 0 ++ (tl key ++ r)).toArray⟩ : ByteArray).data.toList = (0, (vb 0).length, 0) := rdU_back 0 _ (by omega)
    have h1 : rdT ((⟨(vb 0 ++ (tl key ++ r)).toArray⟩ : ByteArray).extract (vb 0).length (⟨(vb 0 ++ (tl key ++ r)).toArray⟩ : ByteArray).size) = (key, (tl key).length, 0) := by rw [ext_at]; exact rdT_back key r hk
    rw [rdOp_4 h0 h1, List.length_append]
    rfl
  | false =>
    have e : pl ⟨key, val, false⟩ ++ r = vb 1 ++ (tl key ++ (tl val ++ r)) := by unfold pl; simp
    have e1 : pl ⟨key, val, false⟩ = vb 1 ++ (tl key ++ tl val) := rfl
    rw [e, e1]
    have h0 : rdU (⟨(vb 1 ++ (tl key ++ (tl val ++ r))).toArray⟩ : ByteArray).data.toList = (1, (vb 1).length, 0) := rdU_back 1 _ (by omega)
    have h1 : rdT ((⟨(vb 1 ++ (tl key ++ (tl val ++ r))).toArray⟩ : ByteArray).extract (vb 1).length (⟨(vb 1 ++ (tl key ++ (tl val ++ r))).toArray⟩ : ByteArray).size) = (key, (tl key).length, 0) := by rw [ext_at]; exact rdT_back key _ hk
    have h2 : rdT ((⟨(vb 1 ++ (tl key ++ (tl val ++ r))).toArray⟩ : ByteArray).extract ((vb 1).length + (tl key).length) (⟨(vb 1 ++ (tl key ++ (tl val ++ r))).toArray⟩ : ByteArray).size) = (val, (tl val).length, 0) := by
      rw [← List.append_assoc, ← List.length_append, ext_at]; exact rdT_back val r hv
    rw [rdOp_6 h0 h1 h2, List.length_append, List.length_append, Nat.add_assoc]
    rfl
theorem rdN_back : ∀ (l : List Ch) (p : List UInt8), (∀ c ∈ l, c.key.size ≤ 9223372036854775807 ∧ c.val.size ≤ 9223372036854775807) → rdN ⟨(p ++ l.flatMap pl).toArray⟩ l.length p.length = (l.map norm, (p ++ l.flatMap pl).length, 0)
  | [], p, _ => by
    rw [List.flatMap_nil, List.append_nil]
    rfl
  | c :: l, p, h => by
    have h1 := h c List.mem_cons_self
    have hb := rdOp_back c (l.flatMap pl) h1.1 h1.2
    have h2 : rdOp ((⟨(p ++ (c :: l).flatMap pl).toArray⟩ : ByteArray).extract p.length (⟨(p ++ (c :: l).flatMap pl).toArray⟩ : ByteArray).size) = (norm c, (pl c).length, 0) := by
      rw [ext_at, List.flatMap_cons]
      exact hb
    have ih := rdN_back l (p ++ pl c) (fun x hx => h x (List.mem_cons_of_mem _ hx))
    have e : p ++ (c :: l).flatMap pl = (p ++ pl c) ++ l.flatMap pl := by rw [List.flatMap_cons, List.append_assoc]
    rw [List.length_cons, rdN_one h2, e, ← List.length_append, ih]
    rfl
theorem ops_back {l : List Ch} (h : wt l ≤ 9223372036854775807) : opsS (rec7 l) = (l.map norm, 0) := by
  have hl := wt_len l
  have h0 : rdU (rec7 l).data.toList = (l.length, (vb l.length).length, 0) := by
    rw [rec7_list, recl]
    exact rdU_back _ _ (by omega)
  have h1 := rdN_back l (vb l.length) (fun c hc => by have := wt_mem hc; omega)
  have e : (⟨(vb l.length ++ l.flatMap pl).toArray⟩ : ByteArray) = rec7 l := (rec7_is l).symm
  rw [e] at h1
  exact opsS_4 h0 h1 (by rw [rec7_size]; exact Nat.lt_irrefl _)
theorem ext_list (s : ByteArray) (a : Nat) : (s.extract a s.size).data.toList = s.data.toList.drop a := by
  rw [ByteArray.data_extract, Array.toList_extract, List.extract_eq_take_drop, List.take_of_length_le]
  rw [List.length_drop, Wm.len_l]
  omega
theorem pl_gone (k v : ByteArray) : pl ⟨k, v, true⟩ = vb 0 ++ tl k := by unfold pl; exact if_pos rfl
theorem pl_give (k v : ByteArray) : pl ⟨k, v, false⟩ = vb 1 ++ (tl k ++ tl v) := by unfold pl; exact if_neg (fun h => by cases h)
theorem rdT_ok {s t : ByteArray} {n : Nat} (h : rdT s = (t, n, 0)) : n ≤ s.size ∧ s.data.toList.take n = tl t ∧ 0 < n := by
  have hle : n ≤ s.size ∧ 0 < n := by
    rcases rdT_cases s with ⟨e, he, _, _, h3⟩ | ⟨x, m, _, _, _, _, h3⟩ | ⟨x, m, hu, hn, hx, h3⟩
    · rw [h3] at h
      simp only [Prod.mk.injEq] at h
      exact absurd h.2.2 he
    · rw [h3] at h
      simp at h
    · rw [h3] at h
      simp only [Prod.mk.injEq] at h
      have := (rdU_ok hu).2.2.1
      omega
  refine ⟨hle.1, ?_, hle.2⟩
  have h1 := congrArg (fun x : ByteArray => x.data.toList) (Fr.ts_front h)
  simp only [ts_tl] at h1
  rw [← h1, ByteArray.data_extract, Array.toList_extract]
  simp [List.extract_eq_take_drop]
theorem rdOp_ok {s : ByteArray} {c : Ch} {n : Nat} (h : rdOp s = (c, n, 0)) : n ≤ s.size ∧ s.data.toList.take n = pl c ∧ 1 < n ∧ norm c = c := by
  rcases rdOp_cases s with ⟨k, m, e, _, he, h2⟩ | ⟨k, m, _, _, h2⟩ | ⟨k, m, t, n1, e, _, _, _, he, h2⟩ | ⟨m, t, n1, h0, h1, h2⟩ | ⟨m, t, n1, t2, n2, e, _, _, _, he, h2⟩ | ⟨m, t, n1, t2, n2, h0, h1, h3, h2⟩
  · rw [h2] at h; simp only [Prod.mk.injEq] at h; exact absurd h.2.2 he
  · rw [h2] at h; simp at h
  · rw [h2] at h; simp only [Prod.mk.injEq] at h; exact absurd h.2.2 he
  · rw [h2] at h
    simp only [Prod.mk.injEq] at h
    obtain ⟨rfl, rfl, _⟩ := h
    obtain ⟨a1, a2, a3, _⟩ := rdU_ok h0
    obtain ⟨b1, b2, b3⟩ := rdT_ok h1
    rw [Wm.len_l] at a1
    have hs : (s.extract m s.size).size = s.size - m := by simp
    rw [hs] at b1
    rw [ext_list] at b2
    refine ⟨by omega, ?_, by omega, rfl⟩
    rw [List.take_add, b2, ← a2, pl_gone]
  · rw [h2] at h; simp only [Prod.mk.injEq] at h; exact absurd h.2.2 he
  · rw [h2] at h
    simp only [Prod.mk.injEq] at h
    obtain ⟨rfl, rfl, _⟩ := h
    obtain ⟨a1, a2, a3, _⟩ := rdU_ok h0
    obtain ⟨b1, b2, b3⟩ := rdT_ok h1
    obtain ⟨c1, c2, c3⟩ := rdT_ok h3
    rw [Wm.len_l] at a1
    have hs : (s.extract m s.size).size = s.size - m := by simp
    have hs2 : (s.extract (m + n1) s.size).size = s.size - (m + n1) := by simp
    rw [hs] at b1
    rw [hs2] at c1
    rw [ext_list] at b2 c2
    refine ⟨by omega, ?_, by omega, rfl⟩
    rw [List.take_add, c2, List.take_add, b2, ← a2, List.append_assoc, pl_give]
theorem rdN_ok (s : ByteArray) (n : Nat) : ∀ (a : Nat) (l : List Ch) (b : Nat), rdN s n a = (l, b, 0) → a ≤ s.size → a ≤ b ∧ b ≤ s.size ∧ s.data.toList.take b = s.data.toList.take a ++ l.flatMap pl ∧ l.length = n ∧ l.map norm = l ∧ 2 * n ≤ b - a := by
  induction n with
  | zero =>
    intro a l b h ha
    rw [rdN] at h
    simp only [Prod.mk.injEq] at h
    obtain ⟨rfl, rfl, _⟩ := h
    exact ⟨Nat.le_refl _, ha, by simp, rfl, rfl, by omega⟩
  | succ n ih =>
    intro a l b h ha
    obtain ⟨c, m, e, h1⟩ := Fm.trip (rdOp (s.extract a s.size))
    by_cases he : e = 0
    · subst he
      obtain ⟨l2, b2, e2, h2⟩ := Fm.trip (rdN s n (a + m))
      rw [rdN_one h1, h2] at h
      simp only [Prod.mk.injEq] at h
      obtain ⟨rfl, rfl, rfl⟩ := h
      obtain ⟨c1, c2, c3, c4⟩ := rdOp_ok h1
      have hs : (s.extract a s.size).size = s.size - a := by simp
      rw [hs] at c1
      rw [ext_list] at c2
      obtain ⟨d1, d2, d3, d4, d5, d6⟩ := ih (a + m) l2 b2 h2 (by omega)
      refine ⟨by omega, d2, ?_, by rw [List.length_cons, d4], by rw [List.map_cons, c4, d5], by omega⟩
      rw [d3, List.take_add, c2, List.flatMap_cons, List.append_assoc]
    · rw [rdN_bad h1 he] at h
      simp only [Prod.mk.injEq] at h
      exact absurd h.2.2 he
theorem opsS_ok {s : ByteArray} {l : List Ch} (h : opsS s = (l, 0)) : rec7 l = s ∧ l.map norm = l ∧ 2 * l.length ≤ s.size := by
  obtain ⟨k, m, e, h0⟩ := Fm.trip (rdU s.data.toList)
  by_cases he : e = 0
  · subst he
    obtain ⟨l2, b, e, h1⟩ := Fm.trip (rdN s k m)
    by_cases he : e = 0
    · subst he
      by_cases hb : b < s.size
      · rw [opsS_3 h0 h1 hb] at h
        simp at h
      · rw [opsS_4 h0 h1 hb] at h
        simp only [Prod.mk.injEq] at h
        obtain ⟨rfl, _⟩ := h
        obtain ⟨a1, a2, a3, _⟩ := rdU_ok h0
        rw [Wm.len_l] at a1
        obtain ⟨d1, d2, d3, d4, d5, d6⟩ := rdN_ok s k m l2 b h1 a1
        refine ⟨?_, d5, by omega⟩
        have hbs : b = s.size := by omega
        apply ByteArray.ext
        apply Array.toList_inj.1
        rw [rec7_list, recl, d4, a2, ← d3, hbs, ← Wm.len_l, List.take_length]
    · rw [opsS_2 h0 h1 he] at h
      simp only [Prod.mk.injEq] at h
      exact absurd h.2 he
  · rw [opsS_1 h0 he] at h
    simp only [Prod.mk.injEq] at h
    exact absurd h.2 he
end Go.Proofs.YtjdfffkkpbabpaaGreat.Tb

namespace Go.Proofs.YtjdfffkkpbabpaaGreat.Tb
open Go.RowKit Tx Pm Dk Wm Wr Wl
set_option linter.unusedVariables false
set_option linter.unusedSimpArgs false
set_option linter.unnecessarySimpa false
def rw7 (k v : ByteArray) : It := { mk k with data := v }
def app (L : List It) (c : Ch) : List It := if c.gone then drop L c.key else ins L (rw7 c.key c.val)
def all7 (L : List It) (l : List Ch) : List It := l.foldl app L
theorem all7_cons (L : List It) (c : Ch) (l : List Ch) : all7 L (c :: l) = all7 (app L c) l := rfl
theorem all7_append (L : List It) (a b : List Ch) : all7 L (a ++ b) = all7 (all7 L a) b := by unfold all7; rw [List.foldl_append]
theorem all7_snoc (L : List It) (a : List Ch) (c : Ch) : all7 L (a ++ [c]) = app (all7 L a) c := by rw [all7_append]; rfl
theorem find_app7 (L : List It) (c : Ch) (p : ByteArray) : find (app L c) p = if c.key = p then (if c.gone then none else some (rw7 c.key c.val)) else find L p := by
  unfold app
  cases hg : c.gone with
  | true =>
    by_cases h : c.key = p
    · subst h; rw [if_pos rfl, if_pos rfl]; exact find_drop_same L _
    · rw [if_pos rfl, if_neg h]; exact find_drop L h
  | false =>
    by_cases h : c.key = p
    · subst h; rw [if_neg (by decide), if_pos rfl]; exact find_ins_same L rfl
    · rw [if_neg (by decide), if_neg h]; exact find_ins L (x := rw7 c.key c.val) h
theorem rises_app {L : List It} (h : Rises L) (c : Ch) : Rises (app L c) := by
  unfold app
  split
  · exact rises_drop _ h
  · exact rises_ins h
theorem rises_all {L : List It} (h : Rises L) (l : List Ch) : Rises (all7 L l) := by
  induction l generalizing L with
  | nil => exact h
  | cons c l ih => exact ih (rises_app h c)
def Plain (L : List It) : Prop := ∀ x ∈ L, x = rw7 x.path x.data
theorem plain_app {L : List It} (h : Plain L) (c : Ch) : Plain (app L c) := by
  intro x hx
  unfold app at hx
  split at hx
  · exact h x ((drop_in L c.key).1 x hx)
  · rcases mem_ins hx with rfl | hx
    · rfl
    · exact h x hx
theorem plain_all {L : List It} (h : Plain L) (l : List Ch) : Plain (all7 L l) := by
  induction l generalizing L with
  | nil => exact h
  | cons c l ih => exact ih (plain_app h c)
theorem len_app (L : List It) (c : Ch) : (app L c).length ≤ L.length + 1 := by
  unfold app
  split
  · have := (drop_in L c.key).2; omega
  · exact len_ins L _
theorem len_all (L : List It) (l : List Ch) : (all7 L l).length ≤ L.length + l.length := by
  induction l generalizing L with
  | nil => exact Nat.le_refl _
  | cons c l ih =>
    have h1 := ih (app L c)
    have h2 := len_app L c
    rw [all7_cons, List.length_cons]
    omega
theorem mem_app {L : List It} {c : Ch} {x : It} (h : x ∈ app L c) : x = rw7 c.key c.val ∨ x ∈ L := by
  unfold app at h
  split at h
  · exact .inr ((drop_in L c.key).1 x h)
  · exact mem_ins h
theorem mem_all {L : List It} {l : List Ch} {x : It} (h : x ∈ all7 L l) : (∃ c ∈ l, x = rw7 c.key c.val) ∨ x ∈ L := by
  induction l generalizing L with
  | nil => exact .inr h
  | cons c l ih =>
    rcases ih h with ⟨d, hd, rfl⟩ | h
    · exact .inl ⟨d, List.mem_cons_of_mem _ hd, rfl⟩
    · rcases mem_app h with rfl | h
      · exact .inl ⟨c, List.mem_cons_self, rfl⟩
      · exact .inr h
def lastOf (l : List Ch) (p : ByteArray) : Option Ch := l.reverse.find? (fun c => decide (c.key = p))
theorem lastOf_snoc (l : List Ch) (c : Ch) (p : ByteArray) : lastOf (l ++ [c]) p = if c.key = p then some c else lastOf l p := by
  unfold lastOf
  rw [List.reverse_append, List.reverse_singleton, List.singleton_append]
  by_cases h : c.key = p
  · rw [if_pos h, List.find?_cons_of_pos (by simpa using h)]
  · rw [if_neg h, List.find?_cons_of_neg (by simpa using h)]
def after (o : Option It) (c : Option Ch) : Option It := match c with
  | none => o
  | some c => if c.gone then none else some (rw7 c.key c.val)
theorem snoc_ind {α : Type} {P : List α → Prop} (h0 : P []) (h1 : ∀ l x, P l → P (l ++ [x])) (l : List α) : P l := by
  have : ∀ r : List α, P r.reverse := fun r => by
    induction r with
    | nil => exact h0
    | cons x r ih => rw [List.reverse_cons]; exact h1 _ _ ih
  have h := this l.reverse
  rwa [List.reverse_reverse] at h
theorem find_all (L : List It) (l : List Ch) (p : ByteArray) : find (all7 L l) p = after (find L p) (lastOf l p) := by
  induction l using snoc_ind with
  | h0 => rfl
  | h1 l c ih =>
    rw [all7_snoc, find_app7, lastOf_snoc, ih]
    by_cases h : c.key = p
    · rw [if_pos h, if_pos h]; rfl
    · rw [if_neg h, if_neg h]
def bat (l : List Ch) (c : Ch) : List Ch := if l.any (fun x => decide (x.key = c.key)) then l.map (fun x => if x.key = c.key then c else x) else l ++ [c]
def Once (l : List Ch) : Prop := l.Pairwise (fun a b => a.key ≠ b.key)
theorem bat_mem {l : List Ch} {c x : Ch} (h : x ∈ bat l c) : x = c ∨ x ∈ l := by
  unfold bat at h
  split at h
  · obtain ⟨y, hy, rfl⟩ := List.mem_map.1 h
    split
    · exact .inl rfl
    · exact .inr hy
  · rcases List.mem_append.1 h with h | h
    · exact .inr h
    · exact .inl (List.mem_singleton.1 h)
theorem bat_keys (l : List Ch) (c : Ch) : (bat l c).map (·.key) = if l.any (fun x => decide (x.key = c.key)) then l.map (·.key) else l.map (·.key) ++ [c.key] := by
  unfold bat
  split
  · rw [List.map_map]
    refine List.map_congr_left (fun x _ => ?_)
    show (if x.key = c.key then c else x).key = x.key
    split
    · rename_i h; exact h.symm
    · rfl
  · rw [List.map_append]; rfl
theorem once_keys {l : List Ch} : Once l ↔ (l.map (·.key)).Nodup := by
  unfold Once List.Nodup
  rw [List.pairwise_map]
theorem once_bat {l : List Ch} (h : Once l) (c : Ch) : Once (bat l c) := by
  rw [once_keys] at h ⊢
  rw [bat_keys]
  split
  · exact h
  · rename_i hn
    rw [List.nodup_append]
    refine ⟨h, List.nodup_cons.2 ⟨List.not_mem_nil, List.nodup_nil⟩, fun a ha b hb => ?_⟩
    rw [List.mem_singleton.1 hb]
    obtain ⟨x, hx, rfl⟩ := List.mem_map.1 ha
    intro e
    exact hn (List.any_eq_true.2 ⟨x, hx, by simpa using e⟩)
def at7 (l : List Ch) (p : ByteArray) : Option Nat := l.findIdx? (fun c => decide (c.key = p))
theorem at7_lt {l : List Ch} {p : ByteArray} {i : Nat} (h : at7 l p = some i) : ∃ c, l[i]? = some c ∧ c.key = p ∧ i < l.length := by
  obtain ⟨h1, h2, _⟩ := List.findIdx?_eq_some_iff_getElem.1 h
  exact ⟨l[i], List.getElem?_eq_getElem h1, by simpa using h2, h1⟩
theorem at7_none {l : List Ch} {p : ByteArray} (h : at7 l p = none) : l.any (fun x => decide (x.key = p)) = false := by
  have := List.findIdx?_eq_none_iff.1 h
  exact List.any_eq_false.2 (fun x hx => by simpa using this x hx)
theorem at7_some {l : List Ch} {p : ByteArray} {i : Nat} (h : at7 l p = some i) : l.any (fun x => decide (x.key = p)) = true := by
  obtain ⟨c, hc, hk, _⟩ := at7_lt h
  exact List.any_eq_true.2 ⟨c, List.mem_of_getElem? hc, by simpa using hk⟩
theorem once_at {l : List Ch} (h : Once l) {i : Nat} {c : Ch} (hi : l[i]? = some c) : at7 l c.key = some i := by
  obtain ⟨hlt, he⟩ := List.getElem?_eq_some_iff.1 hi
  refine List.findIdx?_eq_some_iff_getElem.2 ⟨hlt, by simpa [he], fun j hj => ?_⟩
  have := List.pairwise_iff_getElem.1 h j i (by omega) hlt hj
  rw [he] at this
  simpa using this
theorem bat_set {l : List Ch} (h : Once l) {c : Ch} {i : Nat} (hi : at7 l c.key = some i) : bat l c = l.set i c := by
  unfold bat
  rw [if_pos (at7_some hi)]
  obtain ⟨d, hd, hk, hlt⟩ := at7_lt hi
  apply List.ext_getElem?
  intro j
  rw [List.getElem?_map, List.getElem?_set]
  by_cases hj : i = j
  · subst hj
    rw [if_pos rfl, if_pos hlt, hd]
    show some (if d.key = c.key then c else d) = some c
    rw [if_pos hk]
  · rw [if_neg hj]
    cases hx : l[j]? with
    | none => rfl
    | some x =>
      show some (if x.key = c.key then c else x) = some x
      rw [if_neg]
      intro e
      have h1 := once_at h hx
      rw [e, hi] at h1
      injection h1 with h1
      exact hj h1
theorem bat_new {l : List Ch} {c : Ch} (h : at7 l c.key = none) : bat l c = l ++ [c] := by
  unfold bat
  rw [if_neg (by rw [at7_none h]; decide)]
theorem at7_bat {l : List Ch} (h : Once l) (c : Ch) (p : ByteArray) : at7 (bat l c) p = if at7 l c.key = none ∧ p = c.key then some l.length else at7 l p := by
  cases hi : at7 l c.key with
  | none =>
    rw [bat_new hi]
    unfold at7
    rw [List.findIdx?_append]
    by_cases hp : p = c.key
    · subst hp
      have hi : List.findIdx? (fun d => decide (d.key = c.key)) l = none := hi
      rw [hi, if_pos ⟨rfl, rfl⟩]
      simp
    · rw [if_neg (fun hh => hp hh.2)]
      have : List.findIdx? (fun d : Ch => decide (d.key = p)) [c] = none := by
        rw [List.findIdx?_cons]
        have hq : ¬ c.key = p := fun e => hp e.symm
        simp [hq]
      rw [this]
      cases List.findIdx? (fun d => decide (d.key = p)) l <;> rfl
  | some i =>
    rw [if_neg (fun hh => by cases hh.1)]
    have hkeys : (bat l c).map (·.key) = l.map (·.key) := by rw [bat_keys, if_pos (at7_some hi)]
    have e : ∀ m : List Ch, at7 m p = (m.map (·.key)).findIdx? (fun k => decide (k = p)) := fun m => by
      unfold at7; rw [List.findIdx?_map]; rfl
    rw [e, e, hkeys]
theorem all_norm (L : List It) (l : List Ch) : all7 L (l.map norm) = all7 L l := by
  induction l generalizing L with
  | nil => rfl
  | cons c l ih =>
    rw [List.map_cons, all7_cons, all7_cons, ih]
    congr 1
    unfold app norm
    cases hg : c.gone <;> simp [hg]
def whole7 (L : List It) : List Ch := L.map (fun x => ⟨x.path, x.data, false⟩)
structure Tst where
  j : Jst
  L : List It
def packS (x : Tst) (p q : ByteArray) : Nat × Tst :=
  if (fillS x.j.s p (Fm.pk (rec7 (whole7 x.L)))).1 ≠ 0 then ((fillS x.j.s p (Fm.pk (rec7 (whole7 x.L)))).1, ⟨⟨(fillS x.j.s p (Fm.pk (rec7 (whole7 x.L)))).2, x.j.R, x.j.dm⟩, x.L⟩) else
  ((resetS ⟨(fillS x.j.s p (Fm.pk (rec7 (whole7 x.L)))).2, x.j.R, x.j.dm⟩ q).1, ⟨(resetS ⟨(fillS x.j.s p (Fm.pk (rec7 (whole7 x.L)))).2, x.j.R, x.j.dm⟩ q).2, x.L⟩)
def commitS (x : Tst) (l : List Ch) (p q : ByteArray) : Nat × Tst :=
  if l = [] then (0, x) else
  if (addS x.j q (rec7 l)).1 ≠ 0 then ((addS x.j q (rec7 l)).1, ⟨(addS x.j q (rec7 l)).2, x.L⟩) else
  if 16 ≤ (addS x.j q (rec7 l)).2.R.length then packS ⟨(addS x.j q (rec7 l)).2, all7 x.L l⟩ p q else (0, ⟨(addS x.j q (rec7 l)).2, all7 x.L l⟩)
def baseS (t : ByteArray) : List It × Nat :=
  if (Fm.fr t).2.2 ≠ 0 then ([], (Fm.fr t).2.2) else if (Fm.fr t).2.1 < t.size then ([], 5) else
  if (opsS (Fm.fr t).1).2 ≠ 0 then ([], (opsS (Fm.fr t).1).2) else (all7 [] (opsS (Fm.fr t).1).1, 0)
def rows7 (L : List It) (R : List ByteArray) : List It := R.foldl (fun L r => all7 L (opsS r).1) L
theorem rows7_snoc (L : List It) (R : List ByteArray) (r : ByteArray) : rows7 L (R ++ [r]) = all7 (rows7 L R) (opsS r).1 := by unfold rows7; rw [List.foldl_append]; rfl
theorem rows7_cons (L : List It) (R : List ByteArray) (r : ByteArray) : rows7 L (r :: R) = rows7 (all7 L (opsS r).1) R := rfl
theorem rises_rows {L : List It} (h : Rises L) (R : List ByteArray) : Rises (rows7 L R) := by
  induction R generalizing L with
  | nil => exact h
  | cons r R ih => exact ih (rises_all h _)
theorem plain_rows {L : List It} (h : Plain L) (R : List ByteArray) : Plain (rows7 L R) := by
  induction R generalizing L with
  | nil => exact h
  | cons r R ih => exact ih (plain_all h _)
theorem opsS_len (r : ByteArray) : (opsS r).1.length ≤ r.size := by
  obtain ⟨l, e, h⟩ : ∃ l e, opsS r = (l, e) := ⟨_, _, rfl⟩
  rw [h]
  by_cases he : e = 0
  · subst he
    have := (opsS_ok h).2.2
    show l.length ≤ _
    omega
  · have : l = [] := by
      unfold opsS at h
      split at h
      · simp only [Prod.mk.injEq] at h; exact h.1.symm
      · split at h
        · simp only [Prod.mk.injEq] at h; exact h.1.symm
        · split at h
          · simp only [Prod.mk.injEq] at h; exact h.1.symm
          · simp only [Prod.mk.injEq] at h; exact absurd h.2.symm he
    rw [this]
    exact Nat.zero_le _
theorem len_rows (L : List It) (R : List ByteArray) : (rows7 L R).length ≤ L.length + (R.map (·.size)).sum := by
  induction R generalizing L with
  | nil => exact Nat.le_refl _
  | cons r R ih =>
    have h1 := ih (all7 L (opsS r).1)
    have h2 := len_all L (opsS r).1
    have h3 := opsS_len r
    rw [rows7_cons, List.map_cons, List.sum_cons]
    omega
def base0 (s : St) (p : ByteArray) : List It × Nat :=
  if kind s.L p = 0 then ([], 0) else if (readS s p).2 ≠ 0 then ([], (readS s p).2) else baseS (readS s p).1
def open1 (s : St) (p q : ByteArray) : Nat × Tst :=
  if (base0 s p).2 ≠ 0 then ((base0 s p).2, ⟨⟨s, [], false⟩, []⟩) else
  if (openS s q).1 ≠ 0 then ((openS s q).1, ⟨(openS s q).2, []⟩) else
  (0, ⟨(openS s q).2, rows7 (base0 s p).1 (openS s q).2.R⟩)
def opened (s : St) (f : ByteArray) : Nat × St := if kind s.L f = 0 then mkdirS s f else (0, s)
def open7 (s : St) (f p q : ByteArray) : Nat × Tst := if (opened s f).1 ≠ 0 then ((opened s f).1, ⟨⟨(opened s f).2, [], false⟩, []⟩) else open1 (opened s f).2 p q
end Go.Proofs.YtjdfffkkpbabpaaGreat.Tb

namespace Go.Proofs.YtjdfffkkpbabpaaGreat.Tb
open Go.RowKit Tx Pm Dk Wm Wr
set_option linter.unusedVariables false
set_option linter.unusedSimpArgs false
set_option linter.unnecessarySimpa false
def cellsC (c : Ch) : List Value := [.string c.key, .string c.val, .bool c.gone]
def ov (c : Ch) : Value := .agg #[.string c.key, .string c.val, .bool c.gone]
def od (c : Ch) : DataW Unit := .agg [.lit (.string c.key.data.toList), .lit (.string c.val.data.toList), .lit (.bool c.gone)]
theorem infoC : (Tryz.prog.info? 43).map (fun i => (i.zero, i.size, i.bytes)) = some (some (ov ch0), 3, 40) := by kernel_rfl
def Opl (w : World) (a : Option Addr) (n : Nat) (l : List Ch) : Prop := l.length = n ∧ (n = 0 ∨ ∃ g off, a = some ⟨g, off, none⟩ ∧ g < w.heap.size ∧ ∀ k x, l[k]? = some x →
  w.cell? ⟨g, off + k * 3, none⟩ = some (.string x.key) ∧ w.cell? ⟨g, off + k * 3 + 1, none⟩ = some (.string x.val) ∧ w.cell? ⟨g, off + k * 3 + 1 + 1, none⟩ = some (.bool x.gone))
theorem Opl.below {w w1 : World} {a : Option Addr} {n : Nat} {l : List Ch} (h : Opl w a n l) (hb : Below w.heap.size w w1) : Opl w1 a n l := by
  refine ⟨h.1, ?_⟩
  rcases h.2 with h0 | ⟨g, off, ha, hlt, hc⟩
  · exact .inl h0
  · refine .inr ⟨g, off, ha, Nat.lt_of_lt_of_le hlt hb.size, fun k x hx => ?_⟩
    obtain ⟨h1, h2, h3⟩ := hc k x hx
    exact ⟨(hb.cell (p := ⟨g, _, none⟩) hlt).trans h1, (hb.cell (p := ⟨g, _, none⟩) hlt).trans h2, (hb.cell (p := ⟨g, _, none⟩) hlt).trans h3⟩
theorem Opl.nth {w : World} {a : Option Addr} {n : Nat} {l : List Ch} (h : Opl w a n l) {k : Nat} {x : Ch} (hx : l[k]? = some x) : ∃ g off, a = some ⟨g, off, none⟩ ∧ g < w.heap.size ∧ w.cell? ⟨g, off + k * 3, none⟩ = some (.string x.key) ∧ w.cell? ⟨g, off + k * 3 + 1, none⟩ = some (.string x.val) ∧ w.cell? ⟨g, off + k * 3 + 1 + 1, none⟩ = some (.bool x.gone) := by
  have hk := (List.getElem?_eq_some_iff.1 hx).1
  rcases h.2 with h0 | ⟨g, off, ha, hlt, hc⟩
  · rw [h.1] at hk; omega
  · exact ⟨g, off, ha, hlt, hc k x hx⟩
def OwnC (w : World) (B : Nat) (v : Value) (l : List Ch) : Prop := w.ownsRow B 43 3 v l.length (l.flatMap cellsC)
theorem OwnC.form {w : World} {B : Nat} {v : Value} {l : List Ch} (h : OwnC w B v l) : ∃ a c, v = .slice a l.length c ∧ Opl w a l.length l ∧ l.length ≤ c ∧ c ≤ maxLen := by
  have hh := h
  rcases h.2 with ⟨rfl, h0⟩ | ⟨g, cap, cur, rfl, hg, hh2, hn, hc, _⟩
  · exact ⟨none, 0, by rw [h0], ⟨rfl, .inl h0⟩, by omega, Nat.zero_le _⟩
  · refine ⟨some ⟨g, 0, none⟩, cap, rfl, ⟨rfl, .inr ⟨g, 0, rfl, (Array.getElem?_eq_some_iff.1 hh2).1, fun k x hx => ?_⟩⟩, hn, hc⟩
    have hc : ∀ j u, j < 3 → (cellsC x)[j]? = some u → w.cell? ⟨g, 0 + k * 3 + j, none⟩ = some u := by
      intro j u hj hu
      have := hh.cells (g := g) rfl (k * 3 + j) u ((flat_at cellsC 3 (fun _ => rfl) l k x j hx hj).trans hu)
      rw [WideShapes.add_plain, Nat.zero_add] at this
      rw [Nat.zero_add]
      exact this
    exact ⟨hc 0 _ (by omega) rfl, hc 1 _ (by omega) rfl, hc 2 _ (by omega) rfl⟩
end Go.Proofs.YtjdfffkkpbabpaaGreat.Tb

namespace Go.Proofs.YtjdfffkkpbabpaaGreat.Tb
open Go.RowKit Tx Pm Dk Wm Wr
set_option linter.unusedVariables false
set_option linter.unusedSimpArgs false
set_option linter.unnecessarySimpa false
theorem neZ {e : Nat} (h : e ≠ 0) : ((e : Int) == 0) = false := by simp; omega
theorem chg_grown {w w' : World} {b : Nat} (h : w.grownBy w' (some b)) : Chg (· = b) w w' := ⟨h.os, h.tape, h.output, h.size, fun i hi hn => h.block i hi (fun e => hn (by injection e))⟩
theorem rat_kept {w w' : World} {b : Nat} {s : ByteArray} (h : Rat w b s) (he : w'.heap[b]? = w.heap[b]?) : Rat w' b s := by
  obtain ⟨h1, h2⟩ := h
  constructor
  · unfold World.cell? at h1 ⊢; rw [he]; exact h1
  · unfold World.frozen? at h2 ⊢; rw [he]; exact h2
theorem rat_lt {w : World} {b : Nat} {s : ByteArray} (h : Rat w b s) : b < w.heap.size := World.block_lt_of_cell? w _ h.1
theorem rat_alloc {w : World} {b : Nat} {s : ByteArray} (h : Rat w b s) (o : Obj) : Rat (w.alloc o) b s := rat_kept h (((Below.refl w.heap.size w).alloc (Nat.le_refl _) o).block b (rat_lt h))
theorem ext_ext (s : ByteArray) (m n : Nat) (h : m ≤ s.size) : (s.extract m s.size).extract n (s.extract m s.size).size = s.extract (m + n) s.size := by
  have e : (s.extract m s.size).size = s.size - m := by simp
  rw [e, ByteArray.extract_extract]
  congr 1
  omega
theorem store3 {w1 : World} {B : Nat} {T : TypeId} {v0 v1 v2 : Value} (h : w1.heap[B]? = some (.cells #[v0, v1, v2] T (0, 0))) (x0 x1 x2 : Value) :
    (w1.cell? ⟨B, 0, none⟩ = some v0 ∧ w1.frozen? ⟨B, 0, none⟩ = false) ∧ ((w1.setCell ⟨B, 0, none⟩ x0).cell? ⟨B, 1, none⟩ = some v1 ∧ (w1.setCell ⟨B, 0, none⟩ x0).frozen? ⟨B, 1, none⟩ = false) ∧
    (((w1.setCell ⟨B, 0, none⟩ x0).setCell ⟨B, 1, none⟩ x1).cell? ⟨B, 2, none⟩ = some v2 ∧ ((w1.setCell ⟨B, 0, none⟩ x0).setCell ⟨B, 1, none⟩ x1).frozen? ⟨B, 2, none⟩ = false) ∧
    (((w1.setCell ⟨B, 0, none⟩ x0).setCell ⟨B, 1, none⟩ x1).setCell ⟨B, 2, none⟩ x2).heap[B]? = some (.cells #[x0, x1, x2] T (0, 0)) ∧ Chg (· = B) w1 (((w1.setCell ⟨B, 0, none⟩ x0).setCell ⟨B, 1, none⟩ x1).setCell ⟨B, 2, none⟩ x2) := by
  have h1 : (w1.setCell ⟨B, 0, none⟩ x0).heap[B]? = some (.cells #[x0, v1, v2] T (0, 0)) := by rw [set_block h]; rfl
  have h2 : ((w1.setCell ⟨B, 0, none⟩ x0).setCell ⟨B, 1, none⟩ x1).heap[B]? = some (.cells #[x0, x1, v2] T (0, 0)) := by rw [set_block h1]; rfl
  have h3 : (((w1.setCell ⟨B, 0, none⟩ x0).setCell ⟨B, 1, none⟩ x1).setCell ⟨B, 2, none⟩ x2).heap[B]? = some (.cells #[x0, x1, x2] T (0, 0)) := by rw [set_block h2]; rfl
  refine ⟨⟨?_, ?_⟩, ⟨?_, ?_⟩, ⟨?_, ?_⟩, h3, ((chg_set (b := B) (k := 0) x0).then (chg_set (b := B) (k := 1) x1)).then (chg_set (b := B) (k := 2) x2)⟩
  · unfold World.cell?; rw [h]; rfl
  · unfold World.frozen?; rw [h]; simp
  · unfold World.cell?; rw [h1]; rfl
  · unfold World.frozen?; rw [h1]; simp
  · unfold World.cell?; rw [h2]; rfl
  · unfold World.frozen?; rw [h2]; simp
theorem results_cell_row_tmp {P : Program} {fn : Func} {p u : Tmp} {ty : TypeId} (h : fn.results = #[.cell p ty, .tmp u]) (tmps : Array Value) (w : World) (g : Nat) (t : TypeId) (cs : Array Value) (fr : Nat × Nat) (d : TypeDesc)
    (hp : tmps.getD p undef = .pointer (some ⟨g, 0, none⟩)) (hg : w.heap[g]? = some (.cells cs t fr))
    (hu : P.underlying ty = some d) (hd : (match d with | .struct _ | .array _ _ => true | _ => false) = true) (hi : (P.info? ty).map (·.size) = some cs.size) :
    (results fn tmps).run P w = .ok (.tuple #[.agg cs, tmps.getD u undef]) w := by
  have hp' : tmps[p]?.getD undef = .pointer (some ⟨g, 0, none⟩) := by simpa using hp
  rw [results_cell_tmp h]
  simp [hp', asAddr, run_loadVar_row w g t ty cs fr d hg hu hd hi, Result.andThen]
theorem infoCs : (Tryz.prog.info? 43).map (·.size) = some 3 := by kernel_rfl
theorem fin_chg {w w1 w2 : World} {b : Nat} {o : Obj} (hg : Chg (· = b) (w.alloc o) w1) (hc : Chg (· = w.heap.size) w1 w2) : Chg (· = b) w w2 :=
  ((Chg.of_below ((Below.refl w.heap.size w).alloc (Nat.le_refl _) o)).then hg).trans hc (fun i hi => .inr (by rw [hi]; exact Nat.le_refl _))
theorem blk_chg {w w1 : World} {b : Nat} {o : Obj} (hg : Chg (· = b) (w.alloc o) w1) (hb : b < w.heap.size) : w1.heap[w.heap.size]? = some o :=
  (hg.block w.heap.size (by simp) (fun e => by omega)).trans (new_at w o rfl)
def OpTo (b : Nat) (s : ByteArray) (w : World) (e : Ending) (w' : World) : Prop :=
  e = .returned (.tuple #[ov (rdOp s).1, .int .i64 ((rdOp s).2.2 : Nat)]) ∧ ((rdOp s).2.2 = 0 → Rat w' b (s.extract (rdOp s).2.1 s.size)) ∧ Chg (· = b) w w'
set_option maxRecDepth 100000 in
set_option maxHeartbeats 4000000 in
theorem readOp_any (b : Nat) (s : ByteArray) (w : World) (h : Rat w b s) (hs : s.size ≤ 1000000000000000000) :
    Calls Tryz.prog 140 #[.pointer (some ⟨b, 0, none⟩)] w (OpTo b s w) := by
  have hR0 := rat_alloc h (.cells #[.string ⟨#[]⟩, .string ⟨#[]⟩, .bool false] 43)
  have hsm : s.size ≤ maxLen := by unfold maxLen; omega
  have cu := uint_any b s _ hR0 hsm
  have hbw := rat_lt h
  unfold OpTo
  rcases rdOp_cases s with ⟨k, m, e, h0, he, h2⟩ | ⟨k, m, h0, hk, h2⟩ | ⟨k, m, t, n1, e, h0, hk, h1, he, h2⟩ | ⟨m, t, n1, h0, h1, h2⟩ | ⟨m, t, n1, t2, n2, e, h0, h1, h3, he, h2⟩ | ⟨m, t, n1, t2, n2, h0, h1, h3, h2⟩
  · rw [h0] at cu
    rw [h2]
    have ne := neZ he
    have HE := Lib.hid he
    clear h h0 h2 he hR0
    go_enter Tryz.func140, Tryz.ntmps140
    go_wp2_with fail
    go_at_call 139
    refine cu.mono ?_
    rintro e w1 ⟨rfl, hR1, hg1⟩
    have hG := chg_grown hg1
    obtain ⟨⟨a0, b0⟩, ⟨a1, b1⟩, ⟨a2, b2⟩, hb2, hc2⟩ := store3 (blk_chg hG hbw) (.string ⟨#[]⟩) (.string ⟨#[]⟩) (.bool false)
    go_wp2_with fail
    (try simp only [Exit.inBlock, Exit.then])
    refine bodyPost_ret (results_cell_row_tmp rfl _ _ _ _ _ _ _ rfl hb2 Tryz.underlying43 rfl infoCs) rfl ?_
    exact ⟨rfl, fun hh => absurd hh HE.out, fin_chg hG hc2⟩
  · rw [h0] at cu
    rw [h2]
    have n0 : ((k : Int) == 0) = false := by simp; omega
    have n1 : ((k : Int) == 1) = false := by simp; omega
    have q0 : ((k : Int) != 0) = true := by simp; omega
    have q1 : ((k : Int) != 1) = true := by simp; omega
    clear h h0 h2 hk hR0
    go_enter Tryz.func140, Tryz.ntmps140
    go_wp2_with fail
    go_at_call 139
    refine cu.mono ?_
    rintro e w1 ⟨rfl, hR1, hg1⟩
    have hG := chg_grown hg1
    obtain ⟨⟨a0, b0⟩, ⟨a1, b1⟩, ⟨a2, b2⟩, hb2, hc2⟩ := store3 (blk_chg hG hbw) (.string ⟨#[]⟩) (.string ⟨#[]⟩) (.bool false)
    go_wp2_with fail
    (try simp only [Exit.inBlock, Exit.then])
    refine bodyPost_ret (results_cell_row_tmp rfl _ _ _ _ _ _ _ rfl hb2 Tryz.underlying43 rfl infoCs) rfl ?_
    exact ⟨rfl, fun hh => absurd hh (by decide), fin_chg hG hc2⟩
  · rw [h2]
    have hm : m ≤ s.size := by have := (rdU_ok h0).1; rwa [Wm.len_l] at this
    have hs1 : (s.extract m s.size).size ≤ maxLen := by rw [ByteArray.size_extract]; omega
    have ne := neZ he
    have HE := Lib.hid he
    clear h h2 he hR0
    rcases (show k = 0 ∨ k = 1 by omega) with rfl | rfl
    · rw [h0] at cu
      clear h0 hk
      go_enter Tryz.func140, Tryz.ntmps140
      go_wp2_with fail
      go_at_call 139
      refine cu.mono ?_
      rintro e w1 ⟨rfl, hR1, hg1⟩
      have hG := chg_grown hg1
      have ct := text_any b _ w1 hR1 hs1
      rw [h1] at ct
      clear h1
      go_wp2_with fail
      go_at_call 107
      refine ct.mono ?_
      rintro e w2 ⟨rfl, hR2, hg2⟩
      have hG := hG.then (chg_grown hg2)
      obtain ⟨⟨a0, b0⟩, ⟨a1, b1⟩, ⟨a2, b2⟩, hb2, hc2⟩ := store3 (blk_chg hG hbw) (.string ⟨#[]⟩) (.string ⟨#[]⟩) (.bool false)
      go_wp2_with fail
      (try simp only [Exit.inBlock, Exit.then])
      refine bodyPost_ret (results_cell_row_tmp rfl _ _ _ _ _ _ _ rfl hb2 Tryz.underlying43 rfl infoCs) rfl ?_
      exact ⟨rfl, fun hh => absurd hh HE.out, fin_chg hG hc2⟩
    · rw [h0] at cu
      clear h0 hk
      go_enter Tryz.func140, Tryz.ntmps140
      go_wp2_with fail
      go_at_call 139
      refine cu.mono ?_
      rintro e w1 ⟨rfl, hR1, hg1⟩
      have hG := chg_grown hg1
      have ct := text_any b _ w1 hR1 hs1
      rw [h1] at ct
      clear h1
      go_wp2_with fail
      go_at_call 107
      refine ct.mono ?_
      rintro e w2 ⟨rfl, hR2, hg2⟩
      have hG := hG.then (chg_grown hg2)
      obtain ⟨⟨a0, b0⟩, ⟨a1, b1⟩, ⟨a2, b2⟩, hb2, hc2⟩ := store3 (blk_chg hG hbw) (.string ⟨#[]⟩) (.string ⟨#[]⟩) (.bool false)
      go_wp2_with fail
      (try simp only [Exit.inBlock, Exit.then])
      refine bodyPost_ret (results_cell_row_tmp rfl _ _ _ _ _ _ _ rfl hb2 Tryz.underlying43 rfl infoCs) rfl ?_
      exact ⟨rfl, fun hh => absurd hh HE.out, fin_chg hG hc2⟩
  · rw [h2]
    have hm : m ≤ s.size := by have := (rdU_ok h0).1; rwa [Wm.len_l] at this
    have hs1 : (s.extract m s.size).size ≤ maxLen := by rw [ByteArray.size_extract]; omega
    rw [h0] at cu
    clear h h0 h2 hR0
    go_enter Tryz.func140, Tryz.ntmps140
    go_wp2_with fail
    go_at_call 139
    refine cu.mono ?_
    rintro e w1 ⟨rfl, hR1, hg1⟩
    have hG := chg_grown hg1
    have ct := text_any b _ w1 hR1 hs1
    rw [h1] at ct
    clear h1
    go_wp2_with fail
    go_at_call 107
    refine ct.mono ?_
    rintro e w2 ⟨rfl, hR2, hg2⟩
    have hG := hG.then (chg_grown hg2)
    rw [ext_ext s m n1 hm] at hR2
    obtain ⟨⟨a0, b0⟩, ⟨a1, b1⟩, ⟨a2, b2⟩, hb2, hc2⟩ := store3 (blk_chg hG hbw) (.string t) (.string ⟨#[]⟩) (.bool true)
    go_wp2_with fail
    (try simp only [Exit.inBlock, Exit.then])
    refine bodyPost_ret (results_cell_row_tmp rfl _ _ _ _ _ _ _ rfl hb2 Tryz.underlying43 rfl infoCs) rfl ?_
    exact ⟨rfl, fun _ => rat_kept hR2 (hc2.block b (rat_lt hR2) (fun e => by omega)), fin_chg hG hc2⟩
  · rw [h2]
    have hm : m ≤ s.size := by have := (rdU_ok h0).1; rwa [Wm.len_l] at this
    have hs1 : (s.extract m s.size).size ≤ maxLen := by rw [ByteArray.size_extract]; omega
    have hs2 : (s.extract (m + n1) s.size).size ≤ maxLen := by rw [ByteArray.size_extract]; omega
    have ne := neZ he
    have HE := Lib.hid he
    rw [h0] at cu
    clear h h0 h2 he hR0
    go_enter Tryz.func140, Tryz.ntmps140
    go_wp2_with fail
    go_at_call 139
    refine cu.mono ?_
    rintro e w1 ⟨rfl, hR1, hg1⟩
    have hG := chg_grown hg1
    have ct := text_any b _ w1 hR1 hs1
    rw [h1] at ct
    clear h1
    go_wp2_with fail
    go_at_call 107
    refine ct.mono ?_
    rintro e w2 ⟨rfl, hR2, hg2⟩
    have hG := hG.then (chg_grown hg2)
    rw [ext_ext s m n1 hm] at hR2
    have ct2 := text_any b _ w2 hR2 hs2
    rw [h3] at ct2
    clear h3
    go_wp2_with fail
    go_at_call 107
    refine ct2.mono ?_
    rintro e w3 ⟨rfl, hR3, hg3⟩
    have hG := hG.then (chg_grown hg3)
    obtain ⟨⟨a0, b0⟩, ⟨a1, b1⟩, ⟨a2, b2⟩, hb2, hc2⟩ := store3 (blk_chg hG hbw) (.string ⟨#[]⟩) (.string ⟨#[]⟩) (.bool false)
    go_wp2_with fail
    (try simp only [Exit.inBlock, Exit.then])
    refine bodyPost_ret (results_cell_row_tmp rfl _ _ _ _ _ _ _ rfl hb2 Tryz.underlying43 rfl infoCs) rfl ?_
    exact ⟨rfl, fun hh => absurd hh HE.out, fin_chg hG hc2⟩
  · rw [h2]
    have hm : m ≤ s.size := by have := (rdU_ok h0).1; rwa [Wm.len_l] at this
    have hs1 : (s.extract m s.size).size ≤ maxLen := by rw [ByteArray.size_extract]; omega
    have hs2 : (s.extract (m + n1) s.size).size ≤ maxLen := by rw [ByteArray.size_extract]; omega
    have hmn : m + n1 ≤ s.size := by have := (rdT_ok h1).1; rw [ByteArray.size_extract] at this; omega
    rw [h0] at cu
    clear h h0 h2 hR0
    go_enter Tryz.func140, Tryz.ntmps140
    go_wp2_with fail
    go_at_call 139
    refine cu.mono ?_
    rintro e w1 ⟨rfl, hR1, hg1⟩
    have hG := chg_grown hg1
    have ct := text_any b _ w1 hR1 hs1
    rw [h1] at ct
    clear h1
    go_wp2_with fail
    go_at_call 107
    refine ct.mono ?_
    rintro e w2 ⟨rfl, hR2, hg2⟩
    have hG := hG.then (chg_grown hg2)
    rw [ext_ext s m n1 hm] at hR2
    have ct2 := text_any b _ w2 hR2 hs2
    rw [h3] at ct2
    clear h3
    go_wp2_with fail
    go_at_call 107
    refine ct2.mono ?_
    rintro e w3 ⟨rfl, hR3, hg3⟩
    have hG := hG.then (chg_grown hg3)
    rw [ext_ext s (m + n1) n2 hmn] at hR3
    obtain ⟨⟨a0, b0⟩, ⟨a1, b1⟩, ⟨a2, b2⟩, hb2, hc2⟩ := store3 (blk_chg hG hbw) (.string t) (.string t2) (.bool false)
    go_wp2_with fail
    (try simp only [Exit.inBlock, Exit.then])
    refine bodyPost_ret (results_cell_row_tmp rfl _ _ _ _ _ _ _ rfl hb2 Tryz.underlying43 rfl infoCs) rfl ?_
    exact ⟨rfl, fun _ => rat_kept hR3 (hc2.block b (rat_lt hR3) (fun e => by omega)), fin_chg hG hc2⟩
end Go.Proofs.YtjdfffkkpbabpaaGreat.Tb

namespace Go.Proofs.YtjdfffkkpbabpaaGreat.Rg
open Go.RowKit
set_option linter.unusedVariables false
section
variable {P : Program} {S : World → Prop}
end
section
variable {P : Program} {ops : Array Oper} {R : Act → World → Prop} {S : World → Prop}
theorem bld (i : Nat) (d : Option Tmp) {T : TypeId} {len : Nat} {parts : Array (Nat × Operand)} {vs : Array (Nat × Value)} {v : Value} {w1 : World} {fuel : Nat} {listed : Array Bool} {a : Act} {w : World}
    (hi : decide (i < ops.size) = true) (hd : (opOf ops i).dst = d) (hr : Region.ready .any ops listed = [i])
    (hw : Region.wanted (opOf ops i) (yielded ops a.tmps) = true) (ho : (opOf ops i).op = .buildSlice T len parts) (hx : (parts.map fun (i, x) => (i, a.eval x)) = vs)
    (hv : (Instr.buildSlice T len vs).run P w = .ok v w1) (hS : S w1)
    (h : S w1 → wpAnyH P .any ops (Only R) S fuel (listed.setIfInBounds i true) (a.put d v) w1) : wpAnyH P .any ops (Only R) S (fuel + 1) listed a w := by
  refine one hr ?_
  subst hd
  unfold wpOp
  rw [opOf_some hi]
  simp only [hw, if_true]
  refine .inl ?_
  have he : (execOp a.eval (opOf ops i)).run P w = .ok (.value v) w1 := by
    generalize opOf ops i = o at ho
    obtain ⟨dst, op, ty, pos, after, guard⟩ := o
    simp only at ho
    subst ho
    simp only [execOp, Sem.run_bind]
    rw [hx, hv]
    rfl
  unfold Oper.wp
  rw [he, Oper.upon_value]
  exact ⟨hS, h hS⟩
theorem bldk (i : Nat) (d : Option Tmp) {T : TypeId} {len : Nat} {parts : Array (Nat × Operand)} {vs : Array (Nat × Value)} {v : Value} {w1 : World} {fuel : Nat} {listed : Array Bool} {a : Act} {w : World} (hv : (Instr.buildSlice T len vs).run P w = .ok v w1) (hS : S w1) (h : S w1 → wpAnyH P .any ops (Only R) S fuel (listed.setIfInBounds i true) (a.put d v) w1) (hi : decide (i < ops.size) = true := by kernel_rfl) (hd : (opOf ops i).dst = d := by kernel_rfl) (hr : Region.ready .any ops listed = [i] := by kernel_rfl) (hw : Region.wanted (opOf ops i) (yielded ops a.tmps) = true := by kernel_rfl) (ho : (opOf ops i).op = .buildSlice T len parts := by kernel_rfl) (hx : (parts.map fun (i, x) => (i, a.eval x)) = vs := by kernel_rfl) : wpAnyH P .any ops (Only R) S (fuel + 1) listed a w := bld i d hi hd hr hw ho hx hv hS h
end
end Go.Proofs.YtjdfffkkpbabpaaGreat.Rg

namespace Go.Proofs.YtjdfffkkpbabpaaGreat.Rg
open Go.RowKit
set_option linter.unusedVariables false
set_option linter.unusedSimpArgs false
set_option linter.unnecessarySimpa false
section
variable {P : Program} {ops : Array Oper} {R : Act → World → Prop} {S : World → Prop}
theorem app1 (i : Nat) (d : Option Tmp) {T : TypeId} {x y : Operand} {vx vy : Value} {fuel : Nat} {listed : Array Bool} {a : Act} {w : World}
    (hi : decide (i < ops.size) = true) (hd : (opOf ops i).dst = d) (hr : Region.ready .any ops listed = [i])
    (hw : Region.wanted (opOf ops i) (yielded ops a.tmps) = true) (ho : (opOf ops i).op = .call { callee := .builtin .append, args := #[x, y], argTypes := #[T, T] }) (hx : a.eval x = vx) (hy : a.eval y = vy)
    (h : ∀ ty, ∃ v w1, (Builtin.append_ #[T, T] ty #[vx, vy]).run P w = .ok v w1 ∧ S w1 ∧ (S w1 → wpAnyH P .any ops (Only R) S fuel (listed.setIfInBounds i true) (a.put d v) w1)) :
    wpAnyH P .any ops (Only R) S (fuel + 1) listed a w := by
  refine one hr ?_
  subst hd
  unfold wpOp
  rw [opOf_some hi]
  simp only [hw, if_true]
  refine .inl ?_
  obtain ⟨v, w1, hrun, hS, hk⟩ := h (opOf ops i).type
  generalize opOf ops i = o at ho hrun hk ⊢
  obtain ⟨dst, op, ty, pos, after, guard⟩ := o
  simp only at ho hrun hk ⊢
  subst ho
  unfold Oper.wp
  simp only [execOp, resolve, invoke, builtin, Sem.run_bind, Sem.run_pure, Result.andThen_ok, List.map_toArray, List.map_cons, List.map_nil, hx, hy, hrun]
  exact ⟨hS, hk hS⟩
theorem app1k (i : Nat) (d : Option Tmp) {T : TypeId} {x y : Operand} {vx vy : Value} {fuel : Nat} {listed : Array Bool} {a : Act} {w : World} (h : ∀ ty, ∃ v w1, (Builtin.append_ #[T, T] ty #[vx, vy]).run P w = .ok v w1 ∧ S w1 ∧ (S w1 → wpAnyH P .any ops (Only R) S fuel (listed.setIfInBounds i true) (a.put d v) w1)) (hi : decide (i < ops.size) = true := by kernel_rfl) (hd : (opOf ops i).dst = d := by kernel_rfl) (hr : Region.ready .any ops listed = [i] := by kernel_rfl) (hw : Region.wanted (opOf ops i) (yielded ops a.tmps) = true := by kernel_rfl) (ho : (opOf ops i).op = .call { callee := .builtin .append, args := #[x, y], argTypes := #[T, T] } := by kernel_rfl) (hx : a.eval x = vx := by kernel_rfl) (hy : a.eval y = vy := by kernel_rfl) : wpAnyH P .any ops (Only R) S (fuel + 1) listed a w := app1 i d hi hd hr hw ho hx hy h
theorem op_bld (i : Nat) (d : Option Tmp) {T : TypeId} {len : Nat} {parts : Array (Nat × Operand)} {vs : Array (Nat × Value)} {v : Value} {w1 : World} {fuel : Nat} {listed : Array Bool} {a : Act} {w : World}
    (hi : decide (i < ops.size) = true) (hd : (opOf ops i).dst = d)
    (hw : Region.wanted (opOf ops i) (yielded ops a.tmps) = true) (ho : (opOf ops i).op = .buildSlice T len parts) (hx : (parts.map fun (i, x) => (i, a.eval x)) = vs)
    (hv : (Instr.buildSlice T len vs).run P w = .ok v w1) (hS : S w1)
    (h : S w1 → wpAnyH P .any ops (Only R) S fuel (listed.setIfInBounds i true) (a.put d v) w1) :
    wpOp P ops (Only R) i (fun a' w' => S w' ∧ wpAnyH P .any ops (Only R) S fuel (listed.setIfInBounds i true) a' w') a w := by
  subst hd
  unfold wpOp
  rw [opOf_some hi]
  simp only [hw, if_true]
  refine .inl ?_
  have he : (execOp a.eval (opOf ops i)).run P w = .ok (.value v) w1 := by
    generalize opOf ops i = o at ho
    obtain ⟨dst, op, ty, pos, after, guard⟩ := o
    simp only at ho
    subst ho
    simp only [execOp, Sem.run_bind]
    rw [hx, hv]
    rfl
  unfold Oper.wp
  rw [he, Oper.upon_value]
  exact ⟨hS, h hS⟩
theorem op_bldk (i : Nat) (d : Option Tmp) {T : TypeId} {len : Nat} {parts : Array (Nat × Operand)} {vs : Array (Nat × Value)} {v : Value} {w1 : World} {fuel : Nat} {listed : Array Bool} {a : Act} {w : World} (hv : (Instr.buildSlice T len vs).run P w = .ok v w1) (hS : S w1) (h : S w1 → wpAnyH P .any ops (Only R) S fuel (listed.setIfInBounds i true) (a.put d v) w1) (hi : decide (i < ops.size) = true := by kernel_rfl) (hd : (opOf ops i).dst = d := by kernel_rfl) (hw : Region.wanted (opOf ops i) (yielded ops a.tmps) = true := by kernel_rfl) (ho : (opOf ops i).op = .buildSlice T len parts := by kernel_rfl) (hx : (parts.map fun (i, x) => (i, a.eval x)) = vs := by kernel_rfl) : wpOp P ops (Only R) i (fun a' w' => S w' ∧ wpAnyH P .any ops (Only R) S fuel (listed.setIfInBounds i true) a' w') a w := op_bld i d hi hd hw ho hx hv hS h
end
end Go.Proofs.YtjdfffkkpbabpaaGreat.Rg

namespace Go.Proofs.YtjdfffkkpbabpaaGreat.Tb
open Go.RowKit
set_option linter.unusedVariables false
set_option linter.unusedSimpArgs false
set_option linter.unnecessarySimpa false
def Cells3 (x : Nat) (key val : ByteArray) (gone : Bool) (W : World) : Prop := W.cell? ⟨x, 0, none⟩ = some (.string key) ∧ W.cell? ⟨x, 0 + 1, none⟩ = some (.string val) ∧ W.cell? ⟨x, 0 + 1 + 1, none⟩ = some (.bool gone)
set_option maxRecDepth 100000 in
set_option maxHeartbeats 4000000 in
theorem recGone (ops : Array Oper) (hops : ops = (Rg.opsOf Tryz.f24 6)) (id : Nat) (x : Nat) (key val n0 k1 : ByteArray) (gone : Bool) (vp : Value) {u0 u1 u2 u4 u6 u7 u8 u9 u10 u11 u12 u13 u14 u15 u16 u17 u18 u19 u20 u21 u22 u23 u24 u25 u26 u27 u28 u29 u30 u31 u32 u33 u34 u35 u36 u37 : Value} (w : World) (B1 B2 B3 : World → Prop) (B4 : Value → World → Prop)
    (hS : Cells3 x key val gone w) (hA : Calls Tryz.prog 66 #[.int .i64 0] w.drew fun e w' => e = .returned (.string n0) ∧ B1 w') (hAS : ∀ W, B1 W → Cells3 x key val gone W)
    (hB : ∀ W, B1 W → Calls Tryz.prog 67 #[.string key] W fun e w' => e = .returned (.string k1) ∧ B2 w') (hBS : ∀ W, B2 W → Cells3 x key val gone W)
    (hES : ∀ W, B2 W → Cells3 x key val gone (W.alloc (.cells #[(.string n0), (.string k1)] 9)))
    (hE : ∀ W, B2 W → ∀ ty, ∃ v w1, (Builtin.append_ #[84, 84] ty #[vp, .slice (some ⟨W.heap.size, 0, none⟩) 2 2]).run Tryz.prog (W.alloc (.cells #[(.string n0), (.string k1)] 9)) = .ok v w1 ∧ B4 v w1) (hGS : ∀ v W, B4 v W → Cells3 x key val gone W) :
    (Code.region id ops true).wp Tryz.prog (Rg.Only fun a' w' => ∃ (z8 : Nat) (v8 : Value), a' = ⟨#[u0, u1, u2, v8, u4, (.pointer (some ⟨x, 0, none⟩)), u6, u7, u8, u9, u10, u11, u12, u13, u14, u15, u16, u17, vp, (.string n0), (.pointer (some ⟨x, 0, none⟩)), (.string key), (.string k1), (.slice (some ⟨z8, 0, none⟩) 2 2), v8, u25, u26, u27, u28, u29, u30, u31, u32, u33, u34, u35, u36, u37], []⟩ ∧ B4 v8 w') ⟨#[u0, u1, u2, vp, u4, (.pointer (some ⟨x, 0, none⟩)), u6, u7, u8, u9, u10, u11, u12, u13, u14, u15, u16, u17, u18, u19, u20, u21, u22, u23, u24, u25, u26, u27, u28, u29, u30, u31, u32, u33, u34, u35, u36, u37], []⟩ w := by
  subst hops
  have hNS : Region.noSelect (Rg.opsOf Tryz.f24 6) = true := by kernel_rfl
  refine wp_region_held_drew (S := Cells3 x key val gone) (by kernel_rfl) hS (fun hHeld => ?_)
  rw [show (Rg.opsOf Tryz.f24 6).size = 8 by kernel_rfl]
  refine Rg.takek 0 (some 18) (vp) hNS hHeld (Rg.y_movekL (x := .tmp 3)) ?_
  refine Rg.takek 2 (some 20) (.pointer (some ⟨x, 0, none⟩)) hNS hHeld (Rg.y_fieldk (T := 43) (k := 0) (x := .tmp 5) (vx := (.pointer (some ⟨x, 0, none⟩))) ?_) ?_
  · (intro w hSw; clear hSw; go_simp)
  refine Rg.takek 3 (some 21) (.string key) hNS hHeld (Rg.y_loadk (T := 9) (x := .tmp 20) (vx := (.pointer (some ⟨x, 0, none⟩))) ?_) ?_
  · (intro w hSw; obtain ⟨s0, s1, s2⟩ := hSw; go_simp)
  refine Rg.callk (fn := Tryz.f66) (xs := #[.const (Value.int IntKind.i64 0)]) (ats := #[3]) 1 (some 19) 66 #[(Value.int IntKind.i64 0)] Tryz.func66 ?_
  refine hA.mono ?_
  rintro e w5 ⟨rfl, h5⟩
  refine ⟨_, rfl, hAS _ h5, fun hHeld => ?_⟩
  refine Rg.callk (fn := Tryz.f67) (xs := #[.tmp 21]) (ats := #[9]) 4 (some 22) 67 #[(.string key)] Tryz.func67 ?_
  refine (hB _ h5).mono ?_
  rintro e w6 ⟨rfl, h6⟩
  refine ⟨_, rfl, hBS _ h6, fun hHeld => ?_⟩
  refine Rg.bldk 5 (some 23) (T := 84) (len := 2) (parts := #[(0, .tmp 19), (1, .tmp 22)]) (vs := #[(0, (.string n0)), (1, (.string k1))]) (v := (.slice (some ⟨w6.heap.size, 0, none⟩) 2 2)) (w1 := w6.alloc (.cells #[(.string n0), (.string k1)] 9)) ?_ (hES _ h6) (fun hHeld => ?_)
  · (clear hHeld; go_simp)
  refine Rg.app1k 6 (some 24) (T := 84) (x := .tmp 18) (y := .tmp 23) (vx := vp) (vy := (.slice (some ⟨w6.heap.size, 0, none⟩) 2 2)) ?_
  intro ty
  obtain ⟨v8, w8, hr8, h8⟩ := hE _ h6 ty
  refine ⟨v8, w8, hr8, hGS _ _ h8, fun hHeld => ?_⟩
  refine Rg.takek 7 (some 3) (v8) hNS hHeld (Rg.y_movekR (x := .tmp 24)) ?_
  refine Rg.donek ?_
  exact ⟨w6.heap.size, v8, by kernel_rfl, h8⟩
set_option maxRecDepth 100000 in
set_option maxHeartbeats 4000000 in
theorem recGive (ops : Array Oper) (hops : ops = (Rg.opsOf Tryz.f24 7)) (id : Nat) (x : Nat) (key val n0 k1 v1 : ByteArray) (gone : Bool) (vp : Value) {u0 u1 u2 u4 u6 u7 u8 u9 u10 u11 u12 u13 u14 u15 u16 u17 u18 u19 u20 u21 u22 u23 u24 u25 u26 u27 u28 u29 u30 u31 u32 u33 u34 u35 u36 u37 : Value} (w : World) (B1 B2 B3 : World → Prop) (B4 : Value → World → Prop)
    (hS : Cells3 x key val gone w) (hA : Calls Tryz.prog 66 #[.int .i64 1] w.drew fun e w' => e = .returned (.string n0) ∧ B1 w') (hAS : ∀ W, B1 W → Cells3 x key val gone W)
    (hB : ∀ W, B1 W → Calls Tryz.prog 67 #[.string key] W fun e w' => e = .returned (.string k1) ∧ B2 w') (hBS : ∀ W, B2 W → Cells3 x key val gone W)
    (hC : ∀ W, B2 W → Calls Tryz.prog 67 #[.string val] W fun e w' => e = .returned (.string v1) ∧ B3 w') (hCS : ∀ W, B3 W → Cells3 x key val gone W)
    (hES : ∀ W, B3 W → Cells3 x key val gone (W.alloc (.cells #[(.string n0), (.string k1), (.string v1)] 9)))
    (hE : ∀ W, B3 W → ∀ ty, ∃ v w1, (Builtin.append_ #[84, 84] ty #[vp, .slice (some ⟨W.heap.size, 0, none⟩) 3 3]).run Tryz.prog (W.alloc (.cells #[(.string n0), (.string k1), (.string v1)] 9)) = .ok v w1 ∧ B4 v w1) (hGS : ∀ v W, B4 v W → Cells3 x key val gone W) :
    (Code.region id ops true).wp Tryz.prog (Rg.Only fun a' w' => ∃ (z8 : Nat) (v8 : Value), a' = ⟨#[u0, u1, u2, v8, u4, (.pointer (some ⟨x, 0, none⟩)), u6, u7, u8, u9, u10, u11, u12, u13, u14, u15, u16, u17, u18, u19, u20, u21, u22, u23, u24, vp, (.string n0), (.pointer (some ⟨x, 0, none⟩)), (.string key), (.string k1), (.pointer (some ⟨x, 0 + 1, none⟩)), (.string val), (.string v1), (.slice (some ⟨z8, 0, none⟩) 3 3), v8, u35, u36, u37], []⟩ ∧ B4 v8 w') ⟨#[u0, u1, u2, vp, u4, (.pointer (some ⟨x, 0, none⟩)), u6, u7, u8, u9, u10, u11, u12, u13, u14, u15, u16, u17, u18, u19, u20, u21, u22, u23, u24, u25, u26, u27, u28, u29, u30, u31, u32, u33, u34, u35, u36, u37], []⟩ w := by
  subst hops
  have hNS : Region.noSelect (Rg.opsOf Tryz.f24 7) = true := by kernel_rfl
  refine wp_region_held_drew (S := Cells3 x key val gone) (by kernel_rfl) hS (fun hHeld => ?_)
  rw [show (Rg.opsOf Tryz.f24 7).size = 11 by kernel_rfl]
  refine Rg.takek 0 (some 25) (vp) hNS hHeld (Rg.y_movekL (x := .tmp 3)) ?_
  refine Rg.takek 2 (some 27) (.pointer (some ⟨x, 0, none⟩)) hNS hHeld (Rg.y_fieldk (T := 43) (k := 0) (x := .tmp 5) (vx := (.pointer (some ⟨x, 0, none⟩))) ?_) ?_
  · (intro w hSw; clear hSw; go_simp)
  refine Rg.takek 3 (some 28) (.string key) hNS hHeld (Rg.y_loadk (T := 9) (x := .tmp 27) (vx := (.pointer (some ⟨x, 0, none⟩))) ?_) ?_
  · (intro w hSw; obtain ⟨s0, s1, s2⟩ := hSw; go_simp)
  refine Rg.takek 5 (some 30) (.pointer (some ⟨x, 0 + 1, none⟩)) hNS hHeld (Rg.y_fieldk (T := 43) (k := 1) (x := .tmp 5) (vx := (.pointer (some ⟨x, 0, none⟩))) ?_) ?_
  · (intro w hSw; clear hSw; go_simp)
  refine Rg.takek 6 (some 31) (.string val) hNS hHeld (Rg.y_loadk (T := 9) (x := .tmp 30) (vx := (.pointer (some ⟨x, 0 + 1, none⟩))) ?_) ?_
  · (intro w hSw; obtain ⟨s0, s1, s2⟩ := hSw; go_simp)
  refine Rg.callk (fn := Tryz.f66) (xs := #[.const (Value.int IntKind.i64 1)]) (ats := #[3]) 1 (some 26) 66 #[(Value.int IntKind.i64 1)] Tryz.func66 ?_
  refine hA.mono ?_
  rintro e w5 ⟨rfl, h5⟩
  refine ⟨_, rfl, hAS _ h5, fun hHeld => ?_⟩
  refine Rg.callk (fn := Tryz.f67) (xs := #[.tmp 28]) (ats := #[9]) 4 (some 29) 67 #[(.string key)] Tryz.func67 ?_
  refine (hB _ h5).mono ?_
  rintro e w6 ⟨rfl, h6⟩
  refine ⟨_, rfl, hBS _ h6, fun hHeld => ?_⟩
  refine Rg.callk (fn := Tryz.f67) (xs := #[.tmp 31]) (ats := #[9]) 7 (some 32) 67 #[(.string val)] Tryz.func67 ?_
  refine (hC _ h6).mono ?_
  rintro e w7 ⟨rfl, h7⟩
  refine ⟨_, rfl, hCS _ h7, fun hHeld => ?_⟩
  refine Rg.bldk 8 (some 33) (T := 84) (len := 3) (parts := #[(0, .tmp 26), (1, .tmp 29), (2, .tmp 32)]) (vs := #[(0, (.string n0)), (1, (.string k1)), (2, (.string v1))]) (v := (.slice (some ⟨w7.heap.size, 0, none⟩) 3 3)) (w1 := w7.alloc (.cells #[(.string n0), (.string k1), (.string v1)] 9)) ?_ (hES _ h7) (fun hHeld => ?_)
  · (clear hHeld; go_simp)
  refine Rg.app1k 9 (some 34) (T := 84) (x := .tmp 25) (y := .tmp 33) (vx := vp) (vy := (.slice (some ⟨w7.heap.size, 0, none⟩) 3 3)) ?_
  intro ty
  obtain ⟨v8, w8, hr8, h8⟩ := hE _ h7 ty
  refine ⟨v8, w8, hr8, hGS _ _ h8, fun hHeld => ?_⟩
  refine Rg.takek 10 (some 3) (v8) hNS hHeld (Rg.y_movekR (x := .tmp 34)) ?_
  refine Rg.donek ?_
  exact ⟨w7.heap.size, v8, by kernel_rfl, h8⟩
end Go.Proofs.YtjdfffkkpbabpaaGreat.Tb

namespace Go.Proofs.YtjdfffkkpbabpaaGreat.Tb
open Go.RowKit Tx Pm Dk Wm Wr
set_option linter.unusedVariables false
set_option linter.unusedSimpArgs false
set_option linter.unnecessarySimpa false
set_option maxRecDepth 100000 in
theorem bNumber_any (n : Nat) (w : World) (h : n ≤ 9223372036854775807) :
    Calls Tryz.prog 66 #[.int .i64 n] w fun e w' => e = .returned (.string (vs n)) ∧ Below w.heap.size w w' := by
  have c := fun W => putUint_any (n : Int) W (by omega) (by omega)
  have e1 : us (n : Int) = vs n := by unfold us; rw [if_neg (by omega), Int.toNat_natCast]
  have e2 : ue (n : Int) = 0 := by unfold ue; rw [if_neg (by omega)]
  rw [e1, e2] at c
  clear e1 e2
  go_enter Tryz.func66, Tryz.ntmps66
  go_wp2_with (go_at_call 100; refine (c _).mono ?_; rintro e w1 ⟨rfl, hb⟩)
  go_ret
  exact ⟨rfl, hb⟩
theorem info9r : (Tryz.prog.info? 9).map (fun i => (i.zero, i.size, i.bytes)) = some (some (.string ⟨#[]⟩), 1, 16) := by kernel_rfl
def recK (l : List Ch) (k : Nat) : List ByteArray := vs l.length :: (l.take k).flatMap parts
theorem recK_all (l : List Ch) (k : Nat) (h : l.length ≤ k) : recK l k = recP l := by unfold recK recP; rw [List.take_of_length_le h]
theorem recK_succ {l : List Ch} {k : Nat} {x : Ch} (h : l[k]? = some x) : recK l (k + 1) = recK l k ++ parts x := by
  have hk := (List.getElem?_eq_some_iff.1 h).1
  unfold recK
  rw [List.take_succ_eq_append_getElem hk, List.flatMap_append, List.cons_append]
  rw [List.getElem?_eq_getElem hk] at h
  injection h with h
  rw [h]
  simp
theorem parts_le (x : Ch) : (parts x).length ≤ 3 := by unfold parts; split <;> simp
theorem recK_len (l : List Ch) : ∀ k, (recK l k).length ≤ 3 * k + 1 := by
  intro k
  unfold recK
  rw [List.length_cons]
  have : ∀ m : List Ch, (m.flatMap parts).length ≤ 3 * m.length := fun m => by
    induction m with
    | nil => exact Nat.le_refl _
    | cons x m ih => rw [List.flatMap_cons, List.length_append, List.length_cons]; have := parts_le x; omega
  have h1 := this (l.take k)
  have h2 : (l.take k).length ≤ k := by rw [List.length_take]; omega
  omega
theorem app_texts {W0 W : World} {B T : Nat} {v : Value} {l news : List ByteArray} (hO : W.ownsRow B 9 1 v T (l.map sv)) (hT : T + news.length ≤ 1000000000000) (hB : B ≤ W.heap.size) (h0 : B ≤ W0.heap.size) (hb : Below B W0 W) :
    ∀ ty, ∃ v' w', (Builtin.append_ #[84, 84] ty #[v, .slice (some ⟨W.heap.size, 0, none⟩) news.length news.length]).run Tryz.prog (W.alloc (.cells (news.map sv).toArray 9)) = .ok v' w' ∧
      w'.ownsRow B 9 1 v' (T + news.length) ((l ++ news).map sv) ∧ Below B W0 w' ∧ (W.alloc (.cells (news.map sv).toArray 9)).grownBy w' v.ownBlock := by
  intro ty
  obtain ⟨i0, hi, hz0, hz1, hz2⟩ := info_parts info9r
  have hO2 := hO.alloc (.cells (news.map sv).toArray 9)
  obtain ⟨v', w', hr, h1, h2, _⟩ := run_append_own (P := Tryz.prog) (W.alloc (.cells (news.map sv).toArray 9)) B 84 ty 9 i0 (.string ⟨#[]⟩) 1 16 Tryz.underlying84 hi hz0 hz1 hz2 rfl (by decide) v T (l.map sv) hO2
    ⟨W.heap.size, 0, none⟩ news.length news.length (news.map sv) (by simp) (fun j u hu => by
      rw [WideShapes.add_plain, Nat.zero_add, World.cell?_alloc_at _ _ _ _ rfl]
      simpa using hu) (sv_one news) (by unfold maxLen; omega) (by omega) (by simp; omega)
  refine ⟨v', w', hr, by rw [List.map_append]; exact h1, (hb.alloc hB _).grown h2 (by simp; omega) (fun k hk => (hO.lt k hk).1), h2⟩
theorem cells3_new (W : World) (x : Ch) (T : TypeId) : Cells3 W.heap.size x.key x.val x.gone (W.alloc (.cells #[.string x.key, .string x.val, .bool x.gone] T)) := by
  refine ⟨?_, ?_, ?_⟩ <;> · rw [World.cell?_alloc_at _ _ _ _ rfl]; rfl
theorem cells3_below {W W' : World} {x : Nat} {key val : ByteArray} {gone : Bool} {B : Nat} (h : Cells3 x key val gone W) (hb : Below B W W') (hx : x < B) : Cells3 x key val gone W' :=
  ⟨(hb.cell (p := ⟨x, _, none⟩) hx).trans h.1, (hb.cell (p := ⟨x, _, none⟩) hx).trans h.2.1, (hb.cell (p := ⟨x, _, none⟩) hx).trans h.2.2⟩
theorem cells3_grown {W W' : World} {x : Nat} {key val : ByteArray} {gone : Bool} {row : Option Nat} (h : Cells3 x key val gone W) (hg : W.grownBy W' row) (hx : some x ≠ row) : Cells3 x key val gone W' :=
  ⟨hg.cell h.1 hx, hg.cell h.2.1 hx, hg.cell h.2.2 hx⟩
theorem cells3_alloc {W : World} {x : Nat} {key val : ByteArray} {gone : Bool} (h : Cells3 x key val gone W) (hx : x < W.heap.size) (o : Obj) : Cells3 x key val gone (W.alloc o) := cells3_below h ((Below.refl W.heap.size W).alloc (Nat.le_refl _) o) hx
theorem row_below {w w1 : World} {B n size : Nat} {e : TypeId} {v : Value} {xs : List Value} (h : w.ownsRow B e size v n xs) (hb : Below w.heap.size w w1) : w1.ownsRow B e size v n xs := own_kept h (fun g hg => hb.block g (h.lt g hg).2)
theorem lit_texts (W : World) (B : Nat) (x : ByteArray) (hB : B ≤ W.heap.size) : (W.alloc (.cells #[.string x] 9)).ownsRow B 9 1 (.slice (some ⟨W.heap.size, 0, none⟩) 1 1) 1 ([x].map sv) :=
  ⟨rfl, .inr ⟨W.heap.size, 1, #[.string x], rfl, hB, heap_alloc_new W _, Nat.le_refl _, by unfold maxLen; omega, rfl, rfl⟩⟩
set_option maxRecDepth 100000 in
set_option maxHeartbeats 4000000 in
theorem record_any (a : Option Addr) (n c : Nat) (l : List Ch) (w : World) (h : Opl w a n l) (hw : wt l ≤ 100000000000) (hc : n ≤ c) :
    Calls Tryz.prog 24 #[.slice a n c] w fun e w' => e = .returned (.string (rec7 l)) ∧ Below w.heap.size w w' := by
  have hln := h.1
  have hwl := wt_len l
  have HO := Lib.hid (fun W (hW : Below w.heap.size w W) => h.below hW)
  have HL := Lib.hid hln
  have HW := Lib.hid hw
  have hn : n ≤ 2500000000 := by omega
  have cnum := fun W => bNumber_any n W (by omega)
  clear h hln hwl hw
  go_enter Tryz.func24, Tryz.ntmps24
  go_wp2_with (go_at_call 66; refine (cnum _).mono ?_; rintro e w1 ⟨rfl, hb1⟩)
  go_loopw [3, 12] (fun v i wr => ∃ k T : Nat, k ≤ n ∧ i = .int .i64 k ∧ Hid ((recK l k).length = T) ∧ T ≤ 10000000000 ∧ wr.ownsRow w.heap.size 9 1 v T ((recK l k).map sv) ∧ Below w.heap.size w wr) (fun _ i _ => n - (intOf i).toNat)
  case atStart =>
    have hlen : vs n = vs l.length := by rw [HL.out]
    exact ⟨0, 1, Nat.zero_le _, rfl, rfl, by omega, by rw [hlen]; exact lit_texts _ _ _ hb1.size, hb1.alloc hb1.size _⟩
  case round =>
    obtain ⟨k, T, hk, rfl, hT, hTm, hown, hB⟩ := hrel
    by_cases hlt : k < n
    · obtain ⟨x, hx⟩ : ∃ x, l[k]? = some x := ⟨_, List.getElem?_eq_getElem (by rw [HL.out]; exact hlt)⟩
      obtain ⟨g, off, rfl, hg, g0, g1, g2⟩ := (HO.out _ hB).nth hx
      have hkz : (k : Int) < (n : Int) := by omega
      have hsx := wt_mem (List.mem_of_getElem? hx)
      have hwx := HW.out
      have hks : x.key.size ≤ 100000000000 := by omega
      have hvs : x.val.size ≤ 100000000000 := by omega
      have hrk := recK_succ hx
      have hlk := recK_len l (k + 1)
      obtain ⟨key, val, gone⟩ := x
      simp only at g0 g1 g2 hks hvs
      have HR := Lib.hid hrk
      have HLK := Lib.hid hlk
      clear hx hsx hwx hrk hlk
      have hW2 : Below wr.heap.size wr (wr.alloc (.cells #[.string key, .string val, .bool gone] 43)) := (Below.refl _ wr).alloc (Nat.le_refl _) _
      have hB2 := hB.alloc hB.size (.cells #[.string key, .string val, .bool gone] 43)
      have hO2 := hown.alloc (.cells #[.string key, .string val, .bool gone] 43)
      have hlt2 : wr.heap.size < (wr.alloc (.cells #[.string key, .string val, .bool gone] 43)).heap.size := by simp
      cases gone
      · have hC3 : Cells3 wr.heap.size key val false (wr.alloc (.cells #[.string key, .string val, .bool false] 43)) := cells3_new wr ⟨key, val, false⟩ _
        have hp : parts ⟨key, val, false⟩ = [vs 1, ts key, ts val] := rfl
        have HP := Lib.hid hp
        clear hp
        go_wp2_with fail
        generalize wr.alloc (.cells #[.string key, .string val, .bool false] 43) = W2 at hW2 hB2 hO2 hC3 hlt2 ⊢
        have hES : ∀ W, Below W2.heap.size W2 W → Cells3 wr.heap.size key val false (W.alloc (.cells ([vs 1, ts key, ts val].map sv).toArray 9)) := fun W hW => cells3_alloc (cells3_below hC3 hW hlt2) (Nat.lt_of_lt_of_le hlt2 hW.size) _
        have hE : ∀ W, Below W2.heap.size W2 W → ∀ ty, ∃ v w1, (Builtin.append_ #[84, 84] ty #[u3, .slice (some ⟨W.heap.size, 0, none⟩) 3 3]).run Tryz.prog (W.alloc (.cells ([vs 1, ts key, ts val].map sv).toArray 9)) = .ok v w1 ∧
            (w1.ownsRow w.heap.size 9 1 v (T + 3) ((recK l k ++ [vs 1, ts key, ts val]).map sv) ∧ Below w.heap.size w w1 ∧ Cells3 wr.heap.size key val false w1) := fun W hW ty => by
          obtain ⟨v', w', hr, h1, h2, h3⟩ := app_texts (news := [vs 1, ts key, ts val]) (row_below hO2 hW) (by show T + 3 ≤ _; omega) (Tx.below_call hB2 hW).size (Nat.le_refl _) (Tx.below_call hB2 hW) ty
          exact ⟨v', w', hr, h1, h2, cells3_grown (hES W hW) h3 (fun e => by have := (hown.lt _ e.symm).2; omega)⟩
        refine Rg.wp_only ?_ (recGive _ (by kernel_rfl) _ wr.heap.size key val (vs 1) (ts key) (ts val) false u3 _ (fun W => Below W2.heap.size W2 W) (fun W => Below W2.heap.size W2 W) (fun W => Below W2.heap.size W2 W) _ hC3
          ((bNumber_any 1 _ (by omega)).mono fun e w' hh => ⟨hh.1, Tx.below_call (Below.refl _ W2).drew hh.2⟩) (fun W hW => cells3_below hC3 hW hlt2)
          (fun W hW => (putText_any key W (by omega)).mono fun e w' hh => ⟨hh.1, Tx.below_call hW hh.2⟩) (fun W hW => cells3_below hC3 hW hlt2) (fun W hW => (putText_any val W (by omega)).mono fun e w' hh => ⟨hh.1, Tx.below_call hW hh.2⟩) (fun W hW => cells3_below hC3 hW hlt2) hES hE (fun v W h => h.2.2))
        rintro _ w8 ⟨z8, v8, rfl, hO8, hB8, _⟩
        have hO9 : w8.ownsRow w.heap.size 9 1 v8 (T + 3) ((recK l (k + 1)).map sv) := by rw [HR.out, HP.out]; exact hO8
        have hlen : (recK l (k + 1)).length = T + 3 := by rw [HR.out, HP.out, List.length_append, hT.out]; rfl
        have hTb : T + 3 ≤ 10000000000 := by have := HLK.out; omega
        clear hE hES hO8 hC3 hO2 hB2 hown hB hW2
        go_wp2_with fail
        go_roundw
        case rel => exact ⟨k + 1, T + 3, by omega, by go_num, hlen, hTb, hO9, hB8⟩
        case measure => simp [intOf]; omega
      · have hC3 : Cells3 wr.heap.size key val true (wr.alloc (.cells #[.string key, .string val, .bool true] 43)) := cells3_new wr ⟨key, val, true⟩ _
        have hp : parts ⟨key, val, true⟩ = [vs 0, ts key] := rfl
        have HP := Lib.hid hp
        clear hp
        go_wp2_with fail
        generalize wr.alloc (.cells #[.string key, .string val, .bool true] 43) = W2 at hW2 hB2 hO2 hC3 hlt2 ⊢
        have hES : ∀ W, Below W2.heap.size W2 W → Cells3 wr.heap.size key val true (W.alloc (.cells ([vs 0, ts key].map sv).toArray 9)) := fun W hW => cells3_alloc (cells3_below hC3 hW hlt2) (Nat.lt_of_lt_of_le hlt2 hW.size) _
        have hE : ∀ W, Below W2.heap.size W2 W → ∀ ty, ∃ v w1, (Builtin.append_ #[84, 84] ty #[u3, .slice (some ⟨W.heap.size, 0, none⟩) 2 2]).run Tryz.prog (W.alloc (.cells ([vs 0, ts key].map sv).toArray 9)) = .ok v w1 ∧
            (w1.ownsRow w.heap.size 9 1 v (T + 2) ((recK l k ++ [vs 0, ts key]).map sv) ∧ Below w.heap.size w w1 ∧ Cells3 wr.heap.size key val true w1) := fun W hW ty => by
          obtain ⟨v', w', hr, h1, h2, h3⟩ := app_texts (news := [vs 0, ts key]) (row_below hO2 hW) (by show T + 2 ≤ _; omega) (Tx.below_call hB2 hW).size (Nat.le_refl _) (Tx.below_call hB2 hW) ty
          exact ⟨v', w', hr, h1, h2, cells3_grown (hES W hW) h3 (fun e => by have := (hown.lt _ e.symm).2; omega)⟩
        refine Rg.wp_only ?_ (recGone _ (by kernel_rfl) _ wr.heap.size key val (vs 0) (ts key) true u3 _ (fun W => Below W2.heap.size W2 W) (fun W => Below W2.heap.size W2 W) (fun W => Below W2.heap.size W2 W) _ hC3
          ((bNumber_any 0 _ (by omega)).mono fun e w' hh => ⟨hh.1, Tx.below_call (Below.refl _ W2).drew hh.2⟩) (fun W hW => cells3_below hC3 hW hlt2)
          (fun W hW => (putText_any key W (by omega)).mono fun e w' hh => ⟨hh.1, Tx.below_call hW hh.2⟩) (fun W hW => cells3_below hC3 hW hlt2) hES hE (fun v W h => h.2.2))
        rintro _ w8 ⟨z8, v8, rfl, hO8, hB8, _⟩
        have hO9 : w8.ownsRow w.heap.size 9 1 v8 (T + 2) ((recK l (k + 1)).map sv) := by rw [HR.out, HP.out]; exact hO8
        have hlen : (recK l (k + 1)).length = T + 2 := by rw [HR.out, HP.out, List.length_append, hT.out]; rfl
        have hTb : T + 2 ≤ 10000000000 := by have := HLK.out; omega
        clear hE hES hO8 hC3 hO2 hB2 hown hB hW2
        go_wp2_with fail
        go_roundw
        case rel => exact ⟨k + 1, T + 2, by omega, by go_num, hlen, hTb, hO9, hB8⟩
        case measure => simp [intOf]; omega
    · obtain rfl : k = n := by omega
      have hall := recK_all l k (by rw [HL.out]; exact Nat.le_refl _)
      have hO2 : Texts wr w.heap.size u3 (recP l) := by
        unfold Texts
        rw [← hall, hT.out]
        exact hown
      obtain ⟨a2, c2, hv, hst, hc2, _⟩ := hO2.form
      have hlenT : (recP l).length = T := by rw [← hall]; exact hT.out
      rw [hlenT] at hv hst hc2
      obtain ⟨_, hne⟩ := hst
      obtain ⟨b2, off2, rfl, hb2, hcc⟩ := hne.resolve_left (by rw [← hT.out]; unfold recK; simp)
      have hsz : (cat (recP l)).size ≤ 140737488355328 := by
        have h1 := rec7_le (l := l) (by have := HW.out; omega)
        have h2 := HW.out
        unfold rec7 at h1
        omega
      have cj := join_any b2 off2 c2 (recP l) wr (fun j x hj => hcc j x hj) hb2 (by rw [hlenT]; omega) (by rw [hlenT]; exact hc2) hsz
      rw [hlenT] at cj
      have hr7 : cat (recP l) = rec7 l := rfl
      rw [hr7] at cj
      clear hall hO2 hcc hsz hr7 hown hT
      subst hv
      go_wp2_with (go_at_call 68; refine cj.mono ?_; rintro e w2 ⟨rfl, hb3⟩)
      go_ret
      exact ⟨rfl, Tx.below_call hB hb3⟩
end Go.Proofs.YtjdfffkkpbabpaaGreat.Tb

namespace Go.Proofs.YtjdfffkkpbabpaaGreat.Tb
open Go.RowKit Tx Pm Dk Wm Wr
set_option linter.unusedVariables false
set_option linter.unusedSimpArgs false
set_option linter.unnecessarySimpa false
def OpsTo (s : ByteArray) (w : World) (e : Ending) (w' : World) : Prop := ∃ v, e = .returned (.tuple #[v, .int .i64 ((opsS s).2 : Nat)]) ∧ OwnC w' w.heap.size v (opsS s).1 ∧ Below w.heap.size w w'
theorem below_chgB {w w1 w2 : World} {b : Nat} (h : Below w.heap.size w w1) (hc : Chg (· = b) w1 w2) (hb : w.heap.size ≤ b) : Below w.heap.size w w2 := h.trans (hc.below h.size (fun i hi => by omega))
theorem own_chg {w w1 : World} {B n size : Nat} {e : TypeId} {v : Value} {xs : List Value} {F : Nat → Prop} (h : w.ownsRow B e size v n xs) (hc : Chg F w w1) (hF : ∀ g, v.ownBlock = some g → ¬ F g) : w1.ownsRow B e size v n xs :=
  own_kept h (fun g hg => hc.block g (h.lt g hg).2 (hF g hg))
theorem own_less {w : World} {B C n size : Nat} {e : TypeId} {v : Value} {xs : List Value} (h : w.ownsRow C e size v n xs) (hB : B ≤ C) : w.ownsRow B e size v n xs := by
  refine ⟨h.1, ?_⟩
  rcases h.2 with h0 | ⟨g, cap, cur, hv, hg, hh, r⟩
  · exact .inl h0
  · exact .inr ⟨g, cap, cur, hv, Nat.le_trans hB hg, hh, r⟩
theorem cells_one (c : Ch) : ∀ u ∈ cellsC c, u.oneCell' = true := by
  intro u hu
  simp only [cellsC, List.mem_cons, List.not_mem_nil, or_false] at hu
  rcases hu with rfl | rfl | rfl <;> rfl
theorem nil_OwnC (w : World) (B : Nat) : OwnC w B (.slice none 0 0) [] := World.ownsRow_nil _ _ _ _
theorem new3 (W : World) (c : Ch) {z : Nat} (hz : z = W.heap.size) : ∀ (j : Nat) (u : Value), (cellsC c)[j]? = some u → (W.alloc (.cells #[.string c.key, .string c.val, .bool c.gone] 43)).cell? (Addr.add ⟨z, 0, none⟩ j) = some u := by
  subst hz
  intro j u hu
  rw [WideShapes.add_plain, Nat.zero_add, World.cell?_alloc_at _ _ _ _ rfl]
  match j, hu with
  | 0, hu => simpa [cellsC] using hu
  | 1, hu => simpa [cellsC] using hu
  | 2, hu => simpa [cellsC] using hu
  | j + 3, hu => simp [cellsC] at hu
set_option maxRecDepth 100000 in
set_option maxHeartbeats 4000000 in
theorem ops_any (s : ByteArray) (w : World) (hs : s.size ≤ 1000000000000) : Calls Tryz.prog 109 #[.string s] w (OpsTo s w) := by
  have hsm : s.size ≤ maxLen := by unfold maxLen; omega
  have cn := new_any s w
  have hR0 := rat_new w s
  have hB0 : Below w.heap.size w (w.alloc (.cells #[.string s] 173)) := (Below.refl _ w).alloc (Nat.le_refl _) _
  have cu := uint_any w.heap.size s _ hR0 hsm
  unfold OpsTo
  obtain ⟨k, m, e0, h0⟩ := Fm.trip (rdU s.data.toList)
  rw [h0] at cu
  by_cases he : e0 = 0
  · subst he
    obtain ⟨hm, _, _, hk63, hk⟩ := rdU_ok h0
    rw [Wm.len_l] at hm
    have H0 := Lib.hid h0
    obtain ⟨i0, hi, hz0, hz1, hz2⟩ := info_parts infoC
    clear hR0 h0
    go_enter Tryz.func109, Tryz.ntmps109
    go_wp2_with (go_at_call 106; refine cn.mono ?_; rintro e w1 ⟨rfl, rfl⟩)
    go_at_call 139
    refine cu.mono ?_
    rintro e w1 ⟨rfl, hR1, hg1⟩
    have hB1 : Below w.heap.size w w1 := below_chgB hB0 (chg_grown hg1) (Nat.le_refl _)
    go_wp2_with fail
    go_loopw [7, 22] (fun v iv wr => ∃ (i a T : Nat) (out : List Ch), i ≤ k ∧ iv = .int .i64 i ∧ Hid (rdN s k m = (out ++ (rdN s (k - i) a).1, (rdN s (k - i) a).2.1, (rdN s (k - i) a).2.2)) ∧ Hid (out.length = T) ∧ 2 * T ≤ a ∧ a ≤ s.size ∧ Rat wr w.heap.size (s.extract a s.size) ∧ wr.ownsRow (w.heap.size + 1) 43 3 v T (out.flatMap cellsC) ∧ Below w.heap.size w wr) (fun _ iv _ => k - (intOf iv).toNat)
    case atStart => exact ⟨0, m, 0, [], Nat.zero_le _, rfl, by show rdN s k m = _; rw [Nat.sub_zero]; rfl, rfl, by omega, hm, hR1, World.ownsRow_nil _ _ _ _, hB1⟩
    case round =>
      obtain ⟨i, a, T, out, hik, rfl, hrd, hT, hTa, has, hR, hown, hB⟩ := hrel
      have hxs : (s.extract a s.size).size ≤ 1000000000000000000 := by rw [ByteArray.size_extract]; omega
      by_cases hlt : i < k
      · have cr := readOp_any w.heap.size (s.extract a s.size) wr hR hxs
        unfold OpTo at cr
        obtain ⟨c, n, e, h1⟩ := Fm.trip (rdOp (s.extract a s.size))
        rw [h1] at cr
        have hki : k - i = (k - i - 1) + 1 := by omega
        have hikz : (i : Int) < (k : Int) := by omega
        by_cases he : e = 0
        · subst he
          have hrd2 := hrd.out
          rw [hki, rdN_one h1] at hrd2
          have hrd3 : rdN s k m = ((out ++ [c]) ++ (rdN s (k - (i + 1)) (a + n)).1, (rdN s (k - (i + 1)) (a + n)).2.1, (rdN s (k - (i + 1)) (a + n)).2.2) := by
            rw [hrd2, show k - i - 1 = k - (i + 1) by omega, List.append_assoc]; rfl
          obtain ⟨hn1, _, hn2, _⟩ := rdOp_ok h1
          rw [ByteArray.size_extract, Nat.min_self] at hn1
          have HRD := Lib.hid hrd3
          obtain ⟨key, val, gone⟩ := c
          simp only [ov] at cr
          clear hrd hrd2 hrd3 h1 hR
          go_wp2_with fail
          go_at_call 140
          refine cr.mono ?_
          rintro e w5 ⟨rfl, hR5, hc5⟩
          have hR5 := hR5 trivial
          rw [ext_ext s a n has] at hR5
          have hO5 := own_chg hown hc5 (fun g hg => by have := (hown.lt g hg).1; omega)
          have hB5 := below_chgB hB hc5 (Nat.le_refl _)
          have hTs : T + 1 ≤ 1000000000000 := by omega
          go_wp2_with (at_builtin; refine wpList_append_own _ rfl _ _ 37 rfl (w.heap.size + 1) 43 i0 (ov ch0) 3 40 Tryz.underlying37 hi hz0 hz1 hz2 rfl (by decide) _ _ _ rfl ((hO5.alloc (.cells #[.string key, .string val, .bool gone] 43)).alloc _) ⟨w5.heap.size + 1, 0, none⟩ 1 1 [.string key, .string val, .bool gone] rfl rfl ?c1 ?c2 ?c3 ?c4 ?c5 ?_)
          case c1 => exact new3 (w5.alloc (.cells #[.string key, .string val, .bool gone] 43)) ⟨key, val, gone⟩ (by simp)
          case c2 => exact cells_one ⟨key, val, gone⟩
          case c3 => unfold maxLen; omega
          case c4 => omega
          case c5 => have := hB5.size; simp; have := rat_lt hR5; omega
          intro v' w6 hown6 hgrow6 _
          have hR6 : Rat w6 w.heap.size (s.extract (a + n) s.size) := rat_kept (rat_alloc (rat_alloc hR5 _) _) (hgrow6.block _ (by have := rat_lt hR5; simp; omega) (fun e => by have := (hO5.lt _ e.symm).1; omega))
          have hB6 : Below w.heap.size w w6 := ((hB5.alloc hB5.size _).alloc (by simp; have := hB5.size; omega) _).grown hgrow6 (by simp; have := hB5.size; omega) (fun g hg => by have := (hO5.lt g hg).1; omega)
          have hO6 : w6.ownsRow (w.heap.size + 1) 43 3 v' (T + 1) ((out ++ [(⟨key, val, gone⟩ : Ch)]).flatMap cellsC) := by
            rw [List.flatMap_append]
            exact hown6
          have hlen : (out ++ [(⟨key, val, gone⟩ : Ch)]).length = T + 1 := by rw [List.length_append, hT.out]; rfl
          clear hown6 hgrow6 hO5 hB5 hR5 hown hB hT
          go_wp2_with fail
          go_roundw
          case rel => exact ⟨i + 1, a + n, T + 1, out ++ [(⟨key, val, gone⟩ : Ch)], by omega, by go_num, HRD.out, hlen, by omega, by omega, hR6, hO6, hB6⟩
          case measure => simp [intOf]; omega
        · have hrd2 := hrd.out
          rw [hki, rdN_bad h1 he] at hrd2
          have hops : opsS s = ([], e) := opsS_2 H0.out hrd2 he
          have ne := neZ he
          have HOPS := Lib.hid hops
          simp only [ov, ch0] at cr
          clear hrd hrd2 hops h1 hR he
          go_wp2_with fail
          go_at_call 140
          refine cr.mono ?_
          rintro e w5 ⟨rfl, _, hc5⟩
          have hB5 := below_chgB hB hc5 (Nat.le_refl _)
          go_wp2_with fail
          go_ret2
          rw [HOPS.out]
          exact ⟨_, rfl, nil_OwnC _ _, hB5.alloc hB5.size _⟩
      · obtain rfl : i = k := by omega
        have hrd2 := hrd.out
        rw [Nat.sub_self] at hrd2
        simp only [rdN, List.append_nil] at hrd2
        have cd := done_any w.heap.size (s.extract a s.size) wr hR (by unfold maxLen; omega)
        have hsz : (s.extract a s.size).size = s.size - a := by simp
        rw [hsz] at cd
        obtain ⟨av, cv, hv⟩ : ∃ av cv, u7 = .slice av T cv := by
          rcases hown.2 with ⟨hv, h0⟩ | ⟨g, cap, cur, hv, _⟩
          · exact ⟨none, 0, by rw [hv, h0]⟩
          · exact ⟨_, _, hv⟩
        have hO : OwnC wr w.heap.size u7 out := by unfold OwnC; rw [hT.out]; exact own_less hown (by omega)
        by_cases ha : a < s.size
        · have hd : dn (s.size - a) = 5 := by unfold dn; rw [if_neg (by omega)]
          rw [hd] at cd
          have hops : opsS s = ([], 5) := opsS_3 H0.out hrd2 ha
          have HOPS := Lib.hid hops
          clear hrd hrd2 hops hR hO hown hT
          subst hv
          go_wp2_with fail
          go_at_call 141
          refine cd.mono ?_
          rintro e w5 ⟨rfl, rfl⟩
          go_wp2_with fail
          go_ret2
          rw [HOPS.out]
          exact ⟨_, rfl, nil_OwnC _ _, hB⟩
        · have hd : dn (s.size - a) = 0 := by unfold dn; rw [if_pos (by omega)]
          rw [hd] at cd
          have hops : opsS s = (out, 0) := opsS_4 H0.out hrd2 ha
          have HOPS := Lib.hid hops
          have HO := Lib.hid hO
          clear hrd hrd2 hops hR hO hown hT
          subst hv
          go_wp2_with fail
          go_at_call 141
          refine cd.mono ?_
          rintro e w5 ⟨rfl, rfl⟩
          go_wp2_with fail
          go_ret2
          rw [HOPS.out]
          exact ⟨_, rfl, HO.out, hB⟩
  · have hops : opsS s = ([], e0) := opsS_1 h0 he
    have ne := neZ he
    rw [hops]
    clear hR0 h0 hops he
    go_enter Tryz.func109, Tryz.ntmps109
    go_wp2_with (go_at_call 106; refine cn.mono ?_; rintro e w1 ⟨rfl, rfl⟩)
    go_at_call 139
    refine cu.mono ?_
    rintro e w1 ⟨rfl, hR1, hg1⟩
    have hB1 : Below w.heap.size w w1 := below_chgB hB0 (chg_grown hg1) (Nat.le_refl _)
    go_wp2_with fail
    go_ret2
    exact ⟨_, rfl, nil_OwnC _ _, hB1⟩
end Go.Proofs.YtjdfffkkpbabpaaGreat.Tb

namespace Go.Proofs.YtjdfffkkpbabpaaGreat.Tb
open Go.RowKit Tx Pm Dk Wm Wr
set_option linter.unusedVariables false
set_option linter.unusedSimpArgs false
set_option linter.unnecessarySimpa false
theorem take_snoc7 {α : Type} {l : List α} {k : Nat} {x : α} (h : l[k]? = some x) : l.take (k + 1) = l.take k ++ [x] := by
  have hk := (List.getElem?_eq_some_iff.1 h).1
  rw [List.getElem?_eq_getElem hk] at h
  injection h with h
  rw [List.take_succ_eq_append_getElem hk, h]
def cellsR (x : It) : List Value := [.string x.path, .string x.data]
def rv0 : Value := .agg #[.string ⟨#[]⟩, .string ⟨#[]⟩]
theorem infoR : (Tryz.prog.info? 96).map (fun i => (i.zero, i.size, i.bytes)) = some (some rv0, 2, 32) := by kernel_rfl
def Rsl (w : World) (a : Option Addr) (n : Nat) (L : List It) : Prop := L.length = n ∧ (n = 0 ∨ ∃ g off, a = some ⟨g, off, none⟩ ∧ g < w.heap.size ∧ ∀ k x, L[k]? = some x →
  w.cell? ⟨g, off + k * 2, none⟩ = some (.string x.path) ∧ w.cell? ⟨g, off + k * 2 + 1, none⟩ = some (.string x.data))
theorem Rsl.below {w w1 : World} {a : Option Addr} {n : Nat} {L : List It} (h : Rsl w a n L) (hb : Below w.heap.size w w1) : Rsl w1 a n L := by
  refine ⟨h.1, ?_⟩
  rcases h.2 with h0 | ⟨g, off, ha, hlt, hc⟩
  · exact .inl h0
  · refine .inr ⟨g, off, ha, Nat.lt_of_lt_of_le hlt hb.size, fun k x hx => ?_⟩
    obtain ⟨h1, h2⟩ := hc k x hx
    exact ⟨(hb.cell (p := ⟨g, _, none⟩) hlt).trans h1, (hb.cell (p := ⟨g, _, none⟩) hlt).trans h2⟩
theorem Rsl.nth {w : World} {a : Option Addr} {n : Nat} {L : List It} (h : Rsl w a n L) {k : Nat} {x : It} (hx : L[k]? = some x) : ∃ g off, a = some ⟨g, off, none⟩ ∧ g < w.heap.size ∧ w.cell? ⟨g, off + k * 2, none⟩ = some (.string x.path) ∧ w.cell? ⟨g, off + k * 2 + 1, none⟩ = some (.string x.data) := by
  have hk := (List.getElem?_eq_some_iff.1 hx).1
  rcases h.2 with h0 | ⟨g, off, ha, hlt, hc⟩
  · rw [h.1] at hk; omega
  · exact ⟨g, off, ha, hlt, hc k x hx⟩
def OwR (w : World) (B : Nat) (v : Value) (L : List It) : Prop := w.ownsRow B 96 2 v L.length (L.flatMap cellsR)
theorem OwR.form {w : World} {B : Nat} {v : Value} {L : List It} (h : OwR w B v L) : ∃ a c, v = .slice a L.length c ∧ Rsl w a L.length L ∧ L.length ≤ c ∧ c ≤ maxLen := by
  have hh := h
  rcases h.2 with ⟨rfl, h0⟩ | ⟨g, cap, cur, rfl, hg, hh2, hn, hc, _⟩
  · exact ⟨none, 0, by rw [h0], ⟨rfl, .inl h0⟩, by omega, Nat.zero_le _⟩
  · refine ⟨some ⟨g, 0, none⟩, cap, rfl, ⟨rfl, .inr ⟨g, 0, rfl, (Array.getElem?_eq_some_iff.1 hh2).1, fun k x hx => ?_⟩⟩, hn, hc⟩
    have hc : ∀ j u, j < 2 → (cellsR x)[j]? = some u → w.cell? ⟨g, 0 + k * 2 + j, none⟩ = some u := by
      intro j u hj hu
      have := hh.cells (g := g) rfl (k * 2 + j) u ((flat_at cellsR 2 (fun _ => rfl) L k x j hx hj).trans hu)
      rw [WideShapes.add_plain, Nat.zero_add] at this
      rw [Nat.zero_add]
      exact this
    exact ⟨hc 0 _ (by omega) rfl, hc 1 _ (by omega) rfl⟩
def getV : Option It → Value
  | some x => .tuple #[.string x.data, .bool true]
  | none => .tuple #[.string ⟨#[]⟩, .bool false]
def getR (L : List It) (p : ByteArray) : Option It := L.find? (fun x => decide (x.path = p))
set_option maxRecDepth 100000 in
set_option maxHeartbeats 2000000 in
theorem refGet_any (a : Option Addr) (n c : Nat) (L : List It) (p : ByteArray) (w : World) (h : Rsl w a n L) (hn : n ≤ 1000000000) (hc : n ≤ c) : Calls Tryz.prog 58 #[.slice a n c, .string p] w fun e w' => e = .returned (getV (getR L p)) ∧ Below w.heap.size w w' := by
  have HST := Lib.hid (fun V (hV : Below w.heap.size w V) => h.below hV)
  have HL := Lib.hid h.1
  clear h
  go_enter Tryz.func58, Tryz.ntmps58
  go_wp2_with fail
  go_loopw [6] (fun iv wr => ∃ i : Nat, i ≤ n ∧ iv = .int .i64 i ∧ Hid (∀ x ∈ L.take i, x.path ≠ p) ∧ Below w.heap.size w wr) (fun iv _ => n - (intOf iv).toNat)
  case atStart => exact ⟨0, Nat.zero_le _, rfl, (fun x hx => by cases hx), Below.refl _ _⟩
  case round =>
    obtain ⟨i, hi, rfl, hno, hB⟩ := hrel
    by_cases hlt : i < n
    · obtain ⟨x, hx⟩ : ∃ x, L[i]? = some x := ⟨_, List.getElem?_eq_getElem (by rw [HL.out]; exact hlt)⟩
      obtain ⟨g, off, rfl, hgl, g0, g1⟩ := (HST.out _ hB).nth hx
      have hiz : (i : Int) < (n : Int) := by omega
      have hil := (List.getElem?_eq_some_iff.1 hx).1
      by_cases he : x.path = p
      · have hg : getR L p = some x := by
          unfold getR
          rw [List.find?_eq_some_iff_getElem]
          refine ⟨by simp [he], i, hil, ?_, fun j hj => ?_⟩
          · rw [List.getElem?_eq_getElem hil] at hx
            injection hx
          · have hm : L[j]'(by omega) ∈ L.take i := by
              rw [List.mem_take_iff_getElem]
              exact ⟨j, by omega, rfl⟩
            simpa using hno.out _ hm
        have HG := Lib.hid hg
        have hb : (x.path.toList == p.toList) = true := by rw [he]; exact beq_self_eq_true _
        have HE := Lib.hid he
        clear hx he hg hno
        go_wp2_with fail
        go_ret2
        rw [HG.out]
        exact ⟨rfl, hB⟩
      · have hno2 : Hid (∀ y ∈ L.take (i + 1), y.path ≠ p) := Lib.hid (fun y hy => by
          rw [take_snoc7 hx] at hy
          rcases List.mem_append.1 hy with hy | hy
          · exact hno.out y hy
          · rw [List.mem_singleton.1 hy]; exact he)
        have hb : (x.path.toList == p.toList) = false := bytes_ne he
        clear hx he hno
        go_wp2_with fail
        go_roundw
        case rel => exact ⟨i + 1, by omega, by go_num, hno2, hB⟩
        case measure => simp [intOf]; omega
    · obtain rfl : i = n := by omega
      have hg : getR L p = none := List.find?_eq_none.2 (fun x hx => by
        have := hno.out x (by rw [List.take_of_length_le (by rw [HL.out]; exact Nat.le_refl _)]; exact hx)
        simpa using this)
      have HG := Lib.hid hg
      clear hg hno
      go_wp2_with fail
      go_ret2
      rw [HG.out]
      exact ⟨rfl, hB⟩
end Go.Proofs.YtjdfffkkpbabpaaGreat.Tb

namespace Go.Proofs.YtjdfffkkpbabpaaGreat.Tb
open Go.RowKit Tx Pm Dk Wm Wr Od
set_option linter.unusedVariables false
set_option linter.unusedSimpArgs false
set_option linter.unnecessarySimpa false
def setF (c : Ch) (r : List It × Bool) (x : It) : List It × Bool :=
  if x.path = c.key then r else if r.2 = false ∧ Op.bytesLess c.key.toList x.path.toList = true then (r.1 ++ [rw7 c.key c.val] ++ [x], true) else (r.1 ++ [x], r.2)
def setE (c : Ch) (r : List It × Bool) : List It := if r.2 then r.1 else r.1 ++ [rw7 c.key c.val]
theorem less_not {a b : List UInt8} (h : Op.bytesLess a b = true) : Op.bytesLess b a = false := by
  cases hc : Op.bytesLess b a with
  | false => rfl
  | true => have := less_trans _ _ _ h hc; rw [less_irrefl] at this; cases this
theorem setF_low (c : Ch) : ∀ (A : List It) (o : List It), (∀ y ∈ A, Op.bytesLess y.path.toList c.key.toList = true) → A.foldl (setF c) (o, false) = (o ++ A, false)
  | [], o, _ => by simp
  | y :: A, o, h => by
    have hy := h y List.mem_cons_self
    have hne : y.path ≠ c.key := fun e => by rw [e, less_irrefl] at hy; cases hy
    have h1 : setF c (o, false) y = (o ++ [y], false) := by
      unfold setF
      rw [if_neg hne, if_neg (by rw [less_not hy]; simp)]
    rw [List.foldl_cons, h1, setF_low c A _ (fun z hz => h z (List.mem_cons_of_mem _ hz))]
    simp
theorem setF_done (c : Ch) : ∀ (A : List It) (o : List It), A.foldl (setF c) (o, true) = (o ++ Dk.drop A c.key, true)
  | [], o => by simp [Dk.drop]
  | y :: A, o => by
    have ih := setF_done c A
    rw [List.foldl_cons]
    unfold Dk.drop at ih ⊢
    by_cases hy : y.path = c.key
    · have h1 : setF c (o, true) y = (o, true) := by unfold setF; rw [if_pos hy]
      rw [h1, ih, List.filter_cons_of_neg (by simp [hy])]
    · have h1 : setF c (o, true) y = (o ++ [y], true) := by unfold setF; rw [if_neg hy, if_neg (by simp)]
      rw [h1, ih, List.filter_cons_of_pos (by simp [hy])]
      simp
theorem drop_high {c : Ch} {A : List It} (h : ∀ y ∈ A, Op.bytesLess c.key.toList y.path.toList = true) : Dk.drop A c.key = A := by
  unfold Dk.drop
  refine List.filter_eq_self.2 (fun y hy => ?_)
  have := h y hy
  simp only [Bool.not_eq_true', decide_eq_false_iff_not]
  intro e
  rw [e, less_irrefl] at this
  cases this
theorem setF_high (c : Ch) (A : List It) (o : List It) (h : ∀ y ∈ A, Op.bytesLess c.key.toList y.path.toList = true) : setE c (A.foldl (setF c) (o, false)) = o ++ rw7 c.key c.val :: A := by
  cases A with
  | nil => rfl
  | cons y A =>
    have hy := h y List.mem_cons_self
    have hne : y.path ≠ c.key := fun e => by rw [e, less_irrefl] at hy; cases hy
    have h1 : setF c (o, false) y = (o ++ [rw7 c.key c.val] ++ [y], true) := by
      unfold setF
      rw [if_neg hne, if_pos ⟨rfl, hy⟩]
    rw [List.foldl_cons, h1, setF_done, drop_high (fun z hz => h z (List.mem_cons_of_mem _ hz))]
    simp [setE]
theorem setF_all {L : List It} (hR : Rises L) (c : Ch) : setE c (L.foldl (setF c) ([], c.gone)) = app L c := by
  unfold app
  cases hg : c.gone with
  | true =>
    rw [setF_done]
    simp [setE]
  | false =>
    have hsplit := List.takeWhile_append_dropWhile (p := fun y : It => Op.bytesLess y.path.toList c.key.toList) (l := L)
    have hA : ∀ y ∈ L.takeWhile (fun y => Op.bytesLess y.path.toList c.key.toList), Op.bytesLess y.path.toList c.key.toList = true := fun y hy => List.all_eq_true.1 (List.all_takeWhile (p := fun y : It => Op.bytesLess y.path.toList c.key.toList) (l := L)) y hy
    have hD : ∀ y r, L.dropWhile (fun y => Op.bytesLess y.path.toList c.key.toList) = y :: r → Op.bytesLess y.path.toList c.key.toList = false := fun y r hd => by
      have := List.head?_dropWhile_not (fun y : It => Op.bytesLess y.path.toList c.key.toList) L
      rw [hd] at this
      simpa using this
    conv => lhs; rw [← hsplit, List.foldl_append, setF_low c _ _ hA, List.nil_append]
    have hRD : Rises (L.dropWhile (fun y => Op.bytesLess y.path.toList c.key.toList)) := List.Pairwise.sublist (List.dropWhile_sublist _) hR
    have hk : (rw7 c.key c.val).path = c.key := rfl
    simp only [Bool.false_eq_true, if_false]
    unfold ins
    rw [hk]
    cases hd : L.dropWhile (fun y => Op.bytesLess y.path.toList c.key.toList) with
    | nil => rfl
    | cons y r =>
      have hy := hD y r hd
      rw [hd] at hRD
      obtain ⟨hr1, hr2⟩ := List.pairwise_cons.1 hRD
      by_cases he : y.path = c.key
      · have h1 : setF c (L.takeWhile (fun y => Op.bytesLess y.path.toList c.key.toList), false) y = (L.takeWhile (fun y => Op.bytesLess y.path.toList c.key.toList), false) := by unfold setF; rw [if_pos he]
        rw [List.foldl_cons, h1, setF_high c r _ (fun z hz => by have := hr1 z hz; rwa [he] at this)]
        simp only [he, if_true]
      · have hky : Op.bytesLess c.key.toList y.path.toList = true := by
          cases hc : Op.bytesLess c.key.toList y.path.toList with
          | true => rfl
          | false => exact absurd (to_list.1 (Od.less_tri _ _ hy hc)) he
        rw [setF_high c (y :: r) _ (fun z hz => by
          rcases List.mem_cons.1 hz with rfl | hz
          · exact hky
          · exact less_trans _ _ _ hky (hr1 z hz))]
        simp only [he, if_false]
theorem onecellR (x : It) : ∀ u ∈ cellsR x, u.oneCell' = true := by
  intro u hu
  simp only [cellsR, List.mem_cons, List.not_mem_nil, or_false] at hu
  rcases hu with rfl | rfl <;> rfl
theorem new2r (W : World) (x : It) {z : Nat} (hz : z = W.heap.size) : ∀ (j : Nat) (u : Value), (cellsR x)[j]? = some u → (W.alloc (.cells #[.string x.path, .string x.data] 96)).cell? (Addr.add ⟨z, 0, none⟩ j) = some u := by
  subst hz
  intro j u hu
  rw [WideShapes.add_plain, Nat.zero_add, World.cell?_alloc_at _ _ _ _ rfl]
  match j, hu with
  | 0, hu => simpa [cellsR] using hu
  | 1, hu => simpa [cellsR] using hu
  | j + 2, hu => simp [cellsR] at hu
set_option maxRecDepth 100000 in
set_option maxHeartbeats 8000000 in
theorem refSet_any (A : Option Addr) (n c : Nat) (L : List It) (o : Ch) (w : World) (hO : Rsl w A n L) (hR : Rises L) (hP : Plain L) (hn : n ≤ 1000000000) (hc : n ≤ c) : Calls Tryz.prog 82 #[.slice A n c, ov o] w fun e w' => ∃ v, e = .returned v ∧ OwR w' w.heap.size v (app L o) ∧ Below w.heap.size w w' := by
  obtain ⟨i0, hI, hz0, hz1, hz2⟩ := info_parts infoR
  have HL := Lib.hid hO.1
  have hbox : Below w.heap.size w (w.alloc (.cells #[.string o.key, .string o.val, .bool o.gone] 43)) := (Below.refl _ w).alloc (Nat.le_refl _) _
  have HO := Lib.hid (fun V (hV : Below (w.alloc (.cells #[.string o.key, .string o.val, .bool o.gone] 43)).heap.size (w.alloc (.cells #[.string o.key, .string o.val, .bool o.gone] 43)) V) => hO.below (Tx.below_call hbox hV))
  have b0 : (w.alloc (.cells #[.string o.key, .string o.val, .bool o.gone] 43)).cell? ⟨w.heap.size, 0, none⟩ = some (.string o.key) := by go_simp
  have b1 : (w.alloc (.cells #[.string o.key, .string o.val, .bool o.gone] 43)).cell? ⟨w.heap.size, 1, none⟩ = some (.string o.val) := by go_simp
  have b2 : (w.alloc (.cells #[.string o.key, .string o.val, .bool o.gone] 43)).cell? ⟨w.heap.size, 2, none⟩ = some (.bool o.gone) := by go_simp
  have hbs : w.heap.size < (w.alloc (.cells #[.string o.key, .string o.val, .bool o.gone] 43)).heap.size := by simp
  have HALL := Lib.hid (setF_all hR o)
  have HP := Lib.hid hP
  obtain ⟨key, val, gone⟩ := o
  simp only at b0 b1 b2 hbs hbox HO HALL
  unfold ov
  simp only
  clear hO hR hP
  go_enter Tryz.func82, Tryz.ntmps82
  go_wp2_with fail
  generalize w.alloc (.cells #[.string key, .string val, .bool gone] 43) = W0 at hbox HO b0 b1 b2 hbs ⊢
  have HBX := Lib.hid hbox
  clear hbox
  generalize hbq : w.heap.size = bq at b0 b1 b2 hbs ⊢
  have HBQ := Lib.hid hbq
  have HB0 := Lib.hid b0
  have HB1 := Lib.hid b1
  have HB2 := Lib.hid b2
  clear hbq b0 b1 b2
  go_loopw [5, 6, 7] (fun vo dv iv wr => ∃ (i : Nat) (out : List It) (dn : Bool), i ≤ n ∧ iv = .int .i64 i ∧ dv = .bool dn ∧ Hid ((out, dn) = (L.take i).foldl (setF ⟨key, val, gone⟩) ([], gone)) ∧ out.length ≤ 2 * i ∧ wr.ownsRow W0.heap.size 96 2 vo out.length (out.flatMap cellsR) ∧ Below W0.heap.size W0 wr) (fun _ _ iv _ => n - (intOf iv).toNat)
  case atStart => exact ⟨0, [], gone, Nat.zero_le _, rfl, rfl, Lib.hid rfl, Nat.le_refl _, World.ownsRow_nil _ _ _ _, Below.refl _ _⟩
  case round =>
    obtain ⟨i, out, dn, hi, rfl, rfl, hout, hol, hown, hB⟩ := hrel
    have a0 := (hB.cell (p := ⟨bq, 0, none⟩) hbs).trans HB0.out
    have a1 := (hB.cell (p := ⟨bq, 1, none⟩) hbs).trans HB1.out
    by_cases hlt : i < n
    · obtain ⟨x, hx⟩ : ∃ x, L[i]? = some x := ⟨_, List.getElem?_eq_getElem (by rw [HL.out]; exact hlt)⟩
      obtain ⟨g, off, rfl, hg, g0, g1⟩ := (HO.out _ hB).nth hx
      have hiz : (i : Int) < (n : Int) := by omega
      have hnext : (L.take (i + 1)).foldl (setF ⟨key, val, gone⟩) ([], gone) = setF ⟨key, val, gone⟩ (out, dn) x := by rw [take_snoc7 hx, List.foldl_append, ← hout.out]; rfl
      have hxp := HP.out x (List.mem_of_getElem? hx)
      have HXP := Lib.hid hxp
      have HX := Lib.hid hx
      clear hxp
      by_cases he : x.path = key
      · have hb : (x.path.toList == key.toList) = true := by rw [he]; exact beq_self_eq_true _
        have hE : Hid ((out, dn) = (L.take (i + 1)).foldl (setF ⟨key, val, gone⟩) ([], gone)) := Lib.hid (by rw [hnext]; unfold setF; rw [if_pos he])
        have hown2 := hown.drew
        have hB2 := hB.drew
        clear hx he hnext hout
        go_wp2_with fail
        go_region
        go_wp2_with fail
        go_roundw
        case rel => exact ⟨i + 1, out, dn, by omega, by go_num, rfl, hE, by omega, hown2, hB2⟩
        case measure => first | omega | (simp [intOf]; omega)
      · have hb : (x.path.toList == key.toList) = false := bytes_ne he
        by_cases hins : dn = false ∧ Op.bytesLess key.toList x.path.toList = true
        · obtain ⟨rfl, hls⟩ := hins
          have hE : Hid ((out ++ [rw7 key val] ++ [x], true) = (L.take (i + 1)).foldl (setF ⟨key, val, gone⟩) ([], gone)) := Lib.hid (by rw [hnext]; unfold setF; rw [if_neg he, if_pos ⟨rfl, hls⟩])
          clear hx he hnext hout
          go_wp2_with fail
          go_region
          go_wp2_with fail
          go_region
          have k1 := new2r (wr.drew.drew) (rw7 key val) (z := wr.heap.size) rfl
          have k2 := onecellR (rw7 key val)
          have k3 : (out).length + 1 ≤ maxLen := by unfold maxLen; omega
          have k4 : ((out).length + 1) * 32 ≤ 140737488355328 := by omega
          have k5 : W0.heap.size ≤ ((wr.drew.drew).alloc (.cells #[.string key, .string val] 96)).heap.size := by have := (hB.drew.drew).size; simp; first | omega | (simp at this; omega)
          go_wp2_with (at_builtin; refine wpList_append_own _ rfl _ _ 72 rfl W0.heap.size 96 i0 rv0 2 32 Tryz.underlying72 hI hz0 hz1 hz2 rfl (by decide) _ _ _ rfl (World.ownsRow.alloc (hown.drew.drew) (.cells #[.string key, .string val] 96)) ⟨(wr.drew.drew).heap.size, 0, none⟩ 1 1 (cellsR (rw7 key val)) rfl rfl k1 k2 k3 k4 k5 ?_)
          intro v6 w6 hown6 hgrow6 _
          have hB6 : Below W0.heap.size W0 w6 := ((hB.drew.drew).alloc (hB.drew.drew).size _).grown hgrow6 (by have := (hB.drew.drew).size; simp; first | omega | (simp at this; omega)) (fun q hq => ((hown.drew.drew).lt q hq).1)
          have hO6 : w6.ownsRow W0.heap.size 96 2 v6 (out ++ [rw7 key val]).length ((out ++ [rw7 key val]).flatMap cellsR) := by
            first | (rw [List.flatMap_append, List.length_append]; exact hown6) | (simpa [List.flatMap_append, List.append_assoc] using hown6)
          clear hown6 hgrow6 k1 k2 k3 k4 k5
          obtain ⟨g', off', hge, hg', g0', g1'⟩ := (HO.out _ hB6).nth HX.out
          injection hge with hge
          injection hge with hge hoff _
          subst hge
          subst hoff
          have a0' := (hB6.cell (p := ⟨bq, 0, none⟩) hbs).trans HB0.out
          clear hown hB a0 a1 g0 g1
          have hl6 : (out ++ [rw7 key val]).length = out.length + 1 := by simp
          obtain ⟨xp, xd, hxx⟩ : ∃ xp xd, x = rw7 xp xd := ⟨_, _, HXP.out⟩
          have e1 : x.path = xp := by rw [hxx]; rfl
          have e2 : x.data = xd := by rw [hxx]; rfl
          rw [e1] at g0' hb hls
          rw [e2] at g1'
          rw [hxx] at hE
          have HE := hE
          clear e1 e2 hxx hE
          have k1 := new2r (w6) (rw7 xp xd) rfl
          have k2 := onecellR (rw7 xp xd)
          have k3 : (out ++ [rw7 key val]).length + 1 ≤ maxLen := by unfold maxLen; omega
          have k4 : ((out ++ [rw7 key val]).length + 1) * 32 ≤ 140737488355328 := by omega
          have k5 : W0.heap.size ≤ ((w6).alloc (.cells #[.string xp, .string xd] 96)).heap.size := by have := (hB6).size; simp; first | omega | (simp at this; omega)
          go_wp2_with (at_builtin; refine wpList_append_own _ rfl _ _ 72 rfl W0.heap.size 96 i0 rv0 2 32 Tryz.underlying72 hI hz0 hz1 hz2 rfl (by decide) _ _ _ rfl (World.ownsRow.alloc (hO6) (.cells #[.string xp, .string xd] 96)) ⟨(w6).heap.size, 0, none⟩ 1 1 (cellsR (rw7 xp xd)) rfl rfl k1 k2 k3 k4 k5 ?_)
          intro v7 w7 hown7 hgrow7 _
          have hB7 : Below W0.heap.size W0 w7 := ((hB6).alloc (hB6).size _).grown hgrow7 (by have := (hB6).size; simp; first | omega | (simp at this; omega)) (fun q hq => ((hO6).lt q hq).1)
          have hO7 : w7.ownsRow W0.heap.size 96 2 v7 (out ++ [rw7 key val] ++ [rw7 xp xd]).length ((out ++ [rw7 key val] ++ [rw7 xp xd]).flatMap cellsR) := by
            first | (rw [List.flatMap_append, List.length_append]; exact hown7) | (simpa [List.flatMap_append, List.append_assoc] using hown7)
          clear hown7 hgrow7 k1 k2 k3 k4 k5
          go_wp2_with fail
          go_roundw
          case rel => exact ⟨i + 1, out ++ [rw7 key val] ++ [rw7 xp xd], true, by omega, by go_num, rfl, HE, by simp; omega, hO7, hB7⟩
          case measure => first | omega | (simp [intOf]; omega)
        · have hE : Hid ((out ++ [x], dn) = (L.take (i + 1)).foldl (setF ⟨key, val, gone⟩) ([], gone)) := Lib.hid (by rw [hnext]; unfold setF; rw [if_neg he, if_neg hins])
          obtain ⟨xp, xd, hxx⟩ : ∃ xp xd, x = rw7 xp xd := ⟨_, _, HXP.out⟩
          have e1 : x.path = xp := by rw [hxx]; rfl
          have e2 : x.data = xd := by rw [hxx]; rfl
          rw [e1] at g0 hb hins
          rw [e2] at g1
          rw [hxx] at hE
          clear e1 e2 hxx hx he hnext hout
          cases dn
          · have hls : Op.bytesLess key.toList xp.toList = false := by
              cases hc : Op.bytesLess key.toList xp.toList with
              | false => rfl
              | true => exact absurd ⟨rfl, hc⟩ hins
            clear hins
            go_wp2_with fail
            go_region
            go_wp2_with fail
            go_region
            have k1 := new2r (wr.drew.drew) (rw7 xp xd) (z := wr.heap.size) rfl
            have k2 := onecellR (rw7 xp xd)
            have k3 : (out).length + 1 ≤ maxLen := by unfold maxLen; omega
            have k4 : ((out).length + 1) * 32 ≤ 140737488355328 := by omega
            have k5 : W0.heap.size ≤ ((wr.drew.drew).alloc (.cells #[.string xp, .string xd] 96)).heap.size := by have := (hB.drew.drew).size; simp; first | omega | (simp at this; omega)
            go_wp2_with (at_builtin; refine wpList_append_own _ rfl _ _ 72 rfl W0.heap.size 96 i0 rv0 2 32 Tryz.underlying72 hI hz0 hz1 hz2 rfl (by decide) _ _ _ rfl (World.ownsRow.alloc (hown.drew.drew) (.cells #[.string xp, .string xd] 96)) ⟨(wr.drew.drew).heap.size, 0, none⟩ 1 1 (cellsR (rw7 xp xd)) rfl rfl k1 k2 k3 k4 k5 ?_)
            intro v6 w6 hown6 hgrow6 _
            have hB6 : Below W0.heap.size W0 w6 := ((hB.drew.drew).alloc (hB.drew.drew).size _).grown hgrow6 (by have := (hB.drew.drew).size; simp; first | omega | (simp at this; omega)) (fun q hq => ((hown.drew.drew).lt q hq).1)
            have hO6 : w6.ownsRow W0.heap.size 96 2 v6 (out ++ [rw7 xp xd]).length ((out ++ [rw7 xp xd]).flatMap cellsR) := by
              first | (rw [List.flatMap_append, List.length_append]; exact hown6) | (simpa [List.flatMap_append, List.append_assoc] using hown6)
            clear hown6 hgrow6 k1 k2 k3 k4 k5
            go_wp2_with fail
            go_roundw
            case rel => exact ⟨i + 1, out ++ [rw7 xp xd], false, by omega, by go_num, rfl, hE, by simp; omega, hO6, hB6⟩
            case measure => first | omega | (simp [intOf]; omega)
          · clear hins
            go_wp2_with fail
            go_region
            go_wp2_with fail
            go_region
            have k1 := new2r (wr.drew.drew) (rw7 xp xd) (z := wr.heap.size) rfl
            have k2 := onecellR (rw7 xp xd)
            have k3 : (out).length + 1 ≤ maxLen := by unfold maxLen; omega
            have k4 : ((out).length + 1) * 32 ≤ 140737488355328 := by omega
            have k5 : W0.heap.size ≤ ((wr.drew.drew).alloc (.cells #[.string xp, .string xd] 96)).heap.size := by have := (hB.drew.drew).size; simp; first | omega | (simp at this; omega)
            go_wp2_with (at_builtin; refine wpList_append_own _ rfl _ _ 72 rfl W0.heap.size 96 i0 rv0 2 32 Tryz.underlying72 hI hz0 hz1 hz2 rfl (by decide) _ _ _ rfl (World.ownsRow.alloc (hown.drew.drew) (.cells #[.string xp, .string xd] 96)) ⟨(wr.drew.drew).heap.size, 0, none⟩ 1 1 (cellsR (rw7 xp xd)) rfl rfl k1 k2 k3 k4 k5 ?_)
            intro v6 w6 hown6 hgrow6 _
            have hB6 : Below W0.heap.size W0 w6 := ((hB.drew.drew).alloc (hB.drew.drew).size _).grown hgrow6 (by have := (hB.drew.drew).size; simp; first | omega | (simp at this; omega)) (fun q hq => ((hown.drew.drew).lt q hq).1)
            have hO6 : w6.ownsRow W0.heap.size 96 2 v6 (out ++ [rw7 xp xd]).length ((out ++ [rw7 xp xd]).flatMap cellsR) := by
              first | (rw [List.flatMap_append, List.length_append]; exact hown6) | (simpa [List.flatMap_append, List.append_assoc] using hown6)
            clear hown6 hgrow6 k1 k2 k3 k4 k5
            go_wp2_with fail
            go_roundw
            case rel => exact ⟨i + 1, out ++ [rw7 xp xd], true, by omega, by go_num, rfl, hE, by simp; omega, hO6, hB6⟩
            case measure => first | omega | (simp [intOf]; omega)
    · obtain rfl : i = n := by omega
      rw [List.take_of_length_le (by rw [HL.out]; exact Nat.le_refl _)] at hout
      cases dn
      · have hf : out ++ [rw7 key val] = app L ⟨key, val, gone⟩ := by rw [← HALL.out, ← hout.out]; rfl
        have HF := Lib.hid hf
        clear hf hout
        have k1 := new2r (wr) (rw7 key val) (z := wr.heap.size) rfl
        have k2 := onecellR (rw7 key val)
        have k3 : (out).length + 1 ≤ maxLen := by unfold maxLen; omega
        have k4 : ((out).length + 1) * 32 ≤ 140737488355328 := by omega
        have k5 : W0.heap.size ≤ ((wr).alloc (.cells #[.string key, .string val] 96)).heap.size := by have := (hB).size; simp; first | omega | (simp at this; omega)
        go_wp2_with (at_builtin; refine wpList_append_own _ rfl _ _ 72 rfl W0.heap.size 96 i0 rv0 2 32 Tryz.underlying72 hI hz0 hz1 hz2 rfl (by decide) _ _ _ rfl (World.ownsRow.alloc (hown) (.cells #[.string key, .string val] 96)) ⟨(wr).heap.size, 0, none⟩ 1 1 (cellsR (rw7 key val)) rfl rfl k1 k2 k3 k4 k5 ?_)
        intro v6 w6 hown6 hgrow6 _
        have hB6 : Below W0.heap.size W0 w6 := ((hB).alloc (hB).size _).grown hgrow6 (by have := (hB).size; simp; first | omega | (simp at this; omega)) (fun q hq => ((hown).lt q hq).1)
        have hO6 : w6.ownsRow W0.heap.size 96 2 v6 (out ++ [rw7 key val]).length ((out ++ [rw7 key val]).flatMap cellsR) := by
          first | (rw [List.flatMap_append, List.length_append]; exact hown6) | (simpa [List.flatMap_append, List.append_assoc] using hown6)
        clear hown6 hgrow6 k1 k2 k3 k4 k5
        have hfin : OwR w6 w.heap.size v6 (app L ⟨key, val, gone⟩) := by rw [← HF.out]; exact own_less hO6 HBX.out.size
        have hbel := Tx.below_call HBX.out hB6
        go_wp2_with fail
        go_ret
        exact ⟨_, rfl, hfin, hbel⟩
      · have hf : out = app L ⟨key, val, gone⟩ := by rw [← HALL.out, ← hout.out]; rfl
        have hfin : OwR wr w.heap.size u5 (app L ⟨key, val, gone⟩) := by rw [← hf]; exact own_less hown HBX.out.size
        have hbel := Tx.below_call HBX.out hB
        clear hf hout
        go_wp2_with fail
        go_ret
        exact ⟨_, rfl, hfin, hbel⟩
end Go.Proofs.YtjdfffkkpbabpaaGreat.Tb

namespace Go.Proofs.YtjdfffkkpbabpaaGreat.Tb
open Go.RowKit Tx Pm Dk Wm Wr Wl
set_option linter.unusedVariables false
set_option linter.unusedSimpArgs false
set_option linter.unnecessarySimpa false
def opR : Value → Option (DataW Unit × List MemPlace)
  | .agg ⟨[.string k, .string v, .bool g]⟩ => some (od ⟨k, v, g⟩, [])
  | _ => none
theorem opR_ov (c : Ch) : opR (ov c) = some (od c, []) := rfl
theorem opR_inv {v : Value} {z : DataW Unit × List MemPlace} (h : opR v = some z) : ∃ c, v = ov c ∧ z = (od c, []) := by
  unfold opR at h
  split at h
  · cases h
    exact ⟨⟨_, _, _⟩, rfl, rfl⟩
  · cases h
theorem od_inj {c d : Ch} (h : od c = od d) : c = d := by
  obtain ⟨k, v, g⟩ := c
  obtain ⟨k', v', g'⟩ := d
  unfold od at h
  simp only [DataW.agg.injEq, List.cons.injEq, DataW.lit.injEq, Lit.string.injEq, Lit.bool.injEq, and_true] at h
  obtain ⟨h1, h2, h3⟩ := h
  rw [ByteArray.ext (Array.toList_inj.1 h1), ByteArray.ext (Array.toList_inj.1 h2), h3]
def chOf (x : It) : Ch := ⟨x.path, x.data, false⟩
theorem zeroC (w : World) : (zeroValue 43).run Tryz.prog w = .ok (ov ch0) w := by kernel_rfl
def ReadsO (D : DataW Unit) (L : List It) : Prop := ∀ p z, D.atKey (kL p) z = match find L p with
  | some x => od (chOf x)
  | none => z
def Mo (w : World) (bm : Nat) (L : List It) : Prop := ∃ D : DataW Unit, w.ownsMap Tryz.prog 9 opR bm L.length D ∧ ReadsO D L ∧ Go.Maps.size D ≤ L.length
theorem Mo.lt {w : World} {bm : Nat} {L : List It} (h : Mo w bm L) : bm < w.heap.size := by
  obtain ⟨D, h, _⟩ := h
  exact h.lt
theorem Mo.kept {w w1 : World} {bm : Nat} {L : List It} (h : Mo w bm L) (he : w1.heap[bm]? = w.heap[bm]?) : Mo w1 bm L := by
  obtain ⟨D, h, r⟩ := h
  exact ⟨D, Dk.ownsMap_at h he, r⟩
theorem Mo.nb {w : World} {bm : Nat} {L : List It} (h : Mo w bm L) {cs : Array Value} {T : TypeId} {fz : Nat × Nat} : w.heap[bm]? ≠ some (.cells cs T fz) := by
  obtain ⟨D, h, _⟩ := h
  exact map_block h
theorem readsO_has {D : DataW Unit} {L : List It} (h : ReadsO D L) (p : ByteArray) : Go.Maps.has D (kL p) = (find L p).isSome := by
  cases hf : find L p with
  | none =>
    refine (Go.Maps.has_false_of_atKey fun z => ?_).trans rfl
    rw [h p z, hf]
  | some x =>
    refine (Go.Maps.has_true_of_atKey (y := od (chOf x)) fun z => ?_).trans rfl
    rw [h p z, hf]
def lookC (L : List It) (p : ByteArray) : Ch := match find L p with
  | some x => chOf x
  | none => ch0
theorem Mo.look {w : World} {bm : Nat} {L : List It} (h : Mo w bm L) {p : ByteArray} (hp : p.size ≤ maxLen) :
    (Instr.lookup 67 (.map (some bm)) (.string p) false).run Tryz.prog w = .ok (ov (lookC L p)) w := by
  obtain ⟨D, ho, hr, _⟩ := h
  obtain ⟨v, ps, hrun, hv⟩ := ho.lookup strK Tryz.underlying67 (zeroC w) (opR_ov _) (keyP hp)
  rw [hrun]
  obtain ⟨c, rfl, hz⟩ := opR_inv hv
  have hz := congrArg Prod.fst hz
  simp only [hr p] at hz
  unfold lookC
  cases hf : find L p with
  | none =>
    rw [hf] at hz
    have e : ch0 = c := od_inj hz
    subst e
    rfl
  | some x =>
    rw [hf] at hz
    have e : chOf x = c := od_inj hz
    subst e
    rfl
theorem Mo.look_ok {w : World} {bm : Nat} {L : List It} (h : Mo w bm L) {p : ByteArray} (hp : p.size ≤ maxLen) :
    (Instr.lookup 67 (.map (some bm)) (.string p) true).run Tryz.prog w = .ok (.tuple #[ov (lookC L p), .bool (find L p).isSome]) w := by
  obtain ⟨D, ho, hr, _⟩ := h
  obtain ⟨v, ps, hrun, hv⟩ := ho.look_ok strK Tryz.underlying67 (zeroC w) (opR_ov _) (keyP hp)
  rw [hrun, readsO_has hr]
  obtain ⟨c, rfl, hz⟩ := opR_inv hv
  have hz := congrArg Prod.fst hz
  simp only [hr p] at hz
  unfold lookC
  cases hf : find L p with
  | none =>
    rw [hf] at hz
    have e : ch0 = c := od_inj hz
    subst e
    rfl
  | some x =>
    rw [hf] at hz
    have e : chOf x = c := od_inj hz
    subst e
    rfl
theorem Mo.store {w : World} {bm : Nat} {L : List It} (h : Mo w bm L) {c : Ch} (hg : c.gone = false) (hp : c.key.size ≤ maxLen) (hn : L.length < maxLen) :
    ∃ w', (Instr.mapUpdate 67 (.map (some bm)) (.string c.key) (ov c)).run Tryz.prog w = .ok () w' ∧ Mo w' bm (app L c) ∧ w.mapTurned w' bm := by
  obtain ⟨D, ho, hr, hs⟩ := h
  obtain ⟨w', hrun, ho', ht⟩ := ho.store strK Tryz.underlying67 hn (keyP hp) (opR_ov c)
  have ha : app L c = ins L (rw7 c.key c.val) := by unfold app; rw [hg]; rfl
  have hc : chOf (rw7 c.key c.val) = c := by
    obtain ⟨k, v, g⟩ := c
    simp only at hg
    subst hg
    rfl
  rw [ha]
  have hsz : Go.Maps.size (D.put (kL c.key) (od c)) ≤ (ins L (rw7 c.key c.val)).length := by
    have h1 := Go.Maps.size_put (ho.tidy strK) (k := kL c.key) (od c)
    rw [readsO_has hr] at h1
    have h2 := len_ins_more (l := L) (rw7 c.key c.val)
    have h3 : (rw7 c.key c.val).path = c.key := rfl
    rw [h3] at h2
    rw [h1]
    split at h2 <;> split <;> first | omega | simp_all
  refine ⟨w', hrun, ⟨_, own_len ho' hsz, fun p z => ?_, hsz⟩, ht⟩
  by_cases he : p = c.key
  · subst he
    have hfi : find (ins L (rw7 c.key c.val)) c.key = some (rw7 c.key c.val) := find_ins_same L rfl
    rw [Go.Maps.atKey_put_same ho.isMap (kL_key _), hfi]
    show od c = od (chOf (rw7 c.key c.val))
    rw [hc]
  · rw [Go.Maps.atKey_put_other (fun e => he (kL_inj e)), find_ins L (x := rw7 c.key c.val) (fun e => he e.symm)]
    exact hr p z
theorem Mo.del {w : World} {bm : Nat} {L : List It} (h : Mo w bm L) (hR : Rises L) {c : Ch} (hg : c.gone = true) (hp : c.key.size ≤ maxLen) (ty : TypeId) :
    ∃ w', (Builtin.delete_ #[67, 9] ty #[.map (some bm), .string c.key]).run Tryz.prog w = .ok (.tuple #[]) w' ∧ Mo w' bm (app L c) ∧ w.mapTurned w' bm := by
  obtain ⟨D, ho, hr, hs⟩ := h
  obtain ⟨w', hrun, ho', ht⟩ := ho.drop strK Tryz.underlying67 (keyP hp) ty
  have ha : app L c = drop L c.key := by unfold app; rw [hg]; rfl
  rw [ha]
  have hsz : Go.Maps.size (D.del (kL c.key)) ≤ (drop L c.key).length := by
    have h1 := Go.Maps.size_del (ho.tidy strK) (k := kL c.key)
    rw [readsO_has hr] at h1
    have h2 := len_drop hR c.key
    omega
  refine ⟨w', hrun, ⟨_, own_len ho' hsz, fun q z => ?_, hsz⟩, ht⟩
  by_cases he : q = c.key
  · subst he
    rw [Go.Maps.atKey_del_same, find_drop_same]
  · rw [Go.Maps.atKey_del_other (fun e => he (kL_inj e)), find_drop L (fun e => he e.symm)]
    exact hr q z
theorem mo_made (w : World) : Mo (w.alloc (.map #[] 0)) w.heap.size [] := ⟨_, World.ownsMap_made w _ _ _, fun p z => rfl, Nat.le_refl _⟩
theorem came_startO {D : DataW Unit} {L : List It} (h : ReadsO D L) : came L (Go.Maps.has D) = [] := by
  unfold came
  refine List.filter_eq_nil_iff.2 (fun y hy => ?_)
  rw [readsO_has h]
  have : (find L y.path).isSome = true := List.find?_isSome.2 ⟨y, hy, by simp⟩
  rw [this]
  simp
theorem next_rows (w : World) {ops : Array Oper} {rest : List Oper} {o : Oper} {a : Act} {Q : Exit → Act → World → Prop} (hg : o.guard = none) (it : Operand) (hop : o.op = Op.next it false) (b r n : Nat) (D : DataW Unit) (left : Lit → Bool) (cnt : Nat) (L : List It)
    (hit : a.eval it = .pointer (some ⟨r, 0, none⟩)) (h : w.ranges Tryz.prog 9 opR b r n D left cnt) (hD : ReadsO D L)
    (hDone : (∀ z, left z = false) → wpList Tryz.prog ops Q rest (a.put o.dst (.tuple #[.bool false])) w)
    (hMore : ∀ (x : It) (w' : World) (cnt' : Nat), x ∈ L → left (kL x.path) = true → w'.ranges Tryz.prog 9 opR b r n D (less left x.path) cnt' → cnt' < cnt → w.grownBy w' (some r) → w'.heap.size = w.heap.size →
      (Instr.entry (.pointer (some ⟨r, 0, none⟩))).run Tryz.prog w' = .ok (.tuple #[.string x.path, ov (chOf x)]) w' →
      wpList Tryz.prog ops Q rest (a.put o.dst (.tuple #[.bool true, .string x.path, ov (chOf x)])) w') :
    wpList Tryz.prog ops Q (o :: rest) a w := by
  refine wpList_next_ranges w hg it hop 9 strK opR (Value.string) ov
    (fun key kl hk => key_string hk) (fun v y hv => by obtain ⟨c, rfl, _⟩ := opR_inv hv; exact ⟨c, rfl⟩)
    b r n D left cnt hit h (fun _ hl => hDone hl) (fun p c kl y w' cnt' hkey hlk hv hat hrg hlt hgr hsz hen => ?_)
  obtain ⟨rfl, hps⟩ := key_is hkey
  have hv : opR (ov c) = some y := hv
  rw [opR_ov] at hv
  injection hv with hv
  subst hv
  have hat : ∀ zd, D.atKey (kL p) zd = od c := hat
  cases hf : find L p with
  | none =>
    have h1 := hat .nil
    rw [hD p, hf] at h1
    cases h1
  | some x =>
    have h1 := hat .nil
    rw [hD p, hf] at h1
    have h1 := od_inj h1
    subst h1
    obtain ⟨hm, rfl⟩ := find_mem hf
    exact hMore x w' cnt' hm hlk hrg hlt hgr hsz hen
theorem range_rows (w : World) {ops : Array Oper} {rest : List Oper} {o : Oper} {a : Act} {Q : Exit → Act → World → Prop} (hg : o.guard = none) (m : Operand) (hop : o.op = Op.range 67 m) (b : Nat) (L : List It)
    (hm : a.eval m = .map (some b)) (h : Mo w b L)
    (hK : ∀ (D : DataW Unit) (w' : World), ReadsO D L → w'.ranges Tryz.prog 9 opR b w.heap.size L.length D (Go.Maps.has D) (Go.Maps.size D) → w.grownBy w' none → w'.heap.size = w.heap.size + 1 → wpList Tryz.prog ops Q rest (a.put o.dst (.pointer (some ⟨w.heap.size, 0, none⟩))) w') :
    wpList Tryz.prog ops Q (o :: rest) a w := by
  obtain ⟨D, ho, hr, _⟩ := h
  exact wpList_range_own w hg m _ hop 9 43 strK Tryz.underlying67 opR b L.length D hm ho (fun w' h1 h2 h3 => hK D w' hr h1 h2 h3)
def ReadsP (D : DataW Unit) (l : List Ch) : Prop := ∀ p z, D.atKey (kL p) z = match at7 l p with
  | some i => .lit (.int .i64 i)
  | none => z
def Pp (w : World) (pm : Nat) (l : List Ch) : Prop := ∃ D : DataW Unit, w.ownsMap Tryz.prog 9 (plainElem Tryz.prog 3) pm l.length D ∧ ReadsP D l ∧ Go.Maps.size D ≤ l.length
theorem Pp.lt {w : World} {pm : Nat} {l : List Ch} (h : Pp w pm l) : pm < w.heap.size := by
  obtain ⟨D, h, _⟩ := h
  exact h.lt
theorem Pp.kept {w w1 : World} {pm : Nat} {l : List Ch} (h : Pp w pm l) (he : w1.heap[pm]? = w.heap[pm]?) : Pp w1 pm l := by
  obtain ⟨D, h, r⟩ := h
  exact ⟨D, Dk.ownsMap_at h he, r⟩
theorem Pp.nb {w : World} {pm : Nat} {l : List Ch} (h : Pp w pm l) {cs : Array Value} {T : TypeId} {fz : Nat × Nat} : w.heap[pm]? ≠ some (.cells cs T fz) := by
  obtain ⟨D, h, _⟩ := h
  exact map_block h
theorem readsP_has {D : DataW Unit} {l : List Ch} (h : ReadsP D l) (p : ByteArray) : Go.Maps.has D (kL p) = (at7 l p).isSome := by
  cases hf : at7 l p with
  | none =>
    refine (Go.Maps.has_false_of_atKey fun z => ?_).trans rfl
    rw [h p z, hf]
  | some i =>
    refine (Go.Maps.has_true_of_atKey (y := .lit (.int .i64 i)) fun z => ?_).trans rfl
    rw [h p z, hf]
def placeV (l : List Ch) (p : ByteArray) : Value := match at7 l p with
  | some i => .tuple #[.int .i64 i, .bool true]
  | none => .tuple #[.int .i64 0, .bool false]
theorem Pp.look {w : World} {pm : Nat} {l : List Ch} (h : Pp w pm l) {p : ByteArray} (hp : p.size ≤ maxLen) :
    (Instr.lookup 58 (.map (some pm)) (.string p) true).run Tryz.prog w = .ok (placeV l p) w := by
  obtain ⟨D, ho, hr, _⟩ := h
  obtain ⟨u, ps, hrun, hv⟩ := ho.look_ok strK Tryz.underlying58 (zeroN w) (plainElem_int Tryz.underlying3 (by decide)) (keyP hp)
  rw [hrun, readsP_has hr]
  obtain ⟨c, rfl, hc, hwc⟩ := plainElem_int_inv Tryz.underlying3 hv
  have hc := congrArg Prod.fst hc
  simp only [hr p] at hc
  unfold placeV
  cases hf : at7 l p with
  | none =>
    rw [hf] at hc
    cases hc
    rfl
  | some i =>
    rw [hf] at hc
    cases hc
    rfl
theorem Pp.store {w : World} {pm : Nat} {l : List Ch} (h : Pp w pm l) (hO : Once l) {c : Ch} (ha : at7 l c.key = none) (hp : c.key.size ≤ maxLen) (hn : l.length < 1000000000000) :
    ∃ w', (Instr.mapUpdate 58 (.map (some pm)) (.string c.key) (.int .i64 (l.length : Nat))).run Tryz.prog w = .ok () w' ∧ Pp w' pm (l ++ [c]) ∧ w.mapTurned w' pm := by
  obtain ⟨D, ho, hr, hs⟩ := h
  have hw : (Lit.int .i64 (l.length : Nat)).wf = true := by simp [Lit.wf, IntKind.min, IntKind.max, IntKind.signed, IntKind.bits]; omega
  obtain ⟨w', hrun, ho', ht⟩ := ho.store strK Tryz.underlying58 (by unfold maxLen; omega) (keyP hp) (plainElem_int Tryz.underlying3 hw)
  have hsz : Go.Maps.size (D.put (kL c.key) (.lit (.int .i64 (l.length : Nat)))) ≤ (l ++ [c]).length := by
    have h1 := Go.Maps.size_put (ho.tidy strK) (k := kL c.key) (.lit (.int .i64 (l.length : Nat)))
    rw [readsP_has hr, ha] at h1
    rw [h1, List.length_append]
    show Go.Maps.size D + 1 ≤ l.length + 1
    omega
  refine ⟨w', hrun, ⟨_, own_len ho' hsz, fun p z => ?_, hsz⟩, ht⟩
  have hb := at7_bat hO c p
  rw [bat_new ha] at hb
  rw [hb]
  by_cases he : p = c.key
  · subst he
    rw [if_pos ⟨ha, rfl⟩, Go.Maps.atKey_put_same ho.isMap (kL_key _)]
  · rw [if_neg (fun hh => he hh.2), Go.Maps.atKey_put_other (fun e => he (kL_inj e))]
    exact hr p z
theorem Pp.same {w : World} {pm : Nat} {l : List Ch} (h : Pp w pm l) (hO : Once l) {c : Ch} {i : Nat} (ha : at7 l c.key = some i) : Pp w pm (l.set i c) := by
  obtain ⟨D, ho, hr, hs⟩ := h
  refine ⟨D, by rw [List.length_set]; exact ho, fun p z => ?_, by rw [List.length_set]; exact hs⟩
  have hb := at7_bat hO c p
  rw [bat_set hO ha, if_neg (fun hh => by rw [ha] at hh; cases hh.1)] at hb
  rw [hb]
  exact hr p z
theorem pp_made (w : World) : Pp (w.alloc (.map #[] 0)) w.heap.size [] := ⟨_, World.ownsMap_made w _ _ _, fun p z => rfl, Nat.le_refl _⟩
end Go.Proofs.YtjdfffkkpbabpaaGreat.Tb

namespace Go.Proofs.YtjdfffkkpbabpaaGreat.Tb
open Go.RowKit Tx Pm Dk Wm Wr Wl Pl
set_option linter.unusedVariables false
set_option linter.unusedSimpArgs false
set_option linter.unnecessarySimpa false
set_option maxRecDepth 100000 in
set_option maxHeartbeats 1000000 in
theorem tGet_any (t m : Nat) (L : List It) (key : ByteArray) (w : World) (ht : w.cell? ⟨t, 3, none⟩ = some (.map (some m))) (hm : Mo w m L) (hk : key.size ≤ maxLen) :
    Calls Tryz.prog 23 #[.pointer (some ⟨t, 0, none⟩), .string key] w fun e w' => e = .returned (.tuple #[.string (lookC L key).val, .bool (find L key).isSome]) ∧ Below w.heap.size w w' := by
  have hl := hm.look_ok hk
  generalize lookC L key = c at hl ⊢
  generalize (find L key).isSome = ok at hl ⊢
  obtain ⟨k0, v0, g0⟩ := c
  simp only [ov] at hl ⊢
  have HB := Lib.hid (fun o => (Below.refl w.heap.size w).alloc (Nat.le_refl _) o)
  clear hm
  go_enter Tryz.func23, Tryz.ntmps23
  go_wp2_with fail
  go_ret2
  exact ⟨rfl, HB.out _⟩
def pre7 (p : ByteArray) (x : It) : Bool := Lib.hasPrefix x.path.data.toList p.data.toList
set_option maxRecDepth 100000 in
set_option maxHeartbeats 2000000 in
theorem tKeys_any (t m : Nat) (L : List It) (p : ByteArray) (w : World) (ht : w.cell? ⟨t, 3, none⟩ = some (.map (some m))) (hm : Mo w m L) (hR : Rises L) (hn : L.length ≤ 1000000000) (hps : ∀ x ∈ L, x.path.size ≤ 1000000000000) (hp : p.size ≤ 1000000000000) :
    Calls Tryz.prog 61 #[.pointer (some ⟨t, 0, none⟩), .string p] w (ListTo (held (pre7 p) L) w) := by
  obtain ⟨i0, hi, hz0, hz1, hz2⟩ := info_parts Tx.info9
  go_enter Tryz.func61, Tryz.ntmps61
  go_wp2_with (at_range; refine range_rows _ rfl _ rfl m L rfl hm ?_; intro D w0 hD hrg0 hg0 hs0)
  go_frame
  have HD := Lib.hid hD
  have HR := Lib.hid hR
  have HP := Lib.hid hps
  have HH := Lib.hid (fun left => Nat.le_trans (held_len (pre7 p) (came L left)) (List.Sublist.length_le (came_sub L left)))
  have hsm : w.heap.size < w0.heap.size := by omega
  have HM := Lib.hid hm
  have HS := Lib.hid hs0
  clear hD hR hps hs0 hm
  go_loopw [5] (fun v wr => ∃ (left : Lit → Bool) (cnt T : Nat) (out : List ByteArray), wr.ranges Tryz.prog 9 opR m w.heap.size L.length D left cnt ∧ Hid (out.Perm (held (pre7 p) (came L left))) ∧ Hid (out.length = T) ∧ T ≤ 1000000000 ∧ wr.ownsRow (w.heap.size + 1) 9 1 v T (out.map sv) ∧ Below w.heap.size w wr ∧ w.heap.size < wr.heap.size) (fun _ wr => wr.rangeLeft m w.heap.size)
  case atStart => exact ⟨_, _, 0, [], hrg0, by show List.Perm _ _; rw [came_startO HD.out]; exact List.Perm.refl _, rfl, by omega, World.ownsRow_nil _ _ _ _, (Below.refl _ _).grown hg0 (Nat.le_refl _) (fun j hj => by cases hj), hsm⟩
  case round =>
    obtain ⟨left, cnt, T, out, hrg, hout, hlen, hT, hown, hB, hlt⟩ := hrel
    go_wp2_with (at_next; refine next_rows _ rfl _ rfl m w.heap.size L.length D left cnt L rfl hrg HD.out ?_ ?_)
    · intro hl
      have hp := hout.out
      rw [came_end L hl] at hp
      have hO : Texts wr w.heap.size _ out := own_toT (Dk.own_base hown (Nat.le_succ _)) hlen.out
      have hol : out.length ≤ 4000000000 := by rw [hlen.out]; omega
      have cs := sortS_any _ out wr w.heap.size hO hB.size hol
      have HPM := Lib.hid hp
      clear hl hp hO hrg hout hlen hown hol
      go_wp2_with (go_at_call 97; refine cs.mono ?_; rintro e w5 ⟨rfl, ts, hts, hso, htx, hb5⟩)
      go_ret
      obtain rfl : ts = held (pre7 p) L := rising_perm (hts.trans HPM.out) hso (held_rises HR.out)
      exact ⟨_, rfl, htx, hB.trans hb5⟩
    · intro x w1 cnt1 hx hlx hrg1 hlt1 hg1 hs1 hen1
      have hst := held_perm (φ := pre7 p) (came_step hlx HR.out hx)
      rw [held_cons] at hst
      have hbd := HH.out (less left x.path)
      have hlen2 := hst.length_eq
      have hme : cnt1 < wr.rangeLeft m w.heap.size := by rw [hrg.left_eq]; exact hlt1
      have hb1 : Below w.heap.size w w1 := below_grown hB hg1 (Nat.le_of_lt hlt) (Nat.le_refl _)
      have hs2 : w.heap.size < w1.heap.size := by omega
      have cx := fun W => hasPrefix_any x.path p W (by have := HP.out x hx; omega) (by omega)
      have hown1 := hown.kept hg1 (.inr (fun e => by have := (hown.lt _ e).1; omega))
      have HME := Lib.hid hme
      have HS1 := Lib.hid hs1
      clear hs1
      cases hφ : pre7 p x with
      | true =>
        unfold pre7 at hφ
        rw [hφ] at cx
        have hφ2 : pre7 p x = true := hφ
        rw [hφ2, if_pos rfl, List.length_append, List.length_singleton] at hlen2
        rw [hφ2, if_pos rfl] at hst
        have hT2 : T + 1 ≤ 1000000000 := by have := hout.out.length_eq; have := hlen.out; omega
        have hpm : (out ++ [x.path]).Perm (held (pre7 p) (came L (less left x.path))) := (List.perm_append_comm.trans (hout.out.append_left [x.path])).trans hst.symm
        have HPM := Lib.hid hpm
        have HLN := Lib.hid (show (out ++ [x.path]).length = T + 1 by rw [List.length_append, hlen.out]; rfl)
        clear hst hlen2 hbd hlx hx hpm hout hlen hrg hlt1 hg1 hme hown hφ hφ2
        go_wp2_with fail
        go_at_call 99
        refine (cx _).mono ?_
        rintro e w5 ⟨rfl, rfl⟩
        go_wp2_with (at_builtin; refine wpList_append_own _ rfl _ _ 84 rfl (w.heap.size + 1) 9 i0 (.string ⟨#[]⟩) 1 16 Tryz.underlying84 hi hz0 hz1 hz2 rfl (by decide) _ _ _ rfl (hown1.alloc _) ⟨w1.heap.size, 0, none⟩ 1 1 [sv x.path] rfl rfl ?c1_2 ?c2_2 ?c3_2 ?c4_2 ?c5_2 ?_)
        case c1_2 => exact cell_one_new _ _ _
        case c2_2 => exact sv_one [x.path]
        case c3_2 => unfold maxLen; omega
        case c4_2 => omega
        case c5_2 => first | (simp; omega) | omega
        intro v' w6 hown' hgrow _
        have ho6 : w6.ownsRow (w.heap.size + 1) 9 1 v' (T + 1) ((out ++ [x.path]).map sv) := by
          rw [List.map_append]
          exact hown'
        have hB6 : Below w.heap.size w w6 := (hb1.alloc hb1.size _).grown hgrow (by have := hb1.size; simp; omega) (fun k hk => by have := (hown1.lt k hk).1; omega)
        have hlb : m < w.heap.size := HM.out.lt
        have hrg6 := (hrg1.alloc (.cells #[.string x.path] 9)).kept hgrow (fun e => by have := (hown1.lt _ e.symm).1; omega) (fun e => by have := (hown1.lt _ e.symm).1; omega)
        have hle6 : w.heap.size < w6.heap.size := by have := hgrow.size; simp at this; omega
        have hme6 : w6.rangeLeft m w.heap.size < wr.rangeLeft m w.heap.size := by rw [hrg6.left_eq]; exact HME.out
        have HM6 := Lib.hid hme6
        have HO6 := Lib.hid ho6
        clear hown' hgrow hme6 hown1 hrg1 ho6
        go_wp2_with fail
        go_roundw
        case rel => exact ⟨less left x.path, cnt1, T + 1, out ++ [x.path], hrg6, HPM, HLN, hT2, HO6.out, hB6, hle6⟩
        case measure => exact HM6.out
      | false =>
        unfold pre7 at hφ
        rw [hφ] at cx
        have hφ2 : pre7 p x = false := hφ
        rw [hφ2, if_neg (by decide), List.nil_append] at hst
        have hpm : out.Perm (held (pre7 p) (came L (less left x.path))) := hout.out.trans hst.symm
        have HPM := Lib.hid hpm
        have hme5 : w1.rangeLeft m w.heap.size < wr.rangeLeft m w.heap.size := by rw [hrg1.left_eq]; exact HME.out
        have HM5 := Lib.hid hme5
        clear hst hlen2 hbd hlx hx hpm hout hrg hlt1 hg1 hme hown hφ hφ2 hme5
        go_wp2_with (go_at_call 99; refine (cx _).mono ?_; rintro e w5 ⟨rfl, rfl⟩)
        go_roundw
        case rel => exact ⟨less left x.path, cnt1, T, out, hrg1, HPM, hlen, hT, hown1, hb1, by omega⟩
        case measure => exact HM5.out
end Go.Proofs.YtjdfffkkpbabpaaGreat.Tb

namespace Go.Proofs.YtjdfffkkpbabpaaGreat.Tb
open Go.RowKit Tx Pm Dk Wm Wr Od
set_option linter.unusedVariables false
set_option linter.unusedSimpArgs false
set_option linter.unnecessarySimpa false
def RowV (w : World) (v : Value) (L : List It) : Prop := ∃ a c, v = .slice a L.length c ∧ Rsl w a L.length L ∧ L.length ≤ c
theorem OwR.val {w : World} {B : Nat} {v : Value} {L : List It} (h : OwR w B v L) : RowV w v L := by
  obtain ⟨a, c, h1, h2, h3, _⟩ := h.form
  exact ⟨a, c, h1, h2, h3⟩
theorem RowV.below {w w1 : World} {v : Value} {L : List It} (h : RowV w v L) (hb : Below w.heap.size w w1) : RowV w1 v L := by
  obtain ⟨a, c, h1, h2, h3⟩ := h
  exact ⟨a, c, h1, h2.below hb, h3⟩
set_option maxRecDepth 100000 in
set_option maxHeartbeats 4000000 in
theorem refAll_any (v : Value) (L : List It) (A : Option Addr) (m d : Nat) (l : List Ch) (w : World) (hv : RowV w v L) (hO : Opl w A m l) (hR : Rises L) (hP : Plain L) (hn : L.length + l.length ≤ 1000000000) (hd : m ≤ d) :
    Calls Tryz.prog 35 #[v, .slice A m d] w fun e w' => ∃ v', e = .returned v' ∧ (OwR w' w.heap.size v' (all7 L l) ∨ v' = v ∧ l = []) ∧ Below w.heap.size w w' := by
  have HV := Lib.hid (fun V (hV : Below w.heap.size w V) => hv.below hV)
  have HO := Lib.hid (fun V (hV : Below w.heap.size w V) => hO.below hV)
  have HL := Lib.hid hO.1
  have hlm := hO.1
  have HR := Lib.hid hR
  have HP := Lib.hid hP
  clear hv hO hR hP
  go_enter Tryz.func35, Tryz.ntmps35
  go_wp2_with fail
  go_loopw [0, 5] (fun rv iv wr => ∃ i : Nat, i ≤ m ∧ iv = .int .i64 i ∧ (OwR wr w.heap.size rv (all7 L (l.take i)) ∨ rv = v ∧ i = 0) ∧ Below w.heap.size w wr) (fun _ iv _ => m - (intOf iv).toNat)
  case atStart => exact ⟨0, Nat.zero_le _, rfl, .inr ⟨rfl, rfl⟩, Below.refl _ _⟩
  case round =>
    obtain ⟨i, hi, rfl, hrow, hB⟩ := hrel
    by_cases hlt : i < m
    · obtain ⟨x, hx⟩ : ∃ x, l[i]? = some x := ⟨_, List.getElem?_eq_getElem (by rw [HL.out]; exact hlt)⟩
      obtain ⟨g, off, rfl, hg, g0, g1, g2⟩ := (HO.out _ hB).nth hx
      have hiz : (i : Int) < (m : Int) := by omega
      have hrv : RowV wr u0 (all7 L (l.take i)) := by
        rcases hrow with h | ⟨h, h0⟩
        · exact h.val
        · rw [h, h0]
          exact HV.out _ hB
      have hlen := len_all L (l.take i)
      rw [List.length_take] at hlen
      have hsn : all7 L (l.take (i + 1)) = app (all7 L (l.take i)) x := by rw [take_snoc7 hx, all7_snoc]
      obtain ⟨a, c, rfl, hrs, hac⟩ := hrv
      have cs := refSet_any a (all7 L (l.take i)).length c (all7 L (l.take i)) x wr hrs (rises_all HR.out _) (plain_all HP.out _) (by omega) hac
      rw [← hsn] at cs
      have HSN := Lib.hid (show (all7 L (l.take (i + 1))).length ≤ L.length + (i + 1) by have := len_all L (l.take (i + 1)); rw [List.length_take] at this; omega)
      generalize (all7 L (l.take i)).length = nn at cs hlen ⊢
      obtain ⟨key, val, gone⟩ := x
      unfold ov at cs
      simp only at cs g0 g1 g2
      clear hrow hsn hrs hx hac
      go_wp2_with fail
      go_at_call 82
      refine cs.mono ?_
      rintro e w5 ⟨v5, rfl, ho5, hb5⟩
      have hB5 := Tx.below_call hB hb5
      have hO5 : OwR w5 w.heap.size v5 (all7 L (l.take (i + 1))) := own_less ho5 hB.size
      have HO5 := Lib.hid hO5
      clear cs ho5 hb5 hO5
      go_wp2_with fail
      go_roundw
      case rel => exact ⟨i + 1, by omega, by go_num, .inl HO5.out, hB5⟩
      case measure => first | omega | (simp [intOf]; omega)
    · obtain rfl : i = m := by omega
      rw [List.take_of_length_le (by rw [HL.out]; exact Nat.le_refl _)] at hrow
      have hfin : OwR wr w.heap.size u0 (all7 L l) ∨ u0 = v ∧ l = [] := hrow.imp id (fun h => ⟨h.1, List.eq_nil_of_length_eq_zero (by have := h.2; omega)⟩)
      have HF := Lib.hid hfin
      clear hrow hfin
      go_wp2_with fail
      go_ret
      exact ⟨_, rfl, HF.out, hB⟩
theorem all_val {w w' : World} {v v' : Value} {L : List It} {l : List Ch} (hv : RowV w v L) (h : OwR w' w.heap.size v' (all7 L l) ∨ v' = v ∧ l = []) (hb : Below w.heap.size w w') : RowV w' v' (all7 L l) := by
  rcases h with h | ⟨rfl, rfl⟩
  · exact h.val
  · exact hv.below hb
theorem pre_is (p k : ByteArray) : Lib.hasPrefix k.data.toList p.data.toList = (decide (p.size ≤ k.size) && ((k.extract 0 p.size).toList == p.toList)) := (Lib.hasPrefix_raw k p).symm
theorem held_snoc {φ : It → Bool} {l : List It} {i : Nat} {x : It} (h : l[i]? = some x) : held φ (l.take (i + 1)) = held φ (l.take i) ++ (if φ x = true then [x.path] else []) := by
  unfold held
  rw [take_snoc7 h, List.filter_append, List.map_append]
  congr 1
  by_cases hp : φ x = true <;> simp [hp]
set_option maxRecDepth 100000 in
set_option maxHeartbeats 4000000 in
theorem refKeys_any (v : Value) (L : List It) (p : ByteArray) (w : World) (hv : RowV w v L) (hn : L.length ≤ 1000000000) (hps : ∀ x ∈ L, x.path.size ≤ 1000000000000) (hp : p.size ≤ 1000000000000) :
    Calls Tryz.prog 64 #[v, .string p] w (ListTo (held (pre7 p) L) w) := by
  obtain ⟨i0, hI, hz0, hz1, hz2⟩ := info_parts info9
  obtain ⟨A, c, rfl, hO, hc⟩ := hv
  have HO := Lib.hid (fun V (hV : Below w.heap.size w V) => hO.below hV)
  have HPS := Lib.hid hps
  obtain ⟨n, hnn⟩ : ∃ n, n = L.length := ⟨_, rfl⟩
  rw [← hnn] at hO HO hn hc ⊢
  have HL := Lib.hid hnn.symm
  clear hO hps hnn
  go_enter Tryz.func64, Tryz.ntmps64
  go_wp2_with fail
  go_loopw [5, 6] (fun hvv iv wr => ∃ (i : Nat) (H : List ByteArray), i ≤ n ∧ iv = .int .i64 i ∧ Hid (H = held (pre7 p) (L.take i)) ∧ H.length ≤ i ∧ wr.ownsRow w.heap.size 9 1 hvv H.length (H.map sv) ∧ Below w.heap.size w wr) (fun _ iv _ => n - (intOf iv).toNat)
  case atStart => exact ⟨0, [], Nat.zero_le _, rfl, Lib.hid rfl, Nat.le_refl _, World.ownsRow_nil _ _ _ _, Below.refl _ _⟩
  case round =>
    obtain ⟨i, H, hi, rfl, hH, hHl, hown, hB⟩ := hrel
    by_cases hlt : i < n
    · obtain ⟨x, hx⟩ : ∃ x, L[i]? = some x := ⟨_, List.getElem?_eq_getElem (by rw [HL.out]; exact hlt)⟩
      obtain ⟨g, off, rfl, hg, g0, g1⟩ := (HO.out _ hB).nth hx
      have hiz : (i : Int) < (n : Int) := by omega
      have hsn := held_snoc (φ := pre7 p) hx
      have hxs := HPS.out x (List.mem_of_getElem? hx)
      have hpre : pre7 p x = (decide (p.size ≤ x.path.size) && ((x.path.extract 0 p.size).toList == p.toList)) := pre_is p x.path
      obtain ⟨k, hk⟩ : ∃ k, k = x.path := ⟨_, rfl⟩
      rw [← hk] at g0 hsn hxs hpre
      have HSN := Lib.hid hsn
      clear hk hx hsn
      by_cases hlen : p.size ≤ k.size
      · have hlz : (p.size : Int) ≤ (k.size : Int) := by omega
        by_cases hb : ((k.extract 0 p.size).toList == p.toList) = true
        · rw [hb, decide_eq_true hlen] at hpre
          have HE : Hid (H ++ [k] = held (pre7 p) (L.take (i + 1))) := Lib.hid (by rw [HSN.out, hpre, ← hH.out]; rfl)
          have HB := Lib.hid hb
          clear hpre hb
          have hbb := HB.out
          have k1 : (H.length + 1) ≤ maxLen := by unfold maxLen; omega
          have k2 : (H.length + 1) * 16 ≤ 140737488355328 := by omega
          have k3 : w.heap.size ≤ (wr.alloc (.cells #[.string k] 9)).heap.size := by have := hB.size; simp; omega
          have k4 : ∀ (j : Nat) (u : Value), ([sv k] : List Value)[j]? = some u → (wr.alloc (.cells #[.string k] 9)).cell? (Addr.add ⟨wr.heap.size, 0, none⟩ j) = some u := cell_one_new _ _ _
          go_wp2_with (at_builtin; refine wpList_append_own _ rfl _ _ 84 rfl w.heap.size 9 i0 (.string ⟨#[]⟩) 1 16 Tryz.underlying84 hI hz0 hz1 hz2 rfl (by decide) _ _ _ rfl (hown.alloc (.cells #[.string k] 9)) ⟨wr.heap.size, 0, none⟩ 1 1 [sv k] rfl rfl k4 (sv_one [k]) k1 k2 k3 ?_)
          intro v' w6 hown6 hgrow6 _
          have hB6 : Below w.heap.size w w6 := (hB.alloc hB.size _).grown hgrow6 (by simp; have := hB.size; omega) (fun p hp => (hown.lt p hp).1)
          have hO6 : w6.ownsRow w.heap.size 9 1 v' (H ++ [k]).length ((H ++ [k]).map sv) := by
            rw [List.map_append, List.length_append]
            exact hown6
          clear hown6 hgrow6 hown hB k1 k2 k3 k4 hbb
          go_wp2_with fail
          go_roundw
          case rel => exact ⟨i + 1, H ++ [k], by omega, by go_num, HE, by rw [List.length_append]; show H.length + 1 ≤ i + 1; omega, hO6, hB6⟩
          case measure => first | omega | (simp [intOf]; omega)
        · have hb2 : ((k.extract 0 p.size).toList == p.toList) = false := by simpa using hb
          rw [hb2, Bool.and_false] at hpre
          have HE : Hid (H = held (pre7 p) (L.take (i + 1))) := Lib.hid (by rw [HSN.out, hpre, ← hH.out]; simp)
          clear hpre hb
          go_wp2_with fail
          go_roundw
          case rel => exact ⟨i + 1, H, by omega, by go_num, HE, by omega, hown, hB⟩
          case measure => first | omega | (simp [intOf]; omega)
      · have hlz : (k.size : Int) < (p.size : Int) := by omega
        rw [decide_eq_false hlen, Bool.false_and] at hpre
        have HE : Hid (H = held (pre7 p) (L.take (i + 1))) := Lib.hid (by rw [HSN.out, hpre, ← hH.out]; simp)
        clear hpre
        go_wp2_with fail
        go_roundw
        case rel => exact ⟨i + 1, H, by omega, by go_num, HE, by omega, hown, hB⟩
        case measure => first | omega | (simp [intOf]; omega)
    · obtain rfl : i = n := by omega
      rw [List.take_of_length_le (by rw [HL.out]; exact Nat.le_refl _)] at hH
      have hfin : Texts wr w.heap.size u5 (held (pre7 p) L) := by rw [← hH.out]; exact hown
      have HF := Lib.hid hfin
      clear hfin hown hH
      go_wp2_with fail
      go_ret
      exact ⟨_, rfl, HF.out, hB⟩
end Go.Proofs.YtjdfffkkpbabpaaGreat.Tb

namespace Go.Proofs.YtjdfffkkpbabpaaGreat.Tb
open Go.RowKit Tx Pm Dk Wm Wr Od
set_option linter.unusedVariables false
set_option linter.unusedSimpArgs false
set_option linter.unnecessarySimpa false
def batR (o : Ch) (x : Ch) : Ch := if x.key = o.key then o else x
def hasK (l : List Ch) (o : Ch) : Bool := l.any (fun x => decide (x.key = o.key))
theorem bat_is (l : List Ch) (o : Ch) : bat l o = if hasK l o then l.map (batR o) else l ++ [o] := rfl
theorem batR_id {l : List Ch} {o : Ch} (h : hasK l o = false) : l.map (batR o) = l := by
  conv => rhs; rw [← List.map_id l]
  refine List.map_congr_left (fun x hx => ?_)
  have := List.any_eq_false.1 h x hx
  unfold batR
  rw [if_neg (by simpa using this)]
  rfl
theorem hasK_succ {l : List Ch} {o x : Ch} {i : Nat} (h : l[i]? = some x) : hasK (l.take (i + 1)) o = (hasK (l.take i) o || decide (x.key = o.key)) := by
  unfold hasK
  rw [take_snoc7 h, List.any_append]
  simp
set_option maxRecDepth 100000 in
set_option maxHeartbeats 8000000 in
theorem refBatch_any (A : Option Addr) (n c : Nat) (l : List Ch) (o : Ch) (w : World) (hO : Opl w A n l) (hn : n ≤ 1000000) (hc : n ≤ c) : Calls Tryz.prog 11 #[.slice A n c, ov o] w fun e w' => ∃ v, e = .returned v ∧ OwnC w' w.heap.size v (bat l o) ∧ Below w.heap.size w w' := by
  obtain ⟨i0, hI, hz0, hz1, hz2⟩ := info_parts infoC
  have HL := Lib.hid hO.1
  have hbox : Below w.heap.size w (w.alloc (.cells #[.string o.key, .string o.val, .bool o.gone] 43)) := (Below.refl _ w).alloc (Nat.le_refl _) _
  have HO := Lib.hid (fun V (hV : Below (w.alloc (.cells #[.string o.key, .string o.val, .bool o.gone] 43)).heap.size (w.alloc (.cells #[.string o.key, .string o.val, .bool o.gone] 43)) V) => hO.below (Tx.below_call hbox hV))
  have b0 : (w.alloc (.cells #[.string o.key, .string o.val, .bool o.gone] 43)).cell? ⟨w.heap.size, 0, none⟩ = some (.string o.key) := by go_simp
  have b1 : (w.alloc (.cells #[.string o.key, .string o.val, .bool o.gone] 43)).cell? ⟨w.heap.size, 1, none⟩ = some (.string o.val) := by go_simp
  have b2 : (w.alloc (.cells #[.string o.key, .string o.val, .bool o.gone] 43)).cell? ⟨w.heap.size, 2, none⟩ = some (.bool o.gone) := by go_simp
  have hbs : w.heap.size < (w.alloc (.cells #[.string o.key, .string o.val, .bool o.gone] 43)).heap.size := by simp
  have hbat := bat_is l o
  have HBAT := Lib.hid hbat
  obtain ⟨key, val, gone⟩ := o
  simp only at b0 b1 b2 hbs hbox HO
  unfold ov
  simp only
  clear hO hbat
  go_enter Tryz.func11, Tryz.ntmps11
  go_wp2_with fail
  generalize w.alloc (.cells #[.string key, .string val, .bool gone] 43) = W0 at hbox HO b0 b1 b2 hbs ⊢
  have HBX := Lib.hid hbox
  clear hbox
  generalize hbq : w.heap.size = bq at b0 b1 b2 hbs ⊢
  have HBQ := Lib.hid hbq
  have HB0 := Lib.hid b0
  have HB1 := Lib.hid b1
  have HB2 := Lib.hid b2
  clear hbq b0 b1 b2
  go_loopw [5, 6, 7] (fun vo tv iv wr => ∃ (i : Nat) (out : List Ch), i ≤ n ∧ iv = .int .i64 i ∧ Hid (out = (l.take i).map (batR ⟨key, val, gone⟩)) ∧ tv = .bool (hasK (l.take i) ⟨key, val, gone⟩) ∧ out.length ≤ i ∧ wr.ownsRow W0.heap.size 43 3 vo out.length (out.flatMap cellsC) ∧ Below W0.heap.size W0 wr) (fun _ _ iv _ => n - (intOf iv).toNat)
  case atStart => exact ⟨0, [], Nat.zero_le _, rfl, Lib.hid rfl, rfl, Nat.le_refl _, World.ownsRow_nil _ _ _ _, Below.refl _ _⟩
  case round =>
    obtain ⟨i, out, hi, rfl, hout, rfl, hol, hown, hB⟩ := hrel
    have a0 := (hB.cell (p := ⟨bq, 0, none⟩) hbs).trans HB0.out
    have a1 := (hB.cell (p := ⟨bq, 1, none⟩) hbs).trans HB1.out
    have a2 := (hB.cell (p := ⟨bq, 2, none⟩) hbs).trans HB2.out
    by_cases hlt : i < n
    · obtain ⟨x, hx⟩ : ∃ x, l[i]? = some x := ⟨_, List.getElem?_eq_getElem (by rw [HL.out]; exact hlt)⟩
      obtain ⟨g, off, rfl, hg, g0, g1, g2⟩ := (HO.out _ hB).nth hx
      have hiz : (i : Int) < (n : Int) := by omega
      have hT2 := hasK_succ (o := ⟨key, val, gone⟩) hx
      have hm : (l.take (i + 1)).map (batR ⟨key, val, gone⟩) = out ++ [batR ⟨key, val, gone⟩ x] := by rw [take_snoc7 hx, List.map_append, ← hout.out]; rfl
      generalize hasK (l.take i) ⟨key, val, gone⟩ = tb at hT2 ⊢
      by_cases he : x.key = key
      · have hb : (x.key.toList == key.toList) = true := by rw [he]; exact beq_self_eq_true _
        rw [decide_eq_true (show x.key = (⟨key, val, gone⟩ : Ch).key from he), Bool.or_true] at hT2
        have HT2 := Lib.hid hT2
        have HO2 : Hid (out ++ [(⟨key, val, gone⟩ : Ch)] = (l.take (i + 1)).map (batR ⟨key, val, gone⟩)) := Lib.hid (by rw [hm]; unfold batR; rw [if_pos he])
        obtain ⟨xk, xv, xg⟩ := x
        simp only at g0 g1 g2 hb
        clear hx he hm hT2 hout
        go_wp2_with fail
        go_region
        have k1 := new3 (wr.drew) ⟨key, val, gone⟩ (z := wr.heap.size) rfl
        have k2 := cells_one ⟨key, val, gone⟩
        have k3 : out.length + 1 ≤ maxLen := by unfold maxLen; omega
        have k4 : (out.length + 1) * 40 ≤ 140737488355328 := by omega
        have k5 : W0.heap.size ≤ ((wr.drew).alloc (.cells #[.string key, .string val, .bool gone] 43)).heap.size := by have := (hB.drew).size; simp; first | omega | (simp at this; omega)
        go_wp2_with (at_builtin; refine wpList_append_own _ rfl _ _ 37 rfl W0.heap.size 43 i0 (ov ch0) 3 40 Tryz.underlying37 hI hz0 hz1 hz2 rfl (by decide) _ _ _ rfl (World.ownsRow.alloc (hown.drew) (.cells #[.string key, .string val, .bool gone] 43)) ⟨(wr.drew).heap.size, 0, none⟩ 1 1 (cellsC ⟨key, val, gone⟩) rfl rfl k1 k2 k3 k4 k5 ?_)
        intro v' w6 hown6 hgrow6 _
        have hB6 : Below W0.heap.size W0 w6 := ((hB.drew).alloc (hB.drew).size _).grown hgrow6 (by have := (hB.drew).size; simp; first | omega | (simp at this; omega)) (fun q hq => ((hown.drew).lt q hq).1)
        have hO6 : w6.ownsRow W0.heap.size 43 3 v' (out ++ [(⟨key, val, gone⟩ : Ch)]).length ((out ++ [(⟨key, val, gone⟩ : Ch)]).flatMap cellsC) := by
          rw [List.flatMap_append, List.length_append]
          exact hown6
        clear hown6 hgrow6 hown hB k1 k2 k3 k4 k5
        go_wp2_with fail
        go_roundw
        case rel => exact ⟨i + 1, out ++ [(⟨key, val, gone⟩ : Ch)], by omega, by go_num, HO2.out, by rw [HT2.out], by rw [List.length_append]; show out.length + 1 ≤ i + 1; omega, hO6, hB6⟩
        case measure => first | omega | (simp [intOf]; omega)
      · have hb : (x.key.toList == key.toList) = false := bytes_ne he
        rw [decide_eq_false (show ¬ x.key = (⟨key, val, gone⟩ : Ch).key from he), Bool.or_false] at hT2
        have HT2 := Lib.hid hT2
        have HO2 : Hid (out ++ [x] = (l.take (i + 1)).map (batR ⟨key, val, gone⟩)) := Lib.hid (by rw [hm]; unfold batR; rw [if_neg he])
        obtain ⟨xk, xv, xg⟩ := x
        simp only at g0 g1 g2 hb HO2
        clear hx he hm hT2 hout
        go_wp2_with fail
        go_region
        have k1 := new3 (wr.drew) ⟨xk, xv, xg⟩ (z := wr.heap.size) rfl
        have k2 := cells_one ⟨xk, xv, xg⟩
        have k3 : out.length + 1 ≤ maxLen := by unfold maxLen; omega
        have k4 : (out.length + 1) * 40 ≤ 140737488355328 := by omega
        have k5 : W0.heap.size ≤ ((wr.drew).alloc (.cells #[.string xk, .string xv, .bool xg] 43)).heap.size := by have := (hB.drew).size; simp; first | omega | (simp at this; omega)
        go_wp2_with (at_builtin; refine wpList_append_own _ rfl _ _ 37 rfl W0.heap.size 43 i0 (ov ch0) 3 40 Tryz.underlying37 hI hz0 hz1 hz2 rfl (by decide) _ _ _ rfl (World.ownsRow.alloc (hown.drew) (.cells #[.string xk, .string xv, .bool xg] 43)) ⟨(wr.drew).heap.size, 0, none⟩ 1 1 (cellsC ⟨xk, xv, xg⟩) rfl rfl k1 k2 k3 k4 k5 ?_)
        intro v' w6 hown6 hgrow6 _
        have hB6 : Below W0.heap.size W0 w6 := ((hB.drew).alloc (hB.drew).size _).grown hgrow6 (by have := (hB.drew).size; simp; first | omega | (simp at this; omega)) (fun q hq => ((hown.drew).lt q hq).1)
        have hO6 : w6.ownsRow W0.heap.size 43 3 v' (out ++ [(⟨xk, xv, xg⟩ : Ch)]).length ((out ++ [(⟨xk, xv, xg⟩ : Ch)]).flatMap cellsC) := by
          rw [List.flatMap_append, List.length_append]
          exact hown6
        clear hown6 hgrow6 hown hB k1 k2 k3 k4 k5
        go_wp2_with fail
        go_roundw
        case rel => exact ⟨i + 1, out ++ [(⟨xk, xv, xg⟩ : Ch)], by omega, by go_num, HO2.out, by rw [HT2.out], by rw [List.length_append]; show out.length + 1 ≤ i + 1; omega, hO6, hB6⟩
        case measure => first | omega | (simp [intOf]; omega)
    · obtain rfl : i = n := by omega
      have eA : l.take i = l := List.take_of_length_le (by rw [HL.out]; exact Nat.le_refl _)
      rw [eA] at hout ⊢
      by_cases hh : hasK l ⟨key, val, gone⟩ = true
      · rw [hh]
        have hf : out = bat l ⟨key, val, gone⟩ := by rw [HBAT.out, if_pos hh, hout.out]
        have hfin : OwnC wr w.heap.size u5 (bat l ⟨key, val, gone⟩) := by rw [← hf]; exact own_less hown HBX.out.size
        have hbel := Tx.below_call HBX.out hB
        clear eA hh hf
        go_wp2_with fail
        go_ret
        exact ⟨_, rfl, hfin, hbel⟩
      · have hh2 : hasK l ⟨key, val, gone⟩ = false := by simpa using hh
        rw [hh2]
        have hf : out ++ [(⟨key, val, gone⟩ : Ch)] = bat l ⟨key, val, gone⟩ := by rw [HBAT.out, if_neg hh, hout.out, batR_id hh2]
        have HF := Lib.hid hf
        have hon : out.length + 1 ≤ 1000001 := by omega
        clear eA hh hh2 hf
        have k1 := new3 (wr) ⟨key, val, gone⟩ (z := wr.heap.size) rfl
        have k2 := cells_one ⟨key, val, gone⟩
        have k3 : out.length + 1 ≤ maxLen := by unfold maxLen; omega
        have k4 : (out.length + 1) * 40 ≤ 140737488355328 := by omega
        have k5 : W0.heap.size ≤ ((wr).alloc (.cells #[.string key, .string val, .bool gone] 43)).heap.size := by have := (hB).size; simp; first | omega | (simp at this; omega)
        go_wp2_with (at_builtin; refine wpList_append_own _ rfl _ _ 37 rfl W0.heap.size 43 i0 (ov ch0) 3 40 Tryz.underlying37 hI hz0 hz1 hz2 rfl (by decide) _ _ _ rfl (World.ownsRow.alloc (hown) (.cells #[.string key, .string val, .bool gone] 43)) ⟨(wr).heap.size, 0, none⟩ 1 1 (cellsC ⟨key, val, gone⟩) rfl rfl k1 k2 k3 k4 k5 ?_)
        intro v' w6 hown6 hgrow6 _
        have hB6 : Below W0.heap.size W0 w6 := ((hB).alloc (hB).size _).grown hgrow6 (by have := (hB).size; simp; first | omega | (simp at this; omega)) (fun q hq => ((hown).lt q hq).1)
        have hO6 : w6.ownsRow W0.heap.size 43 3 v' (out ++ [(⟨key, val, gone⟩ : Ch)]).length ((out ++ [(⟨key, val, gone⟩ : Ch)]).flatMap cellsC) := by
          rw [List.flatMap_append, List.length_append]
          exact hown6
        clear hown6 hgrow6 hown hB k1 k2 k3 k4 k5
        have hfin : OwnC w6 w.heap.size v' (bat l ⟨key, val, gone⟩) := by rw [← HF.out]; exact own_less hO6 HBX.out.size
        have hbel := Tx.below_call HBX.out hB6
        go_wp2_with fail
        go_ret
        exact ⟨_, rfl, hfin, hbel⟩
end Go.Proofs.YtjdfffkkpbabpaaGreat.Tb

namespace Go.Proofs.YtjdfffkkpbabpaaGreat.Tb
open Go.RowKit Tx Pm Dk Wm Wr
set_option linter.unusedVariables false
set_option linter.unusedSimpArgs false
set_option linter.unnecessarySimpa false
set_option maxRecDepth 100000 in
set_option maxHeartbeats 16000000 in
theorem refOps_any (s : ByteArray) (w : World) (hs : s.size ≤ 1000000000000) : Calls Tryz.prog 34 #[.string s] w (OpsTo s w) := by
  have cu := readUint_any s w (by unfold maxLen; omega)
  unfold OpsTo
  obtain ⟨k, m, e0, h0⟩ := Fm.trip (rdU s.data.toList)
  rw [h0] at cu
  simp only at cu
  by_cases he : e0 = 0
  · subst he
    obtain ⟨hm, _, _, hk63, hk⟩ := rdU_ok h0
    rw [Wm.len_l] at hm
    have H0 := Lib.hid h0
    obtain ⟨i0, hi, hz0, hz1, hz2⟩ := info_parts infoC
    clear h0
    go_enter Tryz.func34, Tryz.ntmps34
    go_wp2_with fail
    go_at_call 81
    refine (cu).mono ?_
    rintro e w1 ⟨rfl, rfl⟩
    go_wp2_with fail
    go_loopw [5, 7, 8] (fun av v iv wr => ∃ (i a T : Nat) (out : List Ch), i ≤ k ∧ iv = .int .i64 i ∧ av = .int .i64 a ∧ Hid (rdN s k m = (out ++ (rdN s (k - i) a).1, (rdN s (k - i) a).2.1, (rdN s (k - i) a).2.2)) ∧ Hid (out.length = T) ∧ 2 * T ≤ a ∧ a ≤ s.size ∧ wr.ownsRow w.heap.size 43 3 v T (out.flatMap cellsC) ∧ Below w.heap.size w wr) (fun _ _ iv _ => k - (intOf iv).toNat)
    case atStart => exact ⟨0, m, 0, [], Nat.zero_le _, rfl, rfl, by show rdN s k m = _; rw [Nat.sub_zero]; rfl, rfl, by omega, hm, World.ownsRow_nil _ _ _ _, Below.refl _ _⟩
    case round =>
      obtain ⟨i, a, T, out, hik, rfl, rfl, hrd, hT, hTa, has, hown, hB⟩ := hrel
      by_cases hlt : i < k
      · have hki : k - i = (k - i - 1) + 1 := by omega
        have hikz : (i : Int) < (k : Int) := by omega
        have cuA := fun W => readUint_any (s.extract a s.size) W (by rw [ByteArray.size_extract]; unfold maxLen; omega)
        rcases rdOp_cases (s.extract a s.size) with ⟨k2, m2, e, hu, he, hop⟩ | ⟨k2, m2, hu, hk2, hop⟩ | ⟨k2, m2, t, n1, e, hu, hk2, ht, he, hop⟩ | ⟨m2, t, n1, hu, ht, hop⟩ | ⟨m2, t, n1, t2, n2, e, hu, ht, ht2, he, hop⟩ | ⟨m2, t, n1, t2, n2, hu, ht, ht2, hop⟩
        all_goals
          rw [hu] at cuA
          simp only at cuA
        · have hrd2 := hrd.out
          rw [hki, rdN_bad hop he] at hrd2
          have hops : opsS s = ([], e) := opsS_2 H0.out hrd2 he
          have HOPS := Lib.hid hops
          have ne := neZ he
          clear hrd hrd2 hops hop he hu
          go_wp2_with fail
          go_at_call 81
          refine (cuA _).mono ?_
          rintro e w5 ⟨rfl, rfl⟩
          go_wp2_with fail
          go_ret2
          rw [HOPS.out]
          exact ⟨_, rfl, nil_OwnC _ _, hB⟩
        · have hrd2 := hrd.out
          rw [hki, rdN_bad hop (by decide)] at hrd2
          have hops : opsS s = ([], 3) := opsS_2 H0.out hrd2 (by decide)
          have HOPS := Lib.hid hops
          have hkz2 : (1 : Int) < (k2 : Int) := by omega
          clear hrd hrd2 hops hop hu
          go_wp2_with fail
          go_at_call 81
          refine (cuA _).mono ?_
          rintro e w5 ⟨rfl, rfl⟩
          go_wp2_with fail
          go_ret2
          rw [HOPS.out]
          exact ⟨_, rfl, nil_OwnC _ _, hB⟩
        · obtain ⟨hm1, _, _, _, _⟩ := rdU_ok hu
          rw [Wm.len_l, ByteArray.size_extract, Nat.min_self] at hm1
          have hrd2 := hrd.out
          rw [hki, rdN_bad hop he] at hrd2
          have hops : opsS s = ([], e) := opsS_2 H0.out hrd2 he
          have HOPS := Lib.hid hops
          have ne := neZ he
          rw [ext_ext s a m2 has] at ht
          have ct := fun W => readText_any (s.extract (a + m2) s.size) W (by rw [ByteArray.size_extract]; unfold maxLen; omega)
          rw [ht] at ct
          simp only at ct
          clear hrd hrd2 hops hop he hu ht
          rcases (show k2 = 0 ∨ k2 = 1 by omega) with rfl | rfl
          · go_wp2_with fail
            go_at_call 81
            refine (cuA _).mono ?_
            rintro e w5 ⟨rfl, rfl⟩
            go_wp2_with fail
            go_at_call 80
            refine (ct _).mono ?_
            rintro e w6 ⟨rfl, rfl⟩
            go_wp2_with fail
            go_ret2
            rw [HOPS.out]
            exact ⟨_, rfl, nil_OwnC _ _, hB.alloc hB.size _⟩
          · go_wp2_with fail
            go_at_call 81
            refine (cuA _).mono ?_
            rintro e w5 ⟨rfl, rfl⟩
            go_wp2_with fail
            go_at_call 80
            refine (ct _).mono ?_
            rintro e w6 ⟨rfl, rfl⟩
            go_wp2_with fail
            go_ret2
            rw [HOPS.out]
            exact ⟨_, rfl, nil_OwnC _ _, hB.alloc hB.size _⟩
        · obtain ⟨hm1, _, _, _, _⟩ := rdU_ok hu
          rw [Wm.len_l, ByteArray.size_extract, Nat.min_self] at hm1
          obtain ⟨hn1, _, hn2, _⟩ := rdOp_ok hop
          rw [ByteArray.size_extract, Nat.min_self] at hn1
          have hrd2 := hrd.out
          rw [hki, rdN_one hop] at hrd2
          have hrd3 := hrd2
          rw [show k - i - 1 = k - (i + 1) by omega] at hrd3
          have HRD0 := Lib.hid hrd3
          rw [ext_ext s a m2 has] at ht
          have ct := fun W => readText_any (s.extract (a + m2) s.size) W (by rw [ByteArray.size_extract]; unfold maxLen; omega)
          rw [ht] at ct
          simp only at ct
          have HRD : Hid (rdN s k m = ((out ++ [(⟨t, ⟨#[]⟩, true⟩ : Ch)]) ++ (rdN s (k - (i + 1)) (a + (m2 + n1))).1, (rdN s (k - (i + 1)) (a + (m2 + n1))).2.1, (rdN s (k - (i + 1)) (a + (m2 + n1))).2.2)) := Lib.hid (by rw [HRD0.out, List.append_assoc]; rfl)
          clear hrd hrd2 hrd3 HRD0 hop hu ht
          go_wp2_with fail
          go_at_call 81
          refine (cuA _).mono ?_
          rintro e w5 ⟨rfl, rfl⟩
          go_wp2_with fail
          go_at_call 80
          refine (ct _).mono ?_
          rintro e w6 ⟨rfl, rfl⟩
          have hO5 := hown
          have k1 := new3 (wr.alloc (.cells #[.string t, .string ⟨#[]⟩, .bool true] 43)) ⟨t, ⟨#[]⟩, true⟩ (z := wr.heap.size + 1) (by simp)
          have k2 := cells_one ⟨t, ⟨#[]⟩, true⟩
          have hTs : T + 1 ≤ 1000000000000 := by omega
          have k3 : T + 1 ≤ maxLen := by unfold maxLen; omega
          have k4 : (T + 1) * 40 ≤ 140737488355328 := by omega
          have k5 : w.heap.size ≤ ((wr.alloc (.cells #[.string t, .string ⟨#[]⟩, .bool true] 43)).alloc (.cells #[.string t, .string ⟨#[]⟩, .bool true] 43)).heap.size := by have := hB.size; simp; omega
          go_wp2_with (at_builtin; refine wpList_append_own _ rfl _ _ 37 rfl w.heap.size 43 i0 (ov ch0) 3 40 Tryz.underlying37 hi hz0 hz1 hz2 rfl (by decide) _ _ _ rfl ((hO5.alloc (.cells #[.string t, .string ⟨#[]⟩, .bool true] 43)).alloc (.cells #[.string t, .string ⟨#[]⟩, .bool true] 43)) ⟨wr.heap.size + 1, 0, none⟩ 1 1 (cellsC ⟨t, ⟨#[]⟩, true⟩) rfl rfl k1 k2 k3 k4 k5 ?_)
          intro v' w6 hown6 hgrow6 _
          have hB6 : Below w.heap.size w w6 := ((hB.alloc hB.size _).alloc (by simp; have := hB.size; omega) _).grown hgrow6 (by simp; have := hB.size; omega) (fun g hg => (hO5.lt g hg).1)
          have hO6 : w6.ownsRow w.heap.size 43 3 v' (T + 1) ((out ++ [(⟨t, ⟨#[]⟩, true⟩ : Ch)]).flatMap cellsC) := by
            rw [List.flatMap_append]
            exact hown6
          clear hown6 hgrow6 hO5 hown hB
          go_wp2_with fail
          go_roundw
          case rel => exact ⟨i + 1, a + (m2 + n1), T + 1, out ++ [(⟨t, ⟨#[]⟩, true⟩ : Ch)], by omega, by go_num, by go_num, HRD.out, by rw [List.length_append, hT.out]; rfl, by omega, by omega, hO6, hB6⟩
          case measure => first | omega | (simp [intOf]; omega)
        · obtain ⟨hm1, _, _, _, _⟩ := rdU_ok hu
          rw [Wm.len_l, ByteArray.size_extract, Nat.min_self] at hm1
          have hrd2 := hrd.out
          rw [hki, rdN_bad hop he] at hrd2
          have hops : opsS s = ([], e) := opsS_2 H0.out hrd2 he
          have HOPS := Lib.hid hops
          have ne := neZ he
          rw [ext_ext s a m2 has] at ht
          rw [ext_ext s a (m2 + n1) has] at ht2
          have hn1 := (rdT_ok ht).1
          rw [ByteArray.size_extract, Nat.min_self] at hn1
          have ct := fun W => readText_any (s.extract (a + m2) s.size) W (by rw [ByteArray.size_extract]; unfold maxLen; omega)
          rw [ht] at ct
          simp only at ct
          have ht3 : rdT (s.extract (a + m2 + n1) s.size) = (t2, n2, e) := by rw [Nat.add_assoc]; exact ht2
          have ct2 := fun W => readText_any (s.extract (a + m2 + n1) s.size) W (by rw [ByteArray.size_extract]; unfold maxLen; omega)
          rw [ht3] at ct2
          simp only at ct2
          clear hrd hrd2 hops hop he hu ht ht2 ht3
          go_wp2_with fail
          go_at_call 81
          refine (cuA _).mono ?_
          rintro e w5 ⟨rfl, rfl⟩
          go_wp2_with fail
          go_at_call 80
          refine (ct _).mono ?_
          rintro e w6 ⟨rfl, rfl⟩
          go_wp2_with fail
          go_at_call 80
          refine (ct2 _).mono ?_
          rintro e w7 ⟨rfl, rfl⟩
          go_wp2_with fail
          go_ret2
          rw [HOPS.out]
          exact ⟨_, rfl, nil_OwnC _ _, hB.alloc hB.size _⟩
        · obtain ⟨hm1, _, _, _, _⟩ := rdU_ok hu
          rw [Wm.len_l, ByteArray.size_extract, Nat.min_self] at hm1
          obtain ⟨hn1, _, hn2, _⟩ := rdOp_ok hop
          rw [ByteArray.size_extract, Nat.min_self] at hn1
          have hrd2 := hrd.out
          rw [hki, rdN_one hop] at hrd2
          have hrd3 := hrd2
          rw [show k - i - 1 = k - (i + 1) by omega] at hrd3
          have HRD0 := Lib.hid hrd3
          rw [ext_ext s a m2 has] at ht
          rw [ext_ext s a (m2 + n1) has] at ht2
          have hn3 := (rdT_ok ht).1
          rw [ByteArray.size_extract, Nat.min_self] at hn3
          have ct := fun W => readText_any (s.extract (a + m2) s.size) W (by rw [ByteArray.size_extract]; unfold maxLen; omega)
          rw [ht] at ct
          simp only at ct
          have ht3 : rdT (s.extract (a + m2 + n1) s.size) = (t2, n2, 0) := by rw [Nat.add_assoc]; exact ht2
          have ct2 := fun W => readText_any (s.extract (a + m2 + n1) s.size) W (by rw [ByteArray.size_extract]; unfold maxLen; omega)
          rw [ht3] at ct2
          simp only at ct2
          have HRD : Hid (rdN s k m = ((out ++ [(⟨t, t2, false⟩ : Ch)]) ++ (rdN s (k - (i + 1)) (a + (m2 + n1 + n2))).1, (rdN s (k - (i + 1)) (a + (m2 + n1 + n2))).2.1, (rdN s (k - (i + 1)) (a + (m2 + n1 + n2))).2.2)) := Lib.hid (by rw [HRD0.out, List.append_assoc]; rfl)
          clear hrd hrd2 hrd3 HRD0 hop hu ht ht2 ht3
          go_wp2_with fail
          go_at_call 81
          refine (cuA _).mono ?_
          rintro e w5 ⟨rfl, rfl⟩
          go_wp2_with fail
          go_at_call 80
          refine (ct _).mono ?_
          rintro e w6 ⟨rfl, rfl⟩
          go_wp2_with fail
          go_at_call 80
          refine (ct2 _).mono ?_
          rintro e w7 ⟨rfl, rfl⟩
          have hO5 := hown
          have k1 := new3 (wr.alloc (.cells #[.string t, .string t2, .bool false] 43)) ⟨t, t2, false⟩ (z := wr.heap.size + 1) (by simp)
          have k2 := cells_one ⟨t, t2, false⟩
          have hTs : T + 1 ≤ 1000000000000 := by omega
          have k3 : T + 1 ≤ maxLen := by unfold maxLen; omega
          have k4 : (T + 1) * 40 ≤ 140737488355328 := by omega
          have k5 : w.heap.size ≤ ((wr.alloc (.cells #[.string t, .string t2, .bool false] 43)).alloc (.cells #[.string t, .string t2, .bool false] 43)).heap.size := by have := hB.size; simp; omega
          go_wp2_with (at_builtin; refine wpList_append_own _ rfl _ _ 37 rfl w.heap.size 43 i0 (ov ch0) 3 40 Tryz.underlying37 hi hz0 hz1 hz2 rfl (by decide) _ _ _ rfl ((hO5.alloc (.cells #[.string t, .string t2, .bool false] 43)).alloc (.cells #[.string t, .string t2, .bool false] 43)) ⟨wr.heap.size + 1, 0, none⟩ 1 1 (cellsC ⟨t, t2, false⟩) rfl rfl k1 k2 k3 k4 k5 ?_)
          intro v' w6 hown6 hgrow6 _
          have hB6 : Below w.heap.size w w6 := ((hB.alloc hB.size _).alloc (by simp; have := hB.size; omega) _).grown hgrow6 (by simp; have := hB.size; omega) (fun g hg => (hO5.lt g hg).1)
          have hO6 : w6.ownsRow w.heap.size 43 3 v' (T + 1) ((out ++ [(⟨t, t2, false⟩ : Ch)]).flatMap cellsC) := by
            rw [List.flatMap_append]
            exact hown6
          clear hown6 hgrow6 hO5 hown hB
          go_wp2_with fail
          go_roundw
          case rel => exact ⟨i + 1, a + (m2 + n1 + n2), T + 1, out ++ [(⟨t, t2, false⟩ : Ch)], by omega, by go_num, by go_num, HRD.out, by rw [List.length_append, hT.out]; rfl, by omega, by omega, hO6, hB6⟩
          case measure => first | omega | (simp [intOf]; omega)
      · obtain rfl : i = k := by omega
        have hrd2 := hrd.out
        rw [Nat.sub_self] at hrd2
        simp only [rdN, List.append_nil] at hrd2
        obtain ⟨av, cv, hv⟩ : ∃ av cv, u7 = .slice av T cv := by
          rcases hown.2 with ⟨hv, h0⟩ | ⟨g, cap, cur, hv, _⟩
          · exact ⟨none, 0, by rw [hv, h0]⟩
          · exact ⟨_, _, hv⟩
        have hO : OwnC wr w.heap.size u7 out := by unfold OwnC; rw [hT.out]; exact hown
        have HO := Lib.hid hO
        clear hO hv
        by_cases ha : a < s.size
        · have hops : opsS s = ([], 5) := opsS_3 H0.out hrd2 ha
          have HOPS := Lib.hid hops
          have haz : (a : Int) < (s.size : Int) := by omega
          clear hrd hrd2 hops
          go_wp2_with fail
          go_ret2
          rw [HOPS.out]
          exact ⟨_, rfl, nil_OwnC _ _, hB⟩
        · have hops : opsS s = (out, 0) := opsS_4 H0.out hrd2 ha
          have HOPS := Lib.hid hops
          have haz : ¬ (a : Int) < (s.size : Int) := by omega
          clear hrd hrd2 hops
          go_wp2_with fail
          go_ret2
          rw [HOPS.out]
          exact ⟨_, rfl, HO.out, hB⟩
  · have hops : opsS s = ([], e0) := opsS_1 h0 he
    have HOPS := Lib.hid hops
    have ne := neZ he
    clear hops he h0
    go_enter Tryz.func34, Tryz.ntmps34
    go_wp2_with fail
    go_at_call 81
    refine (cu).mono ?_
    rintro e w1 ⟨rfl, rfl⟩
    go_wp2_with fail
    go_ret2
    rw [HOPS.out]
    exact ⟨_, rfl, nil_OwnC _ _, Below.refl _ _⟩
end Go.Proofs.YtjdfffkkpbabpaaGreat.Tb

namespace Go.Proofs.YtjdfffkkpbabpaaGreat.Tb
open Go.RowKit Tx Pm Dk Wm Wr
set_option linter.unusedVariables false
set_option linter.unusedSimpArgs false
set_option linter.unnecessarySimpa false
set_option maxRecDepth 100000 in
theorem refNum_any (n : Nat) (w : World) (h : n ≤ 9223372036854775807) : Calls Tryz.prog 89 #[.int .i64 n] w fun e w' => e = .returned (.string (vs n)) ∧ Below w.heap.size w w' := by
  have c := fun W => refvarint_any 9 n W (by omega) (by omega)
  go_enter Tryz.func89, Tryz.ntmps89
  go_wp2_with (go_at_call 121; refine (c _).mono ?_; rintro e w1 ⟨rfl, hb⟩)
  go_ret
  exact ⟨rfl, hb⟩
def rk (l : List Ch) (k : Nat) : ByteArray := ⟨(vb l.length ++ (l.take k).flatMap pl).toArray⟩
theorem rk_0 (l : List Ch) : rk l 0 = vs l.length := by unfold rk vs; rw [List.take_zero]; simp
theorem rk_all (l : List Ch) : rk l l.length = rec7 l := by unfold rk; rw [List.take_length, rec7_is]; rfl
theorem rk_next {l : List Ch} {k : Nat} {x : Ch} (hx : l[k]? = some x) : rk l (k + 1) = (if x.gone then rk l k ++ vs 0 ++ ts x.key else rk l k ++ vs 1 ++ ts x.key ++ ts x.val) := by
  have hk := (List.getElem?_eq_some_iff.1 hx).1
  rw [List.getElem?_eq_getElem hk] at hx
  injection hx with hx
  have e : (l.take (k + 1)).flatMap pl = (l.take k).flatMap pl ++ pl x := by
    rw [List.take_succ_eq_append_getElem hk, List.flatMap_append, hx]
    simp
  apply ByteArray.ext
  apply Array.toList_inj.1
  unfold rk
  rw [e]
  unfold pl
  split
  · simp only [ByteArray.data_append, Array.toList_append, ts_tl, vs_list]
    simp
  · simp only [ByteArray.data_append, Array.toList_append, ts_tl, vs_list]
    simp
theorem rk_size (l : List Ch) (k : Nat) (h : wt l ≤ 100000000) : (rk l k).size ≤ wt l + 10 := by
  have h1 := wt_len l
  have h2 := vb_len (x := l.length) (by omega)
  have h3 : ∀ m : List Ch, wt m ≤ 100000000 → (m.flatMap pl).length ≤ wt m := fun m hm => all_len (by omega)
  have h4 : wt (l.take k) ≤ wt l := by
    conv => rhs; rw [← List.take_append_drop k l, wt_append]
    omega
  have := h3 (l.take k) (by omega)
  unfold rk
  rw [← Wm.len_l]
  show (vb l.length ++ (l.take k).flatMap pl).length ≤ _
  rw [List.length_append]
  omega
end Go.Proofs.YtjdfffkkpbabpaaGreat.Tb

namespace Go.Proofs.YtjdfffkkpbabpaaGreat.Tb
open Go.RowKit Tx
set_option linter.unusedVariables false
set_option maxRecDepth 100000 in
set_option maxHeartbeats 4000000 in
theorem regGone (ops : Array Oper) (hops : ops = (Rg.opsOf Tryz.f42 6)) (id : Nat) (g off n c k : Nat) (S0 Z TK TV key val : ByteArray) {u1 u2 u5 u6 u7 u8 u9 u10 u11 u12 u13 u14 u15 u16 u17 u18 u19 u20 u21 u22 u23 u24 u25 u26 u27 u28 u29 u30 u31 u32 u33 u34 u35 u36 u37 u38 u39 u40 u41 u42 u43 u44 u45 u46 : Value} (w : World) (hin : (k : Int) < (n : Int)) (hg : g < w.heap.size)
    (g0 : w.cell? ⟨g, off + k * 3, none⟩ = some (.string key)) (g1 : w.cell? ⟨g, off + k * 3 + 1, none⟩ = some (.string val))
    (z1 : S0.size + Z.size ≤ 9223372036854775807) (z2 : S0.size + Z.size + TK.size ≤ 9223372036854775807) (z3 : S0.size + Z.size + TK.size + TV.size ≤ 9223372036854775807)
    (cz : ∀ V, Below w.heap.size w V → Calls Tryz.prog 89 #[.int .i64 0] V fun e w' => e = .returned (.string Z) ∧ Below V.heap.size V w') (ck : ∀ V, Below w.heap.size w V → Calls Tryz.prog 90 #[.string key] V fun e w' => e = .returned (.string TK) ∧ Below V.heap.size V w') (cv : ∀ V, Below w.heap.size w V → Calls Tryz.prog 90 #[.string val] V fun e w' => e = .returned (.string TV) ∧ Below V.heap.size V w') :
    (Code.region id ops true).wp Tryz.prog (Rg.Only fun a' w' => a' = ⟨#[(.slice (some ⟨g, off, none⟩) n c), u1, u2, (.string (S0 ++ Z ++ TK)), (.int .i64 (k : Nat)), u5, u6, u7, u8, u9, u10, u11, u12, u13, u14, u15, u16, u17, u18, (.string S0), (.string Z), (.string (S0 ++ Z)), (.slice (some ⟨g, off, none⟩) n c), (.int .i64 (k : Nat)), (.pointer (some ⟨g, off + k * 3, none⟩)), (.pointer (some ⟨g, off + k * 3, none⟩)), (.string key), (.string TK), (.string (S0 ++ Z ++ TK)), u29, u30, u31, u32, u33, u34, u35, u36, u37, u38, u39, u40, u41, u42, u43, u44, u45, u46], []⟩ ∧ Below w.heap.size w w') ⟨#[(.slice (some ⟨g, off, none⟩) n c), u1, u2, (.string S0), (.int .i64 (k : Nat)), u5, u6, u7, u8, u9, u10, u11, u12, u13, u14, u15, u16, u17, u18, u19, u20, u21, u22, u23, u24, u25, u26, u27, u28, u29, u30, u31, u32, u33, u34, u35, u36, u37, u38, u39, u40, u41, u42, u43, u44, u45, u46], []⟩ w := by
  subst hops
  have hNS : Region.noSelect (Rg.opsOf Tryz.f42 6) = true := by kernel_rfl
  refine wp_region_held_drew (S := fun V => Below w.heap.size w V) (by kernel_rfl) ((Below.refl _ w).drew) (fun hHeld => ?_)
  rw [show (Rg.opsOf Tryz.f42 6).size = 11 by kernel_rfl]
  refine Rg.takek 0 (some 19) (.string S0) hNS hHeld (Rg.y_movekL (x := .tmp 3)) ?_
  refine Rg.takek 3 (some 22) (.slice (some ⟨g, off, none⟩) n c) hNS hHeld (Rg.y_movekL (x := .tmp 0)) ?_
  refine Rg.takek 4 (some 23) (.int .i64 (k : Nat)) hNS hHeld (Rg.y_movekL (x := .tmp 4)) ?_
  refine Rg.takek 5 (some 24) (.pointer (some ⟨g, off + k * 3, none⟩)) hNS hHeld (Rg.y_atk (T := 37) (x := .tmp 22) (y := .tmp 23) (vx := (.slice (some ⟨g, off, none⟩) n c)) (vy := (.int .i64 (k : Nat))) ?_) ?_
  · (intro w hSw; have h1 := hin; go_simp)
  refine Rg.takek 6 (some 25) (.pointer (some ⟨g, off + k * 3, none⟩)) hNS hHeld (Rg.y_fieldk (T := 43) (k := 0) (x := .tmp 24) (vx := (.pointer (some ⟨g, off + k * 3, none⟩))) ?_) ?_
  · (intro w hSw; go_simp)
  refine Rg.takek 7 (some 26) (.string key) hNS hHeld (Rg.y_loadk (T := 9) (x := .tmp 25) (vx := (.pointer (some ⟨g, off + k * 3, none⟩))) ?_) ?_
  · (intro w hSw; have h1 := (hSw.cell (p := ⟨g, off + k * 3, none⟩) hg).trans g0; go_simp)
  refine Rg.callk (fn := Tryz.f89) (xs := #[.const (Value.int IntKind.i64 0)]) (ats := #[3]) 1 (some 20) 89 #[(Value.int IntKind.i64 0)] Tryz.func89 ?_
  refine (cz _ hHeld).mono ?_
  rintro e w9 ⟨rfl, hb9⟩
  refine ⟨_, rfl, Tx.below_call hHeld hb9, fun hHeld => ?_⟩
  refine Rg.takek 2 (some 21) (.string (S0 ++ Z)) hNS hHeld (Rg.y_bink (b := BinOp.add) (T := 9) (R' := 9) (x := .tmp 19) (y := .tmp 20) (vx := (.string S0)) (vy := (.string Z)) ?_) ?_
  · (intro w hSw; have h1 := z1; go_simp)
  refine Rg.callk (fn := Tryz.f90) (xs := #[.tmp 26]) (ats := #[9]) 8 (some 27) 90 #[(.string key)] Tryz.func90 ?_
  refine (ck _ hHeld).mono ?_
  rintro e w9 ⟨rfl, hb9⟩
  refine ⟨_, rfl, Tx.below_call hHeld hb9, fun hHeld => ?_⟩
  refine Rg.takek 9 (some 28) (.string (S0 ++ Z ++ TK)) hNS hHeld (Rg.y_bink (b := BinOp.add) (T := 9) (R' := 9) (x := .tmp 21) (y := .tmp 27) (vx := (.string (S0 ++ Z))) (vy := (.string TK)) ?_) ?_
  · (intro w hSw; have h1 := z2; go_simp)
  refine Rg.takek 10 (some 3) (.string (S0 ++ Z ++ TK)) hNS hHeld (Rg.y_movekR (x := .tmp 28)) ?_
  refine Rg.donek ?_
  exact ⟨by kernel_rfl, hHeld⟩
set_option maxRecDepth 100000 in
set_option maxHeartbeats 4000000 in
theorem regFull (ops : Array Oper) (hops : ops = (Rg.opsOf Tryz.f42 7)) (id : Nat) (g off n c k : Nat) (S0 Z TK TV key val : ByteArray) {u1 u2 u5 u6 u7 u8 u9 u10 u11 u12 u13 u14 u15 u16 u17 u18 u19 u20 u21 u22 u23 u24 u25 u26 u27 u28 u29 u30 u31 u32 u33 u34 u35 u36 u37 u38 u39 u40 u41 u42 u43 u44 u45 u46 : Value} (w : World) (hin : (k : Int) < (n : Int)) (hg : g < w.heap.size)
    (g0 : w.cell? ⟨g, off + k * 3, none⟩ = some (.string key)) (g1 : w.cell? ⟨g, off + k * 3 + 1, none⟩ = some (.string val))
    (z1 : S0.size + Z.size ≤ 9223372036854775807) (z2 : S0.size + Z.size + TK.size ≤ 9223372036854775807) (z3 : S0.size + Z.size + TK.size + TV.size ≤ 9223372036854775807)
    (cz : ∀ V, Below w.heap.size w V → Calls Tryz.prog 89 #[.int .i64 1] V fun e w' => e = .returned (.string Z) ∧ Below V.heap.size V w') (ck : ∀ V, Below w.heap.size w V → Calls Tryz.prog 90 #[.string key] V fun e w' => e = .returned (.string TK) ∧ Below V.heap.size V w') (cv : ∀ V, Below w.heap.size w V → Calls Tryz.prog 90 #[.string val] V fun e w' => e = .returned (.string TV) ∧ Below V.heap.size V w') :
    (Code.region id ops true).wp Tryz.prog (Rg.Only fun a' w' => a' = ⟨#[(.slice (some ⟨g, off, none⟩) n c), u1, u2, (.string (S0 ++ Z ++ TK ++ TV)), (.int .i64 (k : Nat)), u5, u6, u7, u8, u9, u10, u11, u12, u13, u14, u15, u16, u17, u18, u19, u20, u21, u22, u23, u24, u25, u26, u27, u28, (.string S0), (.string Z), (.string (S0 ++ Z)), (.slice (some ⟨g, off, none⟩) n c), (.int .i64 (k : Nat)), (.pointer (some ⟨g, off + k * 3, none⟩)), (.pointer (some ⟨g, off + k * 3, none⟩)), (.string key), (.string TK), (.string (S0 ++ Z ++ TK)), (.slice (some ⟨g, off, none⟩) n c), (.int .i64 (k : Nat)), (.pointer (some ⟨g, off + k * 3, none⟩)), (.pointer (some ⟨g, off + k * 3 + 1, none⟩)), (.string val), (.string TV), (.string (S0 ++ Z ++ TK ++ TV)), u46], []⟩ ∧ Below w.heap.size w w') ⟨#[(.slice (some ⟨g, off, none⟩) n c), u1, u2, (.string S0), (.int .i64 (k : Nat)), u5, u6, u7, u8, u9, u10, u11, u12, u13, u14, u15, u16, u17, u18, u19, u20, u21, u22, u23, u24, u25, u26, u27, u28, u29, u30, u31, u32, u33, u34, u35, u36, u37, u38, u39, u40, u41, u42, u43, u44, u45, u46], []⟩ w := by
  subst hops
  have hNS : Region.noSelect (Rg.opsOf Tryz.f42 7) = true := by kernel_rfl
  refine wp_region_held_drew (S := fun V => Below w.heap.size w V) (by kernel_rfl) ((Below.refl _ w).drew) (fun hHeld => ?_)
  rw [show (Rg.opsOf Tryz.f42 7).size = 18 by kernel_rfl]
  refine Rg.takek 0 (some 29) (.string S0) hNS hHeld (Rg.y_movekL (x := .tmp 3)) ?_
  refine Rg.takek 3 (some 32) (.slice (some ⟨g, off, none⟩) n c) hNS hHeld (Rg.y_movekL (x := .tmp 0)) ?_
  refine Rg.takek 4 (some 33) (.int .i64 (k : Nat)) hNS hHeld (Rg.y_movekL (x := .tmp 4)) ?_
  refine Rg.takek 5 (some 34) (.pointer (some ⟨g, off + k * 3, none⟩)) hNS hHeld (Rg.y_atk (T := 37) (x := .tmp 32) (y := .tmp 33) (vx := (.slice (some ⟨g, off, none⟩) n c)) (vy := (.int .i64 (k : Nat))) ?_) ?_
  · (intro w hSw; have h1 := hin; go_simp)
  refine Rg.takek 6 (some 35) (.pointer (some ⟨g, off + k * 3, none⟩)) hNS hHeld (Rg.y_fieldk (T := 43) (k := 0) (x := .tmp 34) (vx := (.pointer (some ⟨g, off + k * 3, none⟩))) ?_) ?_
  · (intro w hSw; go_simp)
  refine Rg.takek 7 (some 36) (.string key) hNS hHeld (Rg.y_loadk (T := 9) (x := .tmp 35) (vx := (.pointer (some ⟨g, off + k * 3, none⟩))) ?_) ?_
  · (intro w hSw; have h1 := (hSw.cell (p := ⟨g, off + k * 3, none⟩) hg).trans g0; go_simp)
  refine Rg.takek 10 (some 39) (.slice (some ⟨g, off, none⟩) n c) hNS hHeld (Rg.y_movekL (x := .tmp 0)) ?_
  refine Rg.takek 11 (some 40) (.int .i64 (k : Nat)) hNS hHeld (Rg.y_movekL (x := .tmp 4)) ?_
  refine Rg.takek 12 (some 41) (.pointer (some ⟨g, off + k * 3, none⟩)) hNS hHeld (Rg.y_atk (T := 37) (x := .tmp 39) (y := .tmp 40) (vx := (.slice (some ⟨g, off, none⟩) n c)) (vy := (.int .i64 (k : Nat))) ?_) ?_
  · (intro w hSw; have h1 := hin; go_simp)
  refine Rg.takek 13 (some 42) (.pointer (some ⟨g, off + k * 3 + 1, none⟩)) hNS hHeld (Rg.y_fieldk (T := 43) (k := 1) (x := .tmp 41) (vx := (.pointer (some ⟨g, off + k * 3, none⟩))) ?_) ?_
  · (intro w hSw; go_simp)
  refine Rg.takek 14 (some 43) (.string val) hNS hHeld (Rg.y_loadk (T := 9) (x := .tmp 42) (vx := (.pointer (some ⟨g, off + k * 3 + 1, none⟩))) ?_) ?_
  · (intro w hSw; have h1 := (hSw.cell (p := ⟨g, off + k * 3 + 1, none⟩) hg).trans g1; go_simp)
  refine Rg.callk (fn := Tryz.f89) (xs := #[.const (Value.int IntKind.i64 1)]) (ats := #[3]) 1 (some 30) 89 #[(Value.int IntKind.i64 1)] Tryz.func89 ?_
  refine (cz _ hHeld).mono ?_
  rintro e w9 ⟨rfl, hb9⟩
  refine ⟨_, rfl, Tx.below_call hHeld hb9, fun hHeld => ?_⟩
  refine Rg.takek 2 (some 31) (.string (S0 ++ Z)) hNS hHeld (Rg.y_bink (b := BinOp.add) (T := 9) (R' := 9) (x := .tmp 29) (y := .tmp 30) (vx := (.string S0)) (vy := (.string Z)) ?_) ?_
  · (intro w hSw; have h1 := z1; go_simp)
  refine Rg.callk (fn := Tryz.f90) (xs := #[.tmp 36]) (ats := #[9]) 8 (some 37) 90 #[(.string key)] Tryz.func90 ?_
  refine (ck _ hHeld).mono ?_
  rintro e w9 ⟨rfl, hb9⟩
  refine ⟨_, rfl, Tx.below_call hHeld hb9, fun hHeld => ?_⟩
  refine Rg.takek 9 (some 38) (.string (S0 ++ Z ++ TK)) hNS hHeld (Rg.y_bink (b := BinOp.add) (T := 9) (R' := 9) (x := .tmp 31) (y := .tmp 37) (vx := (.string (S0 ++ Z))) (vy := (.string TK)) ?_) ?_
  · (intro w hSw; have h1 := z2; go_simp)
  refine Rg.callk (fn := Tryz.f90) (xs := #[.tmp 43]) (ats := #[9]) 15 (some 44) 90 #[(.string val)] Tryz.func90 ?_
  refine (cv _ hHeld).mono ?_
  rintro e w9 ⟨rfl, hb9⟩
  refine ⟨_, rfl, Tx.below_call hHeld hb9, fun hHeld => ?_⟩
  refine Rg.takek 16 (some 45) (.string (S0 ++ Z ++ TK ++ TV)) hNS hHeld (Rg.y_bink (b := BinOp.add) (T := 9) (R' := 9) (x := .tmp 38) (y := .tmp 44) (vx := (.string (S0 ++ Z ++ TK))) (vy := (.string TV)) ?_) ?_
  · (intro w hSw; have h1 := z3; go_simp)
  refine Rg.takek 17 (some 3) (.string (S0 ++ Z ++ TK ++ TV)) hNS hHeld (Rg.y_movekR (x := .tmp 45)) ?_
  refine Rg.donek ?_
  exact ⟨by kernel_rfl, hHeld⟩
end Go.Proofs.YtjdfffkkpbabpaaGreat.Tb

namespace Go.Proofs.YtjdfffkkpbabpaaGreat.Tb
open Go.RowKit Tx Pm Dk Wm Wr
set_option linter.unusedVariables false
set_option linter.unusedSimpArgs false
set_option linter.unnecessarySimpa false
set_option maxRecDepth 100000 in
set_option maxHeartbeats 4000000 in
theorem refRecord_any (A : Option Addr) (n c : Nat) (l : List Ch) (w : World) (hO : Opl w A n l) (hw : wt l ≤ 100000000) (hc : n ≤ c) : Calls Tryz.prog 42 #[.slice A n c] w fun e w' => e = .returned (.string (rec7 l)) ∧ Below w.heap.size w w' := by
  have HO := Lib.hid (fun V (hV : Below w.heap.size w V) => hO.below hV)
  have HL := Lib.hid hO.1
  have HW := Lib.hid hw
  have hn : n ≤ 2500000 := by have := wt_len l; have := HL.out; omega
  have cn := refNum_any n w (by omega)
  have c0 := fun W => refNum_any 0 W (by decide)
  have c1 := fun W => refNum_any 1 W (by decide)
  have z0 : (vs 0).size ≤ 10 := by rw [vs_size]; exact vb_len (by decide)
  have z1 : (vs 1).size ≤ 10 := by rw [vs_size]; exact vb_len (by decide)
  generalize hZ0 : vs 0 = Z0 at c0 z0
  generalize hZ1 : vs 1 = Z1 at c1 z1
  have HZ0 := Lib.hid hZ0
  have HZ1 := Lib.hid hZ1
  have hr0 : vs n = rk l 0 := by rw [rk_0, HL.out]
  rw [hr0] at cn
  clear hO hw hr0 hZ0 hZ1
  go_enter Tryz.func42, Tryz.ntmps42
  go_wp2_with fail
  go_at_call 89
  refine cn.mono ?_
  rintro e w1 ⟨rfl, hb1⟩
  go_wp2_with fail
  go_loopw [3, 4] (fun sv' iv wr => ∃ k : Nat, k ≤ n ∧ sv' = .string (rk l k) ∧ iv = .int .i64 k ∧ Below w.heap.size w wr) (fun _ i _ => n - (intOf i).toNat)
  case atStart => exact ⟨0, Nat.zero_le _, rfl, rfl, hb1⟩
  case round =>
    clear hb1 cn
    obtain ⟨k, hkn, rfl, rfl, hB⟩ := hrel
    by_cases hlt : k < n
    · obtain ⟨r, hx⟩ : ∃ r, l[k]? = some r := ⟨_, List.getElem?_eq_getElem (by rw [HL.out]; exact hlt)⟩
      have hr : r.key.size ≤ 100000000 ∧ r.val.size ≤ 100000000 := by
        have := wt_mem (List.mem_of_getElem? hx)
        have := HW.out
        omega
      obtain ⟨g, off, rfl, hg, g0, g1, g2⟩ := (HO.out _ hB).nth hx
      have HG := Lib.hid (fun V (hV : Below wr.heap.size wr V) => by
        obtain ⟨g', off', e', _, h0, h1, h2⟩ := (HO.out _ (Tx.below_call hB hV)).nth hx
        cases e'
        exact (⟨h0, h1, h2⟩ : V.cell? ⟨g, off + k * 3, none⟩ = some (.string r.key) ∧ V.cell? ⟨g, off + k * 3 + 1, none⟩ = some (.string r.val) ∧ V.cell? ⟨g, off + k * 3 + 1 + 1, none⟩ = some (.bool r.gone)))
      have hzk : (k : Int) < (n : Int) := by omega
      have hnx := rk_next hx
      rw [HZ0.out, HZ1.out] at hnx
      have hsz := rk_size l k HW.out
      have hwl := HW.out
      obtain ⟨key, val, gone⟩ := r
      simp only at g0 g1 g2 hr hnx HG
      have ck := fun W => refText_any key W (by omega)
      have cv := fun W => refText_any val W (by omega)
      have hzk1 : (ts key).size ≤ 100000010 := by
        have := vb_len (x := key.size) (by omega)
        rw [ts, ByteArray.size_append, vs_size]; omega
      have hzv1 : (ts val).size ≤ 100000010 := by
        have := vb_len (x := val.size) (by omega)
        rw [ts, ByteArray.size_append, vs_size]; omega
      have HNX := Lib.hid hnx
      clear hx hnx
      generalize hrk : rk l k = S at hsz HNX ⊢
      generalize ts key = TK at ck hzk1 HNX
      generalize ts val = TV at cv hzv1 HNX
      clear hrk
      cases gone
      · have e := HNX.out
        simp only [Bool.false_eq_true, if_false] at e
        have HE := Lib.hid e
        clear e HNX
        have h1 : S.size + Z1.size ≤ 9223372036854775807 := by omega
        have h2 : S.size + Z1.size + TK.size ≤ 9223372036854775807 := by omega
        have h3 : S.size + Z1.size + TK.size + TV.size ≤ 9223372036854775807 := by omega
        go_wp2_with fail
        refine Rg.wp_only ?_ (regFull _ (by kernel_rfl) _ g off n c k S Z1 TK TV key val wr hzk hg g0 g1 h1 h2 h3 (fun V _ => c1 V) (fun V _ => ck V) (fun V _ => cv V))
        rintro _ w9 ⟨rfl, hb9⟩
        have hB9 := Tx.below_call hB hb9
        go_wp2_with fail
        go_roundw
        case rel => exact ⟨k + 1, by omega, by rw [HE.out], by go_num, hB9⟩
        case measure => simp [intOf]; omega
      · have e := HNX.out
        simp only [if_true] at e
        have HE := Lib.hid e
        clear e HNX
        have h1 : S.size + Z0.size ≤ 9223372036854775807 := by omega
        have h2 : S.size + Z0.size + TK.size ≤ 9223372036854775807 := by omega
        have h3 : S.size + Z0.size + TK.size + TV.size ≤ 9223372036854775807 := by omega
        go_wp2_with fail
        refine Rg.wp_only ?_ (regGone _ (by kernel_rfl) _ g off n c k S Z0 TK TV key val wr hzk hg g0 g1 h1 h2 h3 (fun V _ => c0 V) (fun V _ => ck V) (fun V _ => cv V))
        rintro _ w9 ⟨rfl, hb9⟩
        have hB9 := Tx.below_call hB hb9
        go_wp2_with fail
        go_roundw
        case rel => exact ⟨k + 1, by omega, by rw [HE.out], by go_num, hB9⟩
        case measure => simp [intOf]; omega
    · obtain rfl : k = n := by omega
      have hall : rk l k = rec7 l := by rw [← HL.out, rk_all]
      rw [hall]
      go_wp2_with fail
      go_ret
      exact ⟨rfl, hB⟩
end Go.Proofs.YtjdfffkkpbabpaaGreat.Tb

namespace Go.Proofs.YtjdfffkkpbabpaaGreat.Tb
open Go.RowKit Tx Pm Dk Wm Wr Wl Pl
set_option linter.unusedVariables false
set_option linter.unusedSimpArgs false
set_option linter.unnecessarySimpa false
theorem Mo.below {w w1 : World} {bm : Nat} {L : List It} (h : Mo w bm L) (hb : Below w.heap.size w w1) : Mo w1 bm L := h.kept (hb.block bm h.lt)
theorem held_all (L : List It) : held (pre7 ⟨#[]⟩) L = L.map (·.path) := by
  unfold held
  congr 1
  refine List.filter_eq_self.2 (fun x _ => ?_)
  unfold pre7 Lib.hasPrefix
  rfl
set_option maxRecDepth 100000 in
set_option maxHeartbeats 2000000 in
theorem whole_any (t m : Nat) (L : List It) (w : World) (ht : w.cell? ⟨t, 3, none⟩ = some (.map (some m))) (hm : Mo w m L) (hR : Rises L) (hn : L.length ≤ 1000000000) (hps : ∀ x ∈ L, x.path.size ≤ 1000000000000) :
    Calls Tryz.prog 45 #[.pointer (some ⟨t, 0, none⟩)] w fun e w' => ∃ v, e = .returned v ∧ OwnC w' w.heap.size v (whole7 L) ∧ Below w.heap.size w w' := by
  obtain ⟨i0, hi, hz0, hz1, hz2⟩ := info_parts infoC
  have ck := tKeys_any t m L ⟨#[]⟩ w ht hm hR hn hps (by decide)
  rw [held_all] at ck
  have htl := World.block_lt_of_cell? w _ ht
  have HR := Lib.hid hR
  have HM := Lib.hid hm
  have HP := Lib.hid hps
  obtain ⟨n, hnL⟩ : ∃ n, n = L.length := ⟨_, rfl⟩
  have HL := Lib.hid hnL
  rw [← hnL] at hn
  have hlm : (L.map (·.path)).length = n := by rw [List.length_map, hnL]
  clear hR hm hnL hps
  go_enter Tryz.func45, Tryz.ntmps45
  go_wp2_with fail
  go_at_call 61
  refine ck.mono ?_
  rintro e w1 ⟨vK, rfl, hK, hb1⟩
  obtain ⟨aK, cK, hv, hsK, hcK, _⟩ := hK.form
  rw [hlm] at hv hsK hcK
  have HSK := Lib.hid (fun W (hW : Below w1.heap.size w1 W) => hsK.below hW)
  have ht1 := (hb1.cell (p := ⟨t, 3, none⟩) htl).trans ht
  have HM1 := Lib.hid (HM.out.below hb1)
  have hsz1 := hb1.size
  clear hK hsK hlm
  subst hv
  go_wp2_with fail
  go_loopw [3, 9] (fun v iv wr => ∃ k : Nat, k ≤ n ∧ iv = .int .i64 k ∧ wr.ownsRow w1.heap.size 43 3 v k ((whole7 (L.take k)).flatMap cellsC) ∧ Below w1.heap.size w1 wr) (fun _ iv _ => n - (intOf iv).toNat)
  case atStart => exact ⟨0, Nat.zero_le _, rfl, World.ownsRow_nil _ _ _ _, Below.refl _ _⟩
  case round =>
    obtain ⟨k, hk, rfl, hown, hB⟩ := hrel
    by_cases hlt : k < n
    · obtain ⟨x, hx⟩ : ∃ x, L[k]? = some x := ⟨_, List.getElem?_eq_getElem (by rw [← HL.out]; exact hlt)⟩
      have hxk : (L.map (·.path))[k]? = some x.path := by rw [List.getElem?_map, hx]; rfl
      obtain ⟨_, hne⟩ := HSK.out _ hB
      obtain ⟨bk, off, rfl, hbk, hcc⟩ := hne.resolve_left (by omega)
      have g0 := hcc k x.path hxk
      have hkz : (k : Int) < (n : Int) := by omega
      have htr := (hB.cell (p := ⟨t, 3, none⟩) (World.block_lt_of_cell? w1 _ ht1)).trans ht1
      have hl := (HM1.out.below hB).look (p := x.path) (by have := HP.out x (List.mem_of_getElem? hx); unfold maxLen; omega)
      have hlc : lookC L x.path = chOf x := by unfold lookC; rw [find_paths HR.out (List.mem_of_getElem? hx)]
      rw [hlc] at hl
      have htk : whole7 (L.take (k + 1)) = whole7 (L.take k) ++ [chOf x] := by
        have hkl := (List.getElem?_eq_some_iff.1 hx).1
        rw [List.take_succ_eq_append_getElem hkl]
        rw [List.getElem?_eq_getElem hkl] at hx
        injection hx with hx
        unfold whole7
        rw [List.map_append, hx]
        rfl
      have HTK := Lib.hid htk
      obtain ⟨P, D⟩ : ∃ P : ByteArray × ByteArray, P = (x.path, x.data) := ⟨_, rfl⟩
      simp only [chOf, ov] at hl
      clear hx hxk hcc hne hlc htk
      go_wp2_with (at_builtin; refine wpList_append_own _ rfl _ _ 37 rfl w1.heap.size 43 i0 (ov ch0) 3 40 Tryz.underlying37 hi hz0 hz1 hz2 rfl (by decide) _ _ _ rfl (hown.alloc _) ⟨wr.heap.size, 0, none⟩ 1 1 [.string x.path, .string x.data, .bool false] rfl rfl ?c1 ?c2 ?c3 ?c4 ?c5 ?_)
      case c1 => exact new3 wr (chOf x) rfl
      case c2 => exact cells_one (chOf x)
      case c3 => unfold maxLen; omega
      case c4 => omega
      case c5 => have := hB.size; simp; omega
      intro v' w6 hown6 hgrow6 _
      have hB6 : Below w1.heap.size w1 w6 := (hB.alloc hB.size _).grown hgrow6 (by simp; have := hB.size; omega) (fun g hg => (hown.lt g hg).1)
      have hO6 : w6.ownsRow w1.heap.size 43 3 v' (k + 1) ((whole7 (L.take (k + 1))).flatMap cellsC) := by
        rw [HTK.out, List.flatMap_append]
        exact hown6
      clear hown6 hgrow6 hown hB
      go_wp2_with fail
      go_roundw
      case rel => exact ⟨k + 1, by omega, by go_num, hO6, hB6⟩
      case measure => simp [intOf]; omega
    · obtain rfl : k = n := by omega
      have hO : OwnC wr w.heap.size u3 (whole7 L) := by
        have e : L.take k = L := List.take_of_length_le (by rw [← HL.out]; exact Nat.le_refl _)
        rw [e] at hown
        unfold OwnC
        have e2 : (whole7 L).length = k := by unfold whole7; rw [List.length_map]; exact HL.out.symm
        rw [e2]
        exact own_less hown hsz1
      obtain ⟨a9, c9, hv9, _⟩ := hO.form
      have hb9 := Tx.below_call hb1 hB
      have HO := Lib.hid hO
      obtain ⟨n9, hn9⟩ : ∃ n9, n9 = (whole7 L).length := ⟨_, rfl⟩
      rw [← hn9] at hv9
      clear hO hown hn9
      subst hv9
      go_wp2_with fail
      go_ret
      exact ⟨_, rfl, HO.out, hb9⟩
set_option maxRecDepth 100000 in
set_option maxHeartbeats 2000000 in
theorem do_any (t m : Nat) (L : List It) (a : Option Addr) (n c : Nat) (l : List Ch) (w : World) (ht : w.cell? ⟨t, 3, none⟩ = some (.map (some m))) (hm : Mo w m L) (hR : Rises L) (hO : Opl w a n l) (hn : L.length + n ≤ 1000000000) (hps : ∀ x ∈ l, x.key.size ≤ 1000000000000) (hc : n ≤ c) :
    Calls Tryz.prog 39 #[.pointer (some ⟨t, 0, none⟩), .slice a n c] w fun e w' => e = .returned (.tuple #[]) ∧ Mo w' m (all7 L l) ∧ Chg (· = m) w w' := by
  have htl := World.block_lt_of_cell? w _ ht
  have htm : t ≠ m := fun e => by
    subst e
    obtain ⟨D, ⟨es, ck, hb, _⟩, _⟩ := hm
    unfold World.cell? at ht
    rw [hb] at ht
    cases ht
  have hom : ∀ g off, a = some ⟨g, off, none⟩ → 0 < n → g ≠ m := by
    rintro g off rfl hp rfl
    obtain ⟨x, hx⟩ : ∃ x, l[0]? = some x := ⟨_, List.getElem?_eq_getElem (by rw [hO.1]; exact hp)⟩
    obtain ⟨g', off', e1, _, g0, _⟩ := hO.nth hx
    injection e1 with e1
    injection e1 with e1 e2
    subst e1 e2
    obtain ⟨D, ⟨es, ck, hb, _⟩, _⟩ := hm
    unfold World.cell? at g0
    rw [hb] at g0
    cases g0
  have HOM := Lib.hid hom
  have HO := Lib.hid hO
  have HR := Lib.hid hR
  have HP := Lib.hid hps
  clear hO hR hps hom
  go_enter Tryz.func39, Tryz.ntmps39
  go_wp2_with fail
  go_loopw [8] (fun iv wr => ∃ k : Nat, k ≤ n ∧ iv = .int .i64 k ∧ Mo wr m (all7 L (l.take k)) ∧ Chg (· = m) w wr) (fun iv _ => n - (intOf iv).toNat)
  case atStart => exact ⟨0, Nat.zero_le _, rfl, hm, Chg.refl _ _⟩
  case round =>
    obtain ⟨k, hk, rfl, hmo, hch⟩ := hrel
    by_cases hlt : k < n
    · obtain ⟨x, hx⟩ : ∃ x, l[k]? = some x := ⟨_, List.getElem?_eq_getElem (by rw [HO.out.1]; exact hlt)⟩
      obtain ⟨g, off, rfl, hg, g0, g1, g2⟩ := HO.out.nth hx
      have hgm : g ≠ m := HOM.out g off rfl (by omega)
      have hbg := hch.block g hg hgm
      have h0 : wr.cell? ⟨g, off + k * 3, none⟩ = some (.string x.key) := by unfold World.cell? at g0 ⊢; rw [hbg]; exact g0
      have h1 : wr.cell? ⟨g, off + k * 3 + 1, none⟩ = some (.string x.val) := by unfold World.cell? at g1 ⊢; rw [hbg]; exact g1
      have h2 : wr.cell? ⟨g, off + k * 3 + 1 + 1, none⟩ = some (.bool x.gone) := by unfold World.cell? at g2 ⊢; rw [hbg]; exact g2
      have hbt := hch.block t htl htm
      have htr : wr.cell? ⟨t, 3, none⟩ = some (.map (some m)) := by unfold World.cell? at ht ⊢; rw [hbt]; exact ht
      have hkz : (k : Int) < (n : Int) := by omega
      have hks := HP.out x (List.mem_of_getElem? hx)
      have hrs := rises_all HR.out (l.take k)
      have hln := len_all L (l.take k)
      have hlk : (l.take k).length ≤ k := by rw [List.length_take]; omega
      have htk : all7 L (l.take (k + 1)) = app (all7 L (l.take k)) x := by
        have hkl := (List.getElem?_eq_some_iff.1 hx).1
        rw [List.take_succ_eq_append_getElem hkl, all7_snoc]
        rw [List.getElem?_eq_getElem hkl] at hx
        injection hx with hx
        rw [hx]
      have HTK := Lib.hid htk
      have hB2 : Below wr.heap.size wr (wr.alloc (.cells #[.string x.key, .string x.val, .bool x.gone] 43)).drew := ((Below.refl _ wr).alloc (Nat.le_refl _) _).drew
      have hmo2 := hmo.below hB2
      obtain ⟨key, val, gone⟩ := x
      have htr2 := (hB2.cell (p := ⟨t, 3, none⟩) (World.block_lt_of_cell? wr _ htr)).trans htr
      simp only at h0 h1 h2 hks hB2 hmo2
      cases gone
      · obtain ⟨w3, hrun, hm3, hturn⟩ := hmo2.store (c := ⟨key, val, false⟩) rfl (by show key.size ≤ _; unfold maxLen; omega) (by unfold maxLen; omega)
        have hc3 : Chg (· = m) w w3 := (hch.then (Chg.of_below hB2)).then (turned_chg hturn)
        rw [← HTK.out] at hm3
        simp only [ov] at hrun
        have HM3 := Lib.hid hm3
        have HC3 := Lib.hid hc3
        clear hmo hmo2 hch hB2 hx g0 g1 g2 hbg hbt hturn hm3 hc3 htk hrs hln hlk
        go_wp2_with fail
        go_region
        all_goals
          go_wp2_with fail
          go_roundw
          case rel => exact ⟨k + 1, by omega, by go_num, HM3.out, HC3.out⟩
          case measure => simp [intOf]; omega
      · obtain ⟨w3, hrun, hm3, hturn⟩ := hmo2.del hrs (c := ⟨key, val, true⟩) rfl (by show key.size ≤ _; unfold maxLen; omega) 0
        have hc3 : Chg (· = m) w w3 := (hch.then (Chg.of_below hB2)).then (turned_chg hturn)
        rw [← HTK.out] at hm3
        have HM3 := Lib.hid hm3
        have HC3 := Lib.hid hc3
        clear hmo hmo2 hch hB2 hx g0 g1 g2 hbg hbt hturn hm3 hc3 htk hrs hln hlk
        go_wp2_with fail
        go_region
        all_goals
          go_wp2_with fail
          go_roundw
          case rel => exact ⟨k + 1, by omega, by go_num, HM3.out, HC3.out⟩
          case measure => simp [intOf]; omega
    · obtain rfl : k = n := by omega
      have e : l.take k = l := List.take_of_length_le (by rw [HO.out.1]; exact Nat.le_refl _)
      rw [e] at hmo
      go_wp2_with fail
      go_end0
      exact ⟨rfl, hmo, hch⟩
end Go.Proofs.YtjdfffkkpbabpaaGreat.Tb

namespace Go.Proofs.YtjdfffkkpbabpaaGreat.Tb
open Go.RowKit Tx Pm Dk Wm Wr Wl Pl
set_option linter.unusedVariables false
set_option linter.unusedSimpArgs false
set_option linter.unnecessarySimpa false
theorem pl_ge (c : Ch) (h : norm c = c) : c.key.size + c.val.size + 2 ≤ (pl c).length := by
  obtain ⟨key, val, gone⟩ := c
  have h1 := vb_pos 0
  have h2 := vb_pos 1
  have h3 := vb_pos key.size
  cases gone
  · rw [pl_give]
    simp only [List.length_append, tl, Wm.len_l]
    omega
  · have hv : val = ⟨#[]⟩ := by
      have := congrArg Ch.val h
      simpa [norm] using this.symm
    rw [pl_gone, hv]
    simp only [List.length_append, tl, Wm.len_l]
    show key.size + 0 + 2 ≤ _
    omega
theorem wt_all : ∀ {l : List Ch}, l.map norm = l → wt l ≤ 20 * (l.flatMap pl).length
  | [], _ => Nat.zero_le _
  | c :: l, h => by
    rw [List.map_cons] at h
    injection h with h1 h2
    have a1 := pl_ge c h1
    have a2 := wt_all h2
    rw [wt_cons, List.flatMap_cons, List.length_append]
    omega
theorem wt_ops {r : ByteArray} {l : List Ch} (h : opsS r = (l, 0)) : wt l ≤ 20 * r.size := by
  obtain ⟨h1, h2, _⟩ := opsS_ok h
  have := wt_all h2
  rw [← h1, rec7_size, recl, List.length_append]
  omega
def taken (L : List It) (r : ByteArray) : List It := if (opsS r).2 = 0 then all7 L (opsS r).1 else L
set_option maxRecDepth 100000 in
set_option maxHeartbeats 1000000 in
theorem take_any (t m : Nat) (L : List It) (r : ByteArray) (w : World) (ht : w.cell? ⟨t, 3, none⟩ = some (.map (some m))) (hm : Mo w m L) (hR : Rises L) (hr : r.size ≤ 500000000) (hn : L.length ≤ 500000000) :
    Calls Tryz.prog 74 #[.pointer (some ⟨t, 0, none⟩), .string r] w fun e w' => e = .returned (.int .i64 ((opsS r).2 : Nat)) ∧ Mo w' m (taken L r) ∧ Chg (· = m) w w' := by
  have co := ops_any r w (by omega)
  unfold OpsTo at co
  have htl := World.block_lt_of_cell? w _ ht
  obtain ⟨l, e, h⟩ : ∃ l e, opsS r = (l, e) := ⟨_, _, rfl⟩
  unfold taken
  rw [h] at co ⊢
  simp only at co ⊢
  by_cases he : e = 0
  · subst he
    rw [if_pos rfl]
    have hw := wt_ops h
    have hln := wt_len l
    obtain ⟨_, _, h2l⟩ := opsS_ok h
    have hks : ∀ x ∈ l, x.key.size ≤ 1000000000000 := fun x hx => by have := wt_mem hx; omega
    have cd := fun W (hW : Below w.heap.size w W) a c (hO : Opl W a l.length l) (hc : l.length ≤ c) => do_any t m L a l.length c l W ((hW.cell (p := ⟨t, 3, none⟩) htl).trans ht) (hm.below hW) hR hO (by omega) hks hc
    clear hm hR h
    go_enter Tryz.func74, Tryz.ntmps74
    go_wp2_with fail
    go_at_call 109
    refine co.mono ?_
    rintro e w1 ⟨v, rfl, hO, hb1⟩
    obtain ⟨a, c, hv, hO2, hc, _⟩ := hO.form
    have c1 := cd _ hb1 a c hO2 hc
    obtain ⟨n, hn⟩ : ∃ n, n = l.length := ⟨_, rfl⟩
    rw [← hn] at hv c1
    clear hO hO2 hn cd hw hln hks h2l
    subst hv
    go_wp2_with fail
    go_at_call 39
    refine c1.mono ?_
    rintro e w2 ⟨rfl, hm2, hc2⟩
    go_wp2_with fail
    go_ret
    exact ⟨rfl, hm2, (Chg.of_below hb1).then hc2⟩
  · rw [if_neg he]
    have ne := neZ he
    have HM := Lib.hid (fun W (hW : Below w.heap.size w W) => hm.below hW)
    clear h he hm
    go_enter Tryz.func74, Tryz.ntmps74
    go_wp2_with fail
    go_at_call 109
    refine co.mono ?_
    rintro e w1 ⟨v, rfl, hO, hb1⟩
    clear hO
    go_wp2_with fail
    go_ret
    exact ⟨rfl, HM.out _ hb1, Chg.of_below hb1⟩
theorem frAt_fr (s : ByteArray) : Fr.frAt s 0 = (if (Fm.fr s).2.2 ≠ 0 then (⟨#[]⟩, 0, (Fm.fr s).2.2) else ((Fm.fr s).1, (((Fm.fr s).2.1 : Nat) : Int), 0) : ByteArray × Int × Nat) := by
  have hx : s.extract (Int.toNat 0) s.size = s := extract_all s
  unfold Fr.frAt
  rw [if_neg (by omega), hx]
  split
  · rfl
  · rw [Int.zero_add]
def based (s : St) (p : ByteArray) : List It := if (base0 s p).2 = 0 then (base0 s p).1 else []
section
variable {s : St} {p d r : ByteArray} {e n : Nat} {l : List Ch}
theorem base_0 (h : kind s.L p = 0) : base0 s p = ([], 0) := by unfold base0; rw [if_pos h]
theorem base_1 (h : kind s.L p ≠ 0) (h1 : readS s p = (d, e)) (he : e ≠ 0) : base0 s p = ([], e) := by unfold base0; rw [if_neg h, h1]; exact if_pos he
theorem base_2 (h : kind s.L p ≠ 0) (h1 : readS s p = (d, 0)) (h2 : Fm.fr d = (r, n, e)) (he : e ≠ 0) : base0 s p = ([], e) := by
  unfold base0 baseS; rw [if_neg h, h1]; simp only [h2]; rw [if_neg (fun hh => hh rfl)]; exact if_pos he
theorem base_3 (h : kind s.L p ≠ 0) (h1 : readS s p = (d, 0)) (h2 : Fm.fr d = (r, n, 0)) (hn : n < d.size) : base0 s p = ([], 5) := by
  unfold base0 baseS; rw [if_neg h, h1]; simp only [h2]; rw [if_neg (fun hh => hh rfl), if_neg (fun hh => hh rfl)]; exact if_pos hn
theorem base_4 (h : kind s.L p ≠ 0) (h1 : readS s p = (d, 0)) (h2 : Fm.fr d = (r, n, 0)) (hn : ¬ n < d.size) (h3 : opsS r = (l, e)) (he : e ≠ 0) : base0 s p = ([], e) := by
  unfold base0 baseS; rw [if_neg h, h1]; simp only [h2, h3]; rw [if_neg (fun hh => hh rfl), if_neg (fun hh => hh rfl), if_neg hn]; exact if_pos he
theorem base_5 (h : kind s.L p ≠ 0) (h1 : readS s p = (d, 0)) (h2 : Fm.fr d = (r, n, 0)) (hn : ¬ n < d.size) (h3 : opsS r = (l, 0)) : base0 s p = (all7 [] l, 0) := by
  unfold base0 baseS; rw [if_neg h, h1]; simp only [h2, h3]; rw [if_neg (fun hh => hh rfl), if_neg (fun hh => hh rfl), if_neg hn]; exact if_neg (fun hh => hh rfl)
end
theorem fr_size {d r : ByteArray} {n e : Nat} (h : Fm.fr d = (r, n, e)) : r.size ≤ d.size ∧ n ≤ d.size := by
  have hle := Fm.fr_le d
  rw [h] at hle
  refine ⟨?_, hle⟩
  by_cases he : e = 0
  · subst he
    obtain ⟨_, _, _, h4⟩ := Fm.fr_ok h
    have h5 := congrArg ByteArray.size h4
    rw [Fm.pk_size, ByteArray.size_extract] at h5
    omega
  · unfold Fm.fr at h
    split at h
    · simp only [Prod.mk.injEq] at h; rw [← h.1]; exact Nat.zero_le _
    · split at h
      · simp only [Prod.mk.injEq] at h; rw [← h.1]; exact Nat.zero_le _
      · split at h
        · simp only [Prod.mk.injEq] at h; rw [← h.1]; exact Nat.zero_le _
        · simp only [Prod.mk.injEq] at h; exact absurd h.2.2.symm he
set_option maxRecDepth 100000 in
set_option maxHeartbeats 4000000 in
theorem takeBase_any (b t m : Nat) {Fd : Nat → Prop} {s : St} (p : ByteArray) (w : World) (t0 : w.cell? ⟨t, 0, none⟩ = some (.pointer (some ⟨b, 0, none⟩))) (t1 : w.cell? ⟨t, 1, none⟩ = some (.string p)) (ht : w.cell? ⟨t, 3, none⟩ = some (.map (some m)))
    (hm : Mo w m []) (hD : ImpAt b w Fd s) (hp : p.size ≤ 1000) (hs : (readS s p).1.size ≤ 500000000) :
    Calls Tryz.prog 28 #[.pointer (some ⟨t, 0, none⟩)] w fun e w' => e = .returned (.int .i64 ((base0 s p).2 : Nat)) ∧ Mo w' m (based s p) ∧ Chg (· = m) w w' := by
  have kk := imp_kind b
  have hd1 := (Below.refl w.heap.size w).drew
  have htl := World.block_lt_of_cell? w _ ht
  have hDB := fun W (hW : Below w.heap.size w W) => kk.kept hD (fun i hi => hW.block i (kk.lt hD i hi))
  have ck := (iw_kind p (hDB _ hd1) (by omega)).mono fun e w' (hh : _ ∧ w.drew = w') => (⟨hh.1, same_belowW hh.2⟩ : _ ∧ Below w.drew.heap.size w.drew w')
  have hd2 : ∀ W, Below w.drew.heap.size w.drew W → Below w.heap.size w W.drew := fun W hW => Tx.below_call hd1 hW.drew
  have cr := fun W hW => iw_read p (hDB _ (hd2 W hW)) (by omega)
  have HCL := Lib.hid (fun W (hW : Below w.drew.heap.size w.drew W) => (⟨((Tx.below_call hd1 hW).cell (p := ⟨t, 0, none⟩) htl).trans t0, ((Tx.below_call hd1 hW).cell (p := ⟨t, 1, none⟩) htl).trans t1⟩ : W.cell? ⟨t, 0, none⟩ = some (.pointer (some ⟨b, 0, none⟩)) ∧ W.cell? ⟨t, 1, none⟩ = some (.string p)))
  have HT := Lib.hid (fun W (hW : Below w.heap.size w W) => (hW.cell (p := ⟨t, 3, none⟩) htl).trans ht)
  have HM := Lib.hid (fun W (hW : Below w.heap.size w W) => hm.below hW)
  have HD2 := Lib.hid hd2
  unfold based
  by_cases hk : kind s.L p = 0
  · rw [base_0 hk]
    rw [hk] at ck
    clear hD hDB hk cr hd1 hd2 hm
    go_enter Tryz.func28, Tryz.ntmps28
    go_wp2_with fail
    go_still_tail 8, (by kernel_rfl)
    change wpList _ _ _ _ _ w.drew
    go_wp2_with fail
    go_at_call 25
    refine ck.mono ?_
    rintro e w4 ⟨rfl, hb4⟩
    obtain ⟨u0, u1⟩ := HCL.out _ hb4
    have hb4' := HD2.out _ hb4
    go_wp2_with fail
    go_ret
    exact ⟨rfl, HM.out _ (Tx.below_call (Below.refl w.heap.size w).drew hb4), Chg.of_below (Tx.below_call (Below.refl w.heap.size w).drew hb4)⟩
  · have nk := neZ hk
    obtain ⟨d, e1, hrd⟩ : ∃ d e, readS s p = (d, e) := ⟨_, _, rfl⟩
    rw [hrd] at cr hs
    simp only at cr hs
    by_cases he1 : e1 = 0
    · subst he1
      obtain ⟨r, n, e2, hfr⟩ := Fm.trip (Fm.fr d)
      have cf := fun W => Fr.fRead_any d 0 W (by omega) (by omega) (by omega)
      have hfa := frAt_fr d
      rw [hfr] at hfa
      obtain ⟨hrs, hnd⟩ := fr_size hfr
      by_cases he2 : e2 = 0
      · subst he2
        rw [if_neg (fun hh => hh rfl)] at hfa
        simp only at hfa
        rw [hfa] at cf
        have hdi : (d.size : Int) ≤ 500000000 := by omega
        by_cases hn : n < d.size
        · rw [base_3 hk hrd hfr hn]
          have hnz : (n : Int) < (d.size : Int) := by omega
          generalize kind s.L p = K at ck nk
          clear hD hDB hk hd1 hd2 hm hrd hfr hfa hrs hnd hn hs
          go_enter Tryz.func28, Tryz.ntmps28
          go_wp2_with fail
          go_still_tail 8, (by kernel_rfl)
          change wpList _ _ _ _ _ w.drew
          go_wp2_with fail
          go_at_call 25
          refine ck.mono ?_
          rintro e w4 ⟨rfl, hb4⟩
          obtain ⟨u0, u1⟩ := HCL.out _ hb4
          go_wp2_with fail
          go_region_with (go_at_call 72; refine (cr _ hb4).mono ?_; rintro e w5 ⟨rfl, h5⟩)
          all_goals
            have hb5 := Tx.below_call (HD2.out _ hb4) h5
            go_wp2_with fail
            go_at_call 73
            refine (cf _).mono ?_
            rintro e w6 ⟨rfl, hb6⟩
            have hb7 := Tx.below_call hb5 hb6
            go_wp2_with fail
            go_ret
            exact ⟨rfl, HM.out _ hb7, Chg.of_below hb7⟩
        · have hnz : ¬ (n : Int) < (d.size : Int) := by omega
          have hbt : base0 s p = (if (opsS r).2 = 0 then all7 [] (opsS r).1 else [], (opsS r).2) := by
            obtain ⟨l, e3, h3⟩ : ∃ l e, opsS r = (l, e) := ⟨_, _, rfl⟩
            rw [h3]
            by_cases he3 : e3 = 0
            · subst he3
              rw [base_5 hk hrd hfr hn h3]
              rfl
            · rw [base_4 hk hrd hfr hn h3 he3]
              show _ = (if e3 = 0 then all7 [] l else [], e3)
              rw [if_neg he3]
          have hbt2 : (if (base0 s p).2 = 0 then (base0 s p).1 else []) = taken [] r := by
            rw [hbt]
            unfold taken
            split
            · rfl
            · rfl
          have hbt3 : (base0 s p).2 = (opsS r).2 := by rw [hbt]
          rw [hbt2, hbt3]
          have ctk := fun W (hW : Below w.heap.size w W) => take_any t m [] r W (HT.out W hW) (HM.out W hW) List.Pairwise.nil (by omega) (by decide)
          have HCT := Lib.hid ctk
          generalize kind s.L p = K at ck nk
          generalize taken [] r = TK at HCT
          generalize (opsS r).2 = ER at HCT
          clear hD hDB hk hd1 hd2 hm hrd hfr hfa hrs hnd hn hs hbt hbt2 hbt3 ctk
          go_enter Tryz.func28, Tryz.ntmps28
          go_wp2_with fail
          go_still_tail 8, (by kernel_rfl)
          change wpList _ _ _ _ _ w.drew
          go_wp2_with fail
          go_at_call 25
          refine ck.mono ?_
          rintro e w4 ⟨rfl, hb4⟩
          obtain ⟨u0, u1⟩ := HCL.out _ hb4
          go_wp2_with fail
          go_region_with (go_at_call 72; refine (cr _ hb4).mono ?_; rintro e w5 ⟨rfl, h5⟩)
          all_goals
            have hb5 := Tx.below_call (HD2.out _ hb4) h5
            go_wp2_with fail
            go_at_call 73
            refine (cf _).mono ?_
            rintro e w6 ⟨rfl, hb6⟩
            have hb7 := Tx.below_call hb5 hb6
            go_wp2_with fail
            go_at_call 74
            refine (HCT.out _ hb7).mono ?_
            rintro e w8 ⟨rfl, hm8, hc8⟩
            go_wp2_with fail
            go_ret
            exact ⟨rfl, hm8, (Chg.of_below hb7).then hc8⟩
      · rw [if_pos he2] at hfa
        simp only at hfa
        rw [hfa] at cf
        rw [base_2 hk hrd hfr he2]
        have ne2 := neZ he2
        have hif : (if ((([], e2) : List It × Nat)).2 = 0 then ((([], e2) : List It × Nat)).1 else []) = [] := by split <;> rfl
        rw [hif]
        generalize kind s.L p = K at ck nk
        clear hD hDB hk hd1 hd2 hm hrd hfr hfa hrs hnd hs he2 hif
        go_enter Tryz.func28, Tryz.ntmps28
        go_wp2_with fail
        go_still_tail 8, (by kernel_rfl)
        change wpList _ _ _ _ _ w.drew
        go_wp2_with fail
        go_at_call 25
        refine ck.mono ?_
        rintro e w4 ⟨rfl, hb4⟩
        obtain ⟨u0, u1⟩ := HCL.out _ hb4
        go_wp2_with fail
        go_region_with (go_at_call 72; refine (cr _ hb4).mono ?_; rintro e w5 ⟨rfl, h5⟩)
        all_goals
          have hb5 := Tx.below_call (HD2.out _ hb4) h5
          go_wp2_with fail
          go_at_call 73
          refine (cf _).mono ?_
          rintro e w6 ⟨rfl, hb6⟩
          have hb7 := Tx.below_call hb5 hb6
          go_wp2_with fail
          go_ret
          exact ⟨rfl, HM.out _ hb7, Chg.of_below hb7⟩
    · rw [base_1 hk hrd he1]
      have ne1 := neZ he1
      have hif : (if ((([], e1) : List It × Nat)).2 = 0 then ((([], e1) : List It × Nat)).1 else []) = [] := by split <;> rfl
      rw [hif]
      generalize kind s.L p = K at ck nk
      clear hD hDB hk hd1 hd2 hm hrd he1 hif hs
      go_enter Tryz.func28, Tryz.ntmps28
      go_wp2_with fail
      go_still_tail 8, (by kernel_rfl)
      change wpList _ _ _ _ _ w.drew
      go_wp2_with fail
      go_at_call 25
      refine ck.mono ?_
      rintro e w4 ⟨rfl, hb4⟩
      obtain ⟨u0, u1⟩ := HCL.out _ hb4
      go_wp2_with fail
      go_region_with (go_at_call 72; refine (cr _ hb4).mono ?_; rintro e w5 ⟨rfl, h5⟩)
      all_goals
        have hb5 := Tx.below_call (HD2.out _ hb4) h5
        go_wp2_with fail
        go_ret
        exact ⟨rfl, HM.out _ hb5, Chg.of_below hb5⟩
end Go.Proofs.YtjdfffkkpbabpaaGreat.Tb
