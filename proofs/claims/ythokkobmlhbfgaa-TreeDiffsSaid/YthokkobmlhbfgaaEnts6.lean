/- What the document's own Sort answers: contract. -/
import Derived.Test.YthokkobmlhbfgaaEnts5
import Derived.Deep.AppendLies
import Derived.Deep.RegionLaw
import Derived.Laws.OwnMore
import Derived.Deep.CutBlock
import Derived.Deep.CutRange
namespace Go.Proofs.Ythokkobmlhbfgaa.En
open Go.RowKit Tx
set_option linter.unusedVariables false

/-! ### append at a step of a region that draws -/
section
variable {P : Program} (w : World)
theorem wp_own {o : Oper} {a : Act} {K : Act → World → Prop} {Q : Exit → Act → World → Prop} (s x : Operand) (t : TypeId)
    (ho : o.op = .call { callee := .builtin .append, args := #[s, x], argTypes := #[t, t] })
    (base : Nat) (e : TypeId) (i : TypeInfo) (z : Value) (size bytes : Nat) (ht : P.underlying t = some (.slice e)) (hi : P.info? e = some i) (hz : i.zero = some z)
    (hsize : i.size = size) (hby : i.bytes = bytes) (hzs : z.cells.size = size) (hsz : 0 < size)
    (v : Value) (n : Nat) (xs : List Value) (hs : a.eval s = v) (hown : w.ownsRow base e size v n xs)
    (ad : Addr) (m c : Nat) (news : List Value) (hx : a.eval x = .slice (some ad) m c) (hl : news.length = m * size) (hnews : ∀ j u, news[j]? = some u → w.cell? (ad.add j) = some u) (h1 : ∀ u ∈ news, u.oneCell' = true)
    (h63 : n + m ≤ maxLen) (hbytes : (n + m) * bytes ≤ 140737488355328) (hbase : base ≤ w.heap.size)
    (h : ∀ v' w', w'.ownsRow base e size v' (n + m) (xs ++ news) → w.grownBy w' v.ownBlock → K (a.put o.dst v') w') : o.wp P a w K Q := by
  obtain ⟨v', w', hr, h2, h3, h4⟩ := run_append_own (P := P) w base t o.type e i z size bytes ht hi hz hsize hby hzs hsz v n xs hown ad m c news hl hnews h1 h63 hbytes hbase
  unfold Oper.wp execOp
  simp only [ho, resolve, invoke, builtin, Sem.run_bind, Sem.run_pure, Result.andThen_ok, List.map_toArray, List.map_cons, List.map_nil, hs, hx, hr]
  exact h v' w' h2 h3
theorem step_own {ops : Array Oper} {o : Oper} {a : Act} {K : Act → World → Prop} {Q : Exit → Act → World → Prop} {E : Prop} (hgd : o.guard = none) (s x : Operand) (t : TypeId)
    (ho : o.op = .call { callee := .builtin .append, args := #[s, x], argTypes := #[t, t] })
    (base : Nat) (e : TypeId) (i : TypeInfo) (z : Value) (size bytes : Nat) (ht : P.underlying t = some (.slice e)) (hi : P.info? e = some i) (hz : i.zero = some z)
    (hsize : i.size = size) (hby : i.bytes = bytes) (hzs : z.cells.size = size) (hsz : 0 < size)
    (v : Value) (n : Nat) (xs : List Value) (hs : a.eval s = v) (hown : w.ownsRow base e size v n xs)
    (ad : Addr) (m c : Nat) (news : List Value) (hx : a.eval x = .slice (some ad) m c) (hl : news.length = m * size) (hnews : ∀ j u, news[j]? = some u → w.cell? (ad.add j) = some u) (h1 : ∀ u ∈ news, u.oneCell' = true)
    (h63 : n + m ≤ maxLen) (hbytes : (n + m) * bytes ≤ 140737488355328) (hbase : base ≤ w.heap.size)
    (h : ∀ v' w', w'.ownsRow base e size v' (n + m) (xs ++ news) → w.grownBy w' v.ownBlock → K (a.put o.dst v') w') :
    if Region.wanted o (yielded ops a.tmps) = true then Oper.wp P o a w K Q else E := by
  have hw : Region.wanted o (yielded ops a.tmps) = true := by simp [Region.wanted, hgd]
  rw [if_pos hw]
  exact wp_own w s x t ho base e i z size bytes ht hi hz hsize hby hzs hsz v n xs hs hown ad m c news hx hl hnews h1 h63 hbytes hbase h
end

/-! ### sorting -/
def less (a b : ByteArray) : Bool := Op.bytesLess a.toList b.toList
/-- x in its place: ahead of the first one that isn't below it. -/
def insAt (x : Et) : List Et → List Et
  | [] => [x]
  | y :: l => if less y.path x.path = true then y :: insAt x l else x :: y :: l
def tsort (l : List Et) : List Et := l.foldl (fun o x => insAt x o) []
theorem insAt_len (x : Et) : ∀ l : List Et, (insAt x l).length = l.length + 1
  | [] => rfl
  | y :: l => by
    rw [insAt]
    split
    · rw [List.length_cons, insAt_len x l, List.length_cons]
    · rfl
theorem tsort_snoc (l : List Et) (x : Et) : tsort (l ++ [x]) = insAt x (tsort l) := by
  rw [tsort, List.foldl_append]
  rfl
theorem tsort_take (l : List Et) (k : Nat) (x : Et) (h : l[k]? = some x) : tsort (l.take (k + 1)) = insAt x (tsort (l.take k)) := by
  obtain ⟨hk, he⟩ := List.getElem?_eq_some_iff.1 h
  rw [List.take_succ_eq_append_getElem hk, he, tsort_snoc]
theorem tsort_len (l : List Et) : (tsort l).length = l.length := by
  have : ∀ (l o : List Et), (l.foldl (fun o x => insAt x o) o).length = o.length + l.length := by
    intro l
    induction l with
    | nil => intro o; rfl
    | cons x l ih => intro o; rw [List.foldl_cons, ih, insAt_len, List.length_cons]; omega
  rw [tsort, this]
  simp
/-- The place that the search comes to. -/
theorem insAt_at (x : Et) : ∀ (l : List Et) (k : Nat), k ≤ l.length → (∀ y ∈ l.take k, less y.path x.path = true) → (∀ y, l[k]? = some y → less y.path x.path = false) → insAt x l = l.take k ++ x :: l.drop k
  | [], k, hk, _, _ => by simp [insAt]
  | y :: l, 0, _, _, h => by
    rw [insAt, if_neg (by rw [h y rfl]; simp)]
    rfl
  | y :: l, k + 1, hk, h1, h2 => by
    rw [insAt, if_pos (h1 y (by simp)), insAt_at x l k (by simpa using hk) (fun z hz => h1 z (by simp [hz])) (fun z hz => h2 z (by simpa using hz))]
    rfl

theorem own_paths {w : World} {B g n cap : Nat} {T : List Et} (h : Own w B (.slice (some ⟨g, 0, none⟩) n cap) T) : g < w.heap.size ∧ ∀ m y, T[m]? = some y → w.cell? ⟨g, m * 3, none⟩ = some (.string y.path) := by
  rcases h.2 with ⟨h0, _⟩ | ⟨g', cap', cur, hv, hg, hh2, hn, hc, _⟩
  · cases h0
  · injection hv with hv
    injection hv with hv
    injection hv with hv
    subst hv
    refine ⟨(Array.getElem?_eq_some_iff.1 hh2).1, fun m y hy => ?_⟩
    have h1 := World.ownsRow.cells h (g := g) rfl (m * 3 + 0) (.string y.path) (flat_at T m y 0 hy (by omega))
    rw [WideShapes.add_plain, Nat.zero_add, Nat.add_zero] at h1
    exact h1
theorem below_drewN {B : Nat} {a w : World} (h : Below B a w) (n : Nat) : Below B a (w.drewN n) := ⟨h.os, h.tape, h.output, h.size, h.block⟩

theorem own_of {w : World} {B n : Nat} {v : Value} {L : List Et} (h : w.ownsRow B 51 3 v n (L.flatMap cells)) (hL : L.length = n) : Own w B v L := by
  unfold Own
  rw [hL]
  exact h
theorem own_other {w w1 : World} {B g n cap : Nat} {T : List Et} {r : Option Nat} (h : Own w B (.slice (some ⟨g, 0, none⟩) n cap) T) (hg : w.grownBy w1 r) (hne : r ≠ some g) : Own w1 B (.slice (some ⟨g, 0, none⟩) n cap) T := by
  refine ⟨h.1, ?_⟩
  rcases h.2 with h0 | ⟨g', cap', cur, hv, hg', hh, r'⟩
  · exact .inl h0
  · refine .inr ⟨g', cap', cur, hv, hg', (hg.block g' (Array.getElem?_eq_some_iff.1 hh).1 ?_).trans hh, r'⟩
    injection hv with hv
    injection hv with hv
    injection hv with hv
    rw [← hv]
    intro e
    exact hne e.symm
theorem own_some {w : World} {B n : Nat} {v : Value} {xs : List Value} (h : w.ownsRow B 51 3 v n xs) (hne : ¬ v = .slice none 0 0) : ∃ g cap, v = .slice (some ⟨g, 0, none⟩) n cap ∧ B ≤ g := by
  rcases h.2 with ⟨h0, _⟩ | ⟨g, cap, cur, hv, hg, _⟩
  · exact absurd h0 hne
  · exact ⟨g, cap, hv, hg⟩
theorem own_flat {w : World} {B g n cap m : Nat} {T : List Et} (h : Own w B (.slice (some ⟨g, 0, none⟩) n cap) T) : ∀ j u, ((T.drop m).flatMap cells)[j]? = some u → w.cell? ((⟨g, m * 3, none⟩ : Addr).add j) = some u := by
  obtain ⟨a', c', hv', he, _, _⟩ := Own.form h
  injection hv' with h1 h2 h3
  subst h1
  rcases he.2 with h | ⟨b', off', hb', hlt', hc'⟩
  · intro j u hj
    have : T = [] := List.length_eq_zero_iff.1 h
    subst this
    simp at hj
  · injection hb' with hb'
    injection hb' with h4 h5
    subst h4
    subst h5
    apply ents_flat
    intro k x hx
    have := hc' (m + k) x (by rw [List.getElem?_drop] at hx; exact hx)
    rw [Nat.zero_add, Nat.add_mul] at this
    exact this
theorem own_flat_whole {w : World} {B g n cap : Nat} {T : List Et} (h : Own w B (.slice (some ⟨g, 0, none⟩) n cap) T) : ∀ j u, (T.flatMap cells)[j]? = some u → w.cell? ((⟨g, 0, none⟩ : Addr).add j) = some u := by
  have := own_flat (m := 0) h
  rw [Nat.zero_mul, List.drop_zero] at this
  exact this
theorem own_flat_take {w : World} {B g n cap m : Nat} {T : List Et} (h : Own w B (.slice (some ⟨g, 0, none⟩) n cap) T) : ∀ j u, ((T.take m).flatMap cells)[j]? = some u → w.cell? ((⟨g, 0, none⟩ : Addr).add j) = some u := by
  intro j u hj
  have := own_flat (m := 0) h j u (by
    rw [List.drop_zero]
    conv => lhs; rw [← List.take_append_drop m T, List.flatMap_append]
    rw [List.getElem?_append_left (List.getElem?_eq_some_iff.1 hj).1]
    exact hj)
  rw [Nat.zero_mul] at this
  exact this

theorem row_below {w w1 : World} {B n : Nat} {v : Value} {xs : List Value} (h : w.ownsRow B 51 3 v n xs) (hb : Below w.heap.size w w1) : w1.ownsRow B 51 3 v n xs := by
  refine ⟨h.1, ?_⟩
  rcases h.2 with h0 | ⟨g', cap', cur, hv, hg, hh, r⟩
  · exact .inl h0
  · exact .inr ⟨g', cap', cur, hv, hg, (hb.block g' (Array.getElem?_eq_some_iff.1 hh).1).trans hh, r⟩
theorem row_base {w : World} {B C n : Nat} {v : Value} {xs : List Value} (h : w.ownsRow C 51 3 v n xs) (hB : B ≤ C) : w.ownsRow B 51 3 v n xs := by
  refine ⟨h.1, ?_⟩
  rcases h.2 with h0 | ⟨g', cap', cur, hv, hg, r⟩
  · exact .inl h0
  · exact .inr ⟨g', cap', cur, hv, Nat.le_trans hB hg, r⟩
theorem grow_below {w0 w w1 : World} {B n : Nat} {v : Value} {xs : List Value} (hb : Below B w0 w) (hs : B ≤ w.heap.size) (h : w.ownsRow B 51 3 v n xs) (hg : w.grownBy w1 v.ownBlock) : Below B w0 w1 :=
  hb.grown hg hs (fun k hk => (h.lt k hk).1)

/-- The cells laid ahead of the row's growth. -/
theorem laid_far {w w1 : World} {x y z : Value} {t : TypeId} {v : Value} (hlt : ∀ k, v.ownBlock = some k → k < w.heap.size) (hg : (w.alloc (.cells #[x, y, z] t)).grownBy w1 v.ownBlock) : ∀ j u, [x, y, z][j]? = some u → w1.cell? ((⟨w.heap.size, 0, none⟩ : Addr).add j) = some u := by
  intro j u hj
  have h := cell_three_new w x y z t j u hj
  have hk := hg.block w.heap.size (by simp) (fun e => by have := hlt _ e.symm; omega)
  rw [WideShapes.add_plain] at h ⊢
  exact (World.cell?_of_block (a := ⟨w.heap.size, _, none⟩) hk).trans h

theorem made_c (wc : World) (X : Obj) : ((wc.alloc X).alloc (.cells #[] 51)).drew.ownsRow wc.heap.size 51 3 (.slice (some ⟨wc.heap.size + 1, 0, none⟩) 0 0) 0 [] := by
  have h := World.ownsRow_made (base := wc.heap.size) (e := 51) (size := 3) (wc.alloc X) #[] 0 (by simp) (Nat.zero_le _) rfl
  have e : (wc.alloc X).heap.size = wc.heap.size + 1 := by simp
  rw [e] at h
  exact row_below h (Below.refl _ _).drew
theorem below_c (wc : World) (X : Obj) : Below wc.heap.size wc ((wc.alloc X).alloc (.cells #[] 51)).drew :=
  (((Below.refl _ wc).alloc (Nat.le_refl _) X).alloc (by simp) _).drew
theorem laid_first {wc w1 : World} {x y z : Value} {t : TypeId} {n c : Nat} {o : Obj} (hg : ((wc.alloc (.cells #[x, y, z] t)).alloc o).drew.grownBy w1 (Value.slice (some ⟨wc.heap.size + 1, 0, none⟩) n c).ownBlock) : ∀ j u, [x, y, z][j]? = some u → w1.cell? ((⟨wc.heap.size, 0, none⟩ : Addr).add j) = some u := by
  intro j u hj
  have h := cell_three_new wc x y z t j u hj
  have hb : Below (wc.alloc (.cells #[x, y, z] t)).heap.size (wc.alloc (.cells #[x, y, z] t)) ((wc.alloc (.cells #[x, y, z] t)).alloc o).drew := ((Below.refl _ _).alloc (Nat.le_refl _) o).drew
  have hk := hg.block wc.heap.size (by simp; omega) (fun e => by
    have e : some wc.heap.size = some (wc.heap.size + 1) := e
    injection e with e
    omega)
  rw [WideShapes.add_plain] at h ⊢
  exact (World.cell?_of_block (a := ⟨wc.heap.size, _, none⟩) hk).trans ((hb.cell (p := ⟨wc.heap.size, _, none⟩) (by simp)).trans h)

theorem laid_keep (wc : World) (x y z : Value) (t : TypeId) (o : Obj) : ∀ j u, [x, y, z][j]? = some u → ((wc.alloc (.cells #[x, y, z] t)).alloc o).drew.cell? ((⟨wc.heap.size, 0, none⟩ : Addr).add j) = some u := by
  intro j u hj
  have h := cell_three_new wc x y z t j u hj
  have hb : Below (wc.alloc (.cells #[x, y, z] t)).heap.size (wc.alloc (.cells #[x, y, z] t)) ((wc.alloc (.cells #[x, y, z] t)).alloc o).drew := ((Below.refl _ _).alloc (Nat.le_refl _) o).drew
  rw [WideShapes.add_plain] at h ⊢
  exact (hb.cell (p := ⟨wc.heap.size, _, none⟩) (by simp)).trans h

def SortTo (l : List Et) (w : World) (e : Ending) (w' : World) : Prop := ∃ v, e = .returned v ∧ Own w' w.heap.size v (tsort l) ∧ Below w.heap.size w w'

set_option maxRecDepth 100000 in
set_option maxHeartbeats 4000000 in
theorem refSort_any (a : Option Addr) (n c : Nat) (l : List Et) (w : World) (hl : Ents w a n l) (hn : n ≤ 1000000000000) :
    Calls Try.prog 43 #[.slice a n c] w (SortTo l w) := by
  obtain ⟨i0, hi, hz0, hz1, hz2⟩ := info_parts infoE
  obtain ⟨hln, hc⟩ := hl
  by_cases h0 : n = 0
  · subst h0
    obtain rfl : l = [] := List.length_eq_zero_iff.1 hln
    clear hc
    go_enter Try.func43, Try.ntmps43
    go_wp2
    go_loop [3, 4] (fun v i => i = .int .i64 0 ∧ v = .slice none 0 0) (fun _ _ => 0)
    case atStart => exact ⟨rfl, rfl⟩
    case round =>
      obtain ⟨rfl, rfl⟩ := hrel
      go_wp2
      go_ret
      exact ⟨_, rfl, World.ownsRow_nil _ _ _ _, Below.refl _ _⟩
  · obtain ⟨b, off, rfl, hb, hc⟩ := hc.resolve_left h0
    have HC := Lib.hid hc
    clear hc h0
    go_enter Try.func43, Try.ntmps43
    go_wp2
    go_loopw [3, 4] (fun v i wr => ∃ k : Nat, k ≤ n ∧ i = .int .i64 k ∧ (k = 0 → v = .slice none 0 0) ∧ Own wr w.heap.size v (tsort (l.take k)) ∧ Below w.heap.size w wr) (fun _ i _ => n - (intOf i).toNat)
    case atStart => exact ⟨0, Nat.zero_le _, rfl, fun _ => rfl, World.ownsRow_nil _ _ _ _, Below.refl _ _⟩
    case round =>
      obtain ⟨k, hk, rfl, hk0, hown, hB⟩ := hrel
      by_cases hlt : k < n
      · obtain ⟨x, hx⟩ : ∃ x, l[k]? = some x := ⟨_, List.getElem?_eq_getElem (by omega)⟩
        have hnext := tsort_take l k x hx
        have hT : (tsort (l.take k)).length = k := by rw [tsort_len, List.length_take]; omega
        obtain ⟨c1, c2, c3⟩ := HC.out k x hx
        have d1 := (hB.cell (p := ⟨b, _, none⟩) hb).trans c1
        have d2 := (hB.cell (p := ⟨b, _, none⟩) hb).trans c2
        have d3 := (hB.cell (p := ⟨b, _, none⟩) hb).trans c3
        obtain ⟨T, hTe⟩ : ∃ T, T = tsort (l.take k) := ⟨_, rfl⟩
        rw [← hTe] at hnext hT hown
        have HN := Lib.hid hnext
        have HX1 := Lib.hid c1
        have HX2 := Lib.hid c2
        have HX3 := Lib.hid c3
        clear hnext hTe c1 c2 c3 hx
        by_cases hk1 : k = 0
        · obtain rfl := hk0 hk1
          subst hk1
          obtain rfl : T = [] := List.length_eq_zero_iff.1 hT
          clear hk0 hT hown
          go_upto_block 2 with fail
          go_cut [5] from 7 to 49 (fun i wq => i = .int .i64 0 ∧ Below w.heap.size w wq)
          case first =>
            go_wp2_with fail
            go_loopw [5] (fun i wq => i = .int .i64 0 ∧ Below w.heap.size w wq) (fun _ _ => 0)
            case atStart => exact ⟨rfl, hB⟩
            case round =>
              obtain ⟨rfl, hB⟩ := hrel
              go_wp2_with fail
              go_quiet (fail)
              go_wp2
              go_meet
              exact ⟨rfl, below_drewN hB nq⟩
          case rest =>
            clear hB
            obtain ⟨rfl, hB⟩ := hcut
            go_upto_region 8 with fail
            go_cut [6] from 7 to 49 (fun vr wq => ∃ gr, vr = .slice (some ⟨gr, 0, none⟩) 0 0 ∧ Below w.heap.size w wq)
            case first =>
              have hB1 := hB.alloc hB.size (.cells #[] 51)
              go_wp2_with fail
              go_meet
              exact ⟨_, rfl, hB1⟩
            case rest =>
              clear hB
              obtain ⟨gr, rfl, hB⟩ := hcut
              have hbw : b < wc.heap.size := Nat.lt_of_lt_of_le hb hB.size
              have h1 := HX1.out
              have h2 := HX2.out
              have h3 := HX3.out
              rw [Nat.zero_mul, Nat.add_zero] at h1 h2 h3
              have hx1 : ∀ W, Below wc.heap.size wc W → W.cell? ⟨b, off, none⟩ = some (.string x.path) := fun W hW => (hW.cell (p := ⟨b, _, none⟩) hbw).trans ((hB.cell (p := ⟨b, _, none⟩) hb).trans h1)
              have hx2 : ∀ W, Below wc.heap.size wc W → W.cell? ⟨b, off + 1, none⟩ = some (.int .i64 x.node.kind) := fun W hW => (hW.cell (p := ⟨b, _, none⟩) hbw).trans ((hB.cell (p := ⟨b, _, none⟩) hb).trans h2)
              have hx3 : ∀ W, Below wc.heap.size wc W → W.cell? ⟨b, off + 1 + 1, none⟩ = some (.string x.node.data) := fun W hW => (hW.cell (p := ⟨b, _, none⟩) hbw).trans ((hB.cell (p := ⟨b, _, none⟩) hb).trans h3)
              have hown0 := World.ownsRow_made (base := wc.heap.size) (e := 51) (size := 3) wc #[] 0 (Nat.le_refl _) (Nat.zero_le _) rfl
              have hb0 : Below wc.heap.size wc (wc.alloc (.cells #[] 51)).drew := ((Below.refl _ wc).alloc (Nat.le_refl _) _).drew
              have hs0 : wc.heap.size ≤ (wc.alloc (.cells #[] 51)).drew.heap.size := hb0.size
              have hown0' := row_below hown0 (Below.refl _ (wc.alloc (.cells #[] 51))).drew
              have hcx1 := cell_three_new (wc.alloc (.cells #[] 51)).drew (.string x.path) (.int .i64 x.node.kind) (.string x.node.data) 51
              have hcx2 := laid_keep wc (.string x.path) (.int .i64 x.node.kind) (.string x.node.data) 51 (.cells #[] 51)
              have hsz0 : (wc.alloc (.cells #[] 51)).drew.heap.size = wc.heap.size + 1 := by simp
              rw [hsz0] at hcx1
              have e1 := hx1 _ hb0
              have e2 := hx2 _ hb0
              have e3 := hx3 _ hb0
              have f1 := hx1 wc (Below.refl _ _)
              have f2 := hx2 wc (Below.refl _ _)
              have f3 := hx3 wc (Below.refl _ _)
              go_wp2_with fail
              go_region_law (first
                | (refine step_own _ rfl (.tmp 41) (.tmp 46) 22 rfl wc.heap.size 51 i0 (.agg #[.string ⟨#[]⟩, .int .i64 0, .string ⟨#[]⟩]) 3 40 Try.underlying22 hi hz0 hz1 hz2 rfl (by decide) _ _ _ rfl (hown0'.alloc (.cells #[.string x.path, .int .i64 x.node.kind, .string x.node.data] 51)) ⟨wc.heap.size + 1, 0, none⟩ 1 1 (cells x) rfl rfl hcx1 (cells_one x) (by decide) (by decide) (hb0.alloc hs0 _).size ?_; intro v2 w2 hown2 hgrow2; have hb2 := grow_below (hb0.alloc hs0 _) (hb0.alloc hs0 _).size (hown0'.alloc _) hgrow2; have hs2 := hb2.size)
                | (refine step_own _ rfl (.tmp 41) (.tmp 46) 22 rfl wc.heap.size 51 i0 (.agg #[.string ⟨#[]⟩, .int .i64 0, .string ⟨#[]⟩]) 3 40 Try.underlying22 hi hz0 hz1 hz2 rfl (by decide) _ _ _ rfl (made_c wc (.cells #[.string x.path, .int .i64 x.node.kind, .string x.node.data] 51)) ⟨wc.heap.size, 0, none⟩ 1 1 (cells x) rfl rfl hcx2 (cells_one x) (by decide) (by decide) (below_c wc (.cells #[.string x.path, .int .i64 x.node.kind, .string x.node.data] 51)).size ?_; intro v2 w2 hown2 hgrow2; have hb2 := grow_below (below_c wc (.cells #[.string x.path, .int .i64 x.node.kind, .string x.node.data] 51)) (below_c wc (.cells #[.string x.path, .int .i64 x.node.kind, .string x.node.data] 51)).size (made_c wc (.cells #[.string x.path, .int .i64 x.node.kind, .string x.node.data] 51)) hgrow2; have hs2 := hb2.size)
                | (refine step_own _ rfl (.tmp 47) (.tmp 48) 22 rfl wc.heap.size 51 i0 (.agg #[.string ⟨#[]⟩, .int .i64 0, .string ⟨#[]⟩]) 3 40 Try.underlying22 hi hz0 hz1 hz2 rfl (by decide) _ _ _ rfl hown2 ⟨gr, 0, none⟩ 0 0 [] rfl rfl (fun j u hj => by cases hj) (fun u hu => by cases hu) (by decide) (by decide) hs2 ?_; intro v3 w3 hown3 hgrow3; have hb3 := grow_below hb2 hs2 hown2 hgrow3))
              all_goals
                have hO : Own w3 w.heap.size v3 (insAt x []) := own_of (row_base hown3 hB.size) rfl
                have hB3 : Below w.heap.size w w3 := hB.trans (hb3.mono hB.size)
                clear hB hown0 hown0' hown2 hgrow2 hown3 hgrow3 hx1 hx2 hx3 hb0 hb2 hb3 f1 f2 f3 e1 e2 e3 hcx1 hcx2
                go_wp2_with fail
                go_roundw
                case rel => exact ⟨1, by omega, by go_num, fun h => by omega, by rw [HN.out]; exact hO, hB3⟩
                case measure => simp [intOf]; omega
        · obtain ⟨g, cap, hv, hkc, hcm⟩ := own_shape (n := T.length) hown (by omega)
          subst hv
          rw [hT] at hown ⊢
          go_upto_block 2 with fail
          go_cut [5] from 7 to 49 (fun i wq => ∃ m : Nat, m ≤ k ∧ i = .int .i64 m ∧ Hid (insAt x T = T.take m ++ x :: T.drop m) ∧ Own wq w.heap.size (.slice (some ⟨g, 0, none⟩) k cap) T ∧ Below w.heap.size w wq)
          case first =>
            go_wp2_with fail
            go_loopw [5] (fun i wq => ∃ m : Nat, m ≤ k ∧ i = .int .i64 m ∧ Hid (∀ y ∈ T.take m, less y.path x.path = true) ∧ Own wq w.heap.size (.slice (some ⟨g, 0, none⟩) k cap) T ∧ Below w.heap.size w wq) (fun i _ => k - (intOf i).toNat)
            case atStart => exact ⟨0, Nat.zero_le _, rfl, fun y hy => by simp at hy, hown, hB⟩
            case round =>
              obtain ⟨m, hm, rfl, hpre, hown, hB⟩ := hrel
              obtain ⟨hbg, hcell⟩ := own_paths hown
              have d1 := (hB.cell (p := ⟨b, _, none⟩) hb).trans HX1.out
              have d2 := (hB.cell (p := ⟨b, _, none⟩) hb).trans HX2.out
              have d3 := (hB.cell (p := ⟨b, _, none⟩) hb).trans HX3.out
              have go : (m < k ∧ ∃ y, T[m]? = some y ∧ less y.path x.path = true) ∨ (insAt x T = T.take m ++ x :: T.drop m ∧ ((m < k ∧ ∃ y, T[m]? = some y ∧ less y.path x.path = false) ∨ ¬ m < k)) := by
                by_cases hmk : m < k
                · obtain ⟨y, hy⟩ : ∃ y, T[m]? = some y := ⟨_, List.getElem?_eq_getElem (by omega)⟩
                  cases hless : less y.path x.path
                  · right
                    exact ⟨insAt_at x T m (by omega) hpre.out (fun z hz => by rw [hy] at hz; injection hz with hz; rw [← hz]; exact hless), .inl ⟨hmk, y, hy, hless⟩⟩
                  · left
                    exact ⟨hmk, y, hy, hless⟩
                · right
                  exact ⟨insAt_at x T m (by omega) hpre.out (fun z hz => by rw [List.getElem?_eq_none (by omega)] at hz; cases hz), .inr hmk⟩
              rcases go with ⟨hmk, y, hy, hless⟩ | ⟨hins, hex⟩
              · have e1 := hcell m y hy
                unfold less at hless
                have hnp : ∀ z ∈ T.take (m + 1), less z.path x.path = true := by
                  intro z hz
                  have hm2 : m < T.length := by omega
                  rw [List.take_succ_eq_append_getElem hm2] at hz
                  rcases List.mem_append.1 hz with hz | hz
                  · exact hpre.out z hz
                  · rw [List.getElem?_eq_getElem hm2] at hy
                    injection hy with hy
                    rw [List.mem_singleton.1 hz, hy]
                    exact hless
                have HP := Lib.hid hnp
                clear hnp hpre hcell
                go_wp2_with fail
                go_quiet (fail)
                have hO2 := hown.below (below_drewN (Below.refl _ _) nq)
                go_wp2
                go_roundw
                case rel => exact ⟨m + 1, by omega, by go_num, HP, hO2, below_drewN hB nq⟩
                case measure => simp [intOf]; omega
              · have HI := Lib.hid hins
                clear hins hpre
                rcases hex with ⟨hmk, y, hy, hless⟩ | hmk
                · have e1 := hcell m y hy
                  unfold less at hless
                  clear hcell
                  go_wp2_with fail
                  go_quiet (fail)
                  have hO2 := hown.below (below_drewN (Below.refl _ _) nq)
                  go_wp2
                  go_meet
                  exact ⟨m, hm, rfl, HI, hO2, below_drewN hB nq⟩
                · have hdec : decide ((m : Int) < (k : Int)) = false := decide_eq_false (by omega)
                  clear hcell
                  go_wp2_with fail
                  go_quiet (fail)
                  have hO2 := hown.below (below_drewN (Below.refl _ _) nq)
                  go_wp2
                  go_meet
                  exact ⟨m, hm, rfl, HI, hO2, below_drewN hB nq⟩
          case rest =>
            clear hown hB
            obtain ⟨m, hm, rfl, HI, hown, hB⟩ := hcut
            go_upto_region 8 with fail
            go_cut [6] from 7 to 49 (fun vr wq => ∃ gr capr, vr = .slice (some ⟨gr, 0, none⟩) (k - m) capr ∧ Own wq w.heap.size vr (T.drop m) ∧ Own wq w.heap.size (.slice (some ⟨g, 0, none⟩) k cap) T ∧ Below w.heap.size w wq)
            case first =>
              have hsz := hB.size
              have hown0 := World.ownsRow_made (base := w.heap.size) (e := 51) (size := 3) wc #[] 0 hsz (Nat.zero_le _) rfl
              have hdl : (T.drop m).length = k - m := by rw [List.length_drop, hT]
              have hfl2 := flat_len (T.drop m)
              rw [hdl] at hfl2
              obtain ⟨hbg, _⟩ := own_paths hown
              have hne : some g ≠ some wc.heap.size := by intro h; injection h with h; omega
              by_cases hmk : m < k
              · have hfl : Hid (∀ o j u, ((T.drop m).flatMap cells)[j]? = some u → (wc.alloc o).cell? ((⟨g, m * 3, none⟩ : Addr).add j) = some u) := by
                  intro o
                  have h := hown.below ((Below.refl _ wc).alloc (Nat.le_refl _) o)
                  exact own_flat h
                go_wp2_with (at_builtin; refine wpList_append_own _ rfl _ _ 22 rfl w.heap.size 51 i0 (.agg #[.string ⟨#[]⟩, .int .i64 0, .string ⟨#[]⟩]) 3 40 Try.underlying22 hi hz0 hz1 hz2 rfl (by decide) _ _ _ rfl hown0 ⟨g, m * 3, none⟩ (k - m) (cap - m) ((T.drop m).flatMap cells) rfl hfl2 ?c1 ?c2 ?c3 ?c4 ?c5 ?_)
                case c1 => exact hfl.out _
                case c2 => exact flat_one _
                case c3 => unfold maxLen; omega
                case c4 => omega
                case c5 => simp; omega
                intro v' w1 hown1 hgrow1 hiff
                have hB1 : Below w.heap.size w w1 := (hB.alloc hsz _).grown hgrow1 (by simp; omega) (fun k hk => (hown0.lt k hk).1)
                obtain ⟨gr, capr, rfl, _⟩ := own_some hown1 hiff
                have hr := own_of hown1 hdl
                have hT2 := own_other (hown.below ((Below.refl _ wc).alloc (Nat.le_refl _) _)) hgrow1 (fun h => hne h.symm)
                clear hown hown0 hown1 hgrow1 hfl hfl2 hB
                go_wp2_with fail
                go_meet
                exact ⟨gr, capr, rfl, hr, hT2, hB1⟩
              · obtain rfl : m = k := by omega
                have hd0 : T.drop m = [] := List.drop_eq_nil_of_le (by omega)
                have hT2 := hown.below ((Below.refl _ wc).alloc (Nat.le_refl _) (.cells #[] 51))
                have hB1 := hB.alloc hsz (.cells #[] 51)
                clear hown hB
                rcases Nat.eq_or_lt_of_le (show m ≤ cap by omega) with hc2 | hc2
                · subst hc2
                  go_wp2_with fail
                  go_meet
                  exact ⟨wc.heap.size, 0, by rw [Nat.sub_self], by rw [hd0]; exact own_of hown0 rfl, hT2, hB1⟩
                · have hc3 : ¬ cap = m := by omega
                  go_wp2_with fail
                  go_meet
                  exact ⟨wc.heap.size, 0, by rw [Nat.sub_self], by rw [hd0]; exact own_of hown0 rfl, hT2, hB1⟩
            case rest =>
              clear hown hB
              obtain ⟨gr, capr, rfl, hr, hown, hB⟩ := hcut
              have hmc : m ≤ cap := by omega
              have hdl : (T.drop m).length = k - m := by rw [List.length_drop, hT]
              have htl : (T.take m).length = m := by rw [List.length_take, hT]; omega
              have hf1 := flat_len (T.drop m)
              have hf2 := flat_len (T.take m)
              rw [hdl] at hf1
              rw [htl] at hf2
              have hgt : ∀ W, Below wc.heap.size wc W → ∀ j u, ((T.take m).flatMap cells)[j]? = some u → W.cell? ((⟨g, 0, none⟩ : Addr).add j) = some u := fun W hW => own_flat_take (hown.below hW)
              have hgd : ∀ W, Below wc.heap.size wc W → ∀ j u, ((T.drop m).flatMap cells)[j]? = some u → W.cell? ((⟨gr, 0, none⟩ : Addr).add j) = some u := fun W hW => own_flat_whole (hr.below hW)
              have hbw : b < wc.heap.size := Nat.lt_of_lt_of_le hb hB.size
              have hx1 : ∀ W, Below wc.heap.size wc W → W.cell? ⟨b, off + k * 3, none⟩ = some (.string x.path) := fun W hW => (hW.cell (p := ⟨b, _, none⟩) hbw).trans ((hB.cell (p := ⟨b, _, none⟩) hb).trans HX1.out)
              have hx2 : ∀ W, Below wc.heap.size wc W → W.cell? ⟨b, off + k * 3 + 1, none⟩ = some (.int .i64 x.node.kind) := fun W hW => (hW.cell (p := ⟨b, _, none⟩) hbw).trans ((hB.cell (p := ⟨b, _, none⟩) hb).trans HX2.out)
              have hx3 : ∀ W, Below wc.heap.size wc W → W.cell? ⟨b, off + k * 3 + 1 + 1, none⟩ = some (.string x.node.data) := fun W hW => (hW.cell (p := ⟨b, _, none⟩) hbw).trans ((hB.cell (p := ⟨b, _, none⟩) hb).trans HX3.out)
              have hown0 := World.ownsRow_made (base := wc.heap.size) (e := 51) (size := 3) wc #[] 0 (Nat.le_refl _) (Nat.zero_le _) rfl
              have hb0 : Below wc.heap.size wc (wc.alloc (.cells #[] 51)).drew := ((Below.refl _ wc).alloc (Nat.le_refl _) _).drew
              have hs0 : wc.heap.size ≤ (wc.alloc (.cells #[] 51)).drew.heap.size := hb0.size
              have hown0' := row_below hown0 (Below.refl _ (wc.alloc (.cells #[] 51))).drew
              have e1 := hx1 _ hb0
              have e2 := hx2 _ hb0
              have e3 := hx3 _ hb0
              have f1 := hx1 wc (Below.refl _ _)
              have f2 := hx2 wc (Below.refl _ _)
              have f3 := hx3 wc (Below.refl _ _)
              have hsz0 : (wc.alloc (.cells #[] 51)).drew.heap.size = wc.heap.size + 1 := by simp
              go_wp2_with fail
              go_region_law (first
                | (refine step_own _ rfl (.tmp 37) (.tmp 40) 22 rfl wc.heap.size 51 i0 (.agg #[.string ⟨#[]⟩, .int .i64 0, .string ⟨#[]⟩]) 3 40 Try.underlying22 hi hz0 hz1 hz2 rfl (by decide) _ _ _ rfl hown0' ⟨g, 0, none⟩ m cap ((T.take m).flatMap cells) rfl hf2 (hgt _ hb0) (flat_one _) (by unfold maxLen; omega) (by omega) hs0 ?_; intro v1 w1 hown1 hgrow1; have hb1 := grow_below hb0 hs0 hown0' hgrow1; have hs1 := hb1.size; have e1 := hx1 _ hb1; have e2 := hx2 _ hb1; have e3 := hx3 _ hb1)
                | (refine step_own _ rfl (.tmp 37) (.tmp 40) 22 rfl wc.heap.size 51 i0 (.agg #[.string ⟨#[]⟩, .int .i64 0, .string ⟨#[]⟩]) 3 40 Try.underlying22 hi hz0 hz1 hz2 rfl (by decide) _ _ _ rfl (hown0'.alloc (.cells #[.string x.path, .int .i64 x.node.kind, .string x.node.data] 51)) ⟨g, 0, none⟩ m cap ((T.take m).flatMap cells) rfl hf2 (hgt _ (hb0.alloc hs0 _)) (flat_one _) (by unfold maxLen; omega) (by omega) (hb0.alloc hs0 _).size ?_; intro v1 w1 hown1 hgrow1; have hb1 := grow_below (hb0.alloc hs0 _) (hb0.alloc hs0 _).size (hown0'.alloc _) hgrow1; have hs1 := hb1.size; have hcx := laid_far (fun k hk => (hown0'.lt k hk).2) hgrow1; rw [hsz0] at hcx)
                | (refine step_own _ rfl (.tmp 41) (.tmp 46) 22 rfl wc.heap.size 51 i0 (.agg #[.string ⟨#[]⟩, .int .i64 0, .string ⟨#[]⟩]) 3 40 Try.underlying22 hi hz0 hz1 hz2 rfl (by decide) _ _ _ rfl (hown1.alloc (.cells #[.string x.path, .int .i64 x.node.kind, .string x.node.data] 51)) ⟨w1.heap.size, 0, none⟩ 1 1 (cells x) rfl rfl (cell_three_new _ _ _ _ _) (cells_one x) (by unfold maxLen; omega) (by omega) (hb1.alloc hs1 _).size ?_; intro v2 w2 hown2 hgrow2; have hb2 := grow_below (hb1.alloc hs1 _) (hb1.alloc hs1 _).size (hown1.alloc _) hgrow2; have hs2 := hb2.size)
                | (refine step_own _ rfl (.tmp 41) (.tmp 46) 22 rfl wc.heap.size 51 i0 (.agg #[.string ⟨#[]⟩, .int .i64 0, .string ⟨#[]⟩]) 3 40 Try.underlying22 hi hz0 hz1 hz2 rfl (by decide) _ _ _ rfl hown1 ⟨wc.heap.size + 1, 0, none⟩ 1 1 (cells x) rfl rfl hcx (cells_one x) (by unfold maxLen; omega) (by omega) hs1 ?_; intro v2 w2 hown2 hgrow2; have hb2 := grow_below hb1 hs1 hown1 hgrow2; have hs2 := hb2.size)
                | (refine step_own _ rfl (.tmp 37) (.tmp 40) 22 rfl wc.heap.size 51 i0 (.agg #[.string ⟨#[]⟩, .int .i64 0, .string ⟨#[]⟩]) 3 40 Try.underlying22 hi hz0 hz1 hz2 rfl (by decide) _ _ _ rfl (made_c wc (.cells #[.string x.path, .int .i64 x.node.kind, .string x.node.data] 51)) ⟨g, 0, none⟩ m cap ((T.take m).flatMap cells) rfl hf2 (hgt _ (below_c wc (.cells #[.string x.path, .int .i64 x.node.kind, .string x.node.data] 51))) (flat_one _) (by unfold maxLen; omega) (by omega) (below_c wc (.cells #[.string x.path, .int .i64 x.node.kind, .string x.node.data] 51)).size ?_; intro v1 w1 hown1 hgrow1; have hb1 := grow_below (below_c wc (.cells #[.string x.path, .int .i64 x.node.kind, .string x.node.data] 51)) (below_c wc (.cells #[.string x.path, .int .i64 x.node.kind, .string x.node.data] 51)).size (made_c wc (.cells #[.string x.path, .int .i64 x.node.kind, .string x.node.data] 51)) hgrow1; have hs1 := hb1.size; have hcx := laid_first hgrow1)
                | (refine step_own _ rfl (.tmp 41) (.tmp 46) 22 rfl wc.heap.size 51 i0 (.agg #[.string ⟨#[]⟩, .int .i64 0, .string ⟨#[]⟩]) 3 40 Try.underlying22 hi hz0 hz1 hz2 rfl (by decide) _ _ _ rfl hown1 ⟨wc.heap.size, 0, none⟩ 1 1 (cells x) rfl rfl hcx (cells_one x) (by unfold maxLen; omega) (by omega) hs1 ?_; intro v2 w2 hown2 hgrow2; have hb2 := grow_below hb1 hs1 hown1 hgrow2; have hs2 := hb2.size)
                | (refine step_own _ rfl (.tmp 47) (.tmp 48) 22 rfl wc.heap.size 51 i0 (.agg #[.string ⟨#[]⟩, .int .i64 0, .string ⟨#[]⟩]) 3 40 Try.underlying22 hi hz0 hz1 hz2 rfl (by decide) _ _ _ rfl hown2 ⟨gr, 0, none⟩ (k - m) capr ((T.drop m).flatMap cells) rfl hf1 (hgd _ hb2) (flat_one _) (by unfold maxLen; omega) (by omega) hs2 ?_; intro v3 w3 hown3 hgrow3; have hb3 := grow_below hb2 hs2 hown2 hgrow3))
              all_goals
                have e4 : ([] ++ (T.take m).flatMap cells) ++ cells x ++ (T.drop m).flatMap cells = (T.take m ++ x :: T.drop m).flatMap cells := by
                  rw [List.flatMap_append, List.flatMap_cons, List.nil_append, List.append_assoc]
                have hO : Own w3 w.heap.size v3 (insAt x T) := by
                  rw [HI.out]
                  rw [e4] at hown3
                  exact own_of (row_base hown3 hB.size) (by rw [List.length_append, List.length_cons, hdl, htl]; omega)
                have hB3 : Below w.heap.size w w3 := hB.trans (hb3.mono hB.size)
                clear hown hr hB hown0 hown0' hown1 hgrow1 hown2 hgrow2 hown3 hgrow3 hx1 hx2 hx3 hgt hgd hb0 hb1 hb2 hb3 f1 f2 f3 e1 e2 e3 e4
                go_wp2_with fail
                go_roundw
                case rel => exact ⟨k + 1, by omega, by go_num, fun h => by omega, by rw [HN.out]; exact hO, hB3⟩
                case measure => simp [intOf]; omega
      · obtain rfl : k = n := by omega
        have he : l.take k = l := List.take_of_length_le (by omega)
        rw [he] at hown
        clear he HC
        go_wp2
        go_ret
        exact ⟨_, rfl, hown, hB⟩
end Go.Proofs.Ythokkobmlhbfgaa.En
