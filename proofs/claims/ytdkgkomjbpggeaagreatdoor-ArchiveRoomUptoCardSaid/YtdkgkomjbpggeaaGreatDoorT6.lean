/- Texts of this seat, one behind the other. -/
import Derived.Test.YtdkgkomjbpggeaaGreatDoorT5
import Derived.Maps.AppendAt
import Derived.Shelf.SlSorted.Search
import Derived.Test.YtdkgkomjbpggeaaGreatDoorProg
import Derived.Deep.RegionWith
import Derived.Laws.AppendOwnNone
namespace Go.Proofs.YtdkgkomjbpggeaaGreatDoor.Az
open Go.RowKit Tx Pm Dk Wm Wr Wl Pl Tb Bl Fm
open Fr hiding sv Texts cnt cnt_snoc
open En (Et tcheck)
open Ac (files)
set_option linter.unusedVariables false
set_option linter.unusedSimpArgs false
set_option linter.unnecessarySimpa false
theorem chg_eq {w w1 w2 : World} {b : Nat} (h : Chg (· = b) w w1) (hg : w1.grownBy w2 (some b)) : Chg (· = b) w w2 := h.then (chg_grown hg)
set_option maxRecDepth 100000 in
set_option maxHeartbeats 1000000 in
theorem content_any {r ub : Nat} {key d : ByteArray} {m : List UInt8} {w : World} (h : Rat w r (La (tl key ++ (vb (sumN d) ++ m)))) (hs : (tl key ++ (vb (sumN d) ++ m)).length ≤ 100000000) (hk : key.size ≤ 14) (hd : d.size ≤ 10000000)
    (hg : ∀ V, Chg (· = r) w V → Calls Tryz.prog 144 #[.pointer (some ⟨ub, 0, none⟩), .string key] V fun e w' => e = .returned (.tuple #[.string d, .int .i64 0]) ∧ Below V.heap.size V w') :
    Calls Tryz.prog 112 #[.pointer (some ⟨ub, 0, none⟩), .pointer (some ⟨r, 0, none⟩)] w fun e w' => e = .returned (.tuple #[.string key, .string d, .bool true]) ∧ Rat w' r (La m) ∧ Chg (· = r) w w' := by
  have c1 := rd_text h (by omega) (by omega)
  have hsl : (vb (sumN d) ++ m).length ≤ 100000000000 := by rw [List.length_append] at hs; omega
  have hsd : sumN d ≤ 9223372036854775807 := by have := fsum_lt d.data.toList; unfold sumN; omega
  have c2 := fun V (hR : Rat V r (La (vb (sumN d) ++ m))) => rd_uint hR hsl hsd
  have c4 := fun V => fSum_any d V (by unfold maxLen; omega)
  have e4 : fsum d.data.toList = sumN d := rfl
  rw [e4] at c4
  generalize sumN d = f at c1 c2 c4 hsd
  have HG := Lib.hid hg
  have HC := Lib.hid (Chg.refl (· = r) w)
  clear h hs hsl hg e4
  go_enter Tryz.func112, Tryz.ntmps112
  go_wp2_with fail
  go_at_call 97
  refine c1.mono ?_
  rintro e w1 ⟨rfl, hR1, hg1⟩
  have HC1 := Lib.hid (chg_eq HC.out hg1)
  have c2a := c2 w1 hR1
  clear c1 c2 hR1 hg1
  go_wp2_with fail
  go_at_call 111
  refine c2a.mono ?_
  rintro e w2 ⟨rfl, hR2, hg2⟩
  have HC2 := Lib.hid (chg_eq HC1.out hg2)
  have HR2 := Lib.hid hR2
  have c3 := HG.out w2 HC2.out
  clear c2a hR2 hg2
  go_wp2_with fail
  go_at_call 144
  refine c3.mono ?_
  rintro e w3 ⟨rfl, hb3⟩
  have HB3 := Lib.hid hb3
  have c4a := c4 w3
  clear c3 c4 hb3
  go_wp2_with fail
  go_at_call 108
  refine c4a.mono ?_
  rintro e w4 ⟨rfl, hb4⟩
  have HB4 := Lib.hid hb4
  clear c4a hb4
  go_wp2_with fail
  go_ret3
  have hb := Tx.below_call HB3.out HB4.out
  exact ⟨rfl, rat_kept HR2.out (hb.block _ (rat_lt HR2.out)), HC2.out.then (Chg.of_below hb)⟩
def restN (w : World) (b : Nat) : Nat := match w.cell? ⟨b, 0, none⟩ with
  | some (.string s) => s.size
  | _ => 0
theorem rest_la {w : World} {b : Nat} {l : List UInt8} (h : Rat w b (La l)) : restN w b = l.length := by unfold restN; rw [h.1]; exact la_size l
def kO (v vk : Value) : Obj := .cells #[v, vk] 80 (0, 0)
theorem infoKp : (Tryz.prog.info? 80).map (·.size) = some 2 := by kernel_rfl
theorem infoEz : (Tryz.prog.info? 73).map (fun i => (i.zero, i.size, i.bytes)) = some (some (.agg #[.string ⟨#[]⟩, .int .i64 0, .string ⟨#[]⟩]), 3, 40) := by kernel_rfl
theorem infoSz : (Tryz.prog.info? 9).map (fun i => (i.zero, i.size, i.bytes)) = some (some (.string ⟨#[]⟩), 1, 16) := by kernel_rfl
theorem kO_set0 {w : World} {B : Nat} {v vk : Value} (h : w.heap[B]? = some (kO v vk)) (v' : Value) : w.cell? ⟨B, 0, none⟩ = some v ∧ w.frozen? ⟨B, 0, none⟩ = false ∧ (w.setCell ⟨B, 0, none⟩ v').heap[B]? = some (kO v' vk) ∧ Chg (· = B) w (w.setCell ⟨B, 0, none⟩ v') := by
  unfold kO at h ⊢
  refine ⟨?_, ?_, by rw [set_block h]; rfl, chg_set (b := B) (k := 0) v'⟩
  · unfold World.cell?; rw [h]; rfl
  · unfold World.frozen?; rw [h]; simp
theorem kO_set1 {w : World} {B : Nat} {v vk : Value} (h : w.heap[B]? = some (kO v vk)) (v' : Value) : w.cell? ⟨B, 1, none⟩ = some vk ∧ w.frozen? ⟨B, 1, none⟩ = false ∧ (w.setCell ⟨B, 1, none⟩ v').heap[B]? = some (kO v v') ∧ Chg (· = B) w (w.setCell ⟨B, 1, none⟩ v') := by
  unfold kO at h ⊢
  refine ⟨?_, ?_, by rw [set_block h]; rfl, chg_set (b := B) (k := 1) v'⟩
  · unfold World.cell?; rw [h]; rfl
  · unfold World.frozen?; rw [h]; simp
theorem row_chg {w w1 : World} {B n size b : Nat} {e : TypeId} {v : Value} {xs : List Value} (h : w.ownsRow B e size v n xs) (hc : Chg (· = b) w w1) (hb : b < B) : w1.ownsRow B e size v n xs := own_chg h hc (fun g hg => by have := (h.lt g hg).1; omega)
theorem rows_ne {V : World} {B n m : Nat} {v u : Value} {xs ys : List Value} (h : V.ownsRow B 9 1 v n xs) (h2 : V.ownsRow B 73 3 u m ys) {g : Nat} (hg : v.ownBlock = some g) : u.ownBlock ≠ some g := fun hg2 => by
  rcases h.2 with ⟨rfl, _⟩ | ⟨g', cap, cur, rfl, _, hh, _⟩
  · cases hg
  · rcases h2.2 with ⟨rfl, _⟩ | ⟨g2, cap2, cur2, rfl, _, hh2, _⟩
    · cases hg2
    · injection hg with hg
      injection hg2 with hg2
      subst hg
      subst hg2
      rw [hh] at hh2
      injection hh2 with hh2
      injection hh2 with _ h2
      exact absurd h2 (by decide)
theorem row_form {w : World} {B n size : Nat} {e : TypeId} {v : Value} {xs : List Value} (h : w.ownsRow B e size v n xs) : ∃ a c, v = .slice a n c := by
  rcases h.2 with ⟨hv, h0⟩ | ⟨g, cap, cur, hv, _⟩
  · exact ⟨none, 0, by rw [hv, h0]⟩
  · exact ⟨_, _, hv⟩
theorem blk_grow {w w1 : World} {b : Nat} {r : Option Nat} (hg : w.grownBy w1 r) (hb : b < w.heap.size) (hn : r ≠ some b) : w1.heap[b]? = w.heap[b]? := hg.block b hb (fun e => hn e.symm)
theorem row_grow {w w1 : World} {B n size : Nat} {e : TypeId} {v : Value} {xs : List Value} {r : Option Nat} (h : w.ownsRow B e size v n xs) (hg : w.grownBy w1 r) (hn : ∀ g, v.ownBlock = some g → r ≠ some g) : w1.ownsRow B e size v n xs := own_kept h (fun g hg2 => blk_grow hg (h.lt g hg2).2 (hn g hg2))
def nO (k : Int) (d : ByteArray) : Obj := .cells #[.int .i64 k, .string d] 71 (0, 0)
theorem nO_set1 {w : World} {B : Nat} {k : Int} {d : ByteArray} (h : w.heap[B]? = some (nO k d)) (d' : ByteArray) : w.cell? ⟨B, 0, none⟩ = some (.int .i64 k) ∧ w.cell? ⟨B, 1, none⟩ = some (.string d) ∧ w.frozen? ⟨B, 1, none⟩ = false ∧ (w.setCell ⟨B, 1, none⟩ (.string d')).heap[B]? = some (nO k d') ∧ Chg (· = B) w (w.setCell ⟨B, 1, none⟩ (.string d')) := by
  unfold nO at h ⊢
  refine ⟨?_, ?_, ?_, by rw [set_block h]; rfl, chg_set (b := B) (k := 1) _⟩
  · unfold World.cell?; rw [h]; rfl
  · unfold World.cell?; rw [h]; rfl
  · unfold World.frozen?; rw [h]; simp
theorem rows_not_node {V : World} {B n g z : Nat} {k : Int} {d : ByteArray} {v : Value} {xs : List Value} (h : V.ownsRow B 73 3 v n xs) (hz : V.heap[z]? = some (nO k d)) (hg : v.ownBlock = some g) : g ≠ z := by
  rintro rfl
  rcases h.2 with ⟨rfl, _⟩ | ⟨g', cap, cur, rfl, _, hh, _⟩
  · cases hg
  · injection hg with hg
    subst hg
    rw [hz] at hh
    injection hh with hh
    injection hh with _ h2
    exact absurd h2 (by decide)
theorem texts_not_node {V : World} {B n g z : Nat} {k : Int} {d : ByteArray} {v : Value} {xs : List Value} (h : V.ownsRow B 9 1 v n xs) (hz : V.heap[z]? = some (nO k d)) (hg : v.ownBlock = some g) : g ≠ z := by
  rintro rfl
  rcases h.2 with ⟨rfl, _⟩ | ⟨g', cap, cur, rfl, _, hh, _⟩
  · cases hg
  · injection hg with hg
    subst hg
    rw [hz] at hh
    injection hh with hh
    injection hh with _ h2
    exact absurd h2 (by decide)
set_option maxRecDepth 100000 in
set_option maxHeartbeats 4000000 in
theorem parse_any {ub : Nat} {κ : ByteArray → ByteArray} (t : List Et) (w : World) (hok : ∀ x ∈ t, Eok x) (hlen : t.length ≤ 200) (hκ : ∀ x ∈ t, x.node.kind = 2 → (κ x.node.data).size ≤ 14) (hbk : Ac.bk t ≤ 10000000)
    (hg : ∀ x ∈ t, x.node.kind = 2 → ∀ V, Below w.heap.size w V → Calls Tryz.prog 144 #[.pointer (some ⟨ub, 0, none⟩), .string (κ x.node.data)] V fun e w' => e = .returned (.tuple #[.string x.node.data, .int .i64 0]) ∧ Below V.heap.size V w') :
    Calls Tryz.prog 78 #[.pointer (some ⟨ub, 0, none⟩), .string (La (rpL κ t))] w fun e w' => ∃ v vk, e = .returned (.tuple #[.agg #[v, vk], .bool true]) ∧ En.Own w' w.heap.size v t ∧ Texts w' w.heap.size vk ((files t).map κ) ∧ Below w.heap.size w w' := by
  have hlL : ∀ i, (rpL κ (t.drop i)).length ≤ 100000000 := fun i => by
    have h1 := rpL_le (κ := κ) (t := t.drop i) (fun x hx => hok x (List.mem_of_mem_drop hx)) (fun x hx => hκ x (List.mem_of_mem_drop hx))
    have h2 : Ac.bk (t.drop i) ≤ Ac.bk t := by
      unfold Ac.bk
      conv => rhs; rw [← List.take_append_drop i t, List.map_append, List.sum_append]
      omega
    have h3 : (t.drop i).length ≤ 200 := by rw [List.length_drop]; omega
    omega
  obtain ⟨n, hn⟩ : ∃ n, n = t.length := ⟨_, rfl⟩
  rw [← hn] at hlen
  have HN := Lib.hid hn
  have HL := Lib.hid hlL
  have HOK := Lib.hid hok
  have HK := Lib.hid hκ
  have HG := Lib.hid hg
  obtain ⟨B, hB⟩ : ∃ B, B = w.heap.size := ⟨_, rfl⟩
  have cn := fun V => new_any (La (rpL κ t)) V
  have HB0 := Lib.hid ((((Below.refl _ w).alloc (Nat.le_refl _) (kO (.slice none 0 0) (.slice none 0 0))).alloc (by simp) (kO (.slice none 0 0) (.slice none 0 0))).alloc (by simp; omega) (.cells #[.string (La (rpL κ t))] 172))
  clear hlL hok hκ hbk hg hn
  go_enter Tryz.func78, Tryz.ntmps78
  go_wp2_with fail
  go_at_call 96
  refine (cn _).mono ?_
  rintro e w1 ⟨rfl, rfl⟩
  go_wp2_with fail
  have eK : (w.alloc (kO (.slice none 0 0) (.slice none 0 0))).heap.size = w.heap.size + 1 := by simp
  have hR0 := rat_new ((w.alloc (kO (.slice none 0 0) (.slice none 0 0))).alloc (kO (.slice none 0 0) (.slice none 0 0))) (La (rpL κ t))
  have eK2 : ((w.alloc (kO (.slice none 0 0) (.slice none 0 0))).alloc (kO (.slice none 0 0) (.slice none 0 0))).heap.size = w.heap.size + 2 := by simp
  rw [eK2] at hR0
  have hN0 := new_at w (kO (.slice none 0 0) (.slice none 0 0)) (g := w.heap.size) rfl
  have hN1 := new_at (w.alloc (kO (.slice none 0 0) (.slice none 0 0))) (kO (.slice none 0 0) (.slice none 0 0)) (g := w.heap.size + 1) (by simp)
  go_loopw [] (fun wr => ∃ (i : Nat) (v vk : Value), i ≤ n ∧ Rat wr (w.heap.size + 2) (La (rpL κ (t.drop i))) ∧ wr.heap[w.heap.size + 1]? = some (kO v vk) ∧ wr.heap[w.heap.size]? = some (kO (.slice none 0 0) (.slice none 0 0)) ∧ wr.ownsRow (w.heap.size + 3) 73 3 v i ((t.take i).flatMap En.cells) ∧ wr.ownsRow (w.heap.size + 3) 9 1 vk (files (t.take i)).length (((files (t.take i)).map κ).map sv) ∧ Below w.heap.size w wr) (fun wr => restN wr (w.heap.size + 2))
  case atStart =>
    refine ⟨0, .slice none 0 0, .slice none 0 0, Nat.zero_le _, hR0, ?_, ?_, World.ownsRow_nil _ _ _ _, World.ownsRow_nil _ _ _ _, HB0.out⟩
    · exact (((Below.refl _ _).alloc (Nat.le_refl _) _).block _ (by simp)).trans hN1
    · exact (((Below.refl _ _).alloc (Nat.le_refl _) _).block _ (by simp; omega)).trans ((((Below.refl _ _).alloc (Nat.le_refl _) _).block _ (by simp)).trans hN0)
  case round =>
    obtain ⟨i, v, vk, hi, hR, hk1, hk0, ho, hok, hB⟩ := hrel
    clear hR0 hN0 hN1 eK eK2 HB0 cn
    by_cases hlt : i < n
    · obtain ⟨x, hx⟩ : ∃ x, t[i]? = some x := ⟨_, List.getElem?_eq_getElem (by rw [← HN.out]; exact hlt)⟩
      have hxm := List.mem_of_getElem? hx
      have hE := HOK.out x hxm
      have hL := HL.out i
      obtain ⟨hkN, hkN2⟩ := hE.kn
      rw [rpL_drop κ hx] at hR hL
      unfold bytesE at hR hL
      rw [List.append_assoc, List.append_assoc] at hR hL
      have c0 := rd_left hR (by omega)
      have hpos : 0 < (tl x.path ++ (vb (kN x) ++ ((if x.node.kind = 2 then tl (κ x.node.data) ++ vb (sumN x.node.data) else []) ++ rpL κ (t.drop (i + 1))))).length := by
        have := vb_pos (kN x)
        simp only [List.length_append]
        omega
      have c1 := rd_text hR (by omega) (by have := hE.path; omega)
      have hL2 : (vb (kN x) ++ ((if x.node.kind = 2 then tl (κ x.node.data) ++ vb (sumN x.node.data) else []) ++ rpL κ (t.drop (i + 1)))).length ≤ 100000000000 := by rw [List.length_append] at hL; omega
      have c2 := fun V (hV : Rat V (w.heap.size + 2) (La (vb (kN x) ++ ((if x.node.kind = 2 then tl (κ x.node.data) ++ vb (sumN x.node.data) else []) ++ rpL κ (t.drop (i + 1)))))) => rd_uint hV hL2 (by omega)
      obtain ⟨q, hq⟩ : ∃ q, q = (tl x.path ++ (vb (kN x) ++ ((if x.node.kind = 2 then tl (κ x.node.data) ++ vb (sumN x.node.data) else []) ++ rpL κ (t.drop (i + 1))))).length := ⟨_, rfl⟩
      rw [← hq] at c0 hpos
      have hqz : (0 : Int) < (q : Int) := by omega
      have HX := Lib.hid hx
      have HQL := Lib.hid (show (rpL κ (t.drop (i + 1))).length < q by
        have h1 := vb_pos (kN x)
        have h2 := hq
        simp only [List.length_append] at h2
        omega)
      have HQ := Lib.hid (show restN wr (w.heap.size + 2) = q by rw [hq]; exact rest_la hR)
      have HE := Lib.hid hE
      have HBr := Lib.hid hB
      have HO := Lib.hid ho
      have HOK2 := Lib.hid hok
      have HK1 := Lib.hid hk1
      have HK0 := Lib.hid hk0
      have HL3 := Lib.hid hL2
      have HL5 := Lib.hid hL
      have hlr : w.heap.size + 2 < wr.heap.size := rat_lt hR
      clear hB ho hok hk1 hk0 hR hL hx hxm hq hL2
      go_wp2_with fail
      go_at_call 98
      refine c0.mono ?_
      rintro e w1 ⟨rfl, rfl⟩
      clear c0
      go_wp2_with fail
      go_at_call 97
      refine c1.mono ?_
      rintro e w2 ⟨rfl, hR2, hg2⟩
      have c2a := c2 w2 hR2
      have HC2 := Lib.hid (chg_grown hg2)
      clear c1 c2 hR2 hg2
      go_wp2_with fail
      go_at_call 111
      refine c2a.mono ?_
      rintro e w3 ⟨rfl, hR3, hg3⟩
      have HC3 := Lib.hid (chg_eq HC2.out hg3)
      clear c2a hg3
      have hs3 := HC3.out.size
      rcases hE.kind with hkd | hkd
      · rw [if_neg (by rw [hkd]; decide)] at hR3
        rw [List.nil_append] at hR3
        have e1 : kN x = 1 := by omega
        rw [e1]
        have HR3 := Lib.hid hR3
        have hd := hE.dir hkd
        have hk1a : w3.heap[w.heap.size + 1]? = some (kO v vk) := (HC3.out.block _ (by omega) (by omega)).trans HK1.out
        have hO3 := own_chg HO.out HC3.out (fun g hg => by have := (HO.out.lt g hg).1; omega)
        have hz3 : w.heap.size + 1 < w3.heap.size := by omega
        have hk1b : (w3.alloc (.cells #[.int .i64 1, .string ⟨#[]⟩] 71)).heap[w.heap.size + 1]? = some (kO v vk) := (((Below.refl w3.heap.size w3).alloc (Nat.le_refl _) _).block _ hz3).trans hk1a
        have k0 : (w3.alloc (.cells #[.int .i64 1, .string ⟨#[]⟩] 71)).cell? ⟨w.heap.size + 1, 0, none⟩ = some v := by unfold World.cell?; rw [hk1b]; rfl
        have hO4 := hO3.alloc (.cells #[.int .i64 1, .string ⟨#[]⟩] 71)
        obtain ⟨iE, hI, hI0, hI1, hI2⟩ := info_parts infoEz
        have hil : (i + 1) * 40 ≤ 140737488355328 := by omega
        clear hR3 hE hO3
        go_wp2_with (at_builtin; refine wpList_append_own _ rfl (.tmp 61) (.tmp 65) 33 rfl (w.heap.size + 3) 73 iE (.agg #[.string ⟨#[]⟩, .int .i64 0, .string ⟨#[]⟩]) 3 40 Tryz.underlying33 hI hI0 hI1 hI2 rfl (by decide) _ _ _ rfl (hO4.alloc _) ⟨w3.heap.size + 1, 0, none⟩ 1 1 (En.cells ⟨x.path, 1, ⟨#[]⟩⟩) rfl rfl ?c1 ?c2 ?c3 ?c4 ?c5 ?_)
        case c1 =>
          rw [show w3.heap.size + 1 = (w3.alloc (.cells #[.int .i64 1, .string ⟨#[]⟩] 71)).heap.size by simp]
          exact En.cell_three_new (w3.alloc (.cells #[.int .i64 1, .string ⟨#[]⟩] 71)) _ _ _ _
        case c2 => exact En.cells_one _
        case c3 => unfold maxLen; omega
        case c4 => exact hil
        case c5 => simp; omega
        intro v' w5 ho5 hg5 hn5
        obtain ⟨a5, c5, rfl⟩ := row_form ho5
        clear hn5
        have hB4 := HBr.out
        have hne : ∀ b, b < w.heap.size + 3 → v.ownBlock ≠ some b := fun b hb e => by have := (hO4.lt b e).1; omega
        have hb4 : Below w3.heap.size w3 ((w3.alloc (.cells #[.int .i64 1, .string ⟨#[]⟩] 71)).alloc (.cells #[.string x.path, .int .i64 1, .string ⟨#[]⟩] 73)) := ((Below.refl _ _).alloc (Nat.le_refl _) _).alloc (by simp) _
        have hs4 := hb4.size
        have hold : ∀ b, b < w3.heap.size → v.ownBlock ≠ some b → w5.heap[b]? = w3.heap[b]? := fun b hb hn => (hg5.block b (by omega) (fun e => hn e.symm)).trans (hb4.block b hb)
        obtain ⟨s0, s1, s2, s3⟩ := kO_set0 ((hold _ hz3 (hne _ (by omega))).trans hk1a) (.slice a5 (i + 1) c5)
        have hs5 := hg5.size
        have hk3 : w3.ownsRow (w.heap.size + 3) 9 1 vk (files (t.take i)).length (((files (t.take i)).map κ).map sv) := row_chg HOK2.out HC3.out (by omega)
        have hk5 : w5.ownsRow (w.heap.size + 3) 9 1 vk (files (t.take i)).length (((files (t.take i)).map κ).map sv) := own_kept hk3 (fun g hg => hold g (hk3.lt g hg).2 (rows_ne hk3 (row_chg HO.out HC3.out (by omega)) hg))
        have hB3 : Below w.heap.size w w3 := HBr.out.trans (HC3.out.below HBr.out.size (fun b hb => by omega))
        have hB5 : Below w.heap.size w w5 := (Tx.below_call hB3 hb4).grown hg5 (by have := hB3.size; omega) (fun g hg => by have := (hO4.lt g hg).1; omega)
        have HF : Hid (files (t.take (i + 1)) = files (t.take i)) := Lib.hid (by rw [files_snoc HX.out, if_neg (by rw [hkd]; decide), List.append_nil])
        have HT : Hid ((t.take (i + 1)).flatMap En.cells = (t.take i).flatMap En.cells ++ En.cells ⟨x.path, ⟨1, ⟨#[]⟩⟩⟩) := Lib.hid (by
          obtain ⟨hil', ex⟩ := List.getElem?_eq_some_iff.1 HX.out
          rw [List.take_succ_eq_append_getElem hil', List.flatMap_append, ex]
          obtain ⟨xp, ⟨xk, xd⟩⟩ := x
          have e2 : xk = 1 := hkd
          have e3 : xd = ⟨#[]⟩ := hd
          subst e2 e3
          simp)
        have hR5 : Rat w5 (w.heap.size + 2) (La (rpL κ (t.drop (i + 1)))) := rat_kept HR3.out (hold _ (by omega) (hne _ (by omega)))
        have h05 : w5.heap[w.heap.size]? = some (kO (.slice none 0 0) (.slice none 0 0)) := (hold _ (by omega) (hne _ (by omega))).trans ((HC3.out.block _ (by omega) (by omega)).trans HK0.out)
        rw [← HT.out] at ho5
        rw [← HF.out] at hk5
        have hmes := fun (V : World) (hV : Rat V (w.heap.size + 2) (La (rpL κ (t.drop (i + 1))))) => rest_la hV
        have HALL : Hid (∃ (i' : Nat) (v'' vk' : Value), i' ≤ n ∧ Rat (w5.setCell ⟨w.heap.size + 1, 0, none⟩ (.slice a5 (i + 1) c5)) (w.heap.size + 2) (La (rpL κ (t.drop i'))) ∧ (w5.setCell ⟨w.heap.size + 1, 0, none⟩ (.slice a5 (i + 1) c5)).heap[w.heap.size + 1]? = some (kO v'' vk') ∧ (w5.setCell ⟨w.heap.size + 1, 0, none⟩ (.slice a5 (i + 1) c5)).heap[w.heap.size]? = some (kO (.slice none 0 0) (.slice none 0 0)) ∧ (w5.setCell ⟨w.heap.size + 1, 0, none⟩ (.slice a5 (i + 1) c5)).ownsRow (w.heap.size + 3) 73 3 v'' i' ((t.take i').flatMap En.cells) ∧ (w5.setCell ⟨w.heap.size + 1, 0, none⟩ (.slice a5 (i + 1) c5)).ownsRow (w.heap.size + 3) 9 1 vk' (files (t.take i')).length (((files (t.take i')).map κ).map sv) ∧ Below w.heap.size w (w5.setCell ⟨w.heap.size + 1, 0, none⟩ (.slice a5 (i + 1) c5))) := Lib.hid ⟨i + 1, (.slice a5 (i + 1) c5), vk, by omega, rat_kept hR5 (s3.block _ (rat_lt hR5) (by omega)), s2, (s3.block _ (by omega) (by omega)).trans h05, row_chg ho5 s3 (by omega), row_chg hk5 s3 (by omega), hB5.trans (s3.below hB5.size (fun b hb => by omega))⟩
        have HM : Hid (restN (w5.setCell ⟨w.heap.size + 1, 0, none⟩ (.slice a5 (i + 1) c5)) (w.heap.size + 2) < q) := Lib.hid (by
          rw [hmes _ (rat_kept hR5 (s3.block _ (rat_lt hR5) (by omega)))]
          exact HQL.out)
        clear hmes h05 hR5 hB5 hB3 hk5 hk3 s2 s3 hold hb4 hs4 hne hB4 hg5 ho5 hO4 hk1a hk1b k0
        go_wp2_with fail
        go_roundw
        case rel => exact HALL.out
        case measure => rw [HQ.out]; exact HM.out
      · rw [if_pos hkd, List.append_assoc] at hR3
        have e1 : kN x = 2 := by omega
        rw [e1]
        have hz3 : w.heap.size + 1 < w3.heap.size := by omega
        have hB3 : Below w.heap.size w w3 := HBr.out.trans (HC3.out.below HBr.out.size (fun b hb => by omega))
        have hB3a : Below w.heap.size w (w3.alloc (nO 2 ⟨#[]⟩)) := Tx.below_call hB3 ((Below.refl _ _).alloc (Nat.le_refl _) _)
        have hR3a := rat_alloc hR3 (nO 2 ⟨#[]⟩)
        have hLL : (tl (κ x.node.data) ++ (vb (sumN x.node.data) ++ rpL κ (t.drop (i + 1)))).length ≤ 100000000 := by
          have h2 := HL5.out
          rw [if_pos hkd] at h2
          simp only [List.length_append] at h2 ⊢
          omega
        have cc := content_any (ub := ub) hR3a hLL (HK.out x (List.mem_of_getElem? HX.out) hkd) hE.data (fun V hV => HG.out x (List.mem_of_getElem? HX.out) hkd V (hB3a.trans (hV.below hB3a.size (fun b hb => by omega))))
        have hzN : (w3.alloc (nO 2 ⟨#[]⟩)).heap[w3.heap.size]? = some (nO 2 ⟨#[]⟩) := new_at w3 (nO 2 ⟨#[]⟩) rfl
        have hk1a : (w3.alloc (nO 2 ⟨#[]⟩)).heap[w.heap.size + 1]? = some (kO v vk) := (((Below.refl w3.heap.size w3).alloc (Nat.le_refl _) _).block _ hz3).trans ((HC3.out.block _ (by omega) (by omega)).trans HK1.out)
        have hk0a : (w3.alloc (nO 2 ⟨#[]⟩)).heap[w.heap.size]? = some (kO (.slice none 0 0) (.slice none 0 0)) := (((Below.refl w3.heap.size w3).alloc (Nat.le_refl _) _).block _ (by omega)).trans ((HC3.out.block _ (by omega) (by omega)).trans HK0.out)
        have ho4 := (row_chg HO.out HC3.out (by omega)).alloc (nO 2 ⟨#[]⟩)
        have hk4 := (row_chg HOK2.out HC3.out (by omega)).alloc (nO 2 ⟨#[]⟩)
        have hs4 : (w3.alloc (nO 2 ⟨#[]⟩)).heap.size = w3.heap.size + 1 := by simp
        have HL4 := Lib.hid hLL
        clear hR3 hR3a hLL hpos hB3
        go_wp2_with fail
        go_at_call 112
        refine cc.mono ?_
        rintro e w5 ⟨rfl, hR5, hC5⟩
        have hs5 := hC5.size
        rw [hs4] at hs5
        have hzN5 := (hC5.block _ (by omega) (by omega)).trans hzN
        have hk15 := (hC5.block _ (by omega) (by omega)).trans hk1a
        have hk05 := (hC5.block _ (by omega) (by omega)).trans hk0a
        have ho5 := row_chg ho4 hC5 (by omega)
        have hk5 := row_chg hk4 hC5 (by omega)
        have hB5 : Below w.heap.size w w5 := hB3a.trans (hC5.below hB3a.size (fun b hb => by omega))
        clear cc hC5 hzN hk1a hk0a ho4 hk4 hB3a
        obtain ⟨z0, z1', z2, z3, z4⟩ := nO_set1 hzN5 x.node.data
        have hk16 := (z4.block _ (by omega) (by omega)).trans hk15
        have hk06 := (z4.block _ (by omega) (by omega)).trans hk05
        have ho6 := own_chg ho5 z4 (fun g hg e => by have := rows_not_node ho5 hzN5 hg; omega)
        have hk6 := own_chg hk5 z4 (fun g hg e => by have := texts_not_node hk5 hzN5 hg; omega)
        have hR6 : Rat (w5.setCell ⟨w3.heap.size, 1, none⟩ (.string x.node.data)) (w.heap.size + 2) (La (rpL κ (t.drop (i + 1)))) := rat_kept hR5 (z4.block _ (rat_lt hR5) (by omega))
        have hB6 : Below w.heap.size w (w5.setCell ⟨w3.heap.size, 1, none⟩ (.string x.node.data)) := hB5.trans (z4.below hB5.size (fun b hb => by omega))
        have hs6 : (w5.setCell ⟨w3.heap.size, 1, none⟩ (.string x.node.data)).heap.size = w5.heap.size := by simp [World.setCell]
        have hkc6 : (w5.setCell ⟨w3.heap.size, 1, none⟩ (.string x.node.data)).cell? ⟨w.heap.size + 1, 1, none⟩ = some vk := (kO_set1 hk16 vk).1
        obtain ⟨iS, hS, hS0, hS1, hS2⟩ := info_parts infoSz
        obtain ⟨av, cv, rfl⟩ := row_form ho5
        have hkl : (files (t.take i)).length ≤ 200 := by
          have h1 := Ac.files_len (t.take i)
          have h2 := List.length_take_le i t
          omega
        obtain ⟨mk, hmk⟩ : ∃ mk, mk = (files (t.take i)).length := ⟨_, rfl⟩
        rw [← hmk] at hk6 hk5 hkl
        have HMK := Lib.hid hmk
        have HZ4 := Lib.hid z3
        have HR6 := Lib.hid hR6
        have HK16 := Lib.hid hk16
        have HK06 := Lib.hid hk06
        have HO6 := Lib.hid ho6
        have HK6 := Lib.hid hk6
        have HB6 := Lib.hid hB6
        clear hk16 hk06 ho6 hB6 hR6 z3 z4 hk5 ho5 hB5 hR5 hk15 hk05 hmk
        go_wp2_with (at_builtin; refine wpList_append_own _ rfl (.tmp 55) (.tmp 57) 52 rfl (w.heap.size + 3) 9 iS (.string ⟨#[]⟩) 1 16 Tryz.underlying52 hS hS0 hS1 hS2 rfl (by decide) _ _ _ rfl (hk6.alloc _) ⟨w5.heap.size, 0, none⟩ 1 1 [sv (κ x.node.data)] rfl rfl ?d1 ?d2 ?d3 ?d4 ?d5 ?_)
        case d1 =>
          intro j u hu
          match j, hu with
          | 0, hu => simp at hu; subst hu; rw [WideShapes.add_plain, World.cell?_alloc_at _ _ _ _ hs6.symm]; simp [sv]
          | j + 1, hu => simp at hu
        case d2 => exact fun u hu => by simp at hu; subst hu; rfl
        case d3 => unfold maxLen; omega
        case d4 => omega
        case d5 => simp; omega
        intro vk' w7 hk7 hg7 hn7
        obtain ⟨a7, c7, rfl⟩ := row_form hk7
        clear hn7
        have hsA : ((w5.setCell ⟨w3.heap.size, 1, none⟩ (.string x.node.data)).alloc (.cells #[.string (κ x.node.data)] 9)).heap.size = w5.heap.size + 1 := by rw [← hs6]; simp
        have hs7 := hg7.size
        rw [hsA] at hs7
        have hnk : ∀ b, b < w.heap.size + 3 → vk.ownBlock ≠ some b := fun b hb e => by have := (HK6.out.lt b e).1; omega
        have hold7 : ∀ b, b < w5.heap.size → vk.ownBlock ≠ some b → w7.heap[b]? = (w5.setCell ⟨w3.heap.size, 1, none⟩ (.string x.node.data)).heap[b]? := fun b hb hn => (blk_grow hg7 (by omega) hn).trans (((Below.refl _ _).alloc (Nat.le_refl _) _).block b (by omega))
        obtain ⟨t0, t1, t2, t3⟩ := kO_set1 ((hold7 _ (by omega) (hnk _ (by omega))).trans HK16.out) (.slice a7 (mk + 1) c7)
        have hz7 := (hold7 w3.heap.size (by omega) (fun e => texts_not_node HK6.out HZ4.out e rfl)).trans HZ4.out
        have h07 := (hold7 _ (by omega) (hnk _ (by omega))).trans HK06.out
        have hR7 : Rat w7 (w.heap.size + 2) (La (rpL κ (t.drop (i + 1)))) := rat_kept HR6.out (hold7 _ (by omega) (hnk _ (by omega)))
        have ho7 := row_grow (HO6.out.alloc (.cells #[.string (κ x.node.data)] 9)) hg7 (fun g hg e => rows_ne HK6.out HO6.out e hg)
        have hB7 : Below w.heap.size w w7 := (HB6.out.alloc HB6.out.size _).grown hg7 (by omega) (fun g hg => by have := (HK6.out.lt g hg).1; omega)
        have hz8 := (t3.block _ (by omega) (by omega)).trans hz7
        have h08 := (t3.block _ (by omega) (by omega)).trans h07
        have hR8 := rat_kept hR7 (t3.block _ (rat_lt hR7) (by omega))
        have ho8 := row_chg ho7 t3 (by omega)
        have hk8 := row_chg hk7 t3 (by omega)
        have hB8 : Below w.heap.size w (w7.setCell ⟨w.heap.size + 1, 1, none⟩ (.slice a7 (mk + 1) c7)) := hB7.trans (t3.below hB7.size (fun b hb => by omega))
        have hs8 : (w7.setCell ⟨w.heap.size + 1, 1, none⟩ (.slice a7 (mk + 1) c7)).heap.size = w7.heap.size := by simp [World.setCell]
        obtain ⟨y0, _⟩ := kO_set0 t2 (.slice none 0 0)
        obtain ⟨y1, y2, _⟩ := nO_set1 hz8 ⟨#[]⟩
        have HT2 := Lib.hid t2
        have HZ8 := Lib.hid hz8
        have H08 := Lib.hid h08
        have HR8 := Lib.hid hR8
        have HO8 := Lib.hid ho8
        have HK8 := Lib.hid hk8
        have HB8 := Lib.hid hB8
        obtain ⟨iE, hI, hI0, hI1, hI2⟩ := info_parts infoEz
        have hil : (i + 1) * 40 ≤ 140737488355328 := by omega
        clear t2 t3 hz7 h07 hR7 ho7 hB7 hz8 h08 hR8 hk8 hB8 hold7 hg7 hk7
        go_wp2_with (at_builtin; refine wpList_append_own _ rfl (.tmp 61) (.tmp 65) 33 rfl (w.heap.size + 3) 73 iE (.agg #[.string ⟨#[]⟩, .int .i64 0, .string ⟨#[]⟩]) 3 40 Tryz.underlying33 hI hI0 hI1 hI2 rfl (by decide) _ _ _ rfl (ho8.alloc _) ⟨w7.heap.size, 0, none⟩ 1 1 (En.cells ⟨x.path, 2, x.node.data⟩) rfl rfl ?e1 ?e2 ?e3 ?e4 ?e5 ?_)
        case e1 =>
          rw [← hs8]
          exact En.cell_three_new _ _ _ _ _
        case e2 => exact En.cells_one _
        case e3 => unfold maxLen; omega
        case e4 => exact hil
        case e5 => simp; omega
        intro v' w9 ho9 hg9 hn9
        obtain ⟨a9, c9, rfl⟩ := row_form ho9
        clear hn9
        have hsB : ((w7.setCell ⟨w.heap.size + 1, 1, none⟩ (.slice a7 (mk + 1) c7)).alloc (.cells #[.string x.path, .int .i64 2, .string x.node.data] 73)).heap.size = w7.heap.size + 1 := by rw [← hs8]; simp
        have hs9 := hg9.size
        rw [hsB] at hs9
        have hnv : ∀ b, b < w.heap.size + 3 → (Value.slice av i cv).ownBlock ≠ some b := fun b hb e => by have := (HO8.out.lt b e).1; omega
        have hold9 : ∀ b, b < w7.heap.size → (Value.slice av i cv).ownBlock ≠ some b → w9.heap[b]? = (w7.setCell ⟨w.heap.size + 1, 1, none⟩ (.slice a7 (mk + 1) c7)).heap[b]? := fun b hb hn => (blk_grow hg9 (by omega) hn).trans (((Below.refl _ _).alloc (Nat.le_refl _) _).block b (by omega))
        obtain ⟨r0, r1, r2, r3⟩ := kO_set0 ((hold9 _ (by omega) (hnv _ (by omega))).trans HT2.out) (.slice a9 (i + 1) c9)
        have h09 := (hold9 _ (by omega) (hnv _ (by omega))).trans H08.out
        have hR9 : Rat w9 (w.heap.size + 2) (La (rpL κ (t.drop (i + 1)))) := rat_kept HR8.out (hold9 _ (by omega) (hnv _ (by omega)))
        have hk9 := row_grow (HK8.out.alloc (.cells #[.string x.path, .int .i64 2, .string x.node.data] 73)) hg9 (fun g hg => rows_ne HK8.out HO8.out hg)
        have hB9 : Below w.heap.size w w9 := (HB8.out.alloc HB8.out.size _).grown hg9 (by omega) (fun g hg => by have := (HO8.out.lt g hg).1; omega)
        have HF : Hid (files (t.take (i + 1)) = files (t.take i) ++ [x.node.data]) := Lib.hid (by rw [files_snoc HX.out, if_pos hkd])
        have HT : Hid ((t.take (i + 1)).flatMap En.cells = (t.take i).flatMap En.cells ++ En.cells ⟨x.path, ⟨2, x.node.data⟩⟩) := Lib.hid (by
          obtain ⟨hil', ex⟩ := List.getElem?_eq_some_iff.1 HX.out
          rw [List.take_succ_eq_append_getElem hil', List.flatMap_append, ex]
          obtain ⟨xp, ⟨xk, xd⟩⟩ := x
          have e2 : xk = 2 := hkd
          subst e2
          simp)
        rw [← HT.out] at ho9
        have hkk : ((files (t.take i)).map (sv ∘ κ) ++ [sv (κ x.node.data)]) = ((files (t.take (i + 1))).map κ).map sv := by rw [HF.out]; simp
        have hkn : mk + 1 = (files (t.take (i + 1))).length := by rw [HF.out, HMK.out, List.length_append]; rfl
        rw [hkk] at hk9
        rw [hkn] at hk9 r2
        have HALL : Hid (∃ (i' : Nat) (v'' vk' : Value), i' ≤ n ∧ Rat (w9.setCell ⟨w.heap.size + 1, 0, none⟩ (.slice a9 (i + 1) c9)) (w.heap.size + 2) (La (rpL κ (t.drop i'))) ∧ (w9.setCell ⟨w.heap.size + 1, 0, none⟩ (.slice a9 (i + 1) c9)).heap[w.heap.size + 1]? = some (kO v'' vk') ∧ (w9.setCell ⟨w.heap.size + 1, 0, none⟩ (.slice a9 (i + 1) c9)).heap[w.heap.size]? = some (kO (.slice none 0 0) (.slice none 0 0)) ∧ (w9.setCell ⟨w.heap.size + 1, 0, none⟩ (.slice a9 (i + 1) c9)).ownsRow (w.heap.size + 3) 73 3 v'' i' ((t.take i').flatMap En.cells) ∧ (w9.setCell ⟨w.heap.size + 1, 0, none⟩ (.slice a9 (i + 1) c9)).ownsRow (w.heap.size + 3) 9 1 vk' (files (t.take i')).length (((files (t.take i')).map κ).map sv) ∧ Below w.heap.size w (w9.setCell ⟨w.heap.size + 1, 0, none⟩ (.slice a9 (i + 1) c9))) := Lib.hid ⟨i + 1, _, _, by omega, rat_kept hR9 (r3.block _ (rat_lt hR9) (by omega)), r2, (r3.block _ (by omega) (by omega)).trans h09, row_chg ho9 r3 (by omega), row_chg hk9 r3 (by omega), hB9.trans (r3.below hB9.size (fun b hb => by omega))⟩
        have HM : Hid (restN (w9.setCell ⟨w.heap.size + 1, 0, none⟩ (.slice a9 (i + 1) c9)) (w.heap.size + 2) < q) := Lib.hid (by
          rw [rest_la (rat_kept hR9 (r3.block _ (rat_lt hR9) (by omega)))]
          exact HQL.out)
        clear hkk hkn hB9 hk9 hR9 h09 r2 r3 hold9 hnv hg9 ho9 ho8 hsB
        go_wp2_with fail
        go_roundw
        case rel => exact HALL.out
        case measure => rw [HQ.out]; exact HM.out
    · obtain rfl : i = n := by omega
      have eD : t.drop i = [] := List.drop_eq_nil_of_le (by rw [← HN.out]; exact Nat.le_refl _)
      have eT : t.take i = t := List.take_of_length_le (by rw [← HN.out]; exact Nat.le_refl _)
      rw [eD] at hR
      rw [eT] at ho hok
      have c0 := rd_left hR (by show 0 ≤ _; omega)
      have e0 : ((rpL κ ([] : List Et)).length : Int) = 0 := rfl
      rw [e0] at c0
      obtain ⟨a1, c1, rfl⟩ := row_form ho
      obtain ⟨a2, c2, rfl⟩ := row_form hok
      have f0 : wr.cell? ⟨w.heap.size + 1, 0, none⟩ = some (.slice a1 i c1) := (kO_set0 hk1 (.slice none 0 0)).1
      have f1 : wr.cell? ⟨w.heap.size + 1, 1, none⟩ = some (.slice a2 (files t).length c2) := (kO_set1 hk1 (.slice none 0 0)).1
      have hO : En.Own wr (w.heap.size + 3) (.slice a1 i c1) t := by unfold En.Own; rw [← HN.out]; exact ho
      have hTx : Texts wr (w.heap.size + 3) (.slice a2 (files t).length c2) ((files t).map κ) := by unfold Texts; rw [List.length_map]; exact hok
      have s2 := store2 (w1 := wr) (B := w.heap.size) (T := 80) (v0 := .slice none 0 0) (v1 := .slice none 0 0) hk0 (.slice a1 i c1) (.slice a2 (files t).length c2)
      obtain ⟨⟨s00, s01⟩, ⟨s10, s11⟩, s3, s4⟩ := s2
      have hB2 : Below w.heap.size w (((wr.setCell ⟨w.heap.size, 0, none⟩ (.slice a1 i c1)).setCell ⟨w.heap.size, 1, none⟩ (.slice a2 (files t).length c2))) := hB.trans (s4.below hB.size (fun b hb => by omega))
      have HOO := Lib.hid ((own_chg hO s4 (fun g hg => by have := (hO.lt g hg).1; omega)))
      have HTT := Lib.hid (own_chg hTx s4 (fun g hg => by have := (hTx.lt g hg).1; omega))
      have HB2 := Lib.hid hB2
      have HS3 := Lib.hid s3
      clear hO hTx hB2 s3 s4 hB ho hok hk0 hk1 hR
      go_wp2_with fail
      go_at_call 98
      refine c0.mono ?_
      rintro e w1 ⟨rfl, rfl⟩
      clear c0
      go_wp2_with fail
      refine bodyPost_ret (results_cell_row_tmp rfl _ _ _ _ _ _ _ rfl HS3.out Tryz.underlying80 rfl infoKp) rfl ?_
      refine ⟨_, _, rfl, ?_, own_less HTT.out (by omega), HB2.out⟩
      exact own_less HOO.out (by omega)
end Go.Proofs.YtdkgkomjbpggeaaGreatDoor.Az

namespace Go.Proofs.YtdkgkomjbpggeaaGreatDoor.Am
open Go.RowKit Tx
set_option linter.unusedVariables false
section
variable {P : Program}
theorem append_many (w : World) (base : Nat) (t ty e : TypeId) (i : TypeInfo) (z : Value) (size bytes : Nat) (ht : P.underlying t = some (.slice e)) (hi : P.info? e = some i) (hz : i.zero = some z)
    (hsize : i.size = size) (hby : i.bytes = bytes) (hzs : z.cells.size = size) (hsp : 0 < size) (hs16 : size ≤ 16)
    (v : Value) (n : Nat) (xs : List Value) (hown : w.ownsRow base e size v n xs)
    (a : Addr) (m c : Nat) (hm1 : 1 ≤ m) (us : List Value) (hul : us.length = m * size) (hnews : ∀ j x, us[j]? = some x → w.cell? (a.add j) = some x) (hone : ∀ x ∈ us, x.oneCell' = true)
    (hn : n + m ≤ 57646075230342348) (hbytes : (n + m) * bytes ≤ 140737488355328) (hbase : base ≤ w.heap.size) :
    ∃ v' w', (Builtin.append_ #[t, t] ty #[v, .slice (some a) m c]).run P w = .ok v' w' ∧ w'.ownsRow base e size v' (n + m) (xs ++ us) ∧
      ((v'.ownBlock = v.ownBlock ∧ w.grownBy w' v.ownBlock) ∨ (v'.ownBlock = some w.heap.size ∧ w.grownBy w' none)) := by
  have hlen : (xs ++ us).length = (n + m) * size := by rw [List.length_append, hown.1, hul, Nat.add_mul]
  have made : ∀ old, old < n + m → (w.drew.alloc (.cells (xs.toArray ++ us.toArray ++ Builtin.zeroCells z.cells (grownCap w (n + m) old e - (n + m))) e)).ownsRow base e size (.slice (some ⟨w.heap.size, 0, none⟩) (n + m) (grownCap w (n + m) old e)) (n + m) (xs ++ us) ∧
      w.grownBy (w.drew.alloc (.cells (xs.toArray ++ us.toArray ++ Builtin.zeroCells z.cells (grownCap w (n + m) old e - (n + m))) e)) none := by
    intro old _
    have hge := grownCap_ge w (n + m) old e
    have hcm := grownCap_le_maxLen w (n + m) old e (by unfold maxLen; omega)
    refine ⟨⟨hlen, .inr ⟨w.heap.size, _, _, rfl, hbase, heap_alloc_new w.drew _, hge, hcm, ?_, ?_⟩⟩, ⟨rfl, rfl, rfl, by simp, fun k hk _ => Below.heap_alloc w.drew _ k hk⟩⟩
    · have h0 := hown.1
      simp only [Array.size_append, List.size_toArray, size_zeroCells, hzs, hul]
      obtain ⟨d, hd⟩ : ∃ d, grownCap w (n + m) old e = n + m + d := ⟨grownCap w (n + m) old e - (n + m), by omega⟩
      rw [hd, h0, show n + m + d - (n + m) = d by omega, Nat.add_mul, Nat.add_mul]
    · simp only [Array.toList_append, List.append_assoc]
      rw [← List.append_assoc]
      exact List.take_left' hlen
  rcases hown.2 with ⟨rfl, rfl⟩ | ⟨g, cap, cur, rfl, hbg, hg, hnc, hcm, hcs, htake⟩
  · have hx : xs = [] := List.eq_nil_of_length_eq_zero (by simpa using hown.1)
    subst hx
    have hr := run_append_nil (P := P) w t ty e i z ht hi hz a m c us (by rw [hsize, hul]) hnews (by omega) (by omega) (by rw [hby]; have h2 := hbytes; simp only [Nat.zero_add] at h2; omega)
    have hm := made 0 (by omega)
    simp only [Nat.zero_add, List.nil_append, Array.empty_append] at hm ⊢
    exact ⟨_, _, hr, hm.1, .inr ⟨rfl, hm.2⟩⟩
  · by_cases hroom : n + m ≤ cap
    · have hle : (n + m) * size ≤ cap * size := Nat.mul_le_mul_right _ hroom
      have hfit : n * i.size + us.length ≤ cur.size := by rw [hsize, hcs, hul]; rw [Nat.add_mul] at hle; exact hle
      have hr := run_append_room (P := P) w t ty e i ht hi g n cap cur hg a m c us (by rw [hsize, hul]) hnews hone hroom hfit
      refine ⟨_, _, hr, ⟨hlen, .inr ⟨g, cap, _, rfl, hbg, setRow_heap w g cur _ e _ hg, hroom, hcm, ?_, ?_⟩⟩, .inl ⟨rfl, ⟨rfl, rfl, rfl, by simp, fun k _ hk => setRow_other w g k _ (fun e => hk (by simp [Value.ownBlock, e]))⟩⟩⟩
      · simp only [List.size_toArray, List.length_append, List.length_take, List.length_drop, Array.length_toList]
        omega
      · rw [hsize, htake]
        exact List.take_left' hlen
    · have hr := run_append_grow (P := P) w t ty e i z ht hi hz ⟨g, 0, none⟩ n cap xs (by rw [hsize]; exact hown.1) (hown.cells (g := g) rfl) a m c us (by rw [hsize, hul]) hnews (by omega) (by omega) (growslice_fits (by omega) (by rw [hby]; exact hbytes))
      have hm := made cap (by omega)
      exact ⟨_, _, hr, hm.1, .inr ⟨rfl, hm.2⟩⟩
end
theorem wpList_append_many {P : Program} (w : World) {ops : Array Oper} {rest : List Oper} {o : Oper} {a : Act} {Q : Exit → Act → World → Prop} (hgd : o.guard = none) (s x : Operand) (t : TypeId)
    (ho : o.op = .call { callee := .builtin .append, args := #[s, x], argTypes := #[t, t] })
    (base : Nat) (e : TypeId) (i : TypeInfo) (z : Value) (size bytes : Nat) (ht : P.underlying t = some (.slice e)) (hi : P.info? e = some i) (hz : i.zero = some z)
    (hsize : i.size = size) (hby : i.bytes = bytes) (hzs : z.cells.size = size) (hsp : 0 < size) (hs16 : size ≤ 16)
    (v : Value) (n : Nat) (xs : List Value) (hs : a.eval s = v) (hown : w.ownsRow base e size v n xs)
    (ad : Addr) (m c : Nat) (hm1 : 1 ≤ m) (us : List Value) (hx : a.eval x = .slice (some ad) m c) (hul : us.length = m * size) (hnews : ∀ j x, us[j]? = some x → w.cell? (ad.add j) = some x) (hone : ∀ x ∈ us, x.oneCell' = true)
    (hn : n + m ≤ 57646075230342348) (hbytes : (n + m) * bytes ≤ 140737488355328) (hbase : base ≤ w.heap.size)
    (h : ∀ v' w', w'.ownsRow base e size v' (n + m) (xs ++ us) → ((v'.ownBlock = v.ownBlock ∧ w.grownBy w' v.ownBlock) ∨ (v'.ownBlock = some w.heap.size ∧ w.grownBy w' none)) → wpList P ops Q rest (a.put o.dst v') w') :
    wpList P ops Q (o :: rest) a w := by
  refine wpList_plain hgd fun K hK => ?_
  obtain ⟨v', w', hr, h2, h3⟩ := append_many (P := P) w base t o.type e i z size bytes ht hi hz hsize hby hzs hsp hs16 v n xs hown ad m c hm1 us hul hnews hone hn hbytes hbase
  unfold Oper.wp execOp
  simp only [ho, resolve, invoke, builtin, Sem.run_bind, Sem.run_pure, Result.andThen_ok, List.map_toArray, List.map_cons, List.map_nil, hs, hx, hr]
  exact hK _ _ (h v' w' h2 h3)
end Go.Proofs.YtdkgkomjbpggeaaGreatDoor.Am

namespace Go.Proofs.YtdkgkomjbpggeaaGreatDoor.Az
open Go.RowKit Go.ChangeShapes Go.WideShapes Tx Pm Dk Wm Wr Wl Pl Tb Bl Fm
open Fr hiding sv Texts cnt cnt_snoc
open En (Et tcheck Ents)
open Ac (files)
set_option linter.unusedVariables false
set_option linter.unusedSimpArgs false
set_option linter.unnecessarySimpa false
theorem infoSt : (Tryz.prog.info? 9).map (fun i => (i.zero, i.size, i.bytes)) = some (some (.string ⟨#[]⟩), 1, 16) := by kernel_rfl
theorem row_ne {V : World} {B n g z : Nat} {v : Value} {xs : List Value} {cs : Array Value} {fr : Nat × Nat} (h : V.ownsRow B 9 1 v n xs) (hz : V.heap[z]? = some (.cells cs 73 fr)) (hg : v.ownBlock = some g) : g ≠ z := by
  rintro rfl
  rcases h.2 with ⟨rfl, _⟩ | ⟨g', cap, cur, rfl, _, hh, _⟩
  · cases hg
  · injection hg with hg
    subst hg
    rw [hz] at hh
    injection hh with hh
    injection hh with _ h2
    exact absurd h2 (by decide)
def entO (p : ByteArray) (k : Int) (d : ByteArray) : Obj := .cells #[.string p, .int .i64 k, .string d] 73 (0, 0)
theorem ent_cells {V : World} {z : Nat} {p d : ByteArray} {k : Int} (h : V.heap[z]? = some (entO p k d)) : CellsE z p k d V := by
  refine ⟨?_, ?_, ?_⟩ <;> (unfold World.cell?; rw [h]; rfl)
theorem Bq.row {w0 : World × (Nat → Prop)} {V V' : World} {d j t m u M N B n : Nat} {x : Tst} {C : List On} {Z : List It} {Q Q' : Nat → Prop} {v v' : Value} {xs : List Value} (h : Bq d j t m u x Z w0 C M N Q V) (ho : V'.ownsRow B 9 1 v' n xs)
    (hg : (v'.ownBlock = v.ownBlock ∧ V.grownBy V' v.ownBlock) ∨ (v'.ownBlock = some V.heap.size ∧ V.grownBy V' none)) (hQ : ∀ g, v.ownBlock = some g → Q g) (hQ' : ∀ g, Q' g → Q g ∨ v'.ownBlock = some g) : Bq d j t m u x Z w0 C M N Q' V' := by
  have hc : Chg Q V V' := by
    rcases hg with ⟨_, g⟩ | ⟨_, g⟩
    · exact ⟨g.os, g.tape, g.output, g.size, fun i hi hn => g.block i hi (fun e => hn (hQ i e.symm))⟩
    · exact ⟨g.os, g.tape, g.output, g.size, fun i hi hn => g.block i hi (by simp)⟩
  refine h.go hc (fun i hi => ?_)
  rcases hQ' i hi with hh | hh
  · exact .inl hh
  · rcases hg with ⟨e, _⟩ | ⟨e, _⟩
    · exact .inl (hQ i (by rw [← e]; exact hh))
    · rw [e] at hh
      injection hh with hh
      have := (ho.lt i (by rw [e, hh])).2
      exact .inr ⟨by omega, this⟩
theorem ent_row {V V' : World} {z B n : Nat} {p d : ByteArray} {k : Int} {v v' : Value} {xs : List Value} (hz : V.heap[z]? = some (entO p k d)) (h : V.ownsRow B 9 1 v n xs) (hg : (v'.ownBlock = v.ownBlock ∧ V.grownBy V' v.ownBlock) ∨ (v'.ownBlock = some V.heap.size ∧ V.grownBy V' none)) : V'.heap[z]? = some (entO p k d) := by
  have hl := (Array.getElem?_eq_some_iff.1 hz).1
  rcases hg with ⟨_, g⟩ | ⟨_, g⟩
  · exact (g.block z hl (fun e => row_ne h hz e.symm rfl)).trans hz
  · exact (g.block z hl (by simp)).trans hz
structure Rb (d j t m u : Nat) (x : Tst) (Z : List It) (w0 : World × (Nat → Prop)) (C : List On) (M N : Nat) (v : Value) (z : Nat) (p dd : ByteArray) (B k : Nat) (xs : List Value) (V : World) : Prop where
  q : Bq d j t m u x Z w0 C M N (fun g => v.ownBlock = some g ∨ g = z) V
  ent : V.heap[z]? = some (entO p 2 dd)
  row : V.ownsRow B 9 1 v k xs
  le : B ≤ V.heap.size
section
variable {w0 : World × (Nat → Prop)} {d j t m u M N z B k : Nat} {x : Tst} {C : List On} {Z : List It} {v : Value} {p dd : ByteArray} {xs : List Value} {V V' : World}
theorem Rb.below (h : Rb d j t m u x Z w0 C M N v z p dd B k xs V) (hb : Below V.heap.size V V') : Rb d j t m u x Z w0 C M N v z p dd B k xs V' :=
  ⟨h.q.below hb, (hb.block z (Array.getElem?_eq_some_iff.1 h.ent).1).trans h.ent, own_kept h.row (fun g hg => hb.block g (h.row.lt g hg).2), Nat.le_trans h.le hb.size⟩
theorem Rb.cells (h : Rb d j t m u x Z w0 C M N v z p dd B k xs V) : CellsE z p 2 dd V := ent_cells h.ent
theorem Rb.app {s1 s2 : ByteArray} (h : Rb d j t m u x Z w0 C M N v z p dd B k xs V) (hk : (k + 2) * 16 ≤ 140737488355328) (ty : TypeId) : ∃ v8 w8, (Builtin.append_ #[52, 52] ty #[v, .slice (some ⟨V.heap.size, 0, none⟩) 2 2]).run Tryz.prog (V.alloc (.cells #[.string s1, .string s2] 9)) = .ok v8 w8 ∧ CellsE z p 2 dd w8 ∧ Bq d j t m u x Z w0 C M N (fun g => v8.ownBlock = some g) w8 ∧ w8.ownsRow B 9 1 v8 (k + 2) (xs ++ [sv s1, sv s2]) ∧ B ≤ w8.heap.size := by
  obtain ⟨i0, h1, h2, h3, h4⟩ := info_parts infoSt
  have ha := h.below ((Below.refl V.heap.size V).alloc (Nat.le_refl _) (.cells #[.string s1, .string s2] 9))
  obtain ⟨v8, w8, r1, r2, r3⟩ := Am.append_many (P := Tryz.prog) (V.alloc (.cells #[.string s1, .string s2] 9)) B 52 ty 9 i0 (.string ⟨#[]⟩) 1 16 Tryz.underlying52 h1 h2 h3 h4 rfl (by decide) (by decide) v k xs ha.row ⟨V.heap.size, 0, none⟩ 2 2 (by decide) [sv s1, sv s2] rfl (fun q v hv => by
    rw [WideShapes.add_plain, World.cell?_alloc_at _ _ _ _ rfl]
    match q, hv with
    | 0, hv => simpa [sv] using hv
    | 1, hv => simpa [sv] using hv
    | q + 2, hv => simp at hv) (fun v hv => by simp at hv; rcases hv with rfl | rfl <;> rfl) (by omega) hk ha.le
  refine ⟨v8, w8, r1, ent_cells (ent_row ha.ent ha.row r3), ha.q.row r2 r3 (fun g hg => .inl hg) (fun g hg => .inr hg), r2, ?_⟩
  have hl := ha.le
  rcases r3 with ⟨_, g⟩ | ⟨_, g⟩
  · have := g.size; omega
  · have := g.size; omega
end
theorem putKey_size {C : List On} {M : Nat} (hg : Good8 C M) (hM : M ≤ 10000000) {dd : ByteArray} (hd : dd.size ≤ 140737488351232) : (putC C dd).2.size ≤ 14 := by
  have h2 := good_put hg hd
  have hh : (of8 (putC C dd).1 dd).isSome = true := by rw [put_has hg]; simp
  obtain ⟨y, hy, _, e, _⟩ := of8_mem hh
  rw [put_key hg, e]
  exact keyO_size h2 (by omega) hy
set_option maxRecDepth 100000 in
set_option maxHeartbeats 8000000 in
theorem record_any {w0 : World × (Nat → Prop)} {W : World} {d j t m u M N : Nat} {x : Tst} {C : List On} {Z : List It} (a : Option Addr) (n c : Nat) (l : List Et) (h : Bz d j t m u x Z w0 C M N W) (hx : Xk x) (hT : TabZ w0) (hM : M + 200 ≤ 10000000) (hN : N + 200 ≤ 10000000)
    (he : ∀ V, Chg w0.2 w0.1 V → Ents V a n l) (hnc : n ≤ c) (hn2 : n ≤ 200) (hok : ∀ y ∈ l, Eok y) (hbk : Ac.bk l ≤ 10000000) :
    Calls Tryz.prog 35 #[.pointer (some ⟨u, 0, none⟩), .slice a n c] W fun e w' => e = .returned (.string (cat (rpP (keyD (putsC C (files l))) l))) ∧ Bz d j t m u x Z w0 (putsC C (files l)) (M + (files l).length) (N + (files l).length) w' := by
  have hln := (he W h.chg).1
  have HE := Lib.hid he
  have HT := Lib.hid hT
  have HOK := Lib.hid hok
  have HX := Lib.hid hx
  have HLN := Lib.hid hln
  have HG := Lib.hid h.good
  have hB0 := h.chg.size
  have hq0 := bq_first h
  have HBK := Lib.hid hbk
  clear he hT hok hx h hln hbk
  go_enter Tryz.func35, Tryz.ntmps35
  go_wp2_with fail
  go_loopw [5, 12] (fun vp iv wr => ∃ (i k : Nat), i ≤ n ∧ iv = .int .i64 i ∧ Bq d j t m u x Z w0 (putsC C (files (l.take i))) (M + (files (l.take i)).length) (N + (files (l.take i)).length) (fun g => vp.ownBlock = some g) wr ∧ Hid (k = (rpP (keyD (putsC C (files (l.take i)))) (l.take i)).length) ∧ k ≤ i * 4 ∧ wr.ownsRow W.heap.size 9 1 vp k ((rpP (keyD (putsC C (files (l.take i)))) (l.take i)).map sv) ∧ W.heap.size ≤ wr.heap.size) (fun _ iv _ => n - (intOf iv).toNat)
  case atStart => exact ⟨0, 0, Nat.zero_le _, rfl, hq0.go (Chg.refl _ _) (fun i hi => by cases hi), rfl, Nat.zero_le _, World.ownsRow_nil _ _ _ _, Nat.le_refl _⟩
  case round =>
    clear hq0
    obtain ⟨i, k, hi, rfl, hq, hk, hk4, hrow, hsz⟩ := hrel
    by_cases hlt : i < n
    · obtain ⟨y, hy⟩ : ∃ y, l[i]? = some y := ⟨_, List.getElem?_eq_getElem (by rw [HLN.out]; exact hlt)⟩
      have hEn := HE.out wr hq.chg
      rcases hEn.2 with h0 | ⟨b, off, rfl, hb, hc⟩
      · omega
      obtain ⟨c0, e1, c2⟩ := hc i y hy
      have hyE := HOK.out y (List.mem_of_getElem? hy)
      have hiz : (i : Int) < (n : Int) := by omega
      clear hc
      rcases hyE.kind with hkd | hkd
      · have HND := Lib.hid (hyE.dir hkd)
        have hkd1 : kN y = 1 := by have := hyE.kn.1; rw [hkd] at this; omega
        have c1 : wr.cell? ⟨b, off + i * 3 + 1, none⟩ = some (.int .i64 1) := by rw [e1, hkd]
        have cu := fun V => putUint_any 1 V (by omega) (by omega)
        have eus : us 1 = vs 1 := by unfold us; rw [if_neg (by decide)]; rfl
        have eue : ue 1 = 0 := by unfold ue; rw [if_neg (by decide)]
        rw [eus, eue] at cu
        have ct := fun V => putText_any y.path V (by have := hyE.path; omega)
        have HY := Lib.hid hy
        have HYE := Lib.hid hyE
        have HKD := Lib.hid hkd
        have HK1 := Lib.hid hkd1
        have hz1 : (wr.alloc (entO y.path 1 y.node.data)).heap[wr.heap.size]? = some (entO y.path 1 y.node.data) := new_at wr (entO y.path 1 y.node.data) rfl
        have hbA := (Below.refl wr.heap.size wr).alloc (Nat.le_refl _) (entO y.path 1 y.node.data)
        have hq1 : Bq d j t m u x Z w0 (putsC C (files (l.take i))) (M + (files (l.take i)).length) (N + (files (l.take i)).length) (fun g => u5.ownBlock = some g ∨ g = wr.heap.size) (wr.alloc (entO y.path 1 y.node.data)) := hq.go (Chg.of_below hbA) (fun g hg => hg.elim .inl (fun e => .inr (by simp [e])))
        have hr1 := hrow.alloc (entO y.path 1 y.node.data)
        obtain ⟨z0, z1', z2⟩ := ent_cells hz1
        have HZ1 := Lib.hid hz1
        have HQ1 := Lib.hid hq1
        have HR1 := Lib.hid hr1
        have HS1 := Lib.hid (show W.heap.size ≤ (wr.alloc (entO y.path 1 y.node.data)).heap.size by simp; omega)
        unfold entO at z0 z1' z2
        clear hq hrow hz1 hbA hq1 hr1 hy hyE hkd hkd1 e1 eus eue hEn
        go_wp2_with fail
        go_at_call 72
        refine (cu _).mono ?_
        rintro e w2 ⟨rfl, hb2⟩
        have HZ2 := Lib.hid ((hb2.block _ (Array.getElem?_eq_some_iff.1 HZ1.out).1).trans HZ1.out)
        have HQ2 := Lib.hid (HQ1.out.below hb2)
        have HR2 := Lib.hid (own_kept HR1.out (fun g hg => hb2.block g (HR1.out.lt g hg).2))
        have HS2 := Lib.hid (Nat.le_trans HS1.out hb2.size)
        obtain ⟨z20, z21, z22⟩ := ent_cells HZ2.out
        clear hb2 cu
        go_wp2_with fail
        go_at_call 70
        refine (ct _).mono ?_
        rintro e w3 ⟨rfl, hb3⟩
        have HZ3 := Lib.hid ((hb3.block _ (Array.getElem?_eq_some_iff.1 HZ2.out).1).trans HZ2.out)
        have HQ3 := Lib.hid (HQ2.out.below hb3)
        have hr3 := own_kept HR2.out (fun g hg => hb3.block g (HR2.out.lt g hg).2)
        have HS3 := Lib.hid (Nat.le_trans HS2.out hb3.size)
        have hs3 := HS3.out
        obtain ⟨iS, hS, hS0, hS1, hS2⟩ := info_parts infoSt
        have hk8 : (k + 2) * 16 ≤ 140737488355328 := by omega
        clear hb3 ct z20 z21 z22 z0 z1' z2
        go_wp2_with (at_builtin; refine Am.wpList_append_many _ rfl (.tmp 23) (.tmp 28) 52 rfl W.heap.size 9 iS (.string ⟨#[]⟩) 1 16 Tryz.underlying52 hS hS0 hS1 hS2 rfl (by decide) (by decide) _ _ _ rfl (hr3.alloc _) ⟨w3.heap.size, 0, none⟩ 2 2 (by decide) [sv (ts y.path), sv (vs 1)] rfl rfl ?c1 ?c2 ?c3 ?c4 ?c5 ?_)
        case c1 =>
          intro q v hv
          rw [WideShapes.add_plain, World.cell?_alloc_at _ _ _ _ rfl]
          match q, hv with
          | 0, hv => simpa [sv] using hv
          | 1, hv => simpa [sv] using hv
          | q + 2, hv => simp at hv
        case c2 => exact fun v hv => by simp at hv; rcases hv with rfl | rfl <;> rfl
        case c3 => omega
        case c4 => exact hk8
        case c5 => simp; omega
        intro v5 w5 hr5 hg5
        obtain ⟨a5, c5, rfl⟩ := row_form hr5
        rw [show w3.heap.size + 1 = (w3.alloc (.cells #[.string (ts y.path), .string (vs 1)] 9)).heap.size by simp] at hg5
        have hbB := (Below.refl w3.heap.size w3).alloc (Nat.le_refl _) (.cells #[.string (ts y.path), .string (vs 1)] 9)
        have hr3b := hr3.alloc (.cells #[.string (ts y.path), .string (vs 1)] 9)
        have hq5 : Bq d j t m u x Z w0 (putsC C (files (l.take i))) (M + (files (l.take i)).length) (N + (files (l.take i)).length) (fun g => (Value.slice a5 (k + 2) c5).ownBlock = some g ∨ g = wr.heap.size) w5 := (HQ3.out.below hbB).row hr5 hg5 (fun g hg => .inl hg) (fun g hg => hg.elim .inr (fun e => .inl (.inr e)))
        have hz5 := ent_row ((hbB.block _ (Array.getElem?_eq_some_iff.1 HZ3.out).1).trans HZ3.out) hr3b hg5
        obtain ⟨y0, y1, y2⟩ := ent_cells hz5
        have HF : Hid (files (l.take (i + 1)) = files (l.take i)) := Lib.hid (by rw [files_snoc HY.out, if_neg (by rw [HKD.out]; decide), List.append_nil])
        have HP : Hid (rpP (keyD (putsC C (files (l.take (i + 1))))) (l.take (i + 1)) = rpP (keyD (putsC C (files (l.take i)))) (l.take i) ++ [ts y.path, vs 1]) := Lib.hid (by
          rw [HF.out, rpP_snoc _ HY.out]
          congr 1
          unfold partsE
          rw [if_neg (by rw [HKD.out]; decide), HK1.out]
          rfl)
        have hs5 : W.heap.size ≤ w5.heap.size := by
          have h1 := hq5.chg.size
          rcases hg5 with ⟨_, g⟩ | ⟨_, g⟩
          · have := g.size; have := hbB.size; omega
          · have := g.size; have := hbB.size; omega
        have hr5b : w5.ownsRow W.heap.size 9 1 (.slice a5 (k + 2) c5) (k + 2) ((rpP (keyD (putsC C (files (l.take (i + 1))))) (l.take (i + 1))).map sv) := by rw [HP.out, List.map_append]; exact hr5
        have hq5b : Bq d j t m u x Z w0 (putsC C (files (l.take (i + 1)))) (M + (files (l.take (i + 1))).length) (N + (files (l.take (i + 1))).length) (fun g => (Value.slice a5 (k + 2) c5).ownBlock = some g) w5 := by rw [HF.out]; exact hq5.go (Chg.refl _ _) (fun g hg => .inl (.inl hg))
        have HK5 : Hid (k + 2 = (rpP (keyD (putsC C (files (l.take (i + 1))))) (l.take (i + 1))).length) := Lib.hid (by rw [HP.out, List.length_append, ← hk.out]; rfl)
        clear hq5 hz5 hr5 hg5 hbB hr3b hr3 y2
        go_wp2_with fail
        go_roundw
        case rel => exact ⟨i + 1, k + 2, by omega, by go_num, hq5b, HK5, by omega, hr5b, hs5⟩
        case measure => simp [intOf]; omega
      · skip
        have hkd1 : kN y = 2 := by have := hyE.kn.1; rw [hkd] at this; omega
        have c1 : wr.cell? ⟨b, off + i * 3 + 1, none⟩ = some (.int .i64 2) := by rw [e1, hkd]
        have cu := fun V => putUint_any 2 V (by omega) (by omega)
        have eus : us 2 = vs 2 := by unfold us; rw [if_neg (by decide)]; rfl
        have eue : ue 2 = 0 := by unfold ue; rw [if_neg (by decide)]
        rw [eus, eue] at cu
        have ct := fun V => putText_any y.path V (by have := hyE.path; omega)
        have HY := Lib.hid hy
        have HYE := Lib.hid hyE
        have HKD := Lib.hid hkd
        have HK1 := Lib.hid hkd1
        have hz1 : (wr.alloc (entO y.path 2 y.node.data)).heap[wr.heap.size]? = some (entO y.path 2 y.node.data) := new_at wr (entO y.path 2 y.node.data) rfl
        have hbA := (Below.refl wr.heap.size wr).alloc (Nat.le_refl _) (entO y.path 2 y.node.data)
        have hq1 : Bq d j t m u x Z w0 (putsC C (files (l.take i))) (M + (files (l.take i)).length) (N + (files (l.take i)).length) (fun g => u5.ownBlock = some g ∨ g = wr.heap.size) (wr.alloc (entO y.path 2 y.node.data)) := hq.go (Chg.of_below hbA) (fun g hg => hg.elim .inl (fun e => .inr (by simp [e])))
        have hr1 := hrow.alloc (entO y.path 2 y.node.data)
        obtain ⟨z0, z1', z2⟩ := ent_cells hz1
        have HZ1 := Lib.hid hz1
        have HQ1 := Lib.hid hq1
        have HR1 := Lib.hid hr1
        have HS1 := Lib.hid (show W.heap.size ≤ (wr.alloc (entO y.path 2 y.node.data)).heap.size by simp; omega)
        unfold entO at z0 z1' z2
        clear hq hrow hz1 hbA hq1 hr1 hy hyE hkd hkd1 e1 eus eue hEn
        go_wp2_with fail
        go_at_call 72
        refine (cu _).mono ?_
        rintro e w2 ⟨rfl, hb2⟩
        have HZ2 := Lib.hid ((hb2.block _ (Array.getElem?_eq_some_iff.1 HZ1.out).1).trans HZ1.out)
        have HQ2 := Lib.hid (HQ1.out.below hb2)
        have HR2 := Lib.hid (own_kept HR1.out (fun g hg => hb2.block g (HR1.out.lt g hg).2))
        have HS2 := Lib.hid (Nat.le_trans HS1.out hb2.size)
        obtain ⟨z20, z21, z22⟩ := ent_cells HZ2.out
        clear hb2 cu
        go_wp2_with fail
        go_at_call 70
        refine (ct _).mono ?_
        rintro e w3 ⟨rfl, hb3⟩
        have HZ3 := Lib.hid ((hb3.block _ (Array.getElem?_eq_some_iff.1 HZ2.out).1).trans HZ2.out)
        have HQ3 := Lib.hid (HQ2.out.below hb3)
        have hr3 := own_kept HR2.out (fun g hg => hb3.block g (HR2.out.lt g hg).2)
        have HS3 := Lib.hid (Nat.le_trans HS2.out hb3.size)
        have hs3 := HS3.out
        obtain ⟨iS, hS, hS0, hS1, hS2⟩ := info_parts infoSt
        have hk8 : (k + 2) * 16 ≤ 140737488355328 := by omega
        clear hb3 ct z20 z21 z22 z0 z1' z2
        go_wp2_with (at_builtin; refine Am.wpList_append_many _ rfl (.tmp 23) (.tmp 28) 52 rfl W.heap.size 9 iS (.string ⟨#[]⟩) 1 16 Tryz.underlying52 hS hS0 hS1 hS2 rfl (by decide) (by decide) _ _ _ rfl (hr3.alloc _) ⟨w3.heap.size, 0, none⟩ 2 2 (by decide) [sv (ts y.path), sv (vs 2)] rfl rfl ?c1 ?c2 ?c3 ?c4 ?c5 ?_)
        case c1 =>
          intro q v hv
          rw [WideShapes.add_plain, World.cell?_alloc_at _ _ _ _ rfl]
          match q, hv with
          | 0, hv => simpa [sv] using hv
          | 1, hv => simpa [sv] using hv
          | q + 2, hv => simp at hv
        case c2 => exact fun v hv => by simp at hv; rcases hv with rfl | rfl <;> rfl
        case c3 => omega
        case c4 => exact hk8
        case c5 => simp; omega
        intro v5 w5 hr5 hg5
        obtain ⟨a5, c5, rfl⟩ := row_form hr5
        rw [show w3.heap.size + 1 = (w3.alloc (.cells #[.string (ts y.path), .string (vs 2)] 9)).heap.size by simp] at hg5
        have hbB := (Below.refl w3.heap.size w3).alloc (Nat.le_refl _) (.cells #[.string (ts y.path), .string (vs 2)] 9)
        have hr3b := hr3.alloc (.cells #[.string (ts y.path), .string (vs 2)] 9)
        have hq5 : Bq d j t m u x Z w0 (putsC C (files (l.take i))) (M + (files (l.take i)).length) (N + (files (l.take i)).length) (fun g => (Value.slice a5 (k + 2) c5).ownBlock = some g ∨ g = wr.heap.size) w5 := (HQ3.out.below hbB).row hr5 hg5 (fun g hg => .inl hg) (fun g hg => hg.elim .inr (fun e => .inl (.inr e)))
        have hz5 := ent_row ((hbB.block _ (Array.getElem?_eq_some_iff.1 HZ3.out).1).trans HZ3.out) hr3b hg5
        have hcz5 := ent_cells hz5
        obtain ⟨y0, y1, y2⟩ := hcz5
        have HQ5 := Lib.hid hq5
        have HZ5 := Lib.hid hz5
        have HR5 := Lib.hid hr5
        have HG5 := Lib.hid hg5
        have HBB := Lib.hid hbB
        clear hq5 hz5 hr5 hg5 hbB hr3b hr3
        go_wp2_with fail
        have hq5 := HQ5.out
        have hz5 := HZ5.out
        have hr5 := HR5.out
        have hg5 := HG5.out
        have hbB := HBB.out
        have hfl : (files (l.take i)).length ≤ 200 := by
          have h1 := Ac.files_len (l.take i)
          have h2 := List.length_take_le i l
          omega
        have hgi := putsC_good HG.out (files (l.take i)) (fun e he => by
          obtain ⟨z, hz, _, rfl⟩ := mem_files.1 he
          have := (HOK.out z (List.mem_of_mem_take hz)).data
          omega)
        have HF : Hid (files (l.take (i + 1)) = files (l.take i) ++ [y.node.data]) := Lib.hid (by rw [files_snoc HY.out, if_pos HKD.out])
        have HC2 : Hid (putsC C (files (l.take (i + 1))) = (putC (putsC C (files (l.take i))) y.node.data).1) := Lib.hid (by rw [HF.out, putsC_snoc])
        have hsize5 : W.heap.size ≤ w5.heap.size := by
          rcases hg5 with ⟨_, g⟩ | ⟨_, g⟩
          · have := g.size; have := hbB.size; omega
          · have := g.size; have := hbB.size; omega
        have HP : Hid (rpP (keyD (putsC C (files (l.take (i + 1))))) (l.take (i + 1)) = (rpP (keyD (putsC C (files (l.take i)))) (l.take i) ++ [ts y.path, vs 2]) ++ [ts (putC (putsC C (files (l.take i))) y.node.data).2, vs (sumN y.node.data)]) := Lib.hid (by
          rw [rpP_snoc _ HY.out]
          have e1 : partsE (keyD (putsC C (files (l.take (i + 1))))) y = [ts y.path, vs 2] ++ [ts (putC (putsC C (files (l.take i))) y.node.data).2, vs (sumN y.node.data)] := by
            unfold partsE
            rw [if_pos HKD.out, HK1.out, HC2.out, ← put_key hgi]
          rw [e1, ← List.append_assoc]
          congr 2
          refine (val16_congr (fun z hz hzk => ?_)).1
          rw [HC2.out]
          refine put_keyD hgi _ ?_
          rw [has_ref hgi, (putsC_ref HG.out (files (l.take i)) (fun e he => by
            obtain ⟨z, hz, _, rfl⟩ := mem_files.1 he
            have := (HOK.out z (List.mem_of_mem_take hz)).data
            omega) z.node.data).1]
          have := cnt_pos.2 (mem_files.2 ⟨z, hz, hzk, rfl⟩)
          omega)
        obtain ⟨Ci, hCi⟩ : ∃ Ci, Ci = putsC C (files (l.take i)) := ⟨_, rfl⟩
        obtain ⟨Mi, hMi⟩ : ∃ Mi, Mi = (files (l.take i)).length := ⟨_, rfl⟩
        rw [← hCi, ← hMi] at hq5
        rw [← hMi] at hfl
        obtain ⟨z, hz⟩ : ∃ z, z = wr.heap.size := ⟨_, rfl⟩
        rw [← hz] at hq5 hz5 ⊢
        obtain ⟨xs5, hxs5⟩ : ∃ xs5, xs5 = (rpP (keyD (putsC C (files (l.take i)))) (l.take i)).map sv ++ [sv (ts y.path), sv (vs 2)] := ⟨_, rfl⟩
        rw [← hxs5] at hr5
        have hA := (hq5.below ((Below.refl _ w5).drew)).call HT.out (fun F hF hTF hBz => bzput (d := y.node.data) hBz HX.out (by omega) (by omega) (by have := HYE.out.data; omega) hTF)
        have hA2 : Calls Tryz.prog 73 #[.pointer (some ⟨u, 0, none⟩), .string y.node.data] w5.drew fun e w' => e = .returned (.string (putC Ci y.node.data).2) ∧ Rb d j t m u x Z w0 (putC Ci y.node.data).1 (M + Mi + 1) (N + Mi + 1) (.slice a5 (k + 2) c5) z y.path y.node.data W.heap.size (k + 2) xs5 w' := hA.mono fun e w' ⟨h1, h2, h3, h4⟩ => ⟨h1, h2, (h3 z (.inr rfl)).trans hz5, own_kept hr5 (fun g hg => h3 g (.inl hg)), Nat.le_trans hsize5 h4⟩
        have hk1s : (putC Ci y.node.data).2.size ≤ 14 := by
          rw [hCi]
          exact putKey_size hgi (by omega) (by have := HYE.out.data; omega)
        have HCI := Lib.hid hCi
        have HMI := Lib.hid hMi
        have HXS := Lib.hid hxs5
        obtain ⟨k1, hk1⟩ : ∃ k1, k1 = (putC Ci y.node.data).2 := ⟨_, rfl⟩
        rw [← hk1] at hA2 hk1s
        have HK11 := Lib.hid hk1
        have hk16 : (k + 2 + 2) * 16 ≤ 140737488355328 := by omega
        clear hA hr5 hg5 hbB hq5 hxs5 hCi hMi hz hk1 HQ5 HZ5 HR5 HG5 HBB HZ1 HQ1 HR1 HS1 HZ2 HQ2 HR2 HS2 HZ3 HQ3
        refine Rg.wp_only ?_ (regRecord _ (by kernel_rfl) _ z u y.path y.node.data k1 (ts k1) (vs (sumN y.node.data)) 2 (.slice a5 (k + 2) c5) w5 (Rb d j t m u x Z w0 (putC Ci y.node.data).1 (M + Mi + 1) (N + Mi + 1) (.slice a5 (k + 2) c5) z y.path y.node.data W.heap.size (k + 2) xs5) (Rb d j t m u x Z w0 (putC Ci y.node.data).1 (M + Mi + 1) (N + Mi + 1) (.slice a5 (k + 2) c5) z y.path y.node.data W.heap.size (k + 2) xs5) (Rb d j t m u x Z w0 (putC Ci y.node.data).1 (M + Mi + 1) (N + Mi + 1) (.slice a5 (k + 2) c5) z y.path y.node.data W.heap.size (k + 2) xs5) (fun v8 V => Bq d j t m u x Z w0 (putC Ci y.node.data).1 (M + Mi + 1) (N + Mi + 1) (fun g => v8.ownBlock = some g) V ∧ V.ownsRow W.heap.size 9 1 v8 (k + 2 + 2) (xs5 ++ [sv (ts k1), sv (vs (sumN y.node.data))]) ∧ W.heap.size ≤ V.heap.size)
          (ent_cells hz5) hA2 (fun V hV => hV.cells) (fun V hV => (putText_any k1 V (by omega)).mono fun e w' ⟨h1, h2⟩ => ⟨h1, hV.below h2⟩) (fun V hV => hV.cells)
          (fun V hV => (sumOf_anyA y.node.data V (by have := HYE.out.data; unfold maxLen; omega)).mono fun e w' ⟨h1, h2⟩ => ⟨h1, hV.below h2⟩) (fun V hV => hV.cells)
          (fun V hV => (hV.below ((Below.refl _ V).alloc (Nat.le_refl _) _)).cells) (fun V hV ty => hV.app hk16 ty))
        rintro a' w9 ⟨z8, v8, rfl, hq9, hr9, hs9⟩
        obtain ⟨a9, c9, rfl⟩ := row_form hr9
        have HQ9 : Hid (Bq d j t m u x Z w0 (putsC C (files (l.take (i + 1)))) (M + (files (l.take (i + 1))).length) (N + (files (l.take (i + 1))).length) (fun g => (Value.slice a9 (k + 2 + 2) c9).ownBlock = some g) w9) := Lib.hid (by
          rw [HC2.out, HF.out, List.length_append, ← HCI.out, ← HMI.out]
          exact hq9)
        have HR9 : Hid (w9.ownsRow W.heap.size 9 1 (.slice a9 (k + 2 + 2) c9) (k + 2 + 2) ((rpP (keyD (putsC C (files (l.take (i + 1))))) (l.take (i + 1))).map sv)) := Lib.hid (by
          rw [HP.out, List.map_append, List.map_append, ← HCI.out, ← HK11.out]
          rw [HXS.out, ← HCI.out] at hr9
          exact hr9)
        have HK9 : Hid (k + 2 + 2 = (rpP (keyD (putsC C (files (l.take (i + 1))))) (l.take (i + 1))).length) := Lib.hid (by rw [HP.out, List.length_append, List.length_append, ← hk.out]; rfl)
        clear hq9 hr9 hA2 hk1s
        go_wp2_with fail
        go_roundw
        case rel => exact ⟨i + 1, k + 2 + 2, by omega, by go_num, HQ9.out, HK9.out, by omega, HR9.out, hs9⟩
        case measure => simp [intOf]; omega
    · obtain rfl : i = n := by omega
      have eT : l.take i = l := List.take_of_length_le (by rw [HLN.out]; exact Nat.le_refl _)
      rw [eT] at hq hrow hk
      have hll : (rpP (keyD (putsC C (files l))) l).length ≤ 800 := by rw [← hk.out]; omega
      have hgl := putsC_good HG.out (files l) (fun e he => by
        obtain ⟨z, hz, _, rfl⟩ := mem_files.1 he
        have := (HOK.out z hz).data
        omega)
      have hcs : (cat (rpP (keyD (putsC C (files l))) l)).size ≤ 140737488355328 := by
        have h3 := rpL_le (κ := keyD (putsC C (files l))) HOK.out (fun y hy hyk => by
          have hh : (of8 (putsC C (files l)) y.node.data).isSome = true := by
            rw [has_ref hgl, (putsC_ref HG.out (files l) (fun e he => by
              obtain ⟨z, hz, _, rfl⟩ := mem_files.1 he
              have := (HOK.out z hz).data
              omega) y.node.data).1]
            have := cnt_pos.2 (mem_files.2 ⟨y, hy, hyk, rfl⟩)
            omega
          obtain ⟨q, hq, _, e, _⟩ := of8_mem hh
          rw [e]
          have h1 := Ac.files_len l
          have h2 := HLN.out
          exact keyO_size hgl (by omega) hq)
        have e : (cat (rpP (keyD (putsC C (files l))) l)).size = (rpL (keyD (putsC C (files l))) l).length := by rw [cat_rp]; exact List.size_toArray
        have h4 := HBK.out
        have h5 := HLN.out
        omega
      have cj := joinZ_any wr (by omega) hrow hcs
      have HQ := Lib.hid hq.bz
      have HBq := Lib.hid (fun V (hV : Below wr.heap.size wr V) => hq.bz.below hV)
      clear hq hrow hcs hgl hll hk
      go_wp2_with fail
      go_at_call 69
      refine cj.mono ?_
      rintro e w5 ⟨rfl, hb5⟩
      have HB5 := Lib.hid (HBq.out _ hb5)
      clear cj hb5
      go_wp2_with fail
      go_ret
      exact ⟨rfl, HB5.out⟩
end Go.Proofs.YtdkgkomjbpggeaaGreatDoor.Az

namespace Go.Proofs.YtdkgkomjbpggeaaGreatDoor.En
open Go.RowKit Tx Pm Pr
set_option linter.unusedVariables false
end Go.Proofs.YtdkgkomjbpggeaaGreatDoor.En

namespace Go.Proofs.YtdkgkomjbpggeaaGreatDoor.En
open Go.RowKit Tx Pm Pr
set_option linter.unusedVariables false
theorem lt_irr (a : ByteArray) : less a a = false := less_irr _
theorem lt_asymm {a b : ByteArray} (h : less a b = true) : less b a = false := less_asymm _ _ h
theorem less_trans : ∀ (a b c : List UInt8), Op.bytesLess a b = true → Op.bytesLess b c = true → Op.bytesLess a c = true
  | [], [], _, h, _ => by rw [Op.bytesLess] at h; cases h
  | [], _ :: _, [], _, h => by rw [Op.bytesLess] at h; cases h
  | [], _ :: _, _ :: _, _, _ => by rw [Op.bytesLess]
  | _ :: _, [], _, h, _ => by rw [Op.bytesLess] at h; cases h
  | _ :: _, _ :: _, [], _, h => by rw [Op.bytesLess] at h; cases h
  | x :: a, y :: b, z :: c, h1, h2 => by
    have ih := less_trans a b c
    rw [Op.bytesLess] at h1 h2 ⊢
    simp only [Bool.or_eq_true, Bool.and_eq_true, decide_eq_true_eq, beq_iff_eq] at h1 h2 ⊢
    rcases h1 with h1 | ⟨rfl, h1⟩
    · rcases h2 with h2 | ⟨rfl, h2⟩
      · left
        rw [UInt8.lt_iff_toNat_lt] at h1 h2 ⊢
        omega
      · exact .inl h1
    · rcases h2 with h2 | ⟨rfl, h2⟩
      · exact .inl h2
      · exact .inr ⟨rfl, ih h1 h2⟩
theorem less_tri : ∀ (a b : List UInt8), Op.bytesLess a b = false → Op.bytesLess b a = false → a = b
  | [], [], _, _ => rfl
  | [], _ :: _, h, _ => by rw [Op.bytesLess] at h; cases h
  | _ :: _, [], _, h => by rw [Op.bytesLess] at h; cases h
  | x :: a, y :: b, h1, h2 => by
    have ih := less_tri a b
    rw [Op.bytesLess] at h1 h2
    simp only [Bool.or_eq_false_iff, Bool.and_eq_false_iff, decide_eq_false_iff_not, beq_eq_false_iff_ne] at h1 h2
    have e : x = y := by
      apply UInt8.toNat_inj.1
      have a1 := h1.1
      have a2 := h2.1
      rw [UInt8.lt_iff_toNat_lt] at a1 a2
      omega
    subst e
    rw [ih (h1.2.resolve_left (fun h => h rfl)) (h2.2.resolve_left (fun h => h rfl))]
theorem lt_trans {a b c : ByteArray} (h1 : less a b = true) (h2 : less b c = true) : less a c = true := less_trans _ _ _ h1 h2
theorem tget_zero {l : List Et} {p : ByteArray} (h : ∀ x ∈ l, x.path ≠ p) : tget l p = ⟨0, ⟨#[]⟩⟩ := tget_none l p h
theorem tree_at {l : List Et} (h : tcheck l = 0) {i : Nat} {x : Et} (hx : l[i]? = some x) : chk x.path.data.toList 5 = 0 ∧ whole x.node = true ∧ x.node.kind ≠ 0 ∧ (i = 0 ∨ ∃ y, l[i - 1]? = some y ∧ less y.path x.path = true) := by
  have hi := (List.getElem?_eq_some_iff.1 hx).1
  have hok : okAt l i = true := by
    unfold tcheck at h
    split at h
    · cases h
    · split at h
      · next hall => exact List.all_eq_true.1 hall i (List.mem_range.2 hi)
      · cases h
  rw [okAt_eq hx] at hok
  simp only [Bool.and_eq_true, Bool.or_eq_true, decide_eq_true_eq, Bool.not_eq_true', decide_eq_false_iff_not] at hok
  obtain ⟨⟨⟨⟨c1, c2⟩, c3⟩, c4⟩, _⟩ := hok
  refine ⟨c1, c2, c3, ?_⟩
  rcases c4 with c4 | c4
  · exact .inl c4
  · by_cases h0 : i = 0
    · exact .inl h0
    · right
      obtain ⟨y, hy⟩ : ∃ y, l[i - 1]? = some y := ⟨_, List.getElem?_eq_getElem (by omega)⟩
      rw [hy] at c4
      exact ⟨y, hy, c4⟩
theorem tree_rise {l : List Et} (h : tcheck l = 0) : ∀ (j i : Nat) (x y : Et), l[i]? = some x → l[j]? = some y → i < j → less x.path y.path = true
  | 0, i, x, y, _, _, hij => absurd hij (by omega)
  | j + 1, i, x, y, hx, hy, hij => by
    rcases (tree_at h hy).2.2.2 with h0 | ⟨z, hz, hlt⟩
    · omega
    · rw [Nat.add_sub_cancel] at hz
      by_cases e : i = j
      · subst e
        rw [hx] at hz
        injection hz with hz
        rw [hz]
        exact hlt
      · exact lt_trans (tree_rise h j i x z hx hz (by omega)) hlt
theorem tree_get {l : List Et} (h : tcheck l = 0) {x : Et} (hx : x ∈ l) : tget l x.path = x.node := by
  obtain ⟨k, hk⟩ := List.getElem?_of_mem hx
  refine tget_hit l x.path k x hk rfl (fun y hy e => ?_)
  obtain ⟨i, hi⟩ := List.getElem?_of_mem hy
  rw [List.getElem?_take] at hi
  split at hi
  · next hik =>
    have := tree_rise h k i y x hi hk hik
    rw [e, lt_irr] at this
    cases this
  · cases hi
theorem tree_path_mem {l : List Et} (h : tcheck l = 0) (p : ByteArray) : p ∈ l.map (·.path) ↔ (tget l p).kind ≠ 0 := by
  constructor
  · intro hp
    obtain ⟨x, hx, rfl⟩ := List.mem_map.1 hp
    rw [tree_get h hx]
    obtain ⟨k, hk⟩ := List.getElem?_of_mem hx
    exact (tree_at h hk).2.2.1
  · intro hk
    apply Classical.byContradiction
    intro hno
    apply hk
    rw [tget_zero (fun x hx e => hno (List.mem_map.2 ⟨x, hx, e⟩))]
end Go.Proofs.YtdkgkomjbpggeaaGreatDoor.En

namespace Go.Proofs.YtdkgkomjbpggeaaGreatDoor.En
open Go.RowKit Tx Pm Pr
set_option linter.unusedVariables false
def isno (n : Nd) : Bool := decide (n.kind = 0) && decide (n.data = ⟨#[]⟩)
set_option maxRecDepth 100000 in
set_option maxHeartbeats 1000000 in
theorem isNone_any (n : Nd) (w : World) :
    Calls Tryz.prog 103 #[nv n] w fun e w' => e = .returned (.bool (isno n)) ∧ Below w.heap.size w w' := by
  obtain ⟨K, D⟩ := n
  have hgN := guardN
  unfold nv
  by_cases hk : K = 0
  · by_cases hd : D.toList = (⟨#[]⟩ : ByteArray).toList
    · have hv : isno ⟨K, D⟩ = true := by rw [isno, decide_eq_true hk, decide_eq_true (to_list.1 hd)]; rfl
      rw [hv]
      obtain rfl := to_list.1 hd
      subst hk
      clear hv hd
      go_enter Tryz.func103, Tryz.ntmps103
      go_wp2
      go_ret
      exact ⟨rfl, (Below.refl _ _).alloc (Nat.le_refl _) _⟩
    · have hv : isno ⟨K, D⟩ = false := by rw [isno, decide_eq_false (fun h => hd (to_list.2 h)), Bool.and_false]
      have e := bytes_ne (fun h => hd (to_list.2 h))
      have e2 := not_empty (fun h => hd (to_list.2 h))
      rw [hv]
      subst hk
      clear hv hd
      go_enter Tryz.func103, Tryz.ntmps103
      go_wp2
      go_ret
      exact ⟨rfl, (Below.refl _ _).alloc (Nat.le_refl _) _⟩
  · have hv : isno ⟨K, D⟩ = false := by rw [isno, decide_eq_false hk, Bool.false_and]
    rw [hv]
    clear hv
    go_enter Tryz.func103, Tryz.ntmps103
    go_wp2
    go_ret
    exact ⟨rfl, (Below.refl _ _).alloc (Nat.le_refl _) _⟩
set_option maxRecDepth 100000 in
set_option maxHeartbeats 1000000 in
theorem tWhole_any (n : Nd) (w : World) (hs : n.data.size ≤ 9223372036854775807) :
    Calls Tryz.prog 102 #[nv n] w fun e w' => e = .returned (.bool (whole n)) ∧ Below w.heap.size w w' := by
  obtain ⟨K, D⟩ := n
  unfold nv
  by_cases h2 : K = 2
  · have hw : whole ⟨K, D⟩ = decide (D.size ≤ 4096) := by unfold whole; rw [if_pos h2]
    rw [hw]
    subst h2
    clear hw
    go_enter Tryz.func102, Tryz.ntmps102
    go_wp2
    go_ret
    exact ⟨congrArg (fun b => Ending.returned (Value.bool b)) (decide_eq_decide.2 (by omega)), (Below.refl _ _).alloc (Nat.le_refl _) _⟩
  · have e2 : ((K : Int) == 2) = false := beq_eq_false_iff_ne.2 h2
    by_cases h01 : K = 0 ∨ K = 1
    · by_cases hd : D = ⟨#[]⟩
      · have hw : whole ⟨K, D⟩ = true := by
          unfold whole
          rw [if_neg h2, hd]
          rcases h01 with h | h <;> rw [h] <;> rfl
        have e := is_empty hd
        rw [hw]
        clear hw hd h2
        rcases h01 with rfl | rfl
        all_goals
          go_enter Tryz.func102, Tryz.ntmps102
          go_wp2
          go_ret
          exact ⟨rfl, (Below.refl _ _).alloc (Nat.le_refl _) _⟩
      · have hw : whole ⟨K, D⟩ = false := by
          unfold whole
          rw [if_neg h2, decide_eq_false (fun h => hd (size_zero.1 h)), Bool.and_false]
        have e := not_empty hd
        rw [hw]
        clear hw hd h2
        rcases h01 with rfl | rfl
        all_goals
          go_enter Tryz.func102, Tryz.ntmps102
          go_wp2
          go_ret
          exact ⟨rfl, (Below.refl _ _).alloc (Nat.le_refl _) _⟩
    · have h0 : K ≠ 0 := fun h => h01 (.inl h)
      have h1 : K ≠ 1 := fun h => h01 (.inr h)
      have hw : whole ⟨K, D⟩ = false := by
        unfold whole
        rw [if_neg h2, decide_eq_false h0, decide_eq_false h1]
        rfl
      have e0 : ((K : Int) == 0) = false := beq_eq_false_iff_ne.2 h0
      have e1 : ((K : Int) == 1) = false := beq_eq_false_iff_ne.2 h1
      rw [hw]
      clear hw h2 h01 h0 h1
      go_enter Tryz.func102, Tryz.ntmps102
      go_wp2
      go_ret
      exact ⟨rfl, (Below.refl _ _).alloc (Nat.le_refl _) _⟩
def tplace (l : List Et) (p : ByteArray) : Nat := l.countP (fun x => less x.path p)
def Rise (l : List Et) : Prop := (l.map (·.path)).Pairwise (fun a b => less a b = true)
end Go.Proofs.YtdkgkomjbpggeaaGreatDoor.En

namespace Go.Proofs
open Go.Shelf
def Tryz.search_ren : Go.Shelf.Ren := ⟨fun | 16 => 177 | n => n, fun | 3 => 3 | 35 => 77 | 4 => 4 | 38 => 139 | n => n, fun | n => n⟩
theorem Tryz.search : Go.Proofs.SlLaysO.n16 Tryz.prog Tryz.search_ren := {
  mixed := by kernel_rfl
  f16 := Tryz.func177.trans (congrArg some (by kernel_rfl))
  t3 := Tryz.underlying3
  a3 := Tryz.isAgg3
  z3 := Tryz.sizeOf3
  v3 := Tryz.zeroValue3
  t4 := Tryz.underlying4
  a4 := Tryz.isAgg4
  z4 := Tryz.sizeOf4
  v4 := Tryz.zeroValue4
  t35 := Tryz.underlying77
  a35 := Tryz.isAgg77
  z35 := Tryz.sizeOf77
  v35 := Tryz.zeroValue77
  t38 := Tryz.underlying139
  a38 := Tryz.isAgg139
  z38 := Tryz.sizeOf139
  v38 := Tryz.zeroValue139 }
end Go.Proofs

namespace Go.Proofs.YtdkgkomjbpggeaaGreatDoor.En
open Go.RowKit Tx Pm Pr Go.Sort Go.Lib Go.Shelf
set_option linter.unusedVariables false
theorem Ents.nth {w : World} {a : Option Addr} {n : Nat} {l : List Et} (h : Ents w a n l) {k : Nat} {x : Et} (hx : l[k]? = some x) : ∃ b off, a = some ⟨b, off, none⟩ ∧ b < w.heap.size ∧ w.cell? ⟨b, off + k * 3, none⟩ = some (.string x.path) ∧ w.cell? ⟨b, off + k * 3 + 1, none⟩ = some (.int .i64 x.node.kind) ∧ w.cell? ⟨b, off + k * 3 + 1 + 1, none⟩ = some (.string x.node.data) := by
  have hk := (List.getElem?_eq_some_iff.1 hx).1
  rcases h.2 with h0 | ⟨b, off, ha, hlt, hc⟩
  · rw [h.1] at hk; omega
  · exact ⟨b, off, ha, hlt, hc k x hx⟩
set_option maxRecDepth 100000 in
set_option maxHeartbeats 1000000 in
theorem placeC_any (ba bx : Nat) (a : Option Addr) (n c : Nat) (l : List Et) (p : ByteArray) (W : World) (i : Nat) (x : Et) (hi : l[i]? = some x) (ha : W.cell? ⟨ba, 0, none⟩ = some (.slice a n c)) (hx : W.cell? ⟨bx, 0, none⟩ = some (.string p)) (hl : Ents W a n l) :
    Calls Tryz.prog 178 (#[.int .i64 i] ++ #[.pointer (some ⟨ba, 0, none⟩), .pointer (some ⟨bx, 0, none⟩)]) W fun e w' => e = .returned (.bool (!less x.path p)) ∧ ∃ q, w' = W.drewN q := by
  obtain ⟨b, off, rfl, hb, c1, _⟩ := hl.nth hi
  have hlt : i < n := by rw [← hl.1]; exact (List.getElem?_eq_some_iff.1 hi).1
  have hiz : (i : Int) < (n : Int) := by omega
  obtain ⟨P, N⟩ := x
  simp only at c1
  unfold less
  clear hi hl
  go_enter Tryz.func178, Tryz.ntmps178
  go_wp2
  go_region
  all_goals go_wp2
  all_goals go_ret
  all_goals exact ⟨rfl, 1, rfl⟩
theorem rise_le {l : List Et} (h : Rise l) (p : ByteArray) {i j : Nat} {x y : Et} (hi : l[i]? = some x) (hj : l[j]? = some y) (hij : i ≤ j) (hx : less x.path p = false) : less y.path p = false := by
  rcases Nat.lt_or_eq_of_le hij with hlt | rfl
  · have hm := List.pairwise_iff_getElem.1 h i j (by rw [List.length_map]; exact (List.getElem?_eq_some_iff.1 hi).1) (by rw [List.length_map]; exact (List.getElem?_eq_some_iff.1 hj).1) hlt
    rw [List.getElem_map, List.getElem_map, (List.getElem?_eq_some_iff.1 hi).2, (List.getElem?_eq_some_iff.1 hj).2] at hm
    cases hc : less y.path p with
    | false => rfl
    | true => rw [lt_trans hm hc] at hx; cases hx
  · rw [hi] at hj
    injection hj with hj
    rw [← hj]
    exact hx
theorem count_at (l : List Et) (f : Et → Bool) (g : Nat → Bool) (hg : ∀ i x, l[i]? = some x → g i = f x) : (List.range l.length).countP g = l.countP f := by
  have h : (List.range l.length).map g = l.map f := by
    apply List.ext_getElem
    · simp
    · intro i h1 h2
      simp only [List.getElem_map, List.getElem_range]
      exact hg i _ (List.getElem?_eq_getElem (by simpa using h2))
  have e1 : (List.range l.length).countP g = ((List.range l.length).map g).countP id := by rw [List.countP_map]; rfl
  have e2 : l.countP f = (l.map f).countP id := by rw [List.countP_map]; rfl
  rw [e1, e2, h]
theorem below_boxes {w : World} (o1 o2 : Obj) : Below w.heap.size w ((w.alloc o1).alloc o2) := ((Below.refl _ w).alloc (Nat.le_refl _) o1).alloc (by simp) o2
set_option maxRecDepth 100000 in
set_option maxHeartbeats 2000000 in
theorem place_any (a : Option Addr) (n c : Nat) (l : List Et) (p : ByteArray) (w : World) (hl : Ents w a n l) (hr : Rise l) (hn : n ≤ 1000000000000) :
    Calls Tryz.prog 162 #[.slice a n c, .string p] w fun e w' => e = .returned (.int .i64 (tplace l p : Nat)) ∧ Below w.heap.size w w' := by
  obtain ⟨W0, hW0⟩ : ∃ W0, W0 = (w.alloc (.cells #[.slice a n c] 33)).alloc (.cells #[.string p] 9) := ⟨_, rfl⟩
  have hsize : W0.heap.size = w.heap.size + 1 + 1 := by rw [hW0]; simp
  have ca : W0.cell? ⟨w.heap.size, 0, none⟩ = some (.slice a n c) := by rw [hW0]; exact cell_alloc_sl _ (cell_new_sl w _ _)
  have cx : W0.cell? ⟨w.heap.size + 1, 0, none⟩ = some (.string p) := by rw [hW0]; have := cell_new_sl (w.alloc (.cells #[.slice a n c] 33)) (.string p) 9; rwa [World.size_alloc] at this
  have hB0 : Below w.heap.size w W0 := by rw [hW0]; exact below_boxes _ _
  have eg : ∀ args w, (callFunc 178 args).run Tryz.prog w = .ok (.enter 178 args) w := enters_of Tryz.func178 (by kernel_rfl) rfl
  have hln := hl.1
  have hS := Any.sort_Search Tryz.search 178 #[.pointer (some ⟨w.heap.size, 0, none⟩), .pointer (some ⟨w.heap.size + 1, 0, none⟩)] n (fun i => match l[i]? with | some x => !less x.path p | none => true) W0 eg (by omega)
    (fun m os i hi => by
      obtain ⟨x, hx⟩ : ∃ x, l[i]? = some x := ⟨_, List.getElem?_eq_getElem (by omega)⟩
      have hg := below_grown_sl w.heap.size W0 m os (by omega)
      have h := placeC_any w.heap.size (w.heap.size + 1) a n c l p (grow (W0.drewN m) os) i x hx (cell_grown (by simp [hsize]; omega) ca m os) (cell_grown (by simp [hsize]) cx m os) (hl.below (hB0.trans hg))
      rw [hx]
      exact h.mono fun _ _ ⟨he, q, hq⟩ => ⟨he, q, #[], by rw [hq, grow_empty]⟩)
    (fun i j hij hj h => by
      obtain ⟨x, hx⟩ : ∃ x, l[i]? = some x := ⟨_, List.getElem?_eq_getElem (by omega)⟩
      obtain ⟨y, hy⟩ : ∃ y, l[j]? = some y := ⟨_, List.getElem?_eq_getElem (by omega)⟩
      rw [hx] at h
      rw [hy]
      simp only [Bool.not_eq_true'] at h ⊢
      exact rise_le hr p hx hy hij h)
  have hcnt : (List.range n).countP (fun i => !(match l[i]? with | some x => !less x.path p | none => true)) = tplace l p := by
    rw [← hln]
    exact count_at l _ _ (fun i x hx => by simp only [hx, Bool.not_not])
  rw [hcnt] at hS
  change Calls Tryz.prog 177 _ _ _ at hS
  clear ca cx hcnt hr hl
  generalize tplace l p = r at hS ⊢
  go_enter Tryz.func162, Tryz.ntmps162
  go_wp2_with (go_at_call 177; rw [← hW0]; refine hS.mono ?_; rintro e w' ⟨rfl, q, os, rfl⟩)
  go_ret
  rw [← hW0]
  exact ⟨rfl, hB0.trans (below_grown_sl w.heap.size W0 q os (by omega))⟩
def tstands (l : List Et) (k : Nat) (p : ByteArray) : Bool := match l[k]? with
  | some x => decide (x.path = p)
  | none => false
set_option maxRecDepth 100000 in
set_option maxHeartbeats 1000000 in
theorem stands_any (a : Option Addr) (n c : Nat) (l : List Et) (k : Nat) (p : ByteArray) (w : World) (hl : Ents w a n l) (hn : n ≤ 1000000000000) (hk : k ≤ 1000000000000) :
    Calls Tryz.prog 163 #[.slice a n c, .int .i64 (k : Nat), .string p] w fun e w' => e = .returned (.bool (tstands l k p)) ∧ w = w' := by
  have hln := hl.1
  by_cases hlt : k < n
  · obtain ⟨x, hx⟩ : ∃ x, l[k]? = some x := ⟨_, List.getElem?_eq_getElem (by omega)⟩
    obtain ⟨b, off, rfl, hb, c1, _⟩ := hl.nth hx
    obtain ⟨P, N⟩ := x
    simp only at c1
    have hlz : (k : Int) < (n : Int) := by omega
    have hv : tstands l k p = decide (P = p) := by rw [tstands, hx]
    rw [hv]
    by_cases hp : P = p
    · have e : (P.toList == p.toList) = true := by rw [hp]; exact beq_self_eq_true _
      rw [decide_eq_true hp]
      clear hv hx hl hln hp
      go_enter Tryz.func163, Tryz.ntmps163
      go_wp2
      go_ret
      exact ⟨rfl, rfl⟩
    · have e := bytes_ne hp
      rw [decide_eq_false hp]
      clear hv hx hl hln hp
      go_enter Tryz.func163, Tryz.ntmps163
      go_wp2
      go_ret
      exact ⟨rfl, rfl⟩
  · have hv : tstands l k p = false := by rw [tstands, List.getElem?_eq_none (by omega)]
    rw [hv]
    clear hv hl hln
    go_enter Tryz.func163, Tryz.ntmps163
    go_wp2
    go_ret
    exact ⟨rfl, rfl⟩
theorem count_cut (f : Et → Bool) : ∀ (l : List Et), (∀ (i j : Nat) (x y : Et), l[i]? = some x → l[j]? = some y → i ≤ j → f x = false → f y = false) → ∀ (i : Nat) (x : Et), l[i]? = some x → f x = decide (i < l.countP f)
  | [], _, i, x, h => by cases h
  | z :: r, hm, i, x, h => by
    have hr := count_cut f r (fun i j x y hx hy hij => hm (i + 1) (j + 1) x y hx hy (by omega))
    cases hz : f z with
    | true =>
      rw [List.countP_cons_of_pos hz]
      cases i with
      | zero => injection h with h; rw [← h, hz]; rw [decide_eq_true (by omega)]
      | succ i => rw [hr i x h]; exact decide_eq_decide.2 (by omega)
    | false =>
      have h0 : r.countP f = 0 := by
        rw [List.countP_eq_zero]
        intro y hy
        obtain ⟨j, hj⟩ := List.getElem?_of_mem hy
        rw [hm 0 (j + 1) z y rfl hj (by omega) hz]
        exact Bool.false_ne_true
      rw [List.countP_cons_of_neg (by rw [hz]; exact Bool.false_ne_true), h0, decide_eq_false (by omega)]
      exact hm 0 i z x rfl h (by omega) hz
theorem place_cut {l : List Et} (hr : Rise l) (p : ByteArray) {i : Nat} {x : Et} (hx : l[i]? = some x) : less x.path p = decide (i < tplace l p) :=
  count_cut (fun x => less x.path p) l (fun i j x y hi hj hij h => rise_le hr p hi hj hij h) i x hx
theorem place_le (l : List Et) (p : ByteArray) : tplace l p ≤ l.length := List.countP_le_length
theorem rise_lt {l : List Et} (h : Rise l) {i j : Nat} {x y : Et} (hi : l[i]? = some x) (hj : l[j]? = some y) (hij : i < j) : less x.path y.path = true := by
  have hm := List.pairwise_iff_getElem.1 h i j (by rw [List.length_map]; exact (List.getElem?_eq_some_iff.1 hi).1) (by rw [List.length_map]; exact (List.getElem?_eq_some_iff.1 hj).1) hij
  rwa [List.getElem_map, List.getElem_map, (List.getElem?_eq_some_iff.1 hi).2, (List.getElem?_eq_some_iff.1 hj).2] at hm
theorem place_of {l : List Et} (hr : Rise l) {i : Nat} {x : Et} (hx : l[i]? = some x) : tplace l x.path = i := by
  have h1 := place_cut hr x.path hx
  rw [lt_irr] at h1
  have h2 := of_decide_eq_false h1.symm
  rcases Nat.lt_or_ge (tplace l x.path) i with h | h
  · obtain ⟨y, hy⟩ : ∃ y, l[tplace l x.path]? = some y := ⟨_, List.getElem?_eq_getElem (by have := (List.getElem?_eq_some_iff.1 hx).1; omega)⟩
    have h3 := place_cut hr x.path hy
    rw [rise_lt hr hy hx h] at h3
    have := of_decide_eq_true h3.symm
    omega
  · omega
theorem get_place {l : List Et} (hr : Rise l) (p : ByteArray) : (∃ x, l[tplace l p]? = some x ∧ x.path = p ∧ tstands l (tplace l p) p = true ∧ tget l p = x.node) ∨ (tstands l (tplace l p) p = false ∧ tget l p = ⟨0, ⟨#[]⟩⟩) := by
  cases hs : tstands l (tplace l p) p with
  | true =>
    left
    rw [tstands] at hs
    cases hx : l[tplace l p]? with
    | none => rw [hx] at hs; cases hs
    | some x =>
      rw [hx] at hs
      refine ⟨x, rfl, of_decide_eq_true hs, rfl, tget_hit l p _ x hx (of_decide_eq_true hs) ?_⟩
      intro y hy he
      obtain ⟨j, hj⟩ := List.getElem?_of_mem hy
      have hjk : j < tplace l p := by
        have := (List.getElem?_eq_some_iff.1 hj).1
        rw [List.length_take] at this
        omega
      rw [List.getElem?_take, if_pos hjk] at hj
      have := place_of hr hj
      rw [he] at this
      omega
  | false =>
    right
    refine ⟨rfl, tget_none l p ?_⟩
    intro y hy he
    obtain ⟨j, hj⟩ := List.getElem?_of_mem hy
    have h := place_of hr hj
    rw [he] at h
    rw [tstands, h, hj] at hs
    exact of_decide_eq_false hs he
theorem cells_two {w1 : World} {b : Nat} {u v : Value} {t : TypeId} (h : w1.heap[b]? = some (.cells #[u, v] t)) : w1.cell? ⟨b, 0, none⟩ = some u ∧ w1.cell? ⟨b, 1, none⟩ = some v ∧ ∀ k, w1.frozen? ⟨b, k, none⟩ = false := by
  refine ⟨?_, ?_, fun k => frozen_of_row w1 b k _ _ h⟩ <;> simp [World.cell?, h]
theorem two_set {w1 : World} {b : Nat} {u v x y : Value} {t : TypeId} (h : w1.heap[b]? = some (.cells #[u, v] t)) : ((w1.setCell ⟨b, 0, none⟩ x).setCell ⟨b, 1, none⟩ y).heap[b]? = some (.cells #[x, y] t) :=
  Go.heap_setCell_same _ b 1 _ _ _ (Go.heap_setCell_same _ b 0 _ _ x h)
set_option maxRecDepth 100000 in
set_option maxHeartbeats 2000000 in
theorem getR_any (a : Option Addr) (n c : Nat) (l : List Et) (p : ByteArray) (w : World) (hl : Ents w a n l) (hr : Rise l) (hn : n ≤ 1000000000000) :
    Calls Tryz.prog 139 #[.slice a n c, .string p] w fun e w' => e = .returned (nv (tget l p)) ∧ Below w.heap.size w w' := by
  have hB : ∀ o, Below w.heap.size w (w.alloc o) := fun o => (Below.refl _ _).alloc (Nat.le_refl _) _
  have hln := hl.1
  have hle := place_le l p
  have cp := fun W (h : Below w.heap.size w W) => place_any a n c l p W (hl.below h) hr hn
  have cs := fun W (h : Below w.heap.size w W) => stands_any a n c l (tplace l p) p W (hl.below h) hn (by omega)
  have hgp := get_place hr p
  have HL := Lib.hid hl
  obtain ⟨r, hR⟩ : ∃ r, r = tplace l p := ⟨_, rfl⟩
  rw [← hR] at cp cs hgp hle
  have HR := Lib.hid hr
  clear hr hR hl
  rcases hgp with ⟨x, hx, hp, hs, hg⟩ | ⟨hs, hg⟩
  · obtain ⟨b, off, rfl, hb, c1, c2, c3⟩ := HL.out.nth hx
    have hlt : r < n := by rw [← hln]; exact (List.getElem?_eq_some_iff.1 hx).1
    have hltz : (r : Int) < (n : Int) := by omega
    rw [hg]
    rw [hs] at cs
    obtain ⟨P, K, D⟩ := x
    simp only at c1 c2 c3
    clear hx hp hg hs hln
    go_enter Tryz.func139, Tryz.ntmps139
    go_wp2_with fail
    go_at_call 162
    refine (cp _ (hB _)).mono ?_
    rintro e w1 ⟨rfl, hb1⟩
    have hB1 := below_call (hB _) hb1
    have hblk := hb1.block w.heap.size (by simp)
    rw [heap_alloc_new] at hblk
    obtain ⟨e1, e2, e3⟩ := cells_two hblk
    have d2 := (hB1.cell (p := ⟨b, _, none⟩) hb).trans c2
    have d3 := (hB1.cell (p := ⟨b, _, none⟩) hb).trans c3
    clear c1 c2 c3
    go_wp2_with fail
    go_at_call 163
    refine (cs _ hB1).mono ?_
    rintro e w2 ⟨rfl, rfl⟩
    go_wp2_with fail
    refine bodyPost_ret (results_cell_row rfl _ _ _ _ _ _ _ rfl (two_set hblk) Tryz.underlying71 rfl infoN) rfl ?_
    exact ⟨rfl, (hB1.setCell (Nat.le_refl _) _).setCell (Nat.le_refl _) _⟩
  · rw [hg]
    rw [hs] at cs
    clear hg hs hln
    go_enter Tryz.func139, Tryz.ntmps139
    go_wp2_with fail
    go_at_call 162
    refine (cp _ (hB _)).mono ?_
    rintro e w1 ⟨rfl, hb1⟩
    have hB1 := below_call (hB _) hb1
    have hblk := hb1.block w.heap.size (by simp)
    rw [heap_alloc_new] at hblk
    obtain ⟨e1, e2, e3⟩ := cells_two hblk
    go_wp2_with fail
    go_at_call 163
    refine (cs _ hB1).mono ?_
    rintro e w2 ⟨rfl, rfl⟩
    go_wp2_with fail
    refine bodyPost_ret (results_cell_row rfl _ _ _ _ _ _ _ rfl (two_set hblk) Tryz.underlying71 rfl infoN) rfl ?_
    exact ⟨rfl, (hB1.setCell (Nat.le_refl _) _).setCell (Nat.le_refl _) _⟩
end Go.Proofs.YtdkgkomjbpggeaaGreatDoor.En

namespace Go.Proofs.YtdkgkomjbpggeaaGreatDoor.En
open Go.RowKit Tx Pm Pr
set_option linter.unusedVariables false
def isdir (n : Nd) : Bool := decide (n.kind = 1) && decide (n.data = ⟨#[]⟩)
def inF (l : List Et) (p : ByteArray) : Bool := decide (par p.data.toList = []) || isdir (tget l (tb (par p.data.toList)))
set_option maxRecDepth 100000 in
set_option maxHeartbeats 2000000 in
theorem inFolder_any (a : Option Addr) (n c : Nat) (l : List Et) (p : ByteArray) (w : World) (hl : Ents w a n l) (hr : Rise l) (hn : n ≤ 1000000000000) (hp : p.size ≤ 8000000000000) :
    Calls Tryz.prog 104 #[.slice a n c, .string p] w fun e w' => e = .returned (.bool (inF l p)) ∧ Below w.heap.size w w' := by
  have cp := fun W => pParent_any p W (by omega)
  have cg := fun W (h : Below w.heap.size w W) => getR_any a n c l (tb (par p.data.toList)) W (hl.below h) hr hn
  have hgN := guardN
  unfold nv at cg
  by_cases hpar : par p.data.toList = []
  · have hv : inF l p = true := by rw [inF, decide_eq_true hpar]; rfl
    have e := tb_nil hpar
    rw [hv]
    obtain ⟨R, hR⟩ : ∃ R, R = tb (par p.data.toList) := ⟨_, rfl⟩
    rw [← hR] at cp e
    clear cg hv hpar hR hl hr
    go_enter Tryz.func104, Tryz.ntmps104
    go_wp2_with fail
    go_at_call 132
    refine (cp _).mono ?_
    rintro e w1 ⟨rfl, hb1⟩
    go_wp2_with fail
    go_ret
    exact ⟨rfl, hb1⟩
  · have hv : inF l p = isdir (tget l (tb (par p.data.toList))) := by rw [inF, decide_eq_false hpar, Bool.false_or]
    have e := tb_ne hpar
    rw [hv]
    obtain ⟨R, hR⟩ : ∃ R, R = tb (par p.data.toList) := ⟨_, rfl⟩
    rw [← hR] at cp e cg ⊢
    obtain ⟨N, hN⟩ : ∃ N, N = tget l R := ⟨_, rfl⟩
    rw [← hN] at cg ⊢
    obtain ⟨K, D⟩ := N
    simp only at cg
    clear hv hpar hR hl hr hN
    by_cases hK : K = 1
    · by_cases hD : D = ⟨#[]⟩
      · have hv : isdir ⟨K, D⟩ = true := by rw [isdir, decide_eq_true hK, decide_eq_true hD]; rfl
        have e2 := is_empty hD
        rw [hv]
        subst hK hD
        clear hv
        go_enter Tryz.func104, Tryz.ntmps104
        go_wp2_with fail
        go_at_call 132
        refine (cp _).mono ?_
        rintro e w1 ⟨rfl, hb1⟩
        go_wp2_with fail
        go_at_call 139
        refine (cg _ hb1).mono ?_
        rintro e w2 ⟨rfl, hb2⟩
        go_wp2_with fail
        go_ret
        exact ⟨rfl, below_call hb1 hb2⟩
      · have hv : isdir ⟨K, D⟩ = false := by rw [isdir, decide_eq_false hD, Bool.and_false]
        have e2 := not_empty hD
        have e3 := bytes_ne hD
        rw [hv]
        subst hK
        clear hv hD
        go_enter Tryz.func104, Tryz.ntmps104
        go_wp2_with fail
        go_at_call 132
        refine (cp _).mono ?_
        rintro e w1 ⟨rfl, hb1⟩
        go_wp2_with fail
        go_at_call 139
        refine (cg _ hb1).mono ?_
        rintro e w2 ⟨rfl, hb2⟩
        go_wp2_with fail
        go_ret
        exact ⟨rfl, below_call hb1 hb2⟩
    · have hv : isdir ⟨K, D⟩ = false := by rw [isdir, decide_eq_false hK, Bool.false_and]
      have e2 : ((K : Int) == 1) = false := beq_eq_false_iff_ne.2 hK
      rw [hv]
      clear hv hK
      go_enter Tryz.func104, Tryz.ntmps104
      go_wp2_with fail
      go_at_call 132
      refine (cp _).mono ?_
      rintro e w1 ⟨rfl, hb1⟩
      go_wp2_with fail
      go_at_call 139
      refine (cg _ hb1).mono ?_
      rintro e w2 ⟨rfl, hb2⟩
      go_wp2_with fail
      go_ret
      exact ⟨rfl, below_call hb1 hb2⟩
def ahead (l : List Et) (p : ByteArray) : Bool := match l[l.length - 1]? with
  | some y => less y.path p
  | none => true
def fol (l : List Et) (x : Et) : Bool := decide (chk x.path.data.toList 5 = 0) && (ahead l x.path && (whole x.node && (!isno x.node && inF l x.path)))
set_option maxRecDepth 100000 in
set_option maxHeartbeats 4000000 in
theorem follows_any (a : Option Addr) (n c : Nat) (l : List Et) (x : Et) (w : World) (hl : Ents w a n l) (hr : Rise l) (hn : n ≤ 1000000000000) (hs : x.path.size ≤ 8000000000000 ∧ x.node.data.size ≤ 8000000000000) :
    Calls Tryz.prog 66 #[.slice a n c, ev x] w fun e w' => e = .returned (.bool (fol l x)) ∧ Below w.heap.size w w' := by
  obtain ⟨P, K, D⟩ := x
  simp only at hs
  obtain ⟨hs1, hs2⟩ := hs
  have hB : ∀ o, Below w.heap.size w (w.alloc o) := fun o => (Below.refl _ _).alloc (Nat.le_refl _) _
  have cc := fun W => pCheck_any P 5 W (by omega) (by omega) (by omega)
  have cw := fun W => tWhole_any ⟨K, D⟩ W (by show D.size ≤ _; omega)
  have ci := fun W => isNone_any ⟨K, D⟩ W
  have cf := fun W (h : Below w.heap.size w W) => inFolder_any a n c l P W (hl.below h) hr hn hs1
  have htwo := chk_two P.data.toList 5
  have hln := hl.1
  have hfol : fol l ⟨P, K, D⟩ = (decide (chk P.data.toList 5 = 0) && (ahead l P && (whole ⟨K, D⟩ && (!isno ⟨K, D⟩ && inF l P)))) := rfl
  rw [hfol]
  unfold ev
  unfold nv at cw ci
  obtain ⟨C, hC⟩ : ∃ C, C = chk P.data.toList 5 := ⟨_, rfl⟩
  obtain ⟨V, hV⟩ : ∃ V, V = whole ⟨K, D⟩ := ⟨_, rfl⟩
  obtain ⟨O, hO⟩ : ∃ O, O = isno ⟨K, D⟩ := ⟨_, rfl⟩
  obtain ⟨F, hF⟩ : ∃ F, F = inF l P := ⟨_, rfl⟩
  rw [← hC] at cc htwo
  rw [← hV] at cw
  rw [← hO] at ci
  rw [← hC, ← hV, ← hO, ← hF]
  rw [← hF] at cf
  have HL := Lib.hid hl
  clear hC hV hO hF hfol hl hr
  obtain ⟨blk, hblk⟩ : ∃ o, o = Obj.cells #[.string P, .int .i64 K, .string D] 73 := ⟨_, rfl⟩
  have hfr : ∀ W, Below (w.alloc blk).heap.size (w.alloc blk) W → W.cell? ⟨w.heap.size, 0, none⟩ = some (.string P) ∧ W.cell? ⟨w.heap.size, 1, none⟩ = some (.int .i64 K) ∧ W.cell? ⟨w.heap.size, 2, none⟩ = some (.string D) := by
    intro W hW
    subst hblk
    have hlt : w.heap.size < (w.alloc (.cells #[.string P, .int .i64 K, .string D] 73)).heap.size := by simp
    refine ⟨(hW.cell (p := ⟨w.heap.size, _, none⟩) hlt).trans ?_, (hW.cell (p := ⟨w.heap.size, _, none⟩) hlt).trans ?_, (hW.cell (p := ⟨w.heap.size, _, none⟩) hlt).trans ?_⟩ <;> simp
  have HFR := Lib.hid hfr
  have HBL := Lib.hid hblk
  clear hfr
  rcases htwo with rfl | rfl
  case inr =>
    clear cw ci cf HFR HBL hblk
    go_enter Tryz.func66, Tryz.ntmps66
    go_wp2_with fail
    go_at_call 101
    refine (cc _).mono ?_
    rintro e w1 ⟨rfl, hb1⟩
    have hB1 := below_call (hB _) hb1
    go_wp2_with fail
    go_ret
    exact ⟨rfl, hB1⟩
  rw [show decide ((0 : Nat) = 0) = true from rfl, Bool.true_and]
  by_cases h0 : n = 0
  · have ha : ahead l P = true := by
      obtain rfl : l = [] := List.length_eq_zero_iff.1 (by omega)
      rfl
    rw [ha, Bool.true_and]
    subst h0
    clear ha hln
    go_enter Tryz.func66, Tryz.ntmps66
    go_wp2_with fail
    go_at_call 101
    refine (cc _).mono ?_
    rintro e w1 ⟨rfl, hb1⟩
    have hB1 := below_call (hB _) hb1
    rw [← hblk] at hb1
    obtain ⟨f1, f2, f3⟩ := HFR.out w1 hb1
    go_wp2_with fail
    go_quiet (fail)
    have hb2 := below_drewN hb1 nq
    have hB2 := below_drewN hB1 nq
    clear f1 f2 f3
    obtain ⟨f1, f2, f3⟩ := HFR.out _ hb2
    go_wp2_with fail
    go_at_call 102
    refine (cw _).mono ?_
    rintro e w3 ⟨rfl, hb⟩
    have hb3 := below_call hb2 hb
    have hB3 := below_call hB2 hb
    clear hb hb1 hb2 hB1 hB2 f1 f2 f3
    obtain ⟨f1, f2, f3⟩ := HFR.out _ hb3
    cases V with
    | false =>
      go_wp2_with fail
      go_ret
      exact ⟨rfl, hB3⟩
    | true =>
      go_wp2_with fail
      go_at_call 103
      refine (ci _).mono ?_
      rintro e w4 ⟨rfl, hb⟩
      have hb4 := below_call hb3 hb
      have hB4 := below_call hB3 hb
      clear hb hb3 hB3 f1 f2 f3
      obtain ⟨f1, f2, f3⟩ := HFR.out _ hb4
      cases O with
      | true =>
        go_wp2_with fail
        go_ret
        exact ⟨rfl, hB4⟩
      | false =>
        go_wp2_with fail
        go_at_call 104
        refine (cf _ hB4).mono ?_
        rintro e w5 ⟨rfl, hb⟩
        go_wp2_with fail
        go_ret
        exact ⟨rfl, below_call hB4 hb⟩
  · obtain ⟨y, hy⟩ : ∃ y, l[l.length - 1]? = some y := ⟨_, List.getElem?_eq_getElem (by omega)⟩
    have ha : ahead l P = less y.path P := by rw [ahead, hy]
    obtain ⟨b, off, rfl, hb, c1, _⟩ := HL.out.nth hy
    obtain ⟨m, rfl⟩ : ∃ m, n = m + 1 := ⟨n - 1, by omega⟩
    rw [hln, Nat.add_sub_cancel] at c1
    have hsub : ((m + 1 : Nat) : Int) - 1 = m := by omega
    have hpos : ((m + 1 : Nat) : Int) > 0 := by omega
    obtain ⟨Y, hY⟩ : ∃ Y, Y = y.path := ⟨_, rfl⟩
    rw [← hY] at c1 ha
    rw [ha]
    cases hless : less Y P with
    | false =>
      have hless2 : Op.bytesLess Y.toList P.toList = false := hless
      clear ha hln hy hY hless h0
      go_enter Tryz.func66, Tryz.ntmps66
      go_wp2_with fail
      go_at_call 101
      refine (cc _).mono ?_
      rintro e w1 ⟨rfl, hb1⟩
      have hB1 := below_call (hB _) hb1
      rw [← hblk] at hb1
      obtain ⟨f1, f2, f3⟩ := HFR.out w1 hb1
      have d1 := (hB1.cell (p := ⟨b, _, none⟩) hb).trans c1
      clear c1
      go_wp2_with fail
      go_quiet (fail)
      have hb2 := below_drewN hb1 nq
      have hB2 := below_drewN hB1 nq
      clear f1 f2 f3
      obtain ⟨f1, f2, f3⟩ := HFR.out _ hb2
      go_wp2_with fail
      go_ret
      exact ⟨rfl, hB2⟩
    | true =>
      have hless2 : Op.bytesLess Y.toList P.toList = true := hless
      rw [Bool.true_and]
      clear ha hln hy hY hless h0
      go_enter Tryz.func66, Tryz.ntmps66
      go_wp2_with fail
      go_at_call 101
      refine (cc _).mono ?_
      rintro e w1 ⟨rfl, hb1⟩
      have hB1 := below_call (hB _) hb1
      rw [← hblk] at hb1
      obtain ⟨f1, f2, f3⟩ := HFR.out w1 hb1
      have d1 := (hB1.cell (p := ⟨b, _, none⟩) hb).trans c1
      clear c1
      go_wp2_with fail
      go_quiet (fail)
      have hb2 := below_drewN hb1 nq
      have hB2 := below_drewN hB1 nq
      clear f1 f2 f3
      obtain ⟨f1, f2, f3⟩ := HFR.out _ hb2
      go_wp2_with fail
      go_at_call 102
      refine (cw _).mono ?_
      rintro e w3 ⟨rfl, hb⟩
      have hb3 := below_call hb2 hb
      have hB3 := below_call hB2 hb
      clear hb hb1 hb2 hB1 hB2 f1 f2 f3
      obtain ⟨f1, f2, f3⟩ := HFR.out _ hb3
      cases V with
      | false =>
        go_wp2_with fail
        go_ret
        exact ⟨rfl, hB3⟩
      | true =>
        go_wp2_with fail
        go_at_call 103
        refine (ci _).mono ?_
        rintro e w4 ⟨rfl, hb⟩
        have hb4 := below_call hb3 hb
        have hB4 := below_call hB3 hb
        clear hb hb3 hB3 f1 f2 f3
        obtain ⟨f1, f2, f3⟩ := HFR.out _ hb4
        cases O with
        | true =>
          go_wp2_with fail
          go_ret
          exact ⟨rfl, hB4⟩
        | false =>
          go_wp2_with fail
          go_at_call 104
          refine (cf _ hB4).mono ?_
          rintro e w5 ⟨rfl, hb⟩
          go_wp2_with fail
          go_ret
          exact ⟨rfl, below_call hB4 hb⟩
end Go.Proofs.YtdkgkomjbpggeaaGreatDoor.En

namespace Go.Proofs.YtdkgkomjbpggeaaGreatDoor.En
open Go.RowKit Tx Pm Pr
set_option linter.unusedVariables false
theorem rise_nil : Rise [] := List.Pairwise.nil
theorem rise_snoc {l : List Et} {x : Et} (h : Rise l) (ha : ahead l x.path = true) : Rise (l ++ [x]) := by
  unfold Rise
  rw [List.map_append]
  refine List.pairwise_append.2 ⟨h, List.pairwise_singleton _ _, fun a hm b hb => ?_⟩
  rw [List.map_cons, List.map_nil, List.mem_singleton] at hb
  subst hb
  obtain ⟨y, hy, rfl⟩ := List.mem_map.1 hm
  obtain ⟨i, hi⟩ := List.getElem?_of_mem hy
  have hlt := (List.getElem?_eq_some_iff.1 hi).1
  obtain ⟨z, hz⟩ : ∃ z, l[l.length - 1]? = some z := ⟨_, List.getElem?_eq_getElem (by omega)⟩
  rw [ahead, hz] at ha
  by_cases e : i = l.length - 1
  · rw [← e, hi] at hz
    injection hz with hz
    rw [hz]
    exact ha
  · exact lt_trans (rise_lt h hi hz (by omega)) ha
def fols (l : List Et) (k : Nat) : Prop := ∀ i x, i < k → l[i]? = some x → fol (l.take i) x = true
theorem fol_parts {l : List Et} {x : Et} (h : fol l x = true) : chk x.path.data.toList 5 = 0 ∧ ahead l x.path = true ∧ whole x.node = true ∧ isno x.node = false ∧ inF l x.path = true := by
  unfold fol at h
  simp only [Bool.and_eq_true, decide_eq_true_eq, Bool.not_eq_true'] at h
  exact h
theorem take_snoc {l : List Et} {k : Nat} {x : Et} (h : l[k]? = some x) : l.take (k + 1) = l.take k ++ [x] := by
  obtain ⟨hk, he⟩ := List.getElem?_eq_some_iff.1 h
  rw [List.take_succ_eq_append_getElem hk, he]
theorem fols_rise {l : List Et} : ∀ {k : Nat}, k ≤ l.length → fols l k → Rise (l.take k)
  | 0, _, _ => rise_nil
  | k + 1, hk, h => by
    obtain ⟨x, hx⟩ : ∃ x, l[k]? = some x := ⟨_, List.getElem?_eq_getElem (by omega)⟩
    rw [take_snoc hx]
    exact rise_snoc (fols_rise (by omega) (fun i y hi hy => h i y (by omega) hy)) (fol_parts (h k x (by omega) hx)).2.1
theorem fols_next {l : List Et} {k : Nat} {x : Et} (h : fols l k) (hx : l[k]? = some x) (hf : fol (l.take k) x = true) : fols l (k + 1) := by
  intro i y hi hy
  rcases Nat.lt_or_ge i k with h2 | h2
  · exact h i y h2 hy
  · obtain rfl : i = k := by omega
    rw [hx] at hy
    injection hy with hy
    rw [← hy]
    exact hf
theorem tget_take {l : List Et} {p : ByteArray} {k : Nat} (h : (tget (l.take k) p).kind ≠ 0) : tget l p = tget (l.take k) p := by
  unfold tget at h ⊢
  cases hf : (l.take k).find? (fun x => decide (x.path = p)) with
  | none => rw [hf] at h; exact absurd rfl h
  | some x =>
    rw [show l.find? (fun x => decide (x.path = p)) = some x by
      rw [← List.take_append_drop k l, List.find?_append, hf]
      rfl]
theorem isdir_kind {n : Nd} (h : isdir n = true) : n = ⟨1, ⟨#[]⟩⟩ := by
  unfold isdir at h
  simp only [Bool.and_eq_true, decide_eq_true_eq] at h
  obtain ⟨k, d⟩ := n
  simp only at h
  rw [h.1, h.2]
theorem whole_dir {n : Nd} (h : whole n = true) (hk : n.kind = 1) : isdir n = true := by
  unfold whole at h
  rw [if_neg (by omega)] at h
  simp only [Bool.and_eq_true, decide_eq_true_eq] at h
  unfold isdir
  rw [decide_eq_true hk, decide_eq_true (size_zero.1 h.2)]
  rfl
theorem whole_no {n : Nd} (h : whole n = true) : isno n = decide (n.kind = 0) := by
  by_cases hk : n.kind = 0
  · unfold whole at h
    rw [if_neg (by omega)] at h
    simp only [Bool.and_eq_true, decide_eq_true_eq] at h
    unfold isno
    rw [decide_eq_true hk, decide_eq_true (size_zero.1 h.2)]
    rfl
  · unfold isno
    rw [decide_eq_false hk, Bool.false_and]
theorem fols_check {l : List Et} (h : fols l l.length) (hn : l.length ≤ 200) : tcheck l = 0 := by
  refine tcheck_good (fun i hi => ?_) hn
  obtain ⟨x, hx⟩ : ∃ x, l[i]? = some x := ⟨_, List.getElem?_eq_getElem hi⟩
  obtain ⟨h1, h2, h3, h4, h5⟩ := fol_parts (h i x hi hx)
  rw [whole_no h3] at h4
  have e1 : (decide (i = 0) || (match l[i - 1]? with | some y => Op.bytesLess y.path.toList x.path.toList | none => true)) = true := by
    by_cases h0 : i = 0
    · rw [decide_eq_true h0]; rfl
    · obtain ⟨y, hy⟩ : ∃ y, l[i - 1]? = some y := ⟨_, List.getElem?_eq_getElem (by omega)⟩
      have hl : (l.take i).length = i := by rw [List.length_take]; omega
      rw [ahead, hl, List.getElem?_take, if_pos (by omega), hy] at h2
      rw [hy, decide_eq_false h0]
      exact h2
  have e2 : (decide (par x.path.data.toList = []) || decide ((tget l (tb (par x.path.data.toList))).kind = 1)) = true := by
    unfold inF at h5
    rcases Bool.or_eq_true _ _ ▸ h5 with hp | hd
    · rw [hp]; rfl
    · have hk := isdir_kind hd
      have hg := tget_take (l := l) (k := i) (p := tb (par x.path.data.toList)) (by rw [hk]; decide)
      rw [hg, hk]
      simp
  rw [okAt_eq hx]
  simp only [Bool.and_eq_true]
  exact ⟨⟨⟨⟨by rw [h1]; rfl, h3⟩, by rw [h4]; rfl⟩, e1⟩, e2⟩
theorem par_less {p : ByteArray} (h : par p.data.toList ≠ []) : less (tb (par p.data.toList)) p = true := by
  have hb : p.data.toList = par p.data.toList ++ 47 :: bas p.data.toList := by
    rcases par_bas p.data.toList with ⟨_, h2, _⟩ | h2
    · exact absurd h2 h
    · exact h2
  have := less_app (par p.data.toList) (bas p.data.toList) 47
  rw [← hb] at this
  unfold less
  rw [ByteArray.toList_eq, ByteArray.toList_eq, tb_list]
  exact this
theorem tree_par {l : List Et} (h : tcheck l = 0) {i : Nat} {x : Et} (hx : l[i]? = some x) (hp : par x.path.data.toList ≠ []) : (tget l (tb (par x.path.data.toList))).kind = 1 := by
  have hi := (List.getElem?_eq_some_iff.1 hx).1
  have hok : okAt l i = true := by
    unfold tcheck at h
    split at h
    · cases h
    · split at h
      · next hall => exact List.all_eq_true.1 hall i (List.mem_range.2 hi)
      · cases h
  rw [okAt_eq hx] at hok
  simp only [Bool.and_eq_true, Bool.or_eq_true, decide_eq_true_eq, Bool.not_eq_true', decide_eq_false_iff_not] at hok
  exact hok.2.resolve_left hp
theorem check_fols {l : List Et} (h : tcheck l = 0) : ∀ i x, l[i]? = some x → fol (l.take i) x = true := by
  intro i x hx
  have hi := (List.getElem?_eq_some_iff.1 hx).1
  obtain ⟨h1, h3, h4', h4⟩ := tree_at h hx
  have e1 : ahead (l.take i) x.path = true := by
    have hl : (l.take i).length = i := by rw [List.length_take]; omega
    rcases h4 with rfl | ⟨y, hy, hlt⟩
    · rfl
    · by_cases h0 : i = 0
      · subst h0; rfl
      · rw [ahead, hl, List.getElem?_take, if_pos (by omega), hy]
        exact hlt
  have e2 : inF (l.take i) x.path = true := by
    unfold inF
    by_cases hp : par x.path.data.toList = []
    · rw [decide_eq_true hp]; rfl
    · have hk := tree_par h hx hp
      have hm := (tree_path_mem h (tb (par x.path.data.toList))).2 (by rw [hk]; decide)
      obtain ⟨z, hz, hzp⟩ := List.mem_map.1 hm
      obtain ⟨j, hj⟩ := List.getElem?_of_mem hz
      have hless := par_less hp
      rw [← hzp] at hless
      have hji : j < i := by
        rcases Nat.lt_or_ge j i with h5 | h5
        · exact h5
        · rcases Nat.lt_or_eq_of_le h5 with h6 | h6
          · have := tree_rise h j i x z hx hj h6
            rw [lt_asymm this] at hless
            cases hless
          · subst h6
            rw [hx] at hj
            injection hj with hj
            rw [hj, lt_irr] at hless
            cases hless
      have hg := tree_get h hz
      rw [hzp] at hg
      have hd := whole_dir (tree_at h hj).2.1 (by rw [← hg]; exact hk)
      have hjt : (l.take i)[j]? = some z := by rw [List.getElem?_take, if_pos hji]; exact hj
      have hgt : tget (l.take i) (tb (par x.path.data.toList)) = z.node := by
        refine tget_hit _ _ j z hjt hzp (fun y hy e => ?_)
        obtain ⟨m, hm⟩ := List.getElem?_of_mem hy
        have hmj : m < j := by
          have := (List.getElem?_eq_some_iff.1 hm).1
          rw [List.length_take] at this
          omega
        rw [List.getElem?_take, if_pos hmj, List.getElem?_take, if_pos (by omega)] at hm
        have := tree_rise h j m y z hm hj hmj
        rw [e, hzp, lt_irr] at this
        cases this
      rw [hgt, hd, Bool.or_true]
  unfold fol
  rw [h1, e1, h3, whole_no h3, decide_eq_false h4', e2]
  rfl
theorem check_bad {l : List Et} {i : Nat} {x : Et} (hx : l[i]? = some x) (hf : fol (l.take i) x = false) (hn : l.length ≤ 200) : tcheck l = 3 := by
  have h0 : tcheck l ≠ 0 := fun h => by
    rw [check_fols h i x hx] at hf
    cases hf
  unfold tcheck at h0 ⊢
  rw [if_neg (by omega)] at h0 ⊢
  split
  · next hall => rw [if_pos hall] at h0; exact absurd rfl h0
  · rfl
end Go.Proofs.YtdkgkomjbpggeaaGreatDoor.En

namespace Go.Proofs.YtdkgkomjbpggeaaGreatDoor.En
open Go.RowKit Tx Pm Pr
set_option linter.unusedVariables false
set_option maxRecDepth 100000 in
set_option maxHeartbeats 4000000 in
theorem tCheck_any (a : Option Addr) (n c : Nat) (l : List Et) (w : World) (hl : Ents w a n l) (hcap : n ≤ c) (hcm : c ≤ 9223372036854775807) (hn : n ≤ 1000000000) (hs : Small l) :
    Calls Tryz.prog 30 #[.slice a n c] w fun e w' => e = .returned (.int .i64 (tcheck l : Nat)) ∧ Below w.heap.size w w' := by
  have hln := hl.1
  by_cases hbig : 200 < n
  · have e : tcheck l = 4 := by rw [tcheck, if_pos (by omega)]
    rw [e]
    clear e hln hl
    go_enter Tryz.func30, Tryz.ntmps30
    go_wp2
    go_ret
    exact ⟨rfl, Below.refl _ _⟩
  by_cases h0 : n = 0
  · subst h0
    obtain rfl : l = [] := List.length_eq_zero_iff.1 hln
    have e : tcheck [] = 0 := rfl
    rw [e]
    clear hl hs e hbig
    go_enter Tryz.func30, Tryz.ntmps30
    go_wp2
    go_loop [10] (fun i => i = .int .i64 0) (fun _ => 0)
    case atStart => exact rfl
    case round =>
      obtain rfl := hrel
      go_wp2
      go_ret
      exact ⟨rfl, Below.refl _ _⟩
  have hE : Hid (Ents w a n l) := hl
  obtain ⟨b, off, rfl, hb, hc⟩ := hl.2.resolve_left h0
  have HC := Lib.hid hc
  have HS := Lib.hid hs
  have HBAD := Lib.hid (fun i x (hx : l[i]? = some x) (hf : fol (l.take i) x = false) => check_bad hx hf (by omega))
  have HGOOD := Lib.hid (fun h : fols l l.length => fols_check h (by omega))
  obtain ⟨T, hT⟩ : ∃ T, T = tcheck l := ⟨_, rfl⟩
  rw [← hT] at HBAD HGOOD
  rw [← hT]
  clear hc h0 hs hT hl
  go_enter Tryz.func30, Tryz.ntmps30
  go_wp2_with fail
  go_loopw [10] (fun i wr => ∃ k : Nat, k ≤ n ∧ i = .int .i64 k ∧ Hid (fols l k) ∧ Below w.heap.size w wr) (fun i _ => n - (intOf i).toNat)
  case atStart => exact ⟨0, Nat.zero_le _, rfl, (fun i x hi _ => absurd hi (Nat.not_lt_zero _)), Below.refl _ _⟩
  case round =>
    obtain ⟨k, hk, rfl, hgood, hB⟩ := hrel
    by_cases hlt : k < n
    · obtain ⟨x, hx⟩ : ∃ x, l[k]? = some x := ⟨_, List.getElem?_eq_getElem (by omega)⟩
      obtain ⟨c1, c2, c3⟩ := HC.out k x hx
      have hxs := HS.out x (List.mem_of_getElem? hx)
      have hri := Lib.hid (fols_rise (by omega) hgood.out)
      have cf := fun W (hW : Below w.heap.size w W) => follows_any (some ⟨b, off, none⟩) k c (l.take k) x W ((hE.out.below hW).take (by omega)) hri.out (by omega) hxs
      have hbad := HBAD.out k x hx
      have hnext := fun hf => fols_next hgood.out hx hf
      have d1 := (hB.cell (p := ⟨b, _, none⟩) hb).trans c1
      have d2 := (hB.cell (p := ⟨b, _, none⟩) hb).trans c2
      have d3 := (hB.cell (p := ⟨b, _, none⟩) hb).trans c3
      obtain ⟨F, hF⟩ : ∃ F, F = fol (l.take k) x := ⟨_, rfl⟩
      rw [← hF] at cf hbad hnext
      obtain ⟨P, K, D⟩ := x
      unfold ev at cf
      simp only at d1 d2 d3 cf
      have hltz : (k : Int) < (n : Int) := by omega
      have hkc : k ≤ c := by omega
      clear c1 c2 c3 hx hxs hF hgood hln
      cases F with
      | true =>
        have HN := Lib.hid (hnext rfl)
        clear hnext hbad
        go_wp2_with fail
        have hB2 := hB.alloc hB.size (.cells #[.string P, .int .i64 K, .string D] 73)
        go_region_with (go_at_call 66; refine (cf _ hB2.drew).mono ?_; rintro e w2 ⟨rfl, hb2⟩)
        all_goals
          have hB3 := below_call hB2.drew hb2
          go_wp2_with fail
          go_roundw
          case rel => exact ⟨k + 1, by omega, by go_num, HN, hB3⟩
          case measure => simp [intOf]; omega
      | false =>
        have hT := hbad rfl
        subst hT
        clear hnext hbad
        go_wp2_with fail
        have hB2 := hB.alloc hB.size (.cells #[.string P, .int .i64 K, .string D] 73)
        go_region_with (go_at_call 66; refine (cf _ hB2.drew).mono ?_; rintro e w2 ⟨rfl, hb2⟩)
        all_goals
          have hB3 := below_call hB2.drew hb2
          go_wp2_with fail
          go_ret
          exact ⟨rfl, hB3⟩
    · obtain rfl : k = n := by omega
      have hT := HGOOD.out (fun i x hi hx => hgood.out i x (by omega) hx)
      subst hT
      clear hgood hln
      go_wp2_with fail
      go_ret
      exact ⟨rfl, hB⟩
end Go.Proofs.YtdkgkomjbpggeaaGreatDoor.En

namespace Go.Proofs.YtdkgkomjbpggeaaGreatDoor.Az
open Go.RowKit Tx Pm Dk Wm Wr Wl Pl Tb Bl Fm
open Fr hiding sv Texts cnt cnt_snoc
open En (Et tcheck)
open Ac (Ar upd upd_same upd_other files saveA turnA backA forgetA calm Kd)
set_option linter.unusedVariables false
set_option linter.unusedSimpArgs false
set_option linter.unnecessarySimpa false
theorem ext_all (v : ByteArray) : v.extract 0 v.size = v := by
  apply ba_ext
  rw [ByteArray.data_extract, Array.toList_extract]
  simp only [List.extract_eq_take_drop, List.drop_zero, Nat.sub_zero]
  rw [← Wm.len_l v, List.take_length]
theorem zero_list : (⟨#[0]⟩ : ByteArray).toList = [0] := by rw [ByteArray.toList_eq]
def nilK : Value := .agg #[.slice none 0 0, .slice none 0 0]
theorem kept_at {W W1 : World} {B : Nat} {u v : Value} (h : W.heap[B]? = some (kO u v)) (hb : Below W.heap.size W W1) : W1.heap[B]? = some (kO u v) := (hb.block B (Array.getElem?_eq_some_iff.1 h).1).trans h
set_option maxRecDepth 100000 in
set_option maxHeartbeats 2000000 in
theorem read_bad (ub : Nat) (v : ByteArray) (w : World) (hb : Bad v) (hs : v.size ≤ 100000000) : Calls Tryz.prog 40 #[.pointer (some ⟨ub, 0, none⟩), .string v] w fun e w' => e = .returned (.tuple #[nilK, .bool false]) ∧ Below w.heap.size w w' := by
  have c := fun V => fRead_any v 0 V (by omega) (by omega) (by omega)
  obtain ⟨t, n, e0, h⟩ := trip (fr v)
  have hf : fr (v.extract 0 v.size) = (t, n, e0) := by rw [ext_all]; exact h
  have HB0 := Lib.hid ((Below.refl _ w).alloc (Nat.le_refl _) (kO (.slice none 0 0) (.slice none 0 0)))
  have HN0 := Lib.hid (new_at w (kO (.slice none 0 0) (.slice none 0 0)) (g := w.heap.size) rfl)
  unfold nilK
  by_cases he : e0 = 0
  · subst he
    have hfa := frAt_ok (s := v) (a := 0) (Nat.zero_le _) hf
    have hn : n ≤ v.size := by have := fr_le v; rw [h] at this; exact this
    have hbr := bad_read hb h
    rw [show ((0 : Nat) : Int) = 0 from rfl] at hfa
    rw [hfa] at c
    simp only [Int.zero_add] at c
    clear hb hf hfa h
    have hne : ((v.extract n v.size).toList == (⟨#[0]⟩ : ByteArray).toList) = false := Tx.bytes_ne hbr
    have hne3 : ((v.extract n v.size).toList == [0]) = false := by rw [← zero_list]; exact hne
    clear hbr
    go_enter Tryz.func40, Tryz.ntmps40
    go_wp2_with fail
    go_at_call 63
    refine (c _).mono ?_
    rintro e w1 ⟨rfl, hb1⟩
    have hn2 : (n : Int) ≤ (v.size : Int) := by omega
    have hcz := conv_zero (w1.alloc (.cells #[.int .u8 0] 5)).drew w1.heap.size (by go_simp)
    have hb2 := ((Below.refl w1.heap.size w1).alloc (Nat.le_refl _) (.cells #[.int .u8 0] 5))
    have hz := kept_at (kept_at HN0.out hb1) hb2
    have hB2 := Tx.below_call (Tx.below_call HB0.out hb1) hb2
    obtain ⟨⟨s00, s01⟩, ⟨s10, s11⟩, s3, s4⟩ := store2 (T := 80) (v0 := .slice none 0 0) (v1 := .slice none 0 0) hz (.slice none 0 0) (.slice none 0 0)
    have HB2 := Lib.hid ((hB2.trans (s4.below hB2.size (fun b hb => by omega))).drew)
    have HS3 := Lib.hid s3
    clear c hb1 hb2 hz hB2 s3 s4
    go_wp2_with fail
    go_region
    all_goals
      go_wp2_with fail
      refine bodyPost_ret (results_cell_row_tmp rfl _ _ _ _ _ _ _ rfl HS3.out Tryz.underlying80 rfl infoKp) rfl ?_
      exact ⟨rfl, HB2.out⟩
  · have hfa := frAt_bad (s := v) (a := 0) (Nat.zero_le _) hf he
    rw [show ((0 : Nat) : Int) = 0 from rfl] at hfa
    rw [hfa] at c
    have hne := neZ he
    have hne2 : ((e0 : Int) != 0) = true := by simp; omega
    clear hb hf hfa h he
    go_enter Tryz.func40, Tryz.ntmps40
    go_wp2_with fail
    go_at_call 63
    refine (c _).mono ?_
    rintro e w1 ⟨rfl, hb1⟩
    have hb2 := Below.refl w1.heap.size w1
    have hz := kept_at (kept_at HN0.out hb1) hb2
    have hB2 := Tx.below_call (Tx.below_call HB0.out hb1) hb2
    obtain ⟨⟨s00, s01⟩, ⟨s10, s11⟩, s3, s4⟩ := store2 (T := 80) (v0 := .slice none 0 0) (v1 := .slice none 0 0) hz (.slice none 0 0) (.slice none 0 0)
    have HB2 := Lib.hid ((hB2.trans (s4.below hB2.size (fun b hb => by omega))).drew)
    have HS3 := Lib.hid s3
    clear c hb1 hb2 hz hB2 s3 s4
    go_wp2_with fail
    go_region
    all_goals
      go_wp2_with fail
      refine bodyPost_ret (results_cell_row_tmp rfl _ _ _ _ _ _ _ rfl HS3.out Tryz.underlying80 rfl infoKp) rfl ?_
      exact ⟨rfl, HB2.out⟩
theorem small_of {t : List Et} (h : ∀ x ∈ t, Eok x) : En.Small t := fun x hx => ⟨by have := (h x hx).path; omega, by have := (h x hx).data; omega⟩
set_option maxRecDepth 100000 in
set_option maxHeartbeats 4000000 in
theorem read_ok {ub : Nat} {κ : ByteArray → ByteArray} (t : List Et) (w : World) (ht : tcheck t = 0) (hκ : ∀ x ∈ t, x.node.kind = 2 → (κ x.node.data).size ≤ 14) (hbk : Ac.bk t ≤ 10000000)
    (hg : ∀ x ∈ t, x.node.kind = 2 → ∀ V, Below w.heap.size w V → Calls Tryz.prog 144 #[.pointer (some ⟨ub, 0, none⟩), .string (κ x.node.data)] V fun e w' => e = .returned (.tuple #[.string x.node.data, .int .i64 0]) ∧ Below V.heap.size V w') :
    Calls Tryz.prog 40 #[.pointer (some ⟨ub, 0, none⟩), .string (val16 κ t)] w fun e w' => ∃ v vk, e = .returned (.tuple #[.agg #[v, vk], .bool true]) ∧ En.Own w' w.heap.size v t ∧ Texts w' w.heap.size vk ((files t).map κ) ∧ Below w.heap.size w w' := by
  obtain ⟨hlen, hok⟩ := ok_all ht hbk
  obtain ⟨z1, z2, z3⟩ := val16_size (κ := κ) ht hbk hκ
  have hfr := fr_vz (cat (rpP κ t)) (by omega)
  have hrest := vz_rest (cat (rpP κ t))
  have hn : (Fm.pk (cat (rpP κ t))).size ≤ (val16 κ t).size := by unfold val16 vz; rw [ByteArray.size_append]; omega
  have c := fun V => fRead_any (val16 κ t) 0 V (by omega) (by omega) (by omega)
  have hfa := frAt_ok (s := val16 κ t) (a := 0) (Nat.zero_le _) (t := cat (rpP κ t)) (n := (Fm.pk (cat (rpP κ t))).size) (by rw [ext_all]; exact hfr)
  rw [show ((0 : Nat) : Int) = 0 from rfl] at hfa
  rw [hfa] at c
  simp only [Int.zero_add] at c
  have HR2 : Hid ((val16 κ t).extract (Fm.pk (cat (rpP κ t))).size (val16 κ t).size = ⟨#[0]⟩) := Lib.hid hrest
  have hcp := fun V (hV : Below w.heap.size w V) => parse_any (ub := ub) (κ := κ) t V hok hlen hκ hbk (fun x hx hk W hW => hg x hx hk W (Tx.below_call hV hW))
  rw [← show cat (rpP κ t) = La (rpL κ t) from cat_rp κ t] at hcp
  have HB0 := Lib.hid ((Below.refl _ w).alloc (Nat.le_refl _) (kO (.slice none 0 0) (.slice none 0 0)))
  have HN0 := Lib.hid (new_at w (kO (.slice none 0 0) (.slice none 0 0)) (g := w.heap.size) rfl)
  have hck := fun V a c (hE : En.Ents V a t.length t) (h1 : t.length ≤ c) (h2 : c ≤ maxLen) => En.tCheck_any a t.length c t V hE h1 (by unfold maxLen at h2; omega) (by omega) (small_of hok)
  rw [ht] at hck
  generalize val16 κ t = v at *
  generalize cat (rpP κ t) = r at *
  obtain ⟨n, hn3⟩ : ∃ n, n = (Fm.pk r).size := ⟨_, rfl⟩
  rw [← hn3] at c hn HR2
  have hne : ((v.extract n v.size).toList == (⟨#[0]⟩ : ByteArray).toList) = true := by rw [HR2.out]; exact beq_self_eq_true _
  have hne3 : ((v.extract n v.size).toList == [0]) = true := by rw [← zero_list]; exact hne
  clear hfr hrest hfa z1 z2 z3 hn3 hg hok hκ hlen ht hbk
  go_enter Tryz.func40, Tryz.ntmps40
  go_wp2_with fail
  go_at_call 63
  refine (c _).mono ?_
  rintro e w1 ⟨rfl, hb1⟩
  have hn2 : (n : Int) ≤ (v.size : Int) := by omega
  have hcz := conv_zero (w1.alloc (.cells #[.int .u8 0] 5)).drew w1.heap.size (by go_simp)
  have hb2 := (((Below.refl w1.heap.size w1).alloc (Nat.le_refl _) (.cells #[.int .u8 0] 5))).drew
  have HZ := Lib.hid (kept_at (kept_at HN0.out hb1) hb2)
  have HB2 := Lib.hid (Tx.below_call (Tx.below_call HB0.out hb1) hb2)
  have hp := hcp _ HB2.out
  clear c hb1 hb2 hcp
  go_wp2_with fail
  go_region
  all_goals
    go_wp2_with fail
    go_at_call 78
    refine hp.mono ?_
    rintro e w3 ⟨v3, vk, rfl, hO, hTx, hb3⟩
    obtain ⟨a, c, rfl, hE, hlc, hcm⟩ := hO.form
    have hck2 := hck (w3.alloc (kO (.slice a t.length c) vk)) a c (hE.below ((Below.refl _ _).alloc (Nat.le_refl _) _)) hlc hcm
    obtain ⟨ak, ck, hvk, _⟩ := hTx.form
    rw [List.length_map] at hvk
    subst hvk
    have hz3 := kept_at HZ.out hb3
    have hN3 := new_at w3 (kO (.slice a t.length c) (.slice ak (files t).length ck)) (g := w3.heap.size) rfl
    have hB3 := Tx.below_call HB2.out hb3
    have hgt : w.heap.size < (w1.alloc (.cells #[.int .u8 0] 5)).drew.heap.size := (Array.getElem?_eq_some_iff.1 HZ.out).1
    have HO2 := Lib.hid hO
    have HT2 := Lib.hid hTx
    have HB3 := Lib.hid hB3
    have HZ3 := Lib.hid hz3
    have HN3 := Lib.hid hN3
    clear hO hTx hE hB3 hz3 hN3 hb3
    go_wp2_with fail
    go_at_call 30
    refine hck2.mono ?_
    rintro e w4 ⟨rfl, hb4⟩
    have hb34 := Tx.below_call ((Below.refl w3.heap.size w3).alloc (Nat.le_refl _) (kO (.slice a t.length c) (.slice ak (files t).length ck))) hb4
    have hz4 := kept_at HZ3.out hb34
    have hN4 := kept_at HN3.out hb4
    have hB4 := Tx.below_call HB3.out hb34
    have k0 : w4.cell? ⟨w3.heap.size, 0, none⟩ = some (.slice a t.length c) := by unfold World.cell?; rw [hN4]; rfl
    have k1 : w4.cell? ⟨w3.heap.size, 1, none⟩ = some (.slice ak (files t).length ck) := by unfold World.cell?; rw [hN4]; rfl
    obtain ⟨⟨s00, s01⟩, ⟨s10, s11⟩, s3, s4⟩ := store2 (T := 80) (v0 := .slice none 0 0) (v1 := .slice none 0 0) hz4 (.slice a t.length c) (.slice ak (files t).length ck)
    have HB4 := Lib.hid (hB4.trans (s4.below hB4.size (fun b hb => by omega)))
    have HS3 := Lib.hid s3
    have hO4 := HO2.out.below hb34
    have hT4 := HT2.out.below hb34
    have HO4 := Lib.hid (own_less (own_chg hO4 s4 (fun g hg e => by have := (hO4.lt g hg).1; omega)) (Nat.le_of_lt hgt))
    have HT4 := Lib.hid (own_less (own_chg hT4 s4 (fun g hg e => by have := (hT4.lt g hg).1; omega)) (Nat.le_of_lt hgt))
    clear hO4 hT4 s4
    clear hck2 hck hz4 hN4 hB4 hb34 hb4 s3
    go_wp2_with fail
    refine bodyPost_ret (results_cell_row_tmp rfl _ _ _ _ _ _ _ rfl HS3.out Tryz.underlying80 rfl infoKp) rfl ?_
    exact ⟨_, _, rfl, HO4.out, HT4.out, HB4.out⟩
end Go.Proofs.YtdkgkomjbpggeaaGreatDoor.Az

namespace Go.Proofs.YtdkgkomjbpggeaaGreatDoor.Az
open Go.RowKit Tx Pm Dk Wm Wr Wl Pl Tb Bl Fm
open Fr hiding sv Texts cnt cnt_snoc
open En (Et tcheck)
open Ac (Ar upd upd_same upd_other files saveA turnA backA forgetA calm Kd)
set_option linter.unusedVariables false
set_option linter.unusedSimpArgs false
set_option linter.unnecessarySimpa false
section
variable {w0 : World × (Nat → Prop)} {W : World} {d j t m u M N i : Nat} {x : Tst} {C : List On} {Z : List It} {vals : Nat → Option ByteArray}
theorem bzgetA (h : Bz d j t m u x Z w0 C M N W) (hz : Zr Z vals) (h1 : 1 ≤ i) (h6 : i ≤ 6) : ∃ s, (∀ v, vals i = some v → s = v) ∧ ∀ V, Below W.heap.size W V → Calls Tryz.prog 38 #[.pointer (some ⟨u, 0, none⟩), .string (keyA i)] V fun e w' => e = .returned (.tuple #[.string s, .bool (vals i).isSome]) ∧ Below V.heap.size V w' := by
  obtain ⟨l, o1, o2, o3, o4, o5⟩ := h
  have hf := o4 _ (keyA_not i)
  rw [hz.1 i h1 h6] at hf
  refine ⟨overV x.L l (keyA i), fun v hv => ?_, fun V hV => ?_⟩
  · rw [hv] at hf
    exact over_val hf
  · have c := f_bget (key := keyA i) (owf_below o1 hV) (by have := keyA_size h6; omega)
    rw [over_find, hf, Option.isSome_map] at c
    exact c
end
set_option maxRecDepth 100000 in
set_option maxHeartbeats 2000000 in
theorem load_none {u i : Nat} {W : World} {s : ByteArray} (h6 : i ≤ 6) (hT : Tab W)
    (hg : ∀ V, Below W.heap.size W V → Calls Tryz.prog 38 #[.pointer (some ⟨u, 0, none⟩), .string (keyA i)] V fun e w' => e = .returned (.tuple #[.string s, .bool false]) ∧ Below V.heap.size V w') :
    Calls Tryz.prog 31 #[.pointer (some ⟨u, 0, none⟩), .int .i64 (i : Int)] W fun e w' => e = .returned (.tuple #[nilK, .int .i64 11]) ∧ Below W.heap.size W w' := by
  have HB0 := Lib.hid ((Below.refl _ W).alloc (Nat.le_refl _) (kO (.slice none 0 0) (.slice none 0 0)))
  have HN0 := Lib.hid (new_at W (kO (.slice none 0 0) (.slice none 0 0)) (g := W.heap.size) rfl)
  have ck := keyOf_any i (W.alloc (kO (.slice none 0 0) (.slice none 0 0))) h6 (hT.below HB0.out)
  unfold nilK
  go_enter Tryz.func31, Tryz.ntmps31
  go_wp2_with fail
  go_at_call 33
  refine ck.mono ?_
  rintro e w1 ⟨rfl, hb1⟩
  have HB1 := Lib.hid (Tx.below_call HB0.out hb1)
  have HZ1 := Lib.hid (kept_at HN0.out hb1)
  have c := hg _ HB1.out
  clear hg ck hb1
  go_wp2_with fail
  go_at_call 38
  refine c.mono ?_
  rintro e w2 ⟨rfl, hb2⟩
  have hz := kept_at HZ1.out hb2
  have hB2 := Tx.below_call HB1.out hb2
  obtain ⟨⟨s00, s01⟩, ⟨s10, s11⟩, s3, s4⟩ := store2 (T := 80) (v0 := .slice none 0 0) (v1 := .slice none 0 0) hz (.slice none 0 0) (.slice none 0 0)
  have HB2 := Lib.hid (hB2.trans (s4.below hB2.size (fun b hb => by omega)))
  have HS3 := Lib.hid s3
  clear c hb2 hz hB2 s3 s4
  go_wp2_with fail
  refine bodyPost_ret (results_cell_row_tmp rfl _ _ _ _ _ _ _ rfl HS3.out Tryz.underlying80 rfl infoKp) rfl ?_
  exact ⟨rfl, HB2.out⟩
set_option maxRecDepth 100000 in
set_option maxHeartbeats 2000000 in
theorem load_bad {u i : Nat} {W : World} {s : ByteArray} (h6 : i ≤ 6) (hT : Tab W) (hb : Bad s) (hs : s.size ≤ 100000000)
    (hg : ∀ V, Below W.heap.size W V → Calls Tryz.prog 38 #[.pointer (some ⟨u, 0, none⟩), .string (keyA i)] V fun e w' => e = .returned (.tuple #[.string s, .bool true]) ∧ Below V.heap.size V w') :
    Calls Tryz.prog 31 #[.pointer (some ⟨u, 0, none⟩), .int .i64 (i : Int)] W fun e w' => e = .returned (.tuple #[nilK, .int .i64 6]) ∧ Below W.heap.size W w' := by
  have HB0 := Lib.hid ((Below.refl _ W).alloc (Nat.le_refl _) (kO (.slice none 0 0) (.slice none 0 0)))
  have HN0 := Lib.hid (new_at W (kO (.slice none 0 0) (.slice none 0 0)) (g := W.heap.size) rfl)
  have ck := keyOf_any i (W.alloc (kO (.slice none 0 0) (.slice none 0 0))) h6 (hT.below HB0.out)
  have cr := fun V => read_bad u s V hb hs
  unfold nilK at cr ⊢
  go_enter Tryz.func31, Tryz.ntmps31
  go_wp2_with fail
  go_at_call 33
  refine ck.mono ?_
  rintro e w1 ⟨rfl, hb1⟩
  have HB1 := Lib.hid (Tx.below_call HB0.out hb1)
  have HZ1 := Lib.hid (kept_at HN0.out hb1)
  have c := hg _ HB1.out
  clear hg ck hb1
  go_wp2_with fail
  go_at_call 38
  refine c.mono ?_
  rintro e w2 ⟨rfl, hb2⟩
  have HZ2 := Lib.hid (kept_at HZ1.out hb2)
  have HB2 := Lib.hid (Tx.below_call HB1.out hb2)
  have cr2 := cr w2
  clear c hb2 cr
  go_wp2_with fail
  go_at_call 40
  refine cr2.mono ?_
  rintro e w3 ⟨rfl, hb3⟩
  have hb34 := Tx.below_call hb3 ((Below.refl w3.heap.size w3).alloc (Nat.le_refl _) (kO (.slice none 0 0) (.slice none 0 0)))
  have hz := kept_at HZ2.out hb34
  have hB3 := Tx.below_call HB2.out hb34
  obtain ⟨⟨s00, s01⟩, ⟨s10, s11⟩, s3, s4⟩ := store2 (T := 80) (v0 := .slice none 0 0) (v1 := .slice none 0 0) hz (.slice none 0 0) (.slice none 0 0)
  have HB3 := Lib.hid (hB3.trans (s4.below hB3.size (fun b hb => by omega)))
  have HS3 := Lib.hid s3
  unfold kO at s00 s01 s10 s11 HB3 HS3
  clear cr2 hb3 hb34 hz hB3 s3 s4
  go_wp2_with fail
  refine bodyPost_ret (results_cell_row_tmp rfl _ _ _ _ _ _ _ rfl HS3.out Tryz.underlying80 rfl infoKp) rfl ?_
  exact ⟨rfl, HB3.out⟩
set_option maxRecDepth 100000 in
set_option maxHeartbeats 2000000 in
theorem load_ok {u i : Nat} {W : World} {κ : ByteArray → ByteArray} {l : List Et} (h6 : i ≤ 6) (hT : Tab W) (ht : tcheck l = 0) (hκ : ∀ x ∈ l, x.node.kind = 2 → (κ x.node.data).size ≤ 14) (hbk : Ac.bk l ≤ 10000000)
    (hc : ∀ x ∈ l, x.node.kind = 2 → ∀ V, Below W.heap.size W V → Calls Tryz.prog 144 #[.pointer (some ⟨u, 0, none⟩), .string (κ x.node.data)] V fun e w' => e = .returned (.tuple #[.string x.node.data, .int .i64 0]) ∧ Below V.heap.size V w')
    (hg : ∀ V, Below W.heap.size W V → Calls Tryz.prog 38 #[.pointer (some ⟨u, 0, none⟩), .string (keyA i)] V fun e w' => e = .returned (.tuple #[.string (val16 κ l), .bool true]) ∧ Below V.heap.size V w') :
    Calls Tryz.prog 31 #[.pointer (some ⟨u, 0, none⟩), .int .i64 (i : Int)] W fun e w' => ∃ v vk, e = .returned (.tuple #[.agg #[v, vk], .int .i64 0]) ∧ En.Own w' W.heap.size v l ∧ Texts w' W.heap.size vk ((files l).map κ) ∧ Below W.heap.size W w' := by
  have HB0 := Lib.hid ((Below.refl _ W).alloc (Nat.le_refl _) (kO (.slice none 0 0) (.slice none 0 0)))
  have HN0 := Lib.hid (new_at W (kO (.slice none 0 0) (.slice none 0 0)) (g := W.heap.size) rfl)
  have ck := keyOf_any i (W.alloc (kO (.slice none 0 0) (.slice none 0 0))) h6 (hT.below HB0.out)
  have cr := fun V (hV : Below W.heap.size W V) => read_ok (ub := u) l V ht hκ hbk (fun x hx hk V2 hV2 => hc x hx hk V2 (Tx.below_call hV hV2))
  have hll : l.length ≤ 200 := (ok_all ht hbk).1
  clear hc ht hκ hbk
  generalize val16 κ l = s at *
  go_enter Tryz.func31, Tryz.ntmps31
  go_wp2_with fail
  go_at_call 33
  refine ck.mono ?_
  rintro e w1 ⟨rfl, hb1⟩
  have HB1 := Lib.hid (Tx.below_call HB0.out hb1)
  have HZ1 := Lib.hid (kept_at HN0.out hb1)
  have c := hg _ HB1.out
  clear hg ck hb1
  go_wp2_with fail
  go_at_call 38
  refine c.mono ?_
  rintro e w2 ⟨rfl, hb2⟩
  have HZ2 := Lib.hid (kept_at HZ1.out hb2)
  have HB2 := Lib.hid (Tx.below_call HB1.out hb2)
  have cr2 := cr w2 HB2.out
  clear c hb2 cr
  go_wp2_with fail
  go_at_call 40
  refine cr2.mono ?_
  rintro e w3 ⟨v3, vk, rfl, hO, hTx, hb3⟩
  obtain ⟨a, cc, rfl, _⟩ := hO.form
  obtain ⟨ak, ck, hvk, _⟩ := hTx.form
  rw [List.length_map] at hvk
  subst hvk
  have hgt : W.heap.size < w2.heap.size := (Array.getElem?_eq_some_iff.1 HZ2.out).1
  have hb34 := (Below.refl w3.heap.size w3).alloc (Nat.le_refl _) (kO (.slice a l.length cc) (.slice ak (files l).length ck))
  have hz := kept_at (kept_at HZ2.out hb3) hb34
  have hB3 := Tx.below_call (Tx.below_call HB2.out hb3) hb34
  have hO4 := hO.below hb34
  have hT4 := hTx.below hb34
  obtain ⟨⟨s00, s01⟩, ⟨s10, s11⟩, s3, s4⟩ := store2 (T := 80) (v0 := .slice none 0 0) (v1 := .slice none 0 0) hz (.slice a l.length cc) (.slice ak (files l).length ck)
  have HB3 := Lib.hid (hB3.trans (s4.below hB3.size (fun b hb => by omega)))
  have HO4 := Lib.hid (own_less (own_chg hO4 s4 (fun g hg e => by have := (hO4.lt g hg).1; omega)) (Nat.le_of_lt hgt))
  have HT4 := Lib.hid (own_less (own_chg hT4 s4 (fun g hg e => by have := (hT4.lt g hg).1; omega)) (Nat.le_of_lt hgt))
  have HS3 := Lib.hid s3
  unfold kO at s00 s01 s10 s11 HB3 HS3 HO4 HT4
  clear cr2 hb3 hb34 hz hB3 s3 s4 hO4 hT4 hO hTx
  go_wp2_with fail
  refine bodyPost_ret (results_cell_row_tmp rfl _ _ _ _ _ _ _ rfl HS3.out Tryz.underlying80 rfl infoKp) rfl ?_
  exact ⟨_, _, rfl, HO4.out, HT4.out, HB3.out⟩
end Go.Proofs.YtdkgkomjbpggeaaGreatDoor.Az

namespace Go.Proofs.YtdkgkomjbpggeaaGreatDoor.Az
open Go.RowKit Go.ChangeShapes Go.WideShapes Tx Pm Dk Wm Wr Wl Pl Tb Bl Fm
open Fr hiding sv Texts cnt cnt_snoc
open En (Et tcheck Ents)
open Ac (files)
set_option linter.unusedVariables false
set_option linter.unusedSimpArgs false
set_option linter.unnecessarySimpa false
section
variable {w0 : World × (Nat → Prop)} {W : World} {d j t m u M N i : Nat} {x : Tst} {C : List On} {Z : List It}
theorem bzputA {v : ByteArray} (h : Bz d j t m u x Z w0 C M N W) (h1 : 1 ≤ i) (h6 : i ≤ 6) (hN : N ≤ 100000000) : Calls Tryz.prog 32 #[.pointer (some ⟨u, 0, none⟩), .string (keyA i), .string v] W fun e w' => e = .returned (.tuple #[]) ∧ Bz d j t m u x (app Z ⟨keyA i, v, false⟩) w0 C M N w' := by
  obtain ⟨l, o1, o2, o3, o4, o5⟩ := h
  have hf := f_facts o1
  have hl := o5.len hf.2
  have hks := keyA_size h6
  refine (f_put (key := keyA i) (val := v) o1 (by omega) (by omega)).mono fun e w' ⟨he, ho⟩ => ⟨he, _, ho, ?_, o3, fun p hp => ?_, o5.arch h1 h6 rfl (fun e => by cases e)⟩
  · rw [all_bat hf.1 hf.2]
    refine ⟨rises_app o2.rises _, fun p hp => ?_⟩
    rw [find_app7, if_neg (fun e => by have e2 : keyA i = p := e; have := keyA_not i; rw [e2, hp] at this; cases this)]
    exact o2.look p hp
  · rw [all_bat hf.1 hf.2, find_app7, find_app7, o4 p hp]
theorem bzdropA (h : Bz d j t m u x Z w0 C M N W) (h1 : 1 ≤ i) (h6 : i ≤ 6) (hN : N ≤ 100000000) : Calls Tryz.prog 43 #[.pointer (some ⟨u, 0, none⟩), .string (keyA i)] W fun e w' => e = .returned (.tuple #[]) ∧ Bz d j t m u x (app Z ⟨keyA i, ⟨#[]⟩, true⟩) w0 C M N w' := by
  obtain ⟨l, o1, o2, o3, o4, o5⟩ := h
  have hf := f_facts o1
  have hl := o5.len hf.2
  have hks := keyA_size h6
  refine (f_drop (key := keyA i) o1 (by omega) (by omega)).mono fun e w' ⟨he, ho⟩ => ⟨he, _, ho, ?_, o3, fun p hp => ?_, o5.arch h1 h6 rfl (fun _ => rfl)⟩
  · rw [all_bat hf.1 hf.2]
    refine ⟨rises_app o2.rises _, fun p hp => ?_⟩
    rw [find_app7, if_neg (fun e => by have e2 : keyA i = p := e; have := keyA_not i; rw [e2, hp] at this; cases this)]
    exact o2.look p hp
  · rw [all_bat hf.1 hf.2, find_app7, find_app7, o4 p hp]
end
structure Sv (d j t m u : Nat) (x : Tst) (Z : List It) (w0 : World × (Nat → Prop)) (C : List On) (M N : Nat) (v vk : Value) (kb B nk : Nat) (ks : List Value) (q : Option Nat) (V : World) : Prop where
  bq : Bq d j t m u x Z w0 C M N (fun g => q = some g ∨ vk.ownBlock = some g ∨ g = kb) V
  z : ∀ zz, q = some zz → V.heap[zz]? = some (.cells #[.int .u8 0] 5 (0, 0))
  k : V.heap[kb]? = some (kO v vk)
  row : V.ownsRow B 9 1 vk nk ks
section
variable {w0 : World × (Nat → Prop)} {d j t m u M N M' N' kb B nk : Nat} {x : Tst} {C C' : List On} {Z Z' : List It} {v vk : Value} {ks : List Value} {V V' : World} {q : Option Nat}
theorem Sv.below (h : Sv d j t m u x Z w0 C M N v vk kb B nk ks q V) (hb : Below V.heap.size V V') : Sv d j t m u x Z w0 C M N v vk kb B nk ks q V' :=
  ⟨h.bq.below hb, fun zz hz => (hb.block zz (Array.getElem?_eq_some_iff.1 (h.z zz hz)).1).trans (h.z zz hz), (hb.block kb (Array.getElem?_eq_some_iff.1 h.k).1).trans h.k, own_kept h.row (fun g hg => hb.block g (h.row.lt g hg).2)⟩
theorem Sv.call {f : FuncId} {args : Array Value} {P : Ending → Prop} (h : Sv d j t m u x Z w0 C M N v vk kb B nk ks q V) (hT : TabZ w0) (hc : ∀ F, (∀ i, F i → w0.2 i ∨ w0.1.heap.size ≤ i) → TabZ (V, F) → Bz d j t m u x Z (V, F) C M N V → Calls Tryz.prog f args V fun e w' => P e ∧ Bz d j t m u x Z' (V, F) C' M' N' w') :
    Calls Tryz.prog f args V fun e w' => P e ∧ Sv d j t m u x Z' w0 C' M' N' v vk kb B nk ks q w' :=
  (h.bq.call hT hc).mono fun e w' ⟨h1, h2, h3, h4⟩ => ⟨h1, h2, fun zz hz => (h3 zz (.inl hz)).trans (h.z zz hz), (h3 kb (.inr (.inr rfl))).trans h.k, own_kept h.row (fun g hg => h3 g (.inr (.inl hg)))⟩
theorem Sv.bld (h : Sv d j t m u x Z w0 C M N v vk kb B nk ks none V) : ∃ zz wz, (Instr.buildSlice 87 1 #[(0, .int .u8 0)]).run Tryz.prog V = .ok (.slice (some ⟨zz, 0, none⟩) 1 1) wz ∧ Sv d j t m u x Z w0 C M N v vk kb B nk ks (some zz) wz := by
  have hb := (Below.refl V.heap.size V).alloc (Nat.le_refl _) (.cells #[.int .u8 0] 5)
  have hh := h.below hb
  refine ⟨V.heap.size, V.alloc (.cells #[.int .u8 0] 5), by go_simp, h.bq.go (Chg.of_below hb) (fun g hg => ?_), fun zz hz => ?_, hh.k, hh.row⟩
  · rcases hg with hg | hg
    · injection hg with hg
      exact .inr (by subst hg; simp)
    · exact .inl (.inr hg)
  · injection hz with hz
    subst hz
    exact new_at V (.cells #[.int .u8 0] 5) rfl
theorem Sv.conv {zz : Nat} (h : Sv d j t m u x Z w0 C M N v vk kb B nk ks (some zz) V) : (Go.convert 87 9 (.slice (some ⟨zz, 0, none⟩) 1 1)).run Tryz.prog V = .ok (.string ⟨#[0]⟩) V := conv_zero V zz (by unfold World.cell?; rw [h.z zz rfl]; rfl)
end
def sel {α : Type} (st k : Nat) (a b : α) : α := if st ≤ k then a else b
set_option maxRecDepth 100000 in
set_option maxHeartbeats 8000000 in
theorem save_any {w0 : World × (Nat → Prop)} {W : World} {d j t m u M N i : Nat} {x : Tst} {C : List On} {Z : List It} (a : Option Addr) (n c : Nat) (l : List Et) (old : List ByteArray) (h : Bz d j t m u x Z w0 C M N W) (hx : Xk x) (hT : TabZ w0) (hM : M + 200 ≤ 10000000) (hN : N + 200 ≤ 10000000) (h1 : 1 ≤ i) (h6 : i ≤ 6)
    (he : ∀ V, Chg w0.2 w0.1 V → Ents V a n l) (hnc : n ≤ c) (hcm : c ≤ 9223372036854775807) (ht : tcheck l = 0) (hbk : Ac.bk l ≤ 10000000) (hol : ∀ e, cnt old e ≤ refD C e) (hoz : old.length ≤ 200)
    (hld : ∀ V, Below W.heap.size W V → Calls Tryz.prog 31 #[.pointer (some ⟨u, 0, none⟩), .int .i64 (i : Int)] V fun e w' => ∃ v vk c, e = .returned (.tuple #[.agg #[v, vk], .int .i64 c]) ∧ (∃ a n c, v = .slice a n c) ∧ Texts w' V.heap.size vk (old.map (keyD C)) ∧ Below V.heap.size V w') :
    Calls Tryz.prog 11 #[.pointer (some ⟨u, 0, none⟩), .int .i64 (i : Int), .slice a n c] W fun e w' => e = .returned (.int .i64 0) ∧ Bz d j t m u x (app Z ⟨keyA i, val16 (keyD (putsC C (files l))) l, false⟩) w0 (relsC (putsC C (files l)) old) (M + (files l).length) (N + (files l).length) w' := by
  obtain ⟨hlen, hok⟩ := ok_all ht hbk
  have hln := (he W h.chg).1
  have hfl := Ac.files_len l
  have hgC := h.good
  have hsz : ∀ e ∈ files l, e.size ≤ 140737488351232 := fun e he => by
    obtain ⟨z, hz, _, rfl⟩ := mem_files.1 he
    have := (hok z hz).data
    omega
  have hg1 := putsC_good hgC (files l) hsz
  have hκ : ∀ y ∈ l, y.node.kind = 2 → (keyD (putsC C (files l)) y.node.data).size ≤ 14 := fun y hy hyk => by
    have hh : (of8 (putsC C (files l)) y.node.data).isSome = true := by
      rw [has_ref hg1, (putsC_ref hgC (files l) hsz y.node.data).1]
      have := cnt_pos.2 (mem_files.2 ⟨y, hy, hyk, rfl⟩)
      omega
    obtain ⟨q, hq, _, e, _⟩ := of8_mem hh
    rw [e]
    exact keyO_size hg1 (by omega) hq
  obtain ⟨v1, v2, v3⟩ := val16_size (κ := keyD (putsC C (files l))) ht hbk hκ
  have hck := En.tCheck_any a n c l W (he W h.chg) hnc hcm (by omega) (small_of hok)
  rw [ht] at hck
  have hsp := isSpoke_any (i : Int) W (by omega)
  rw [Ac.may_yes (by omega) (by omega)] at hsp
  have HOLR : Hid (∀ e, cnt old e ≤ refD (putsC C (files l)) e) := Lib.hid (fun e => by rw [(putsC_ref hgC (files l) hsz e).1]; have := hol e; omega)
  have HOK : Hid (∀ e ∈ old, keyD (putsC C (files l)) e = keyD C e) := Lib.hid (fun e he => (putsC_ref hgC (files l) hsz e).2 (by
    rw [has_ref hgC]
    have := hol e
    have := cnt_pos.2 he
    omega))
  have HG1 := Lib.hid hg1
  have HH := Lib.hid h
  have HE := Lib.hid he
  have HT := Lib.hid hT
  have HX := Lib.hid hx
  have HOKK := Lib.hid hok
  have HLD := Lib.hid hld
  have HBK := Lib.hid hbk
  have HV2 := Lib.hid v2
  have HV1 := Lib.hid v1
  have HOZ := Lib.hid hoz
  clear h he hT hx hld hol hgC hsz hg1 hκ hok ht hbk v3 v2 v1 hoz
  go_enter Tryz.func11, Tryz.ntmps11
  go_wp2_with fail
  go_at_call 29
  refine hsp.mono ?_
  rintro e w1 ⟨rfl, rfl⟩
  clear hsp
  go_wp2_with fail
  go_at_call 30
  refine hck.mono ?_
  rintro e w2 ⟨rfl, hb2⟩
  have HB2 := Lib.hid hb2
  have hl2 := HLD.out w2 hb2
  clear hck hb2
  go_wp2_with fail
  go_at_call 31
  refine hl2.mono ?_
  rintro e w3 ⟨v, vk, cc, rfl, ⟨av, nv, cv, rfl⟩, hTx, hb3⟩
  obtain ⟨ak, ck, hvk, _⟩ := hTx.form
  rw [List.length_map] at hvk
  subst hvk
  have hb23 := Tx.below_call HB2.out hb3
  have hbK := (Below.refl w3.heap.size w3).alloc (Nat.le_refl _) (kO (.slice av nv cv) (.slice ak old.length ck))
  have hT3 := hTx.below hbK
  have hbWK := Tx.below_call hb23 hbK
  have hs3 := hb23.size
  have hs2 := HB2.out.size
  have hSV0 : Sv d j t m u x Z w0 C M N (.slice av nv cv) (.slice ak old.length ck) w3.heap.size w2.heap.size old.length ((old.map (keyD C)).map sv) none (w3.alloc (kO (.slice av nv cv) (.slice ak old.length ck))) := by
    refine ⟨(bq_first HH.out).go (Chg.of_below hbWK) (fun g hg => .inr ?_), (fun zz hz => by cases hz), new_at w3 (kO (.slice av nv cv) (.slice ak old.length ck)) rfl, ?_⟩
    · rcases hg with hg | hg | rfl
      · cases hg
      · have := hT3.lt g hg
        exact ⟨by omega, this.2⟩
      · exact ⟨by omega, by simp⟩
    · have := hT3
      unfold Texts at this
      rw [List.length_map] at this
      exact this
  have HSV := Lib.hid (hSV0.below ((Below.refl _ (w3.alloc (kO (.slice av nv cv) (.slice ak old.length ck)))).drew))
  clear hl2 hb3 hb23 hbK hT3 hTx hbWK hSV0
  go_wp2_with fail
  have hpk : (Fm.pk (cat (rpP (keyD (putsC C (files l))) l))).size ≤ 9000000000000 := by
    have h1 := HV2.out
    have h2 := HBK.out
    unfold val16 vz at h1
    rw [ByteArray.size_append] at h1
    omega
  refine Rg.wp_only ?_ (regSaveZ _ (by kernel_rfl) _ u (i : Int) (keyA i) (cat (rpP (keyD (putsC C (files l))) l)) (Fm.pk (cat (rpP (keyD (putsC C (files l))) l))) (.slice a n c) _
    (fun st q V => Sv d j t m u x (sel st 3 Z (app Z ⟨keyA i, val16 (keyD (putsC C (files l))) l, false⟩)) w0 (sel st 1 C (putsC C (files l))) (sel st 1 M (M + (files l).length)) (sel st 1 N (N + (files l).length)) (.slice av nv cv) (.slice ak old.length ck) w3.heap.size w2.heap.size old.length ((old.map (keyD C)).map sv) q V)
    HSV.out (fun st V hV => hV.bld) (fun st zz V hV => hV.conv)
    (fun q V hV => (keyOf_any i V h6 (HT.out V hV.bq.chg)).mono fun e w' ⟨g1, g2⟩ => ⟨g1, hV.below g2⟩)
    (fun q V hV => hV.call HT.out (fun F hF hTF hBz => record_any a n c l hBz HX.out hTF hM hN (fun V' hc => HE.out V' (hV.bq.chg.trans hc hF)) hnc (by omega) HOKK.out HBK.out))
    (fun q V hV => (fPack_any (cat (rpP (keyD (putsC C (files l))) l)) V (by have := HV1.out; have := HBK.out; omega)).mono fun e w' ⟨g1, g2⟩ => ⟨g1, hV.below g2⟩)
    hpk (fun q V hV => hV.call HT.out (fun F hF hTF hBz => bzputA hBz h1 h6 (by show N + (files l).length ≤ _; omega))))
  rintro a' w9 ⟨z8, rfl, q9, hq9⟩
  have hq9 : Sv d j t m u x (app Z ⟨keyA i, val16 (keyD (putsC C (files l))) l, false⟩) w0 (putsC C (files l)) (M + (files l).length) (N + (files l).length) (.slice av nv cv) (.slice ak old.length ck) w3.heap.size w2.heap.size old.length ((old.map (keyD C)).map sv) q9 w9 := hq9
  have k1 : w9.cell? ⟨w3.heap.size, 1, none⟩ = some (.slice ak old.length ck) := by unfold World.cell?; rw [hq9.k]; rfl
  obtain ⟨nk, hnk⟩ : ∃ nk, nk = old.length := ⟨_, rfl⟩
  have HQ9 := Lib.hid hq9
  have HNK := Lib.hid hnk
  have hnk2 : nk ≤ 200 := by rw [hnk]; exact HOZ.out
  rw [← hnk] at k1
  clear hq9 HSV hnk
  go_wp2_with fail
  go_loopw [40] (fun iv wr => ∃ jq : Nat, jq ≤ nk ∧ iv = .int .i64 jq ∧ Bq d j t m u x (app Z ⟨keyA i, val16 (keyD (putsC C (files l))) l, false⟩) w0 (relsC (putsC C (files l)) (old.take jq)) (M + (files l).length) (N + (files l).length) (fun g => (Value.slice ak old.length ck).ownBlock = some g) wr ∧ wr.ownsRow w2.heap.size 9 1 (.slice ak old.length ck) old.length ((old.map (keyD C)).map sv)) (fun iv _ => nk - (intOf iv).toNat)
  case atStart => exact ⟨0, Nat.zero_le _, rfl, HQ9.out.bq.go (Chg.refl _ _) (fun g hg => .inl (.inr (.inl hg))), HQ9.out.row⟩
  case round =>
    obtain ⟨q, hq, rfl, hb, hr⟩ := hrel
    by_cases hlt : q < nk
    · obtain ⟨e, he⟩ : ∃ e, old[q]? = some e := ⟨_, List.getElem?_eq_getElem (by rw [← HNK.out]; exact hlt)⟩
      have hst := strs_row hr
      obtain ⟨bk, off, rfl, hbk, g0⟩ := Strs.at2 hst (x := keyD C e) (by rw [List.getElem?_map, he]; rfl) (by rw [← HNK.out]; exact hlt)
      have hqz : (q : Int) < (nk : Int) := by omega
      obtain ⟨g1, g2, g3⟩ := relsC_at HG1.out HOLR.out he
      have hke : keyD (putsC C (files l)) e = keyD C e := HOK.out e (List.mem_of_getElem? he)
      rw [hke] at g2 g3
      have hks : (keyD C e).size ≤ 14 := by
        obtain ⟨y, hy, _, e2, _⟩ := of8_mem g1
        rw [← g2, e2]
        exact keyO_size (relsC_good HG1.out _) (by omega) hy
      have cr := hb.call HT.out (fun F hF hTF hBz => bzrel (key := keyD C e) hBz (by omega) (by omega) (by omega))
      rw [← g3] at cr
      have HR := Lib.hid hr
      clear hb hr hst g1 g2 g3 he hke
      go_wp2_with fail
      go_at_call 36
      refine cr.mono ?_
      rintro e' w10 ⟨rfl, hb10, hk10, _⟩
      have hr10 := own_kept HR.out (fun g hg => hk10 g hg)
      clear cr hk10
      go_wp2_with fail
      go_roundw
      case rel => exact ⟨q + 1, by omega, by go_num, hb10, hr10⟩
      case measure => simp [intOf]; omega
    · obtain rfl : q = nk := by omega
      rw [List.take_of_length_le (by rw [← HNK.out]; exact Nat.le_refl _)] at hb
      have HB := Lib.hid hb.bz
      clear hb hr
      go_wp2_with fail
      go_ret
      exact ⟨rfl, HB.out⟩
end Go.Proofs.YtdkgkomjbpggeaaGreatDoor.Az

namespace Go.Proofs.YtdkgkomjbpggeaaGreatDoor.Az
open Go.RowKit Go.ChangeShapes Go.WideShapes Tx Pm Dk Wm Wr Wl Pl Tb Bl Fm
open Fr hiding sv Texts cnt cnt_snoc
open En (Et tcheck Ents)
open Ac (files)
set_option linter.unusedVariables false
set_option linter.unusedSimpArgs false
set_option linter.unnecessarySimpa false
set_option maxRecDepth 100000 in
set_option maxHeartbeats 4000000 in
theorem turn_any {w0 : World × (Nat → Prop)} {W : World} {d j t m u M N i : Nat} {x : Tst} {C : List On} {Z : List It} {vals : Nat → Option ByteArray} {v : ByteArray} (bit : Int) (h : Bz d j t m u x Z w0 C M N W) (hz : Zr Z vals) (hT : TabZ w0) (hN : N ≤ 10000000) (h1 : 1 ≤ i) (h6 : i ≤ 6)
    (hv : vals i = some v) (hv0 : 0 < v.size) (hvs : v.size ≤ 100000000) (hb1 : -9223372036854775808 ≤ bit) (hb2 : bit ≤ 9223372036854775807) (hbad : Bad (inv (Fr.tn v bit))) :
    Calls Tryz.prog 15 #[.pointer (some ⟨u, 0, none⟩), .int .i64 (i : Int), .int .i64 bit] W fun e w' => e = .returned (.int .i64 0) ∧ Bz d j t m u x (app Z ⟨keyA i, Fr.tn v bit, false⟩) w0 C M N w' := by
  have hsp := isSpoke_any (i : Int) W (by omega)
  rw [Ac.may_yes (by omega) (by omega)] at hsp
  have ck := fun V (hV : Below W.heap.size W V) => keyOf_any i V h6 ((hT W h.chg).below hV)
  obtain ⟨s, hs, cg⟩ := bzgetA h hz h1 h6
  obtain rfl := hs v hv
  rw [hv, Option.isSome_some] at cg
  have hts := tn_size s bit
  have ct := fun V => fTurn_any s bit V (by omega) hb1 hb2
  have ci := fun V => invert_any (Fr.tn s bit) V (by omega) (by omega)
  have hil : (inv (Fr.tn s bit)).size ≤ 100000000 := by rw [inv_size (by omega)]; omega
  have cr := fun V => read_bad u (inv (Fr.tn s bit)) V hbad hil
  have HH := Lib.hid h
  have HT := Lib.hid hT
  clear h hz hT hs hv hbad
  generalize inv (Fr.tn s bit) = iv at *
  generalize Fr.tn s bit = tv at *
  unfold nilK at cr
  go_enter Tryz.func15, Tryz.ntmps15
  go_wp2_with fail
  go_at_call 29
  refine hsp.mono ?_
  rintro e w1 ⟨rfl, rfl⟩
  have ck1 := ck _ (Below.refl _ _)
  clear hsp
  go_wp2_with fail
  go_at_call 33
  refine ck1.mono ?_
  rintro e w2 ⟨rfl, b2⟩
  have cg2 := cg _ b2
  have HB2 := Lib.hid b2
  clear ck1 b2 cg
  go_wp2_with fail
  go_at_call 38
  refine cg2.mono ?_
  rintro e w3 ⟨rfl, b3⟩
  have HB3 := Lib.hid (Tx.below_call HB2.out b3)
  have ct3 := ct w3
  clear cg2 b3 ct
  go_wp2_with fail
  go_at_call 39
  refine ct3.mono ?_
  rintro e w4 ⟨rfl, b4⟩
  have HB4 := Lib.hid (Tx.below_call HB3.out b4)
  have ci4 := ci w4
  clear ct3 b4 ci
  go_wp2_with fail
  go_at_call 41
  refine ci4.mono ?_
  rintro e w5 ⟨rfl, b5⟩
  have HB5 := Lib.hid (Tx.below_call HB4.out b5)
  have cr5 := cr w5
  clear ci4 b5 cr
  go_wp2_with fail
  go_at_call 40
  refine cr5.mono ?_
  rintro e w6 ⟨rfl, b6⟩
  have b7 := Tx.below_call (Tx.below_call HB5.out b6) ((Below.refl w6.heap.size w6).alloc (Nat.le_refl _) (kO (.slice none 0 0) (.slice none 0 0)))
  have ck7 := ck _ b7
  have HB7 := Lib.hid b7
  clear cr5 b6 b7 ck
  go_wp2_with fail
  go_at_call 33
  refine ck7.mono ?_
  rintro e w8 ⟨rfl, b8⟩
  have cp := bzputA (v := tv) (HH.out.below (Tx.below_call HB7.out b8)) h1 h6 (by omega)
  clear ck7 b8
  go_wp2_with fail
  go_at_call 32
  refine cp.mono ?_
  rintro e w9 ⟨rfl, hb9⟩
  go_wp2_with fail
  go_ret
  exact ⟨rfl, hb9⟩
def unc (v : ByteArray) : ByteArray := if pop8 (lastB v).toNat ≤ 4 then inv v else v
theorem unc_size {v : ByteArray} (h : 0 < v.size) : (unc v).size = v.size := by
  unfold unc
  split
  · exact inv_size h
  · rfl
theorem pop_full {x : UInt8} (h : pop8 x.toNat ≤ 4) : x ≠ 255 := fun e => by
  subst e
  revert h
  decide
theorem unc_bad {v : ByteArray} (h : Bad v) (h0 : 0 < v.size) : Bad (unc v) := by
  unfold unc
  split
  · rename_i hp
    exact inv_bad h0 (pop_full hp)
  · exact h
set_option maxRecDepth 100000 in
set_option maxHeartbeats 4000000 in
theorem uncount_any {w0 : World × (Nat → Prop)} {W : World} {d j t m u M N i : Nat} {x : Tst} {C : List On} {Z : List It} {vals : Nat → Option ByteArray} {v : ByteArray} (h : Bz d j t m u x Z w0 C M N W) (hz : Zr Z vals) (hT : TabZ w0) (hN : N ≤ 10000000) (h1 : 1 ≤ i) (h6 : i ≤ 6)
    (hv : vals i = some v) (hv0 : 0 < v.size) (hvs : v.size ≤ 100000000) :
    Calls Tryz.prog 44 #[.pointer (some ⟨u, 0, none⟩), .int .i64 (i : Int)] W fun e w' => e = .returned (.tuple #[]) ∧ ∃ Z', Zr Z' (Ac.upd vals i (some (unc v))) ∧ Bz d j t m u x Z' w0 C M N w' := by
  have ck := fun V (hV : Below W.heap.size W V) => keyOf_any i V h6 ((hT W h.chg).below hV)
  obtain ⟨s, hs, cg⟩ := bzgetA h hz h1 h6
  obtain rfl := hs v hv
  rw [hv, Option.isSome_some] at cg
  have ci := fun V => invert_any s V hv0 hvs
  obtain ⟨n, hn⟩ : ∃ n, s.size = n + 1 := ⟨s.size - 1, by omega⟩
  have hnl : n < s.size := by omega
  have hlb : lastB s = s[n] := by
    unfold lastB
    rw [show s.size - 1 = n by omega, List.getD_eq_getElem?_getD, List.getElem?_eq_getElem (by rw [Wm.len_l]; exact hnl)]
    rfl
  have co := fun V => ones_any (s[n]) V
  have e1 : (s.size : Int) - 1 = (n : Int) := by omega
  have hs1 : (1 : Int) ≤ (s.size : Int) := by omega
  have HH := Lib.hid h
  have HZ := Lib.hid hz
  have HU : Hid (unc s = if pop8 (s[n]).toNat ≤ 4 then inv s else s) := Lib.hid (by unfold unc; rw [hlb])
  have HV := Lib.hid hv
  clear h hz hT hs hv hn hlb
  obtain ⟨pp, hpp⟩ : ∃ pp, pp = pop8 (s[n]).toNat := ⟨_, rfl⟩
  rw [← hpp] at HU
  simp only [← hpp] at co
  clear hpp
  by_cases hp : pp ≤ 4
  · have HU2 : Hid (unc s = inv s) := Lib.hid (by rw [HU.out, if_pos hp])
    have hpz : (pp : Int) ≤ 4 := by omega
    generalize inv s = iv at *
    go_enter Tryz.func44, Tryz.ntmps44
    go_wp2_with fail
    go_at_call 33
    refine (ck _ (Below.refl _ _)).mono ?_
    rintro e w2 ⟨rfl, b2⟩
    have cg2 := cg _ b2
    have HB2 := Lib.hid b2
    clear b2 cg
    go_wp2_with fail
    go_at_call 38
    refine cg2.mono ?_
    rintro e w3 ⟨rfl, b3⟩
    have HB3 := Lib.hid (Tx.below_call HB2.out b3)
    have co3 := co w3
    clear cg2 b3 co
    go_wp2_with fail
    go_at_call 79
    refine co3.mono ?_
    rintro e w4 ⟨rfl, rfl⟩
    clear co3
    have ck3 := ck _ HB3.out
    have ci3 := ci
    clear ck ci
    go_wp2_with fail
    go_at_call 33
    refine ck3.mono ?_
    rintro e w5 ⟨rfl, b5⟩
    have HB5 := Lib.hid (Tx.below_call HB3.out b5)
    have ci5 := ci3 w5
    clear ck3 b5 ci3
    go_wp2_with fail
    go_at_call 41
    refine ci5.mono ?_
    rintro e w6 ⟨rfl, b6⟩
    have cp := bzputA (v := iv) (HH.out.below (Tx.below_call HB5.out b6)) h1 h6 (by omega)
    clear ci5 b6
    go_wp2_with fail
    go_at_call 32
    refine cp.mono ?_
    rintro e w9 ⟨rfl, hb9⟩
    go_wp2_with fail
    go_end0
    rw [HU2.out]
    exact ⟨rfl, _, zr_put HZ.out _ h1 h6, hb9⟩
  · have HU2 : Hid (unc s = s) := Lib.hid (by rw [HU.out, if_neg hp])
    have hpz : ¬ (pp : Int) ≤ 4 := by omega
    clear ci
    go_enter Tryz.func44, Tryz.ntmps44
    go_wp2_with fail
    go_at_call 33
    refine (ck _ (Below.refl _ _)).mono ?_
    rintro e w2 ⟨rfl, b2⟩
    have cg2 := cg _ b2
    have HB2 := Lib.hid b2
    clear b2 cg
    go_wp2_with fail
    go_at_call 38
    refine cg2.mono ?_
    rintro e w3 ⟨rfl, b3⟩
    have HB3 := Lib.hid (Tx.below_call HB2.out b3)
    have co3 := co w3
    clear cg2 b3 co
    go_wp2_with fail
    go_at_call 79
    refine co3.mono ?_
    rintro e w4 ⟨rfl, rfl⟩
    clear co3
    clear ck
    go_wp2_with fail
    go_end0
    refine ⟨rfl, Z, ?_, HH.out.below HB3.out⟩
    have e2 : Ac.upd vals i (some (unc s)) = vals := by
      funext k
      unfold Ac.upd
      split
      · rename_i hk
        rw [hk, HU2.out, HV.out]
      · rfl
    rw [e2]
    exact HZ.out
end Go.Proofs.YtdkgkomjbpggeaaGreatDoor.Az

namespace Go.Proofs.YtdkgkomjbpggeaaGreatDoor.Az
open Go.RowKit Go.ChangeShapes Go.WideShapes Tx Pm Dk Wm Wr Wl Pl Tb Bl Fm
open Fr hiding sv Texts cnt cnt_snoc
open En (Et tcheck Ents)
open Ac (files)
set_option linter.unusedVariables false
set_option linter.unusedSimpArgs false
set_option linter.unnecessarySimpa false
inductive Vk (C : List On) : Option ByteArray → List ByteArray → Nat → Prop
  | none : Vk C none [] 11
  | bad {v : ByteArray} : Bad v → 0 < v.size → v.size ≤ 100000000 → Vk C (some v) [] 6
  | ok {l : List Et} : tcheck l = 0 → Ac.bk l ≤ 10000000 → (∀ e ∈ files l, (of8 C e).isSome = true) → Vk C (some (val16 (keyD C) l)) (files l) 0
theorem Vk.there {C : List On} {v : Option ByteArray} {l : List ByteArray} {e : Nat} (h : Vk C v l e) : ∀ x ∈ l, (of8 C x).isSome = true := by
  cases h with
  | none => exact fun x hx => by cases hx
  | bad _ _ _ => exact fun x hx => by cases hx
  | ok _ _ h => exact h
theorem Vk.len {C : List On} {v : Option ByteArray} {l : List ByteArray} {e : Nat} (h : Vk C v l e) : l.length ≤ 200 := by
  cases h with
  | none => exact Nat.zero_le _
  | bad _ _ _ => exact Nat.zero_le _
  | ok h1 h2 _ =>
    have := (ok_all h1 h2).1
    have := Ac.files_len ‹List Et›
    omega
theorem Vk.six {C : List On} {v : Option ByteArray} {l : List ByteArray} {e : Nat} (h : Vk C v l e) (he : e = 6) : ∃ vv, v = some vv ∧ 0 < vv.size ∧ vv.size ≤ 100000000 := by
  cases h with
  | none => cases he
  | bad _ k2 k3 => exact ⟨_, rfl, k2, k3⟩
  | ok _ _ _ => cases he
theorem load_vk {w0 : World × (Nat → Prop)} {W : World} {d j t m u M N i e : Nat} {x : Tst} {C : List On} {Z : List It} {vals : Nat → Option ByteArray} {old : List ByteArray} (h : Bz d j t m u x Z w0 C M N W) (hz : Zr Z vals) (hT : TabZ w0) (hM : M ≤ 10000000) (h1 : 1 ≤ i) (h6 : i ≤ 6) (hk : Vk C (vals i) old e) :
    Calls Tryz.prog 31 #[.pointer (some ⟨u, 0, none⟩), .int .i64 (i : Int)] W fun en w' => ∃ v vk, en = .returned (.tuple #[.agg #[v, vk], .int .i64 (e : Nat)]) ∧ (∃ a n c, v = .slice a n c) ∧ Texts w' W.heap.size vk (old.map (keyD C)) ∧ Below W.heap.size W w' := by
  obtain ⟨s, hs, cg⟩ := bzgetA h hz h1 h6
  have hTW : Tab W := hT W h.chg
  cases hv : vals i with
  | none =>
    rw [hv] at hk cg
    cases hk
    refine (load_none h6 hTW cg).mono fun en w' ⟨he, hb⟩ => ⟨_, _, he, ⟨_, _, _, rfl⟩, World.ownsRow_nil _ _ _ _, hb⟩
  | some v =>
    obtain rfl := hs v hv
    rw [hv] at hk cg
    cases hk with
    | bad k1 k2 k3 => exact (load_bad h6 hTW k1 k3 cg).mono fun en w' ⟨he, hb⟩ => ⟨_, _, he, ⟨_, _, _, rfl⟩, World.ownsRow_nil _ _ _ _, hb⟩
    | @ok l k1 k2 k3 =>
      have hg := h.good
      have hat : ∀ y ∈ l, y.node.kind = 2 → ∃ q, at8 C (keyD C y.node.data) = some q ∧ q.data = y.node.data ∧ (keyD C y.node.data).size ≤ 14 := fun y hy hyk => by
        have hh := k3 _ (mem_files.2 ⟨y, hy, hyk, rfl⟩)
        obtain ⟨q, e1, _, e3⟩ := at8_data hg hh
        obtain ⟨r, hr, _, e5, _⟩ := of8_mem hh
        exact ⟨q, e1, e3, by rw [e5]; exact keyO_size hg (by omega) hr⟩
      refine (load_ok h6 hTW k1 (fun y hy hyk => by obtain ⟨_, _, _, e⟩ := hat y hy hyk; exact e) k2 (fun y hy hyk V hV => ?_) cg).mono fun en w' ⟨v, vk, he, ho, ht, hb⟩ => ?_
      · obtain ⟨q, e1, e2, e3⟩ := hat y hy hyk
        have c := bzget (key := keyD C y.node.data) (h.below hV) (by omega) (by omega)
        rw [e1] at c
        simp only [e2] at c
        exact c
      · obtain ⟨a, c, rfl, _⟩ := ho.form
        exact ⟨_, _, he, ⟨_, _, _, rfl⟩, ht, hb⟩
def uncV (vals : Nat → Option ByteArray) (es : Nat → Nat) (n : Nat) : Nat → Option ByteArray := fun k => if 1 ≤ k ∧ k ≤ n ∧ es k = 6 then (vals k).map unc else vals k
theorem uncV_succ (vals : Nat → Option ByteArray) (es : Nat → Nat) (n : Nat) : uncV vals es (n + 1) = if es (n + 1) = 6 then Ac.upd (uncV vals es n) (n + 1) ((vals (n + 1)).map unc) else uncV vals es n := by
  funext k
  by_cases h6 : es (n + 1) = 6
  · rw [if_pos h6]
    unfold uncV Ac.upd
    by_cases hk : k = n + 1
    · subst hk
      rw [if_pos ⟨by omega, by omega, h6⟩, if_pos rfl]
    · rw [if_neg hk]
      show (if 1 ≤ k ∧ k ≤ n + 1 ∧ es k = 6 then (vals k).map unc else vals k) = (if 1 ≤ k ∧ k ≤ n ∧ es k = 6 then (vals k).map unc else vals k)
      by_cases hc : 1 ≤ k ∧ k ≤ n ∧ es k = 6
      · rw [if_pos hc, if_pos ⟨hc.1, by omega, hc.2.2⟩]
      · rw [if_neg hc, if_neg (fun h => hc ⟨h.1, by omega, h.2.2⟩)]
  · rw [if_neg h6]
    unfold uncV
    by_cases hc : 1 ≤ k ∧ k ≤ n ∧ es k = 6
    · rw [if_pos hc, if_pos ⟨hc.1, by omega, hc.2.2⟩]
    · rw [if_neg hc, if_neg (fun h => hc ⟨h.1, by
        rcases Nat.lt_or_ge k (n + 1) with hh | hh
        · omega
        · have : k = n + 1 := by omega
          subst this
          exact absurd h.2.2 h6, h.2.2⟩)]
theorem uncV_at (vals : Nat → Option ByteArray) (es : Nat → Nat) (n : Nat) : uncV vals es n (n + 1) = vals (n + 1) := by
  unfold uncV
  rw [if_neg (by omega)]
theorem Bq.callZ {w0 : World × (Nat → Prop)} {V : World} {d j t m u M N M' N' : Nat} {x : Tst} {C C' : List On} {Z : List It} {Q : Nat → Prop} {R : List It → Prop} {f : FuncId} {args : Array Value} {P : Ending → Prop} (h : Bq d j t m u x Z w0 C M N Q V) (hT : TabZ w0) (hc : ∀ F, (∀ i, F i → w0.2 i ∨ w0.1.heap.size ≤ i) → TabZ (V, F) → Bz d j t m u x Z (V, F) C M N V → Calls Tryz.prog f args V fun e w' => P e ∧ ∃ Z', R Z' ∧ Bz d j t m u x Z' (V, F) C' M' N' w') :
    Calls Tryz.prog f args V fun e w' => P e ∧ ∃ Z', R Z' ∧ Bq d j t m u x Z' w0 C' M' N' Q w' ∧ (∀ i, Q i → w'.heap[i]? = V.heap[i]?) ∧ V.heap.size ≤ w'.heap.size := by
  obtain ⟨F, h1, h2, h3, h4, h5⟩ := h
  refine (hc F h1 (fun V2 hV => hT V2 (h3.trans hV h1)) (h4 V (fun _ _ => rfl))).mono fun e w' ⟨hp, Z', hr, hb⟩ => ⟨hp, Z', hr, ?_, ?_, hb.chg.size⟩
  · obtain ⟨F', k1, k2, k3⟩ := bz_freshF hb
    have hcg := hb.chg
    have hs := hcg.size
    refine ⟨F', fun i hi => ?_, k2, h3.trans hcg h1, k3, fun i hi => ⟨Nat.lt_of_lt_of_le (h5 i hi).1 hs, fun hf => ?_, (h5 i hi).2.2⟩⟩
    · rcases k1 i hi with hh | hh
      · exact h1 i hh
      · exact .inr (Nat.le_trans h3.size hh)
    · rcases k1 i hf with hh | hh
      · exact (h5 i hi).2.1 hh
      · have := (h5 i hi).1
        have hh : V.heap.size ≤ i := hh
        omega
  · intro i hi
    exact hb.chg.block i (h5 i hi).1 (h5 i hi).2.1
theorem Bq.rowAt {w0 : World × (Nat → Prop)} {V V' : World} {d j t m u M N B n : Nat} {x : Tst} {C : List On} {Z : List It} {Q Q' : Nat → Prop} {v v' : Value} {xs : List Value} (h : Bq d j t m u x Z w0 C M N Q V) (ho : V'.ownsRow B 9 1 v' n xs)
    (hg : V.grownBy V' v.ownBlock) (hat : v'.ownBlock = v.ownBlock ∨ v'.ownBlock = some V.heap.size) (hQ : ∀ g, v.ownBlock = some g → Q g) (hQ' : ∀ g, Q' g → Q g ∨ v'.ownBlock = some g) : Bq d j t m u x Z w0 C M N Q' V' := by
  have hc : Chg Q V V' := ⟨hg.os, hg.tape, hg.output, hg.size, fun i hi hn => hg.block i hi (fun e => hn (hQ i e.symm))⟩
  refine h.go hc (fun i hi => ?_)
  rcases hQ' i hi with hh | hh
  · exact .inl hh
  · rcases hat with e | e
    · exact .inl (hQ i (by rw [← e]; exact hh))
    · rw [e] at hh
      injection hh with hh
      have := (ho.lt i (by rw [e, hh])).2
      exact .inr ⟨by omega, this⟩
theorem heldK_succL (κ : ByteArray → ByteArray) (f : Nat → List ByteArray) (n : Nat) : (heldK κ f (n + 1)).map sv = (heldK κ f n).map sv ++ ((f (n + 1)).map κ).map sv := by rw [heldK_succ, List.map_append]
set_option maxRecDepth 100000 in
set_option maxHeartbeats 8000000 in
theorem forget_any {w0 : World × (Nat → Prop)} {W : World} {d j t m u M N i : Nat} {x : Tst} {C : List On} {Z : List It} {vals : Nat → Option ByteArray} {old : Nat → List ByteArray} {es : Nat → Nat} (h : Bz d j t m u x Z w0 C M N W) (hx : Xk x) (hz : Zr Z vals) (hT : TabZ w0) (hM : M ≤ 1000000) (hN : N ≤ 1000000) (h1 : 1 ≤ i) (h6 : i ≤ 6)
    (hk : ∀ n, 1 ≤ n → n ≤ 6 → Vk C (Ac.upd vals i none n) (old n) (es n)) (ho : ∀ n, (old n).length ≤ 200) :
    Calls Tryz.prog 16 #[.pointer (some ⟨u, 0, none⟩), .int .i64 (i : Int)] W fun e w' => e = .returned (.int .i64 0) ∧ ∃ Z', Zr Z' (uncV (Ac.upd vals i none) es 6) ∧ Bz d j t m u x Z' w0 (swC C (heldK (keyD C) old 6)) (M + (heldK (keyD C) old 6).length) N w' := by
  have hsp := isSpoke_any (i : Int) W (by omega)
  rw [Ac.may_yes (by omega) (by omega)] at hsp
  have ck := keyOf_any i W h6 (hT W h.chg)
  obtain ⟨vs0, hvs0⟩ : ∃ vs0, vs0 = Ac.upd vals i none := ⟨_, rfl⟩
  have HZD := Lib.hid (hvs0 ▸ zr_drop hz h1 h6)
  rw [← hvs0] at hk ⊢
  have HH := Lib.hid h
  have HT := Lib.hid hT
  have HX := Lib.hid hx
  have HK := Lib.hid hk
  have HO := Lib.hid ho
  have hB0 := h.chg.size
  clear h hz hT hx hk ho hvs0
  go_enter Tryz.func16, Tryz.ntmps16
  go_wp2_with fail
  go_at_call 29
  refine hsp.mono ?_
  rintro e w1 ⟨rfl, rfl⟩
  clear hsp
  go_wp2_with fail
  go_at_call 33
  refine ck.mono ?_
  rintro e w2 ⟨rfl, b2⟩
  have cd := bzdropA (HH.out.below b2) h1 h6 (by omega)
  clear ck b2
  go_wp2_with fail
  go_at_call 43
  refine cd.mono ?_
  rintro e w3 ⟨rfl, hb3⟩
  have HQ3 := Lib.hid (bq_first hb3)
  have HS3 := Lib.hid hb3.chg.size
  clear cd hb3
  go_wp2_with fail
  go_loopw [5, 6] (fun hv ov wr => ∃ (n k : Nat) (Zn : List It), n ≤ 6 ∧ ov = .int .i64 (n + 1 : Nat) ∧ Zr Zn (uncV vs0 es n) ∧ Bq d j t m u x Zn w0 C M N (fun g => hv.ownBlock = some g) wr ∧ Hid (k = (heldK (keyD C) old n).length) ∧ k ≤ n * 200 ∧ wr.ownsRow w3.heap.size 9 1 hv k ((heldK (keyD C) old n).map sv) ∧ w3.heap.size ≤ wr.heap.size) (fun _ ov _ => 7 - (intOf ov).toNat)
  case atStart =>
    refine ⟨0, 0, _, by omega, rfl, ?_, HQ3.out.go (Chg.refl _ _) (fun g hg => by cases hg), rfl, by omega, World.ownsRow_nil _ _ _ _, Nat.le_refl _⟩
    have e : uncV vs0 es 0 = vs0 := by
      funext q
      unfold uncV
      rw [if_neg (by omega)]
    rw [e]
    exact HZD.out
  case round =>
    clear HQ3
    obtain ⟨n, k, Zn, hn, rfl, hzn, hq, hkl, hkb, hrow, hsz⟩ := hrel
    by_cases hlt : n < 6
    · have hvk := HK.out (n + 1) (by omega) (by omega)
      have hvk2 : Vk C (uncV vs0 es n (n + 1)) (old (n + 1)) (es (n + 1)) := by rw [uncV_at]; exact hvk
      have cl := load_vk hq.bz hzn HT.out (by omega) (by omega) (by omega) hvk2
      have hnz : ((n + 1 : Nat) : Int) ≤ 6 := by omega
      have HRW := Lib.hid hrow
      have HQ := Lib.hid hq
      have HZN := Lib.hid hzn
      clear hq hrow hzn
      go_wp2_with fail
      go_at_call 31
      refine cl.mono ?_
      rintro e w4 ⟨v, vk, rfl, ⟨av, nv, cv, rfl⟩, hTx, hb4⟩
      obtain ⟨ak, ck, hvf, _⟩ := hTx.form
      rw [List.length_map] at hvf
      subst hvf
      obtain ⟨mo, hmo⟩ : ∃ mo, mo = (old (n + 1)).length := ⟨_, rfl⟩
      have hmo2 : mo ≤ 200 := by rw [hmo]; exact HO.out _
      rw [← hmo] at hTx ⊢
      have HMO := Lib.hid hmo
      have hbK := (Below.refl w4.heap.size w4).alloc (Nat.le_refl _) (kO (.slice av nv cv) (.slice ak mo ck))
      have hbWK := Tx.below_call hb4 hbK
      have hT4 := hTx.below hbK
      have hvr4 : (w4.alloc (kO (.slice av nv cv) (.slice ak mo ck))).ownsRow wr.heap.size 9 1 (.slice ak mo ck) mo (((old (n + 1)).map (keyD C)).map sv) := by
        have := hT4
        unfold Texts at this
        rw [List.length_map, ← hmo] at this
        exact this
      have hq4 : Bq d j t m u x Zn w0 C M N (fun g => u5.ownBlock = some g ∨ (Value.slice ak mo ck).ownBlock = some g ∨ g = w4.heap.size) (w4.alloc (kO (.slice av nv cv) (.slice ak mo ck))) := HQ.out.go (Chg.of_below hbWK) (fun g hg => by
        rcases hg with hg | hg | rfl
        · exact .inl hg
        · have := hvr4.lt g hg
          exact .inr ⟨this.1, this.2⟩
        · exact .inr ⟨hb4.size, by simp⟩)
      have hr4 := own_kept HRW.out (fun g hg => hbWK.block g (HRW.out.lt g hg).2)
      have hkb4 := new_at w4 (kO (.slice av nv cv) (.slice ak mo ck)) (g := w4.heap.size) rfl
      have hs4 : w3.heap.size ≤ (w4.alloc (kO (.slice av nv cv) (.slice ak mo ck))).heap.size := Nat.le_trans hsz hbWK.size
      clear cl hTx hb4 hbK hbWK hT4 hmo
      by_cases he6 : es (n + 1) = 6
      · obtain ⟨vv, hvv, hv0, hvs⟩ := hvk.six he6
        have hezz : ((es (n + 1) : Nat) : Int) = 6 := by omega
        have cu := hq4.callZ HT.out (fun F hF hTF hBz => uncount_any (i := n + 1) hBz HZN.out hTF (by omega) (by omega) (by omega) (by rw [uncV_at]; exact hvv) hv0 hvs)
        have hvs2 : Ac.upd (uncV vs0 es n) (n + 1) (some (unc vv)) = uncV vs0 es (n + 1) := by rw [uncV_succ, if_pos he6, hvv]; rfl
        rw [hvs2] at cu
        have HR4 := Lib.hid hr4
        have HV4 := Lib.hid hvr4
        have HK4 := Lib.hid hkb4
        have HS4 := Lib.hid hs4
        rw [he6]
        clear hr4 hvr4 hkb4 hs4 hq4 hvk hvk2
        go_wp2_with fail
        go_at_call 44
        refine cu.mono ?_
        rintro e w5 ⟨rfl, Z5, hz5, hq5, hk5, hs45⟩
        have hr5 := own_kept HR4.out (fun g hg => hk5 g (.inl hg))
        have hvr5 := own_kept HV4.out (fun g hg => hk5 g (.inr (.inl hg)))
        have hkb5 := (hk5 _ (.inr (.inr rfl))).trans HK4.out
        have hs5 := Nat.le_trans HS4.out hs45
        clear cu hk5 hs45
        have hk1 : w5.cell? ⟨w4.heap.size, 1, none⟩ = some (.slice ak mo ck) := by unfold World.cell?; rw [hkb5]; rfl
        obtain ⟨iS, hS, hS0, hS1, hS2⟩ := info_parts infoSt
        have hk8 : (k + mo) * 16 ≤ 140737488355328 := by omega
        have HSTK := Lib.hid (strs_row hvr5)
        have hrr := hr5
        cases ak with
        | none =>
          have hm0 : mo = 0 := HSTK.out.2.elim id (fun ⟨b, off, e, _⟩ => by cases e)
          have hck : ck = 0 := by
            rcases hvr5.2 with ⟨e, _⟩ | ⟨g, cap, cur, e, _⟩
            · injection e
            · injection e with e1 _ _
              cases e1
          subst hck
          have hnil : old (n + 1) = [] := List.eq_nil_of_length_eq_zero (by rw [← HMO.out]; exact hm0)
          have HQ6 : Hid (Bq d j t m u x Z5 w0 C M N (fun g => u5.ownBlock = some g) w5) := Lib.hid (hq5.go (Chg.refl _ _) (fun g hg => .inl (.inl hg)))
          have HR6 : Hid (w5.ownsRow w3.heap.size 9 1 u5 k ((heldK (keyD C) old (n + 1)).map sv)) := Lib.hid (by rw [heldK_succL, hnil]; simpa using hr5)
          have HL6 : Hid (k = (heldK (keyD C) old (n + 1)).length) := Lib.hid (by rw [heldK_succ, hnil, hkl.out]; simp)
          clear hq5 hr5 hvr5 hkb5 hnil
          subst hm0
          go_wp2_with (at_builtin; refine wpList_append_own_none rfl (.tmp 31) (.tmp 33) 52 rfl w3.heap.size 9 iS 1 Tryz.underlying52 hS _ _ _ rfl hrr rfl ?_)
          go_wp2_with fail
          go_roundw
          case rel => exact ⟨n + 1, k, Z5, by omega, by go_num, hz5, HQ6.out, HL6.out, by omega, HR6.out, hs5⟩
          case measure => simp [intOf]; omega
        | some ad =>
          go_wp2_with (at_builtin; refine wpList_append_own_at _ rfl (.tmp 31) (.tmp 33) 52 rfl w3.heap.size 9 iS (.string ⟨#[]⟩) 1 16 Tryz.underlying52 hS hS0 hS1 hS2 rfl (by decide) _ _ _ rfl hrr ad mo ck (((old (n + 1)).map (keyD C)).map sv) rfl ?c1 ?c2 ?c3 ?c4 ?c5 ?c6 ?_)
          case c1 => rw [List.length_map, List.length_map, ← HMO.out, Nat.mul_one]
          case c2 =>
            intro q v hv
            rw [List.getElem?_map] at hv
            obtain ⟨y, hy, rfl⟩ := Option.map_eq_some_iff.1 hv
            rcases HSTK.out.2 with h0 | ⟨bk, off, e, _, g0⟩
            · have hq := (List.getElem?_eq_some_iff.1 hy).1
              rw [List.length_map, ← HMO.out, h0] at hq
              omega
            · injection e with e
              subst e
              rw [WideShapes.add_plain]
              exact g0 q y hy
          case c3 => exact Tx.sv_one _
          case c4 => unfold maxLen; omega
          case c5 => exact hk8
          case c6 => exact hs5
          intro v6 w6 hr6 hg6 _ hat6
          obtain ⟨a6, c6, rfl⟩ := row_form hr6
          have HQ6 : Hid (Bq d j t m u x Z5 w0 C M N (fun g => (Value.slice a6 (k + mo) c6).ownBlock = some g) w6) := Lib.hid (hq5.rowAt hr6 hg6 hat6 (fun g hg => .inl hg) (fun g hg => .inr hg))
          have HR6 : Hid (w6.ownsRow w3.heap.size 9 1 (.slice a6 (k + mo) c6) (k + mo) ((heldK (keyD C) old (n + 1)).map sv)) := Lib.hid (by rw [heldK_succL, List.map_map]; exact hr6)
          have HL6 : Hid (k + mo = (heldK (keyD C) old (n + 1)).length) := Lib.hid (by rw [heldK_succ, List.length_append, List.length_map, ← hkl.out, ← HMO.out])
          have hs6 : w3.heap.size ≤ w6.heap.size := Nat.le_trans hs5 hg6.size
          clear hq5 hr5 hr6 hg6 hat6 hvr5 hkb5 hrr
          go_wp2_with fail
          go_roundw
          case rel => exact ⟨n + 1, k + mo, Z5, by omega, by go_num, hz5, HQ6.out, HL6.out, by omega, HR6.out, hs6⟩
          case measure => simp [intOf]; omega
      · have hezz : ¬ ((es (n + 1) : Nat) : Int) = 6 := by omega
        have hez2 : (((es (n + 1) : Nat) : Int) == 6) = false := by simpa using hezz
        have hz5 : Zr Zn (uncV vs0 es (n + 1)) := by rw [uncV_succ, if_neg he6]; exact HZN.out
        have hq5 := hq4
        have hr5 := hr4
        have hvr5 := hvr4
        have hkb5 := hkb4
        have hs5 := hs4
        clear hr4 hvr4 hkb4 hs4 hq4 hvk hvk2
        have hk1 : (w4.alloc (kO (.slice av nv cv) (.slice ak mo ck))).cell? ⟨w4.heap.size, 1, none⟩ = some (.slice ak mo ck) := by unfold World.cell?; rw [hkb5]; rfl
        obtain ⟨iS, hS, hS0, hS1, hS2⟩ := info_parts infoSt
        have hk8 : (k + mo) * 16 ≤ 140737488355328 := by omega
        have HSTK := Lib.hid (strs_row hvr5)
        have hrr := hr5
        cases ak with
        | none =>
          have hm0 : mo = 0 := HSTK.out.2.elim id (fun ⟨b, off, e, _⟩ => by cases e)
          have hck : ck = 0 := by
            rcases hvr5.2 with ⟨e, _⟩ | ⟨g, cap, cur, e, _⟩
            · injection e
            · injection e with e1 _ _
              cases e1
          subst hck
          have hnil : old (n + 1) = [] := List.eq_nil_of_length_eq_zero (by rw [← HMO.out]; exact hm0)
          have HQ6 : Hid (Bq d j t m u x Zn w0 C M N (fun g => u5.ownBlock = some g) (w4.alloc (kO (.slice av nv cv) (.slice none mo 0)))) := Lib.hid (hq5.go (Chg.refl _ _) (fun g hg => .inl (.inl hg)))
          have HR6 : Hid ((w4.alloc (kO (.slice av nv cv) (.slice none mo 0))).ownsRow w3.heap.size 9 1 u5 k ((heldK (keyD C) old (n + 1)).map sv)) := Lib.hid (by rw [heldK_succL, hnil]; simpa using hr5)
          have HL6 : Hid (k = (heldK (keyD C) old (n + 1)).length) := Lib.hid (by rw [heldK_succ, hnil, hkl.out]; simp)
          clear hq5 hr5 hvr5 hkb5 hnil
          subst hm0
          go_wp2_with (at_builtin; refine wpList_append_own_none rfl (.tmp 31) (.tmp 33) 52 rfl w3.heap.size 9 iS 1 Tryz.underlying52 hS _ _ _ rfl hrr rfl ?_)
          go_wp2_with fail
          go_roundw
          case rel => exact ⟨n + 1, k, Zn, by omega, by go_num, hz5, HQ6.out, HL6.out, by omega, HR6.out, hs5⟩
          case measure => simp [intOf]; omega
        | some ad =>
          go_wp2_with (at_builtin; refine wpList_append_own_at _ rfl (.tmp 31) (.tmp 33) 52 rfl w3.heap.size 9 iS (.string ⟨#[]⟩) 1 16 Tryz.underlying52 hS hS0 hS1 hS2 rfl (by decide) _ _ _ rfl hrr ad mo ck (((old (n + 1)).map (keyD C)).map sv) rfl ?c1 ?c2 ?c3 ?c4 ?c5 ?c6 ?_)
          case c1 => rw [List.length_map, List.length_map, ← HMO.out, Nat.mul_one]
          case c2 =>
            intro q v hv
            rw [List.getElem?_map] at hv
            obtain ⟨y, hy, rfl⟩ := Option.map_eq_some_iff.1 hv
            rcases HSTK.out.2 with h0 | ⟨bk, off, e, _, g0⟩
            · have hq := (List.getElem?_eq_some_iff.1 hy).1
              rw [List.length_map, ← HMO.out, h0] at hq
              omega
            · injection e with e
              subst e
              rw [WideShapes.add_plain]
              exact g0 q y hy
          case c3 => exact Tx.sv_one _
          case c4 => unfold maxLen; omega
          case c5 => exact hk8
          case c6 => exact hs5
          intro v6 w6 hr6 hg6 _ hat6
          obtain ⟨a6, c6, rfl⟩ := row_form hr6
          rw [show w4.heap.size + 1 = (w4.alloc (kO (.slice av nv cv) (.slice (some ad) mo ck))).heap.size by simp] at hat6
          have HQ6 : Hid (Bq d j t m u x Zn w0 C M N (fun g => (Value.slice a6 (k + mo) c6).ownBlock = some g) w6) := Lib.hid (hq5.rowAt hr6 hg6 hat6 (fun g hg => .inl hg) (fun g hg => .inr hg))
          have HR6 : Hid (w6.ownsRow w3.heap.size 9 1 (.slice a6 (k + mo) c6) (k + mo) ((heldK (keyD C) old (n + 1)).map sv)) := Lib.hid (by rw [heldK_succL, List.map_map]; exact hr6)
          have HL6 : Hid (k + mo = (heldK (keyD C) old (n + 1)).length) := Lib.hid (by rw [heldK_succ, List.length_append, List.length_map, ← hkl.out, ← HMO.out])
          have hs6 : w3.heap.size ≤ w6.heap.size := Nat.le_trans hs5 hg6.size
          clear hq5 hr5 hr6 hg6 hat6 hvr5 hkb5 hrr
          go_wp2_with fail
          go_roundw
          case rel => exact ⟨n + 1, k + mo, Zn, by omega, by go_num, hz5, HQ6.out, HL6.out, by omega, HR6.out, hs6⟩
          case measure => simp [intOf]; omega
    · obtain rfl : n = 6 := by omega
      obtain ⟨ah, ch, rfl⟩ := row_form hrow
      have hst := strs_row hrow
      have hkk := hkl.out
      have hkc : k ≤ ch := by
        rcases hrow.2 with ⟨e, h0⟩ | ⟨g, cap, cur, e, _, _, hnc, _⟩
        · injection e with _ e2 e3; omega
        · injection e with _ _ e3; omega
      have hgC := (hq.bz).good
      have cs := bzsweep ah k ch (heldK (keyD C) old 6) hq.bz HX.out hM hN (by rw [hkk] at hst ⊢; exact hst) hkc (by omega) (fun p hp => by
        obtain ⟨jj, dd, j1, j6, hd, rfl⟩ := heldK_mem hp
        have hh := (HK.out jj j1 j6).there dd hd
        obtain ⟨y, hy, _, e, _⟩ := of8_mem hh
        rw [e]
        have := keyO_size hgC (by omega) hy
        omega)
      have HZN := Lib.hid hzn
      have HKK := Lib.hid hkk
      clear hq hrow hst hkc hgC hzn hkk hkl
      go_wp2_with fail
      go_at_call 45
      refine cs.mono ?_
      rintro e w5 ⟨rfl, hb5⟩
      have HB5 := Lib.hid hb5
      clear cs hb5
      go_wp2_with fail
      go_ret
      exact ⟨rfl, Zn, HZN.out, by rw [← HKK.out]; exact HB5.out⟩
end Go.Proofs.YtdkgkomjbpggeaaGreatDoor.Az

namespace Go.Proofs.YtdkgkomjbpggeaaGreatDoor.Az
open Go.RowKit Tx Pm Dk Wm Wr Wl Pl Tb Bl Fm
open Fr hiding sv Texts cnt cnt_snoc
open En (Et tcheck)
open Ac (Ar upd upd_same upd_other files saveA turnA backA forgetA calm loadA)
set_option linter.unusedVariables false
set_option linter.unusedSimpArgs false
set_option linter.unnecessarySimpa false
theorem tot_mono {f g : Nat → List ByteArray} {d : ByteArray} (h : ∀ j, j ≤ 6 → cnt (f j) d ≤ cnt (g j) d) : tot f d ≤ tot g d := by
  have e : List.range 7 = [0, 1, 2, 3, 4, 5, 6] := rfl
  unfold tot
  rw [e]
  simp only [List.map_cons, List.map_nil, List.sum_cons, List.sum_nil]
  have := h 0 (by omega)
  have := h 1 (by omega)
  have := h 2 (by omega)
  have := h 3 (by omega)
  have := h 4 (by omega)
  have := h 5 (by omega)
  have := h 6 (by omega)
  omega
theorem files_sum : ∀ l : List Et, ((files l).map fun d => d.size + 74).sum ≤ Ac.bk l + 74 * l.length
  | [] => Nat.le_refl _
  | x :: l => by
    have ih := files_sum l
    rw [Ac.bk_cons, List.length_cons]
    unfold files at ih ⊢
    by_cases hk : x.node.kind = 2
    · rw [List.filter_cons_of_pos (by simpa using hk), List.map_cons, List.map_cons, List.sum_cons]
      omega
    · rw [List.filter_cons_of_neg (by simpa using hk)]
      omega
section
variable {A : Ar} {k i M N : Nat} {C : List On} {vals : Nat → Option ByteArray}
theorem Hv.mono {k' : Nat} (h : Hv A k C vals M N) (hk : k ≤ k') : Hv A k' C vals M N :=
  ⟨h.good, by have := h.mB; omega, by have := h.nB; omega, by have := h.czB; omega, h.ga, fun i t ht => by have := h.bk i t ht; omega, h.slot, fun i v hv => by have := h.out i v hv; omega, h.ge, h.eq, h.jj⟩
theorem rdl_hold (A : Ar) (i : Nat) (d : ByteArray) : cnt (rdl A i) d ≤ cnt (hold A i) d := by
  unfold rdl hold
  cases A.tr i with
  | none => exact Nat.le_refl _
  | some t =>
    cases A.tu i with
    | none => exact Nat.le_refl _
    | some b => exact Nat.zero_le _
theorem rdl_eq {A : Ar} {i : Nat} (h : A.tu i = none) : rdl A i = hold A i := by
  unfold rdl hold
  rw [h]
  rfl
theorem Hv.there (h : Hv A k C vals M N) {i : Nat} (hi : i ≤ 6) {d : ByteArray} (hd : d ∈ hold A i) : (of8 C d).isSome = true := by
  rw [has_ref h.good]
  have h1 := h.ge d
  have h2 := tot_le (hold A) hi d
  have h3 := cnt_pos.2 hd
  omega
theorem hv_vk (h : Hv A k C vals M N) (hk : k ≤ 10000000) (h1 : 1 ≤ i) (h6 : i ≤ 6) : Vk C (vals i) (rdl A i) (loadA A i).2 := by
  have hs := h.slot i h1 h6
  unfold rdl loadA
  cases ht : A.tr i with
  | none =>
    rw [ht] at hs
    have hs : vals i = none := hs
    rw [hs]
    exact .none
  | some t =>
    rw [ht] at hs
    obtain ⟨x, hx, hx0, hx1, hx2⟩ := hs
    rw [hx]
    cases hu : A.tu i with
    | none =>
      rw [hx1 hu]
      refine .ok (h.ga.trees i t ht).1 (by have := h.bk i t ht; omega) (fun e he => h.there h6 ?_)
      unfold hold
      rw [ht, hu]
      exact he
    | some b => exact .bad (hx2 b hu).1 hx0 (by have := (h.out i x hx).2.2; omega)
theorem rdl_len (h : Hv A k C vals M N) (hk : k ≤ 10000000) (j : Nat) : (rdl A j).length ≤ 200 := by
  unfold rdl
  cases ht : A.tr j with
  | none => exact Nat.zero_le _
  | some t =>
    have h1 := (ok_all (h.ga.trees j t ht).1 (by have := h.bk j t ht; omega)).1
    have h2 := Ac.files_len t
    simp only
    split
    · omega
    · exact Nat.zero_le _
theorem slot_keep {κ κ' : ByteArray → ByteArray} {wh wh' : Bool} {o : Option (List Et)} {b : Option Int} {v : Option ByteArray} (h : Slot κ wh o b v) (hw : wh' = true → wh = true) (hκ : ∀ t, o = some t → (b = none ∨ wh' = true) → ∀ d ∈ files t, κ' d = κ d) : Slot κ' wh' o b v := by
  unfold Slot at h ⊢
  cases o with
  | none => exact h
  | some t =>
    obtain ⟨x, h1, h2, h3, h4⟩ := h
    refine ⟨x, h1, h2, fun hb => ?_, fun c hc => ⟨(h4 c hc).1, fun hw2 => ?_⟩⟩
    · rw [h3 hb]
      exact (val16_congr (fun y hy hyk => (hκ t rfl (.inl hb) _ (mem_files.2 ⟨y, hy, hyk, rfl⟩)).symm)).2
    · rw [(h4 c hc).2 (hw hw2)]
      congr 1
      exact (val16_congr (fun y hy hyk => (hκ t rfl (.inr hw2) _ (mem_files.2 ⟨y, hy, hyk, rfl⟩)).symm)).2
theorem hv_save {l : List Et} (h : Hv A k C vals M N) (h1 : 1 ≤ i) (h6 : i ≤ 6) (ht : tcheck l = 0) (hbk : Ac.bk l ≤ 10000000) (hk : k ≤ 10000000) :
    Hv (saveA A i l) (k + 10000 + Ac.bk l) (relsC (putsC C (files l)) (rdl A i)) (upd vals i (some (val16 (keyD (putsC C (files l))) l))) (M + (files l).length) (N + (files l).length) := by
  obtain ⟨hlen, hok⟩ := ok_all ht hbk
  have hfl := Ac.files_len l
  have hsz : ∀ e ∈ files l, e.size ≤ 140737488351232 := fun e he => by
    obtain ⟨z, hz, _, rfl⟩ := mem_files.1 he
    have := (hok z hz).data
    omega
  have hg := h.good
  have hg1 := putsC_good hg (files l) hsz
  have hr1 := fun d => putsC_ref hg (files l) hsz d
  have hrl : ∀ d, cnt (rdl A i) d ≤ refD C d := fun d => by
    have := rdl_hold A i d
    have := tot_le (hold A) h6 d
    have := h.ge d
    omega
  have hol : ∀ d, cnt (rdl A i) d ≤ refD (putsC C (files l)) d := fun d => by rw [(hr1 d).1]; have := hrl d; omega
  have hg2 := relsC_good hg1 (rdl A i)
  have hr2 := fun d => relsC_ref hg1 (rdl A i) hol d
  have htot := fun d => tot_upd (hold A) h6 (files l) d
  have href : ∀ d, refD (relsC (putsC C (files l)) (rdl A i)) d = refD C d + cnt (files l) d - cnt (rdl A i) d := fun d => by rw [(hr2 d).1, (hr1 d).1]
  have hge : ∀ d, tot (hold (saveA A i l)) d ≤ refD (relsC (putsC C (files l)) (rdl A i)) d := fun d => by
    rw [hold_save, href]
    have := htot d
    have := h.ge d
    have := rdl_hold A i d
    have := hrl d
    have := tot_le (hold A) h6 d
    omega
  have hkey : ∀ d, 1 ≤ tot (hold (saveA A i l)) d → keyD (relsC (putsC C (files l)) (rdl A i)) d = keyD (putsC C (files l)) d := fun d hd => (hr2 d).2 (by rw [has_ref hg2]; have := hge d; omega)
  have hκ1 : ∀ y ∈ l, y.node.kind = 2 → (keyD (putsC C (files l)) y.node.data).size ≤ 14 := fun y hy hyk => by
    have hh : (of8 (putsC C (files l)) y.node.data).isSome = true := by
      rw [has_ref hg1, (hr1 y.node.data).1]
      have := cnt_pos.2 (mem_files.2 ⟨y, hy, hyk, rfl⟩)
      omega
    obtain ⟨q, hq, _, e, _⟩ := of8_mem hh
    rw [e]
    exact keyO_size hg1 (by have := h.mB; omega) hq
  obtain ⟨v1, v2, v3⟩ := val16_size (κ := keyD (putsC C (files l))) ht hbk hκ1
  have hts : ∀ j t, (saveA A i l).tr j = some t → Ac.bk t ≤ k + 10000 + Ac.bk l := fun j t hj => by
    by_cases e : j = i
    · subst e
      have : some l = some t := by rw [← hj]; exact (upd_same _ _ _).symm
      injection this with this
      subst this
      omega
    · have := h.bk j t (by rw [← hj]; exact (upd_other A.tr _ e).symm)
      omega
  refine ⟨hg2, by have := h.mB; omega, by have := h.nB; omega, ?_, Ac.good_save h.ga h1 h6 ht, hts, fun j j1 j6 => ?_, fun j v hj => ?_, hge, fun hc hw d => ?_, fun hc hw => ?_⟩
  · have a1 := cz_rels (putsC C (files l)) (rdl A i)
    have a2 := cz_puts C (files l)
    have a3 := files_sum l
    have a4 := h.czB
    omega
  · by_cases e : j = i
    · subst e
      have e1 : (saveA A j l).tr j = some l := upd_same _ _ _
      have e2 : (saveA A j l).tu j = none := upd_same _ _ _
      rw [e1, e2, upd_same]
      refine ⟨_, rfl, v3, fun _ => ?_, fun c hc => by cases hc⟩
      refine (val16_congr (fun y hy hyk => (hkey _ ?_).symm)).2
      rw [hold_save]
      have a1 := htot y.node.data
      have a2 := cnt_pos.2 (mem_files.2 ⟨y, hy, hyk, rfl⟩)
      have a3 := tot_le (hold A) h6 y.node.data
      omega
    · have e1 : (saveA A i l).tr j = A.tr j := upd_other _ _ e
      have e2 : (saveA A i l).tu j = A.tu j := upd_other _ _ e
      rw [e1, e2, upd_other _ _ e]
      refine slot_keep (h.slot j j1 j6) (fun hw => hw) (fun t htj hb d hd => ?_)
      have hdj : d ∈ hold A j := by
        unfold hold
        rw [htj]
        rcases hb with hb | hb
        · rw [hb]; exact hd
        · have hb : A.wh = true := hb
          simp only [hb, Bool.or_true, if_true]
          exact hd
      rw [hkey d ?_, (hr1 d).2 (h.there j6 hdj)]
      have a1 := tot_le (hold (saveA A i l)) j6 d
      rw [hold_save, upd_other _ _ e] at a1
      have := cnt_pos.2 hdj
      rw [hold_save]
      omega
  · by_cases e : j = i
    · subst e
      rw [upd_same] at hj
      injection hj with hj
      subst hj
      exact ⟨h1, h6, by omega⟩
    · rw [upd_other _ _ e] at hj
      have := h.out j v hj
      omega
  · have hc : (A.cl && (A.tu i).isNone) = true := hc
    rw [Bool.and_eq_true] at hc
    have hu : A.tu i = none := Option.isNone_iff_eq_none.1 hc.2
    have a1 := h.eq hc.1 hw d
    have a2 := htot d
    rw [hold_save, href, rdl_eq hu]
    have a3 := tot_le (hold A) h6 d
    omega
  · have hc : (A.cl && (A.tu i).isNone) = true := hc
    rw [Bool.and_eq_true] at hc
    obtain ⟨j, hj⟩ := h.jj hc.1 hw
    have hu : A.tu i = none := Option.isNone_iff_eq_none.1 hc.2
    refine ⟨j, ?_⟩
    have e : j ≠ i := fun e => hj (by rw [e]; exact hu)
    rw [show (saveA A i l).tu j = A.tu j from upd_other _ _ e]
    exact hj
theorem hv_turn {b : Int} {t : List Et} (h : Hv A k C vals M N) (h1 : 1 ≤ i) (h6 : i ≤ 6) (ht : A.tr i = some t) (hu : A.tu i = none) (hk : k ≤ 10000000) : ∃ v, vals i = some v ∧ 0 < v.size ∧ v.size ≤ 100000000 ∧ Bad (inv (tn v b)) ∧ Hv (turnA A i b) (k + 10000) C (upd vals i (some (tn v b))) M N := by
  have hs := h.slot i h1 h6
  rw [ht] at hs
  obtain ⟨x, hx, hx0, hx1, hx2⟩ := hs
  have hxo := h.out i x hx
  have hxe := hx1 hu
  have hbt := h.bk i t ht
  have htc := (h.ga.trees i t ht).1
  have hκ1 : ∀ y ∈ t, y.node.kind = 2 → (keyD C y.node.data).size ≤ 14 := fun y hy hyk => by
    have hh := h.there h6 (d := y.node.data) (by unfold hold; rw [ht, hu]; exact mem_files.2 ⟨y, hy, hyk, rfl⟩)
    obtain ⟨q, hq, _, e, _⟩ := of8_mem hh
    rw [e]
    exact keyO_size h.good (by have := h.mB; omega) hq
  obtain ⟨v1, v2, v3⟩ := val16_size (κ := keyD C) htc (by omega) hκ1
  have hbd : Bad (tn x b) := by rw [hxe]; exact tn_bad _ b (by omega)
  have hts := tn_size x b
  refine ⟨x, hx, hx0, by omega, inv_bad (by omega) (by rw [hxe]; exact tn_last _ b), ⟨h.good, by have := h.mB; omega, by have := h.nB; omega, by have := h.czB; omega, Ac.good_turn h.ga (by rw [ht]; rfl), fun j u hj => by have := h.bk j u hj; omega, fun j j1 j6 => ?_, fun j v hj => ?_, fun d => ?_, fun hc hw d => ?_, fun hc hw => ⟨i, by rw [show (turnA A i b).tu i = some b from upd_same _ _ _]; exact fun e => by cases e⟩⟩⟩
  · by_cases e : j = i
    · subst e
      rw [show (turnA A j b).tr j = some t from ht, show (turnA A j b).tu j = some b from upd_same _ _ _, upd_same]
      refine ⟨_, rfl, by omega, (fun hn => by cases hn), fun c hc => ⟨hbd, fun _ => ?_⟩⟩
      injection hc with hc
      subst hc
      rw [hxe]
    · rw [show (turnA A i b).tr j = A.tr j from rfl, show (turnA A i b).tu j = A.tu j from upd_other _ _ e, upd_other _ _ e]
      exact h.slot j j1 j6
  · by_cases e : j = i
    · subst e
      rw [upd_same] at hj
      injection hj with hj
      subst hj
      exact ⟨h1, h6, by omega⟩
    · rw [upd_other _ _ e] at hj
      have := h.out j v hj
      omega
  · refine Nat.le_trans (tot_mono (fun j j6 => ?_)) (h.ge d)
    by_cases e : j = i
    · subst e
      exact (hold_turn A j b d).resolve_right (fun hn => hn hu)
    · rw [hold_turn_other A b e]
      exact Nat.le_refl _
  · have hw : A.wh = true := hw
    rw [hold_turn_wh hw]
    exact h.eq hc hw d
theorem hv_back {b : Int} {t : List Et} (h : Hv A k C vals M N) (h1 : 1 ≤ i) (h6 : i ≤ 6) (ht : A.tr i = some t) (hu : A.tu i = some b) (hw : A.wh = true) (hk : k ≤ 10000000) : ∃ v, vals i = some v ∧ 0 < v.size ∧ v.size ≤ 100000000 ∧ Bad (inv (tn v b)) ∧ Hv (backA A i) (k + 10000) C (upd vals i (some (tn v b))) M N := by
  have hs := h.slot i h1 h6
  rw [ht] at hs
  obtain ⟨x, hx, hx0, hx1, hx2⟩ := hs
  have hxo := h.out i x hx
  have hxe := (hx2 b hu).2 hw
  have hvz : 0 < (val16 (keyD C) t).size := by unfold val16; rw [vz_size]; omega
  have htt : tn x b = val16 (keyD C) t := by rw [hxe]; exact tn_tn _ b hvz
  have hts := tn_size x b
  refine ⟨x, hx, hx0, by omega, ?_, ⟨h.good, by have := h.mB; omega, by have := h.nB; omega, by have := h.czB; omega, ⟨h.ga.trees, fun j hj => ?_⟩, fun j u hj => by have := h.bk j u hj; omega, fun j j1 j6 => ?_, fun j v hj => ?_, fun d => ?_, fun hc hw2 d => ?_, fun hc hw2 => ?_⟩⟩
  · rw [htt]
    refine inv_bad hvz ?_
    unfold val16
    rw [vz_last]
    decide
  · by_cases e : j = i
    · subst e; exact upd_same _ _ _
    · exact (upd_other A.tu _ e).trans (h.ga.there j hj)
  · by_cases e : j = i
    · subst e
      rw [show (backA A j).tr j = some t from ht, show (backA A j).tu j = none from upd_same _ _ _, upd_same]
      exact ⟨_, rfl, by omega, fun _ => htt, fun c hc => by cases hc⟩
    · rw [show (backA A i).tr j = A.tr j from rfl, show (backA A i).tu j = A.tu j from upd_other _ _ e, upd_other _ _ e]
      exact h.slot j j1 j6
  · by_cases e : j = i
    · subst e
      rw [upd_same] at hj
      injection hj with hj
      subst hj
      exact ⟨h1, h6, by omega⟩
    · rw [upd_other _ _ e] at hj
      have := h.out j v hj
      omega
  · rw [hold_back hw]
    exact h.ge d
  · rw [hold_back hw]
    exact h.eq hc hw d
  · rw [show (backA A i).wh = A.wh from rfl, hw] at hw2
    cases hw2
def dropA (A : Ar) (i : Nat) : Ar := ⟨upd A.tr i none, upd A.tu i none, A.cl, A.wh⟩
theorem rdl_drop (A : Ar) (i j : Nat) : rdl (dropA A i) j = upd (rdl A) i [] j := by
  unfold rdl dropA upd
  by_cases h : j = i
  · subst h; simp
  · simp [h]
theorem vk_drop (h : Hv A k C vals M N) (hk : k ≤ 10000000) {n : Nat} (n1 : 1 ≤ n) (n6 : n ≤ 6) : Vk C (upd vals i none n) (rdl (dropA A i) n) (loadA (dropA A i) n).2 := by
  by_cases e : n = i
  · subst e
    rw [upd_same, rdl_drop, upd_same]
    have : (loadA (dropA A n) n).2 = 11 := by
      unfold loadA
      rw [show (dropA A n).tr n = none from upd_same _ _ _]
    rw [this]
    exact .none
  · rw [upd_other _ _ e, rdl_drop, upd_other _ _ e]
    have : (loadA (dropA A i) n).2 = (loadA A n).2 := by
      unfold loadA
      rw [show (dropA A i).tr n = A.tr n from upd_other _ _ e, show (dropA A i).tu n = A.tu n from upd_other _ _ e]
    rw [this]
    exact hv_vk h hk n1 n6
theorem drop_len (h : Hv A k C vals M N) (hk : k ≤ 10000000) (n : Nat) : (rdl (dropA A i) n).length ≤ 200 := by
  rw [rdl_drop]
  by_cases e : n = i
  · subst e; rw [upd_same]; exact Nat.zero_le _
  · rw [upd_other _ _ e]; exact rdl_len h hk n
theorem hv_forget (h : Hv A k C vals M N) (h1 : 1 ≤ i) (h6 : i ≤ 6) (hk : k ≤ 10000000) {M' : Nat} (hg' : Good8 (swC C (heldK (keyD C) (rdl (dropA A i)) 6)) M') (hM' : M' ≤ M + 1200) :
    Hv (forgetA A i) (k + 10000) (swC C (heldK (keyD C) (rdl (dropA A i)) 6)) (uncV (upd vals i none) (fun n => (loadA (dropA A i) n).2) 6) M' N := by
  have hg := h.good
  have hdh : ∀ d j, cnt (rdl (dropA A i) j) d ≤ cnt (hold A j) d := fun d j => by
    rw [rdl_drop]
    by_cases e : j = i
    · subst e; rw [upd_same]; exact Nat.zero_le _
    · rw [upd_other _ _ e]; exact rdl_hold A j d
  have h00 : rdl (dropA A i) 0 = [] := by
    rw [rdl_drop, upd_other _ _ (by omega)]
    unfold rdl
    cases ht : A.tr 0 with
    | none => rfl
    | some t => exact absurd (h.ga.trees 0 t ht).2.1 (by omega)
  have hall : ∀ j, j ≤ 6 → ∀ e ∈ rdl (dropA A i) j, (of8 C e).isSome = true := fun j hj e he => h.there hj (cnt_pos.1 (by have := hdh e j; have := cnt_pos.2 he; omega))
  have hle : ∀ d, tot (rdl (dropA A i)) d ≤ refD C d := fun d => Nat.le_trans (tot_mono (fun j _ => hdh d j)) (h.ge d)
  have href : ∀ d, refD (swC C (heldK (keyD C) (rdl (dropA A i)) 6)) d = tot (rdl (dropA A i)) d := fun d => by
    rw [(swC_ref hg _ d).1]
    cases hh : (of8 C d).isSome with
    | true => rw [if_pos rfl]; exact heldK_cnt hg hh h00 hall
    | false =>
      rw [if_neg (by simp)]
      have h2 := hle d
      have h3 : refD C d = 0 := by
        rcases Nat.eq_zero_or_pos (refD C d) with h0 | h0
        · exact h0
        · have := (has_ref hg).2 h0
          rw [hh] at this
          cases this
      omega
  have hhold : ∀ d, tot (hold (forgetA A i)) d = tot (rdl (dropA A i)) d := fun d => tot_congr (fun j hj => by rw [hold_forget A i hj, rdl_drop]) d
  have hval : ∀ n, n ≠ i → upd vals i none n = vals n := fun n e => upd_other _ _ e
  refine ⟨hg', by have := h.mB; omega, by have := h.nB; omega, ?_, Ac.good_forget h.ga, fun j t hj => ?_, fun j j1 j6 => ?_, fun j v hj => ?_, fun d => by rw [hhold, href]; exact Nat.le_refl _, fun _ _ d => by rw [hhold, href], fun _ hw => ?_⟩
  · have := cz_sw C (heldK (keyD C) (rdl (dropA A i)) 6)
    have := h.czB
    omega
  · by_cases e : j = i
    · subst e
      have : none = some t := by rw [← hj]; exact (upd_same A.tr _ _).symm
      cases this
    · have := h.bk j t (by rw [← hj]; exact (upd_other A.tr _ e).symm)
      omega
  · by_cases e : j = i
    · subst e
      rw [show (forgetA A j).tr j = none from upd_same _ _ _]
      show uncV _ _ 6 j = none
      unfold uncV
      rw [upd_same]
      split <;> rfl
    · have e1 : (forgetA A i).tr j = A.tr j := upd_other _ _ e
      have e2 : (forgetA A i).tu j = A.tu j := upd_other _ _ e
      have e3 : (loadA (dropA A i) j).2 = (loadA A j).2 := by
        unfold loadA
        rw [show (dropA A i).tr j = A.tr j from upd_other _ _ e, show (dropA A i).tu j = A.tu j from upd_other _ _ e]
      have hs := h.slot j j1 j6
      rw [e1, e2]
      have e4 : uncV (upd vals i none) (fun n => (loadA (dropA A i) n).2) 6 j = if (loadA A j).2 = 6 then (vals j).map unc else vals j := by
        unfold uncV
        rw [hval j e]
        simp only [e3]
        by_cases h6 : (loadA A j).2 = 6
        · rw [if_pos ⟨j1, j6, h6⟩, if_pos h6]
        · rw [if_neg (fun hh => h6 hh.2.2), if_neg h6]
      rw [e4]
      cases ht : A.tr j with
      | none =>
        rw [ht] at hs
        have hs : vals j = none := hs
        rw [hs]
        show (if _ then _ else _) = none
        split <;> rfl
      | some t =>
        rw [ht] at hs
        obtain ⟨x, hx, hx0, hx1, hx2⟩ := hs
        rw [hx]
        cases hu : A.tu j with
        | none =>
          have hl : (loadA A j).2 = 0 := by unfold loadA; rw [ht, hu]; rfl
          rw [hl, if_neg (by decide)]
          refine ⟨x, rfl, hx0, fun _ => ?_, fun c hc => by cases hc⟩
          rw [hx1 hu]
          refine (val16_congr (fun y hy hyk => ((swC_ref hg _ _).2 ?_).symm)).2
          rw [has_ref hg', href]
          have a1 := tot_le (rdl (dropA A i)) j6 y.node.data
          rw [rdl_drop, upd_other _ _ e] at a1
          have a2 : y.node.data ∈ rdl A j := by unfold rdl; rw [ht, hu]; exact mem_files.2 ⟨y, hy, hyk, rfl⟩
          have a3 := cnt_pos.2 a2
          omega
        | some b =>
          have hl : (loadA A j).2 = 6 := by unfold loadA; rw [ht, hu]; rfl
          rw [hl, if_pos rfl]
          refine ⟨unc x, rfl, by rw [unc_size hx0]; exact hx0, (fun hn => by cases hn), fun c hc => ⟨unc_bad (hx2 b hu).1 hx0, fun hw => ?_⟩⟩
          have hcalm : calm (upd A.tu i none) = true := hw
          unfold calm at hcalm
          have := List.all_eq_true.1 hcalm j (List.mem_range.2 (by omega))
          rw [upd_other _ _ e, hu] at this
          cases this
  · have hj2 : ∃ y, vals j = some y ∧ v.size = y.size ∧ j ≠ i := by
      unfold uncV at hj
      by_cases e : j = i
      · subst e
        rw [upd_same] at hj
        split at hj <;> cases hj
      · rw [hval j e] at hj
        cases hv : vals j with
        | none => rw [hv] at hj; split at hj <;> cases hj
        | some y =>
          rw [hv] at hj
          refine ⟨y, rfl, ?_, e⟩
          split at hj
          · injection hj with hj
            subst hj
            by_cases h0 : 0 < y.size
            · exact unc_size h0
            · have hs := h.slot j (h.out j y hv).1 (h.out j y hv).2.1
              unfold Slot at hs
              split at hs
              · rw [hv] at hs; cases hs
              · obtain ⟨x, hx, hx0, _⟩ := hs
                rw [hv] at hx
                injection hx with hx
                subst hx
                exact absurd hx0 h0
          · injection hj with hj
            subst hj
            rfl
    obtain ⟨y, hy, hs, _⟩ := hj2
    have := h.out j y hy
    omega
  · have hcalm : calm (upd A.tu i none) = false := hw
    unfold calm at hcalm
    rw [List.all_eq_false] at hcalm
    obtain ⟨j, _, hj⟩ := hcalm
    refine ⟨j, fun hn => ?_⟩
    have hn : upd A.tu i none j = none := hn
    rw [hn] at hj
    exact hj rfl
theorem hv_kept (h : Hv A k C vals M N) (hw : Ac.well A) : C.length = Ac.kept A := by
  have hwh : A.wh = true := by
    cases hh : A.wh with
    | true => rfl
    | false =>
      obtain ⟨j, hj⟩ := h.jj hw.1 hh
      exact absurd (hw.2 j) hj
  have hmem : ∀ d, d ∈ C.map On.data ↔ d ∈ Ac.uniq (Ac.allC A) := fun d => by
    rw [Ac.mem_uniq]
    have h1 : d ∈ C.map On.data ↔ 1 ≤ refD C d := by
      rw [← has_ref h.good]
      constructor
      · intro hd
        obtain ⟨y, hy, rfl⟩ := List.mem_map.1 hd
        rw [h.good.of hy]
        rfl
      · intro hd
        obtain ⟨y, hy, e, _⟩ := of8_mem hd
        exact List.mem_map.2 ⟨y, hy, e⟩
    rw [h1, h.eq hw.1 hwh d]
    unfold Ac.allC
    rw [List.mem_flatMap]
    constructor
    · intro hd
      refine Classical.byContradiction (fun hno => ?_)
      have hz : tot (hold A) d ≤ tot (fun _ => []) d := tot_mono (fun j hj => by
        rcases Nat.eq_zero_or_pos (cnt (hold A j) d) with h0 | h0
        · rw [h0]; exact Nat.zero_le _
        · refine absurd ⟨j, List.mem_range.2 (by omega), ?_⟩ hno
          have hd2 := cnt_pos.1 h0
          unfold hold at hd2
          cases ht : A.tr j with
          | none => rw [ht] at hd2; cases hd2
          | some t =>
            rw [ht, hw.2 j] at hd2
            exact hd2)
      have : tot (fun _ => []) d = 0 := rfl
      omega
    · rintro ⟨j, hj, hd⟩
      have hj7 := List.mem_range.1 hj
      have a1 := tot_le (hold A) (show j ≤ 6 by omega) d
      have a2 : d ∈ hold A j := by
        unfold hold
        cases ht : A.tr j with
        | none => rw [ht] at hd; cases hd
        | some t =>
          rw [ht] at hd
          rw [hw.2 j]
          exact hd
      have := cnt_pos.2 a2
      omega
  have hn1 : (C.map On.data).Nodup := List.pairwise_map.2 h.good.datas
  have l1 := Ac.nodup_len hn1 (fun d hd => (hmem d).1 hd)
  have l2 := Ac.nodup_len (Ac.nodup_uniq (Ac.allC A)) (fun d hd => (hmem d).2 hd)
  unfold Ac.kept
  rw [List.length_map] at l1 l2
  omega
end
end Go.Proofs.YtdkgkomjbpggeaaGreatDoor.Az

namespace Go.Proofs.YtdkgkomjbpggeaaGreatDoor.Az
open Go.RowKit Go.ChangeShapes Go.WideShapes Tx Pm Dk Wm Wr Wl Pl Tb Bl Fm
open Fr hiding sv Texts cnt cnt_snoc
open En (Et tcheck Ents)
open Ac (Ar upd upd_same upd_other files saveA turnA backA forgetA calm loadA loadI saveI saveE forgetI forgetE may Lf)
set_option linter.unusedVariables false
set_option linter.unusedSimpArgs false
set_option linter.unnecessarySimpa false
def i64 (k : Int) : Prop := -9223372036854775808 ≤ k ∧ k ≤ 9223372036854775807
set_option maxRecDepth 100000 in
set_option maxHeartbeats 1000000 in
theorem save_no {u : Nat} {i : Int} {W : World} (a : Option Addr) (n c : Nat) (hi : i64 i) (hm : may i = false) : Calls Tryz.prog 11 #[.pointer (some ⟨u, 0, none⟩), .int .i64 i, .slice a n c] W fun e w' => e = .returned (.int .i64 1) ∧ Below W.heap.size W w' := by
  have hsp := isSpoke_any i W hi
  rw [hm] at hsp
  clear hm hi
  go_enter Tryz.func11, Tryz.ntmps11
  go_wp2_with fail
  go_at_call 29
  refine hsp.mono ?_
  rintro e w1 ⟨rfl, rfl⟩
  go_wp2_with fail
  go_ret
  exact ⟨rfl, Below.refl _ _⟩
set_option maxRecDepth 100000 in
set_option maxHeartbeats 1000000 in
theorem save_err {u : Nat} {i : Int} {W : World} (a : Option Addr) (n c : Nat) (l : List Et) (hi : i64 i) (hm : may i = true) (hl : Ents W a n l) (hnc : n ≤ c) (hcm : c ≤ 9223372036854775807) (hn : n ≤ 1000000000) (hs : En.Small l) (ht : tcheck l ≠ 0) : Calls Tryz.prog 11 #[.pointer (some ⟨u, 0, none⟩), .int .i64 i, .slice a n c] W fun e w' => e = .returned (.int .i64 (tcheck l : Nat)) ∧ Below W.heap.size W w' := by
  have hsp := isSpoke_any i W hi
  rw [hm] at hsp
  have hck := En.tCheck_any a n c l W hl hnc hcm hn hs
  generalize tcheck l = q at *
  have hne : ((q : Int) == 0) = false := neZ ht
  clear hm hi hl ht
  go_enter Tryz.func11, Tryz.ntmps11
  go_wp2_with fail
  go_at_call 29
  refine hsp.mono ?_
  rintro e w1 ⟨rfl, rfl⟩
  clear hsp
  go_wp2_with fail
  go_at_call 30
  refine hck.mono ?_
  rintro e w2 ⟨rfl, hb2⟩
  have HB2 := Lib.hid hb2
  clear hb2 hck
  go_wp2_with fail
  go_ret
  exact ⟨rfl, HB2.out⟩
set_option maxRecDepth 100000 in
set_option maxHeartbeats 1000000 in
theorem loads_no {u : Nat} {i : Int} {W : World} (hi : i64 i) (hm : may i = false) : Calls Tryz.prog 22 #[.pointer (some ⟨u, 0, none⟩), .int .i64 i] W fun e w' => e = .returned (.tuple #[.slice none 0 0, .int .i64 1]) ∧ Below W.heap.size W w' := by
  have hsp := isSpoke_any i W hi
  rw [hm] at hsp
  clear hm hi
  go_enter Tryz.func22, Tryz.ntmps22
  go_wp2_with fail
  go_at_call 29
  refine hsp.mono ?_
  rintro e w1 ⟨rfl, rfl⟩
  go_wp2_with fail
  go_ret2
  exact ⟨rfl, Below.refl _ _⟩
set_option maxRecDepth 100000 in
set_option maxHeartbeats 2000000 in
theorem loads_any {u : Nat} {i : Int} {W : World} {tr : List Et} {c : Int} (hi : i64 i) (hm : may i = true)
    (hld : Calls Tryz.prog 31 #[.pointer (some ⟨u, 0, none⟩), .int .i64 i] W fun e w' => ∃ v vk, e = .returned (.tuple #[.agg #[v, vk], .int .i64 c]) ∧ En.Own w' W.heap.size v tr ∧ (∃ a n k, vk = .slice a n k) ∧ Below W.heap.size W w') :
    Calls Tryz.prog 22 #[.pointer (some ⟨u, 0, none⟩), .int .i64 i] W fun e w' => ∃ v, e = .returned (.tuple #[v, .int .i64 c]) ∧ En.Own w' W.heap.size v tr ∧ Below W.heap.size W w' := by
  have hsp := isSpoke_any i W hi
  rw [hm] at hsp
  clear hm hi
  go_enter Tryz.func22, Tryz.ntmps22
  go_wp2_with fail
  go_at_call 29
  refine hsp.mono ?_
  rintro e w1 ⟨rfl, rfl⟩
  clear hsp
  go_wp2_with fail
  go_at_call 31
  refine hld.mono ?_
  rintro e w2 ⟨v, vk, rfl, ho, ⟨ak, nk, ck, rfl⟩, hb⟩
  obtain ⟨a, cc, rfl, _⟩ := ho.form
  have hbK := (Below.refl w2.heap.size w2).alloc (Nat.le_refl _) (kO (.slice a tr.length cc) (.slice ak nk ck))
  have HO := Lib.hid (ho.below hbK)
  have HB := Lib.hid (Tx.below_call hb hbK)
  clear hld hb ho hbK
  go_wp2_with fail
  go_ret2
  exact ⟨_, rfl, HO.out, HB.out⟩
set_option maxRecDepth 100000 in
set_option maxHeartbeats 1000000 in
theorem turn_no {u : Nat} {i b : Int} {W : World} (hi : i64 i) (hm : may i = false) : Calls Tryz.prog 15 #[.pointer (some ⟨u, 0, none⟩), .int .i64 i, .int .i64 b] W fun e w' => e = .returned (.int .i64 1) ∧ Below W.heap.size W w' := by
  have hsp := isSpoke_any i W hi
  rw [hm] at hsp
  clear hm hi
  go_enter Tryz.func15, Tryz.ntmps15
  go_wp2_with fail
  go_at_call 29
  refine hsp.mono ?_
  rintro e w1 ⟨rfl, rfl⟩
  go_wp2_with fail
  go_ret
  exact ⟨rfl, Below.refl _ _⟩
set_option maxRecDepth 100000 in
set_option maxHeartbeats 1000000 in
theorem turn_none {u i : Nat} {b : Int} {W : World} {s : ByteArray} (h1 : 1 ≤ i) (h6 : i ≤ 6) (hT : Tab W)
    (hg : ∀ V, Below W.heap.size W V → Calls Tryz.prog 38 #[.pointer (some ⟨u, 0, none⟩), .string (keyA i)] V fun e w' => e = .returned (.tuple #[.string s, .bool false]) ∧ Below V.heap.size V w') :
    Calls Tryz.prog 15 #[.pointer (some ⟨u, 0, none⟩), .int .i64 (i : Int), .int .i64 b] W fun e w' => e = .returned (.int .i64 11) ∧ Below W.heap.size W w' := by
  have hsp := isSpoke_any (i : Int) W (by omega)
  rw [Ac.may_yes (by omega) (by omega)] at hsp
  have ck := keyOf_any i W h6 hT
  go_enter Tryz.func15, Tryz.ntmps15
  go_wp2_with fail
  go_at_call 29
  refine hsp.mono ?_
  rintro e w1 ⟨rfl, rfl⟩
  clear hsp
  go_wp2_with fail
  go_at_call 33
  refine ck.mono ?_
  rintro e w2 ⟨rfl, b2⟩
  have cg := hg _ b2
  have HB2 := Lib.hid b2
  clear hg ck b2
  go_wp2_with fail
  go_at_call 38
  refine cg.mono ?_
  rintro e w3 ⟨rfl, b3⟩
  have HB3 := Lib.hid (Tx.below_call HB2.out b3)
  clear cg b3
  go_wp2_with fail
  go_ret
  exact ⟨rfl, HB3.out⟩
set_option maxRecDepth 100000 in
set_option maxHeartbeats 1000000 in
theorem forget_no {u : Nat} {i : Int} {W : World} (hi : i64 i) (hm : may i = false) : Calls Tryz.prog 16 #[.pointer (some ⟨u, 0, none⟩), .int .i64 i] W fun e w' => e = .returned (.int .i64 1) ∧ Below W.heap.size W w' := by
  have hsp := isSpoke_any i W hi
  rw [hm] at hsp
  clear hm hi
  go_enter Tryz.func16, Tryz.ntmps16
  go_wp2_with fail
  go_at_call 29
  refine hsp.mono ?_
  rintro e w1 ⟨rfl, rfl⟩
  go_wp2_with fail
  go_ret
  exact ⟨rfl, Below.refl _ _⟩
section
variable {d u k : Nat} {W : World} {F : Nat → Prop} {A : Ar}
theorem oz_mono {k' : Nat} (h : OZ d u W F (A, k)) (hk : k ≤ k') : OZ d u W F (A, k') := by
  obtain ⟨j, t, m, x, l, C, Z, vals, M, N, h1, h2, h3, h4, h5⟩ := h
  exact ⟨j, t, m, x, l, C, Z, vals, M, N, h1, h2, h3, h4.mono hk, h5.mono hk⟩
theorem oz_lf {w' : World} {k' : Nat} (h : OZ d u W F (A, k)) (hb : Below W.heap.size W w') (hk : k ≤ k') : Lf (OZ d u) W F (A, k') w' := ⟨F, Ac.lf_below (kd_oz d u) (oz_mono h hk) hb, Chg.of_below hb, fun g hg => .inl hg⟩
theorem i_save (i : Int) (a : Option Addr) (n c : Nat) (l : List Et) (hT : Tab W) (h : OZ d u W F (A, k)) (hk : k + Ac.bk l ≤ 10000000) (hi : i64 i) (hl : Ents W a n l) (hnc : n ≤ c) (hcm : c ≤ 9223372036854775807) (hoff : n = 0 ∨ ∀ x, a = some x → ¬ F x.block) :
    Calls Tryz.prog 11 #[.pointer (some ⟨u, 0, none⟩), .int .i64 i, .slice a n c] W fun e w' => e = .returned (.int .i64 (saveE i l : Nat)) ∧ Lf (OZ d u) W F (saveI A i l, k + 10000 + Ac.bk l) w' := by
  cases hm : may i with
  | false =>
    have e1 : saveE i l = 1 := by unfold saveE; rw [hm]; rfl
    have e2 : saveI A i l = A := by unfold saveI; rw [e1, if_neg (by decide)]
    rw [e1, e2]
    exact (save_no a n c hi hm).mono fun e w' ⟨h1, h2⟩ => ⟨h1, oz_lf h h2 (by omega)⟩
  | true =>
    have e1 : saveE i l = tcheck l := by unfold saveE; rw [hm]; rfl
    by_cases ht : tcheck l = 0
    · obtain ⟨q, rfl, q1, q6⟩ := Ac.may_nat hm
      have e2 : saveI A (q : Int) l = saveA A q l := by unfold saveI; rw [e1, if_pos ht]; rfl
      rw [e1, ht, e2]
      obtain ⟨j, t, m, x, C, Z, vals, M, N, ⟨hb, hz, hv, htk⟩, hTZ, hFl, hF0⟩ := oz_out h hT
      have hvk := hv_vk hv (by omega) q1 q6
      have hrl : ∀ e, cnt (rdl A q) e ≤ refD C e := fun e => by
        have := rdl_hold A q e
        have := tot_le (hold A) q6 e
        have := hv.ge e
        omega
      have hE : ∀ V, Chg F W V → Ents V a n l := fun V hc => by
        rcases hl.2 with h0 | ⟨b, off, ha, hbl, hcells⟩
        · exact ⟨hl.1, .inl h0⟩
        · rcases hoff with h0 | hoff
          · exact ⟨hl.1, .inl h0⟩
          · have hnF := hoff _ ha
            have hkeep := hc.block b hbl hnF
            refine ⟨hl.1, .inr ⟨b, off, ha, Nat.lt_of_lt_of_le hbl hc.size, fun p y hy => ?_⟩⟩
            obtain ⟨c0, c1, c2⟩ := hcells p y hy
            have hcell : ∀ o, V.cell? ⟨b, o, none⟩ = W.cell? ⟨b, o, none⟩ := fun o => by unfold World.cell?; rw [hkeep]
            exact ⟨(hcell _).trans c0, (hcell _).trans c1, (hcell _).trans c2⟩
      have hm8 := hv.mB
      have hn8 := hv.nB
      refine (save_any a n c l (rdl A q) hb htk.xk hTZ (by omega) (by omega) q1 q6 hE hnc hcm ht (by omega) hrl (rdl_len hv (by omega) q) (fun V hV => ?_)).mono fun e w' ⟨he, hw⟩ => ⟨he, oz_in hw (zr_put hz _ q1 q6) (hv_save hv q1 q6 ht (by omega) (by omega)) (htk.mono (by omega)) hT hF0⟩
      refine (load_vk (hb.below hV) hz (fun V2 hc => hTZ V2 hc) (by omega) q1 q6 hvk).mono fun e w' ⟨v, vk, he, hvf, htx, hbb⟩ => ⟨v, vk, _, he, hvf, htx, hbb⟩
    · have e2 : saveI A i l = A := by unfold saveI; rw [e1, if_neg ht]
      rw [e1, e2]
      have hbl := Ac.bk_len l
      have hln := hl.1
      exact (save_err a n c l hi hm hl hnc hcm (by omega) (Ac.bk_small (by omega)) ht).mono fun e w' ⟨h1, h2⟩ => ⟨h1, oz_lf h h2 (by omega)⟩
theorem i_load (i : Int) (hT : Tab W) (h : OZ d u W F (A, k)) (hk : k ≤ 10000000) (hi : i64 i) :
    Calls Tryz.prog 22 #[.pointer (some ⟨u, 0, none⟩), .int .i64 i] W fun e w' => ∃ v, e = .returned (.tuple #[v, .int .i64 ((loadI A i).2 : Nat)]) ∧ En.Own w' W.heap.size v (loadI A i).1 ∧ Below W.heap.size W w' := by
  cases hm : may i with
  | false =>
    have e1 : loadI A i = ([], 1) := by unfold loadI; rw [hm]; rfl
    rw [e1]
    exact (loads_no hi hm).mono fun e w' ⟨h1, h2⟩ => ⟨_, h1, World.ownsRow_nil _ _ _ _, h2⟩
  | true =>
    obtain ⟨q, rfl, q1, q6⟩ := Ac.may_nat hm
    have e1 : loadI A (q : Int) = loadA A q := by unfold loadI; rw [if_pos hm]; rfl
    rw [e1]
    obtain ⟨j, t, m, x, C, Z, vals, M, N, ⟨hb, hz, hv, htk⟩, hTZ, hFl, hF0⟩ := oz_out h hT
    refine loads_any hi hm ?_
    obtain ⟨s, hs, cg⟩ := bzgetA hb hz q1 q6
    have hsl := hv.slot q q1 q6
    unfold loadA
    have hm8 := hv.mB
    cases ht : A.tr q with
    | none =>
      rw [ht] at hsl
      have hsl : vals q = none := hsl
      rw [hsl] at cg
      exact (load_none q6 hT cg).mono fun e w' ⟨he, hbb⟩ => ⟨_, _, he, World.ownsRow_nil _ _ _ _, ⟨_, _, _, rfl⟩, hbb⟩
    | some l =>
      rw [ht] at hsl
      obtain ⟨y, hy, hy0, hy1, hy2⟩ := hsl
      obtain rfl := hs y hy
      rw [hy] at cg
      cases hu : A.tu q with
      | some b =>
        simp only [Option.isSome_some, if_true]
        have := hv.out q s hy
        exact (load_bad q6 hT (hy2 b hu).1 (by omega) cg).mono fun e w' ⟨he, hbb⟩ => ⟨_, _, he, World.ownsRow_nil _ _ _ _, ⟨_, _, _, rfl⟩, hbb⟩
      | none =>
        simp only [Option.isSome_none, Bool.false_eq_true, if_false]
        have hye := hy1 hu
        rw [hye] at cg
        have hg := hv.good
        have hat : ∀ y ∈ l, y.node.kind = 2 → ∃ q, at8 C (keyD C y.node.data) = some q ∧ q.data = y.node.data ∧ (keyD C y.node.data).size ≤ 14 := fun y hy hyk => by
          have hh := hv.there q6 (d := y.node.data) (by unfold hold; rw [ht, hu]; exact mem_files.2 ⟨y, hy, hyk, rfl⟩)
          obtain ⟨q, e1, _, e3⟩ := at8_data hg hh
          obtain ⟨r, hr, _, e5, _⟩ := of8_mem hh
          exact ⟨q, e1, e3, by rw [e5]; exact keyO_size hg (by omega) hr⟩
        refine (load_ok q6 hT (hv.ga.trees q l ht).1 (fun y hy hyk => by obtain ⟨_, _, _, e⟩ := hat y hy hyk; exact e) (by have := hv.bk q l ht; omega) (fun y hy hyk V hV => ?_) cg).mono fun e w' ⟨v, vk, he, ho, htx, hbb⟩ => ?_
        · obtain ⟨q, e1, e2, e3⟩ := hat y hy hyk
          have c := bzget (key := keyD C y.node.data) (hb.below hV) (by omega) (by omega)
          rw [e1] at c
          simp only [e2] at c
          exact c
        · obtain ⟨a, c, rfl, _⟩ := htx.form
          exact ⟨v, _, he, ho, ⟨_, _, _, rfl⟩, hbb⟩
theorem i_turn (i : Nat) (b : Int) (l : List Et) (hT : Tab W) (h : OZ d u W F (A, k)) (hk : k ≤ 10000000) (h1 : 1 ≤ i) (h6 : i ≤ 6) (hl : A.tr i = some l) (hu : A.tu i = none) (hb : i64 b) :
    Calls Tryz.prog 15 #[.pointer (some ⟨u, 0, none⟩), .int .i64 (i : Int), .int .i64 b] W fun e w' => e = .returned (.int .i64 0) ∧ Lf (OZ d u) W F (turnA A i b, k + 10000) w' := by
  obtain ⟨j, t, m, x, C, Z, vals, M, N, ⟨hbz, hz, hv, htk⟩, hTZ, hFl, hF0⟩ := oz_out h hT
  obtain ⟨v, v1, v2, v3, v4, v5⟩ := hv_turn (b := b) hv h1 h6 hl hu hk
  have hn8 := hv.nB
  exact (turn_any b hbz hz hTZ (by omega) h1 h6 v1 v2 v3 hb.1 hb.2 v4).mono fun e w' ⟨he, hw⟩ => ⟨he, oz_in hw (zr_put hz _ h1 h6) v5 (htk.mono (by omega)) hT hF0⟩
theorem i_back (i : Nat) (b : Int) (l : List Et) (hT : Tab W) (h : OZ d u W F (A, k)) (hk : k ≤ 10000000) (h1 : 1 ≤ i) (h6 : i ≤ 6) (hl : A.tr i = some l) (hu : A.tu i = some b) (hw : A.wh = true) (hb : i64 b) :
    Calls Tryz.prog 15 #[.pointer (some ⟨u, 0, none⟩), .int .i64 (i : Int), .int .i64 b] W fun e w' => e = .returned (.int .i64 0) ∧ Lf (OZ d u) W F (backA A i, k + 10000) w' := by
  obtain ⟨j, t, m, x, C, Z, vals, M, N, ⟨hbz, hz, hv, htk⟩, hTZ, hFl, hF0⟩ := oz_out h hT
  obtain ⟨v, v1, v2, v3, v4, v5⟩ := hv_back (b := b) hv h1 h6 hl hu hw hk
  have hn8 := hv.nB
  exact (turn_any b hbz hz hTZ (by omega) h1 h6 v1 v2 v3 hb.1 hb.2 v4).mono fun e w' ⟨he, hw⟩ => ⟨he, oz_in hw (zr_put hz _ h1 h6) v5 (htk.mono (by omega)) hT hF0⟩
theorem i_turnE (i b : Int) (hT : Tab W) (h : OZ d u W F (A, k)) (hk : k ≤ 10000000) (hi : i64 i) (he : (loadI A i).2 = 1 ∨ (loadI A i).2 = 11) :
    Calls Tryz.prog 15 #[.pointer (some ⟨u, 0, none⟩), .int .i64 i, .int .i64 b] W fun e w' => e = .returned (.int .i64 ((loadI A i).2 : Nat)) ∧ Lf (OZ d u) W F (A, k + 10000) w' := by
  cases hm : may i with
  | false =>
    have e1 : loadI A i = ([], 1) := by unfold loadI; rw [hm]; rfl
    rw [e1]
    exact (turn_no hi hm).mono fun e w' ⟨h1, h2⟩ => ⟨h1, oz_lf h h2 (by omega)⟩
  | true =>
    obtain ⟨q, rfl, q1, q6⟩ := Ac.may_nat hm
    have e1 : loadI A (q : Int) = loadA A q := by unfold loadI; rw [if_pos hm]; rfl
    rw [e1] at he ⊢
    have hn : A.tr q = none := by
      cases ht : A.tr q with
      | none => rfl
      | some l =>
        unfold loadA at he
        rw [ht] at he
        simp only at he
        split at he <;> simp at he
    have e2 : loadA A q = ([], 11) := by unfold loadA; rw [hn]
    rw [e2]
    obtain ⟨j, t, m, x, C, Z, vals, M, N, ⟨hb, hz, hv, htk⟩, hTZ, hFl, hF0⟩ := oz_out h hT
    obtain ⟨s, hs, cg⟩ := bzgetA hb hz q1 q6
    have hsl := hv.slot q q1 q6
    rw [hn] at hsl
    have hsl : vals q = none := hsl
    rw [hsl] at cg
    exact (turn_none q1 q6 hT cg).mono fun e w' ⟨h1, h2⟩ => ⟨h1, oz_lf h h2 (by omega)⟩
theorem i_forget (i : Int) (hT : Tab W) (h : OZ d u W F (A, k)) (hk : k ≤ 2000000) (hi : i64 i) :
    Calls Tryz.prog 16 #[.pointer (some ⟨u, 0, none⟩), .int .i64 i] W fun e w' => e = .returned (.int .i64 (forgetE i : Nat)) ∧ Lf (OZ d u) W F (forgetI A i, k + 10000) w' := by
  cases hm : may i with
  | false =>
    have e1 : forgetE i = 1 := by unfold forgetE; rw [hm]; rfl
    have e2 : forgetI A i = A := by unfold forgetI; rw [hm]; rfl
    rw [e1, e2]
    exact (forget_no hi hm).mono fun e w' ⟨h1, h2⟩ => ⟨h1, oz_lf h h2 (by omega)⟩
  | true =>
    obtain ⟨q, rfl, q1, q6⟩ := Ac.may_nat hm
    have e1 : forgetE (q : Int) = 0 := by unfold forgetE; rw [if_pos hm]
    have e2 : forgetI A (q : Int) = forgetA A q := by unfold forgetI; rw [if_pos hm]; rfl
    rw [e1, e2]
    obtain ⟨j, t, m, x, C, Z, vals, M, N, ⟨hb, hz, hv, htk⟩, hTZ, hFl, hF0⟩ := oz_out h hT
    have hm8 := hv.mB
    have hn8 := hv.nB
    have hlen := heldK_len (κ := keyD C) (f := rdl (dropA A q)) (N := 200) (drop_len hv (by omega)) 6
    refine (forget_any hb htk.xk hz hTZ (by omega) (by omega) q1 q6 (fun n n1 n6 => vk_drop hv (by omega) n1 n6) (drop_len hv (by omega))).mono fun e w' ⟨he, Z', hz', hw⟩ => ⟨he, oz_in hw hz' (hv_forget hv q1 q6 (by omega) hw.good (by omega)) (htk.mono (by omega)) hT hF0⟩
end
end Go.Proofs.YtdkgkomjbpggeaaGreatDoor.Az

namespace Go.Proofs.YtdkgkomjbpggeaaGreatDoor.Az
open Go.RowKit Go.ChangeShapes Go.WideShapes Tx Pm Dk Wm Wr Wl Pl Tb Bl Fm
open Fr hiding sv Texts cnt cnt_snoc
open En (Et tcheck Ents)
open Ac (Ar upd upd_same upd_other files saveA turnA backA forgetA calm loadA loadI saveI saveE forgetI forgetE may Lf)
set_option linter.unusedVariables false
set_option linter.unusedSimpArgs false
set_option linter.unnecessarySimpa false
def noV : Nat → Option ByteArray := fun _ => none
theorem ks0 : Ks [] [] 6 := ⟨[keyA 1, keyA 2, keyA 3, keyA 4, keyA 5, keyA 6], Nat.le_refl _, (fun c h => by cases h), (fun y h => by cases h), fun i h1 h6 => by
    obtain rfl | rfl | rfl | rfl | rfl | rfl : i = 1 ∨ i = 2 ∨ i = 3 ∨ i = 4 ∨ i = 5 ∨ i = 6 := by omega
    all_goals simp, fun p hp => by
    simp only [List.mem_cons, List.not_mem_nil, or_false] at hp
    rcases hp with rfl | rfl | rfl | rfl | rfl | rfl <;> exact keyA_size (by omega)⟩
theorem rw0 : Rw [] [] [] [] noV 6 := ⟨⟨List.Pairwise.nil, fun p _ => rfl⟩, fun p _ => rfl, ⟨fun i _ _ => rfl, fun p _ _ => rfl⟩, ks0⟩
theorem hv0 : Hv Ac.a0 0 [] noV 0 6 := ⟨good_nil, by omega, by omega, by show 0 ≤ _; omega, Ac.good0, (fun i t h => by cases h), fun i _ _ => rfl, (fun i v h => by cases h), fun d => by
    have e : tot (hold Ac.a0) d = 0 := rfl
    rw [e]
    exact Nat.zero_le _, fun _ _ d => rfl, fun _ h => by cases h⟩
theorem tk00 : Tk x0 0 := ⟨0, ht_new, by omega, by show ws [] ≤ _; unfold ws; simp [x0], fun z h => by cases h⟩
section
variable {d t u k : Nat} {W : World} {F : Nat → Prop} {A : Ar}
theorem i_new (hT : Tab W) : Calls Tryz.prog 6 #[] W fun e w' => ∃ d F, e = .returned (.pointer (some ⟨d, 0, none⟩)) ∧ CZ d w' F (Ac.a0, 0) ∧ (∀ i, F i → W.heap.size ≤ i) ∧ Below W.heap.size W w' := by
  refine (w_new W (Below.refl _ W)).mono fun e w' ⟨b, he, F, h1, h2, h3⟩ => ⟨b, F, he, ⟨newS, x0, [], [], noV, 0, 6, h1, fun hf => ?_, new_ok7, new_open7, rw0, hv0, tk00⟩, h2, h3⟩
  have := h2 0 hf
  have := tab_pos hT
  omega
theorem i_open (hT : Tab W) (h : CZ d W F (A, k)) : Calls Tryz.prog 7 #[.pointer (some ⟨d, 0, none⟩), .string ⟨#[115, 121, 115]⟩] W fun e w' => ∃ t, e = .returned (.tuple #[.pointer (some ⟨t, 0, none⟩), .int .i64 0]) ∧ Lf (PZ d t) W F (A, k) w' := by
  obtain ⟨s, x, C, Z, vals, M, N, h1, h0, o1, o2, h3, h4, h5⟩ := h
  have c := open_any d pS pB pG W h1 sys_base sys_log o1
  rw [o2] at c
  refine c.mono fun e w' hh => ?_
  rcases hh with ⟨_, t, j, m, he, F', q1, q2, q3⟩ | ⟨hn, _⟩
  · exact ⟨t, he, F', ⟨j, m, x, C, Z, vals, M, N, q1, fun hf => (q3 0 hf).elim h0 (fun hh => by have := tab_pos hT; omega), h3, h4, h5⟩, q2, q3⟩
  · exact absurd rfl hn
theorem i_begin (hT : Tab W) (h : PZ d t W F (A, k)) : Calls Tryz.prog 9 #[.pointer (some ⟨t, 0, none⟩)] W fun e w' => ∃ u, e = .returned (.pointer (some ⟨u, 0, none⟩)) ∧ Lf (OZ d u) W F (A, k) w' := by
  obtain ⟨j, m, x, C, Z, vals, M, N, ⟨Fj, h1⟩, h0, h3, h4, h5⟩ := h
  refine (begin_any (some ⟨t, 0, none⟩) W).mono fun e w' ⟨u, he, G, hB, hG, hb⟩ => ?_
  have hpos := tab_pos hT
  refine ⟨u, he, fun i => F i ∨ G i, ⟨j, t, m, x, [], C, Z, vals, M, N, ⟨F, G, ⟨Fj, h1.below hb⟩, hB, fun i hi hg => by have := h1.lt i hi; have := hG i hg; omega, fun i => Iff.rfl⟩, fun hf => hf.elim h0 (fun hg => by have := hG 0 hg; omega), h3, h4, h5⟩, Chg.of_below hb, fun g hg => hg.elim .inl (fun hh => .inr (hG g hh))⟩
set_option maxRecDepth 100000 in
theorem i_commit (hT : Tab W) (h : OZ d u W F (A, k)) (hk : k ≤ 2000000) : Calls Tryz.prog 18 #[.pointer (some ⟨u, 0, none⟩)] W fun e w' => e = .returned (.int .i64 0) ∧ Lf (CZ d) W F (A, k + 10000) w' := by
  obtain ⟨j, t, m, x, l, C, Z, vals, M, N, h1, h0, ⟨r1, r2, r3, r4⟩, hv, K, g1, g2, g3, g4⟩ := h
  have hv : Hv A k C vals M N := hv
  have g2 : 10000 * K ≤ k := g2
  have hf := f_facts (⟨F, h1, Chg.refl F W, fun g hg => .inl hg⟩ : OwF (Tu d j t m u) (W, F) (x, l) W)
  have hm8 := hv.mB
  have hn8 := hv.nB
  have hcz := hv.czB
  have hws := ws_state r1 hv.good (by omega) r2 r3 (b := k + 5810) (fun i v hi => (hv.out i v hi).2.2)
  have hwt := wt_rows (L := x.L) hf.1 hf.2 r4
  have hxl := ws_len x.L
  have g5 : 10000 * (K + 1) ≤ k + 10000 := by omega
  have g6 : k ≤ k + 10000 := Nat.le_add_right _ _
  have g7 : K ≤ 1000 := by omega
  have g8 : K + 1 ≤ 1000 := by omega
  obtain ⟨k1, y, k2, k3, k4⟩ := ht_commit (l := l) g1 g7 (by omega) (by omega) (by omega)
  have c := commit_any d j t m u pB pG W h1 k1
  rw [k2] at c
  obtain ⟨o1, o2⟩ := ht_open k3 g8
  refine c.mono fun e w' ⟨he, ⟨F', ⟨Fj, q1⟩, q2, q3⟩, _⟩ => ⟨he, ?_⟩
  obtain ⟨v, Fd, hj⟩ := q1.jn
  have hsub : ∀ i, Fd i → F' i := fun i hi => (q1.foot i).2 (.inl ((hj.foot i).2 (.inl hi)))
  obtain ⟨S, s1, s2, s3, s4, s5⟩ := r4
  refine ⟨Fd, ⟨y.j.s, y, C, Z, vals, M, N, hj.dsk, fun hf0 => (q3 0 (hsub 0 hf0)).elim h0 (fun hh => by have := tab_pos hT; omega), o1, o2, ?_, hv.mono g6, ⟨K + 1, k3, g5, by rw [k4]; omega, fun z hz => ?_⟩⟩, q2, fun g hg => q3 g (hsub g hg)⟩
  · rw [k4]
    exact ⟨r1, r2, r3, S, s1, (fun c h => by cases h), s3, s4, s5⟩
  · rw [k4] at hz
    rcases mem_all hz with ⟨c, hc, rfl⟩ | hz
    · have := s5 _ (s2 c hc).1
      show c.key.size ≤ 1000
      omega
    · exact g4 z hz
theorem i_keysB (hT : Tab W) (h : OZ d u W F (A, k)) (hk : k ≤ 10000000) : Calls Tryz.prog 20 #[.pointer (some ⟨u, 0, none⟩), .string ⟨#[98, 47]⟩] W (Ac.KeysTo W (Ac.kept A) (Ac.well A)) := by
  obtain ⟨j, t, m, x, C, Z, vals, M, N, ⟨hb, hz, hv, htk⟩, hTZ, hFl, hF0⟩ := oz_out h hT
  have hn8 := hv.nB
  obtain ⟨K, hK, c⟩ := bzkeys hb htk.xk (by omega)
  refine c.mono fun e w' ⟨v, he, ht, hbb⟩ => ⟨v, K, he, ht, fun hw => ?_, hbb⟩
  rw [hK.length_eq, List.length_map]
  exact hv_kept hv hw
theorem i_keysA (hT : Tab W) (h : OZ d u W F (A, k)) (hk : k ≤ 10000000) : Calls Tryz.prog 20 #[.pointer (some ⟨u, 0, none⟩), .string ⟨#[97, 47]⟩] W (Ac.KeysTo W 0 (∀ j, A.tr j = none)) := by
  obtain ⟨j, t, m, x, C, Z, vals, M, N, ⟨hb, hz, hv, htk⟩, hTZ, hFl, hF0⟩ := oz_out h hT
  have hn8 := hv.nB
  obtain ⟨l, o1, o2, o3, o4, o5⟩ := hb
  have hf := f_facts o1
  have hll := o5.len hf.2
  have c := f_bkeys (p := ⟨#[97, 47]⟩) o1 htk.xk (by omega) o5.short (by decide)
  refine c.mono fun e w' ⟨v, he, ht, hbb⟩ => ⟨v, _, he, ht, fun hn => ?_, hbb⟩
  have hnil : held (pre7 ⟨#[97, 47]⟩) (all7 x.L l) = [] := List.eq_nil_iff_forall_not_mem.2 (fun a ha => by
    obtain ⟨e1, e2⟩ := (mem_held o2.rises).1 ha
    have hnb : beg pB2 a = false := by
      cases hbg : beg pB2 a with
      | false => rfl
      | true =>
        obtain ⟨r1, hr1⟩ := (beg_iff _ _).1 hbg
        obtain ⟨r2, hr2⟩ := (beg_iff _ _).1 e2
        rw [hr1] at hr2
        have : (98 : UInt8) = 97 := (List.cons.inj hr2).1
        exact absurd this (by decide)
    rw [o4 a hnb] at e1
    by_cases hex : ∃ i, 1 ≤ i ∧ i ≤ 6 ∧ a = keyA i
    · obtain ⟨i, i1, i6, rfl⟩ := hex
      rw [hz.1 i i1 i6] at e1
      have hsl := hv.slot i i1 i6
      rw [hn i] at hsl
      have hsl : vals i = none := hsl
      rw [hsl] at e1
      cases e1
    · rw [hz.2 a hnb (fun i i1 i6 e => hex ⟨i, i1, i6, e⟩)] at e1
      cases e1)
  rw [hnil]
  rfl
end
theorem impl : Ac.Impl Tab OZ CZ PZ where
  kO := kd_oz
  kC := kd_cz
  kP := kd_pz
  tk := fun hT hb => hT.below hb
  new := fun hT => i_new hT
  open_ := fun hT h _ => i_open hT h
  begin := fun hT h _ => i_begin hT h
  save := fun i a n c l hT h hk hi hl hnc hcm hoff => i_save i a n c l hT h hk hi hl hnc hcm hoff
  load := fun i hT h hk hi => i_load i hT h hk hi
  turn := fun i b t hT h hk h1 h6 hl hu hb => i_turn i b t hT h hk h1 h6 hl hu hb
  back := fun i b t hT h hk h1 h6 hl hu hw hb => i_back i b t hT h hk h1 h6 hl hu hw hb
  turnE := fun i b hT h hk hi hb he => i_turnE i b hT h hk hi he
  forget := fun i hT h hk hi => i_forget i hT h hk hi
  commit := fun hT h hk => i_commit hT h hk
  keysB := fun hT h hk => i_keysB hT h hk
  keysA := fun hT h hk => i_keysA hT h hk
end Go.Proofs.YtdkgkomjbpggeaaGreatDoor.Az
