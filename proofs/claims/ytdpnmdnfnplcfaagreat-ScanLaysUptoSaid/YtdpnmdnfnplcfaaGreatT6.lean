/- Texts of this seat, one behind the other. -/
import Derived.Test.YtdpnmdnfnplcfaaGreatT5
import Derived.Laws.NewBlocks
import Derived.Laws.AppendOwnNone
import Derived.Maps.OwnSet
import Derived.DeepKeys4
import Derived.Carry
namespace Go.Proofs.YtdpnmdnfnplcfaaGreat.Sc
open Go.RowKit Tx Pm Pr Dk Od
open En (tcheck Et)
set_option linter.unusedVariables false
theorem less_pre : ∀ (c a b : List UInt8), Op.bytesLess (c ++ a) (c ++ b) = Op.bytesLess a b
  | [], a, b => rfl
  | x :: c, a, b => by
    rw [List.cons_append, List.cons_append, ← less_pre c a b]
    simp [Op.bytesLess]
theorem less_more : ∀ (a : List UInt8) (c : UInt8) (r : List UInt8), Op.bytesLess a (a ++ c :: r) = true
  | [], c, r => rfl
  | x :: a, c, r => by
    rw [List.cons_append]
    have := less_more a c r
    simp [Op.bytesLess, this]
theorem less_vp (v p q : ByteArray) : Op.bytesLess (vp v p).toList (vp v q).toList = Op.bytesLess p.toList q.toList := by
  rw [ByteArray.toList_eq, ByteArray.toList_eq, ByteArray.toList_eq, ByteArray.toList_eq, vp_list, vp_list]
  rw [show v.data.toList ++ 47 :: p.data.toList = (v.data.toList ++ [47]) ++ p.data.toList by simp, show v.data.toList ++ 47 :: q.data.toList = (v.data.toList ++ [47]) ++ q.data.toList by simp, less_pre]
theorem tree_one {t : List Et} (h : tcheck t = 0) {e e' : Et} (he : e ∈ t) (he' : e' ∈ t) (hp : e.path = e'.path) : e = e' := by
  have h1 := En.tree_get h he
  have h2 := En.tree_get h he'
  rw [hp, h2] at h1
  obtain ⟨p, nd⟩ := e
  obtain ⟨p', nd'⟩ := e'
  simp only at hp h1
  rw [hp, h1]
def Fresh (s0 s : St) (x : It) : Prop := x.loose = false ∧ ((x.dir = true ∧ x.stamp = 0 ∧ x.data = ⟨#[]⟩) ∨ (x.dir = false ∧ s0.stamps < x.stamp ∧ x.stamp ≤ s.stamps))
theorem Fresh.up {s0 s s' : St} {x : It} (h : Fresh s0 s x) (hs : s.stamps ≤ s'.stamps) : Fresh s0 s' x := by
  obtain ⟨h1, h2 | ⟨h2, h3, h4⟩⟩ := h
  · exact ⟨h1, .inl h2⟩
  · exact ⟨h1, .inr ⟨h2, h3, Nat.le_trans h4 hs⟩⟩
structure Mid (N : Nat) (s0 s : St) (v : ByteArray) (t : List Et) (k : Nat) : Prop where
  rb : Rb N s
  up : s0.stamps ≤ s.stamps
  vol : Dk.kind s.L v = 1
  others : s.L.filter (fun x => !inV v x) = s0.L.filter (fun x => !inV v x)
  done : ∀ i e, i < k → t[i]? = some e → ∃ x ∈ s.L, x.path = vp v e.path ∧ nodeOf x = e.node
  rest : ∀ x ∈ s.L, inV v x = true → ∃ e ∈ t, x.path = vp v e.path ∧ (nodeOf x).kind = e.node.kind ∧ (x ∈ s0.L ∨ Fresh s0 s x)
  keep : ∀ y ∈ s0.L, inV v y = true → y.dir = false → ∀ e ∈ t, y.path = vp v e.path → e.node = nodeOf y → y ∈ s.L
theorem kind_node {l : List It} {x : It} (hr : Rises l) (h : x ∈ l) : ((Dk.kind l x.path : Nat) : Int) = (nodeOf x).kind := by
  rw [Dk.kind, Sc.find_one hr h]
  show (((if x.dir then 1 else 2 : Nat)) : Int) = _
  unfold nodeOf
  cases x.dir <;> rfl
theorem kind_zero {l : List It} {p : ByteArray} (h : ∀ x ∈ l, x.path ≠ p) : Dk.kind l p = 0 := by
  rw [Dk.kind]
  cases hf : find l p with
  | none => rfl
  | some x => exact absurd (find_mem hf).2 (h x (find_mem hf).1)
theorem mid_kind {N : Nat} {s0 s : St} {v : ByteArray} {t : List Et} {k : Nat} {e : Et} (ht : tcheck t = 0) (h : Mid N s0 s v t k) (he : e ∈ t) : Dk.kind s.L (vp v e.path) = 0 ∨ ((Dk.kind s.L (vp v e.path) : Nat) : Int) = e.node.kind := by
  by_cases hx : ∃ x ∈ s.L, x.path = vp v e.path
  · obtain ⟨x, hx, hp⟩ := hx
    obtain ⟨e', he', hp', hk, _⟩ := h.rest x hx (inV_vp hp)
    have := tree_one ht he he' (vp_inj (hp.symm.trans hp'))
    subst this
    right
    rw [← hk, ← hp, kind_node h.rb.inv.rises hx]
  · exact .inl (kind_zero fun x hx1 hp => hx ⟨x, hx1, hp⟩)
theorem mid_home {N : Nat} {s0 s : St} {v : ByteArray} {t : List Et} {k : Nat} {e : Et} (ht : tcheck t = 0) (h : Mid N s0 s v t k) (he : t[k]? = some e) : home s.L (vp v e.path) = true := by
  have hem := List.mem_of_getElem? he
  have hc := (En.tree_at ht he).1
  have hk : k < t.length := (List.getElem?_eq_some_iff.1 he).1
  unfold home
  rw [Bool.or_eq_true]
  right
  refine decide_eq_true ?_
  rcases par_vp (v := v) (p := e.path) (ok_of hc).2 with ⟨_, h1⟩ | ⟨h0, h1⟩
  · rw [h1]; exact h.vol
  · rw [h1]
    have hok : En.okAt t k = true := by
      cases ex : En.okAt t k
      · have := En.tcheck_bad hk ex (by unfold tcheck at ht; split at ht; cases ht; omega)
        omega
      · rfl
    rw [En.okAt_eq he] at hok
    simp only [Bool.and_eq_true, Bool.or_eq_true, decide_eq_true_eq] at hok
    have hpk := hok.2.resolve_left h0
    obtain ⟨ep, hep, hpp, hpn⟩ : ∃ ep ∈ t, ep.path = tb (par e.path.data.toList) ∧ ep.node.kind = 1 := by
      unfold En.tget at hpk
      cases hf : t.find? (fun x => decide (x.path = tb (par e.path.data.toList))) with
      | none => rw [hf] at hpk; exact absurd hpk (by decide)
      | some z =>
        rw [hf] at hpk
        exact ⟨z, List.mem_of_find?_eq_some hf, by have := List.find?_some hf; simpa using this, hpk⟩
    obtain ⟨j, hj⟩ := List.getElem?_of_mem hep
    have hcut : e.path.data.toList = par e.path.data.toList ++ 47 :: bas e.path.data.toList := by
      rcases par_bas e.path.data.toList with ⟨_, hn, _⟩ | hh
      · exact absurd hn h0
      · exact hh
    have hless : Op.bytesLess ep.path.toList e.path.toList = true := by
      rw [hpp, ByteArray.toList_eq, ByteArray.toList_eq]
      show Op.bytesLess (par e.path.data.toList) e.path.data.toList = true
      conv => lhs; arg 2; rw [hcut]
      exact less_more _ _ _
    have hjk : j < k := by
      rcases Nat.lt_trichotomy j k with h2 | h2 | h2
      · exact h2
      · subst h2
        rw [he] at hj
        injection hj with hj
        subst hj
        rw [less_irr] at hless
        cases hless
      · have h3 := En.tree_rise ht j k e ep he hj h2
        have h4 := En.lt_asymm (show En.less ep.path e.path = true from hless)
        rw [h3] at h4
        cases h4
    obtain ⟨x, hx, hxp, hxn⟩ := h.done j ep hjk hj
    have := kind_node h.rb.inv.rises hx
    rw [hxn, hpn, hxp, hpp] at this
    omega
theorem mid_has {N : Nat} {s0 s : St} {v : ByteArray} {t : List Et} {k : Nat} {e : Et} (h : Mid N s0 s v t k) (he : t[k]? = some e) (hx : ∃ x ∈ s.L, x.path = vp v e.path ∧ nodeOf x = e.node) : Mid N s0 s v t (k + 1) :=
  ⟨h.rb, h.up, h.vol, h.others, fun i e' hi he' => by
    by_cases e1 : i = k
    · subst e1
      rw [he] at he'
      injection he' with he'
      subst he'
      exact hx
    · exact h.done i e' (by omega) he', h.rest, h.keep⟩
theorem mid_ins {N N' : Nat} {s0 s s' : St} {v : ByteArray} {t : List Et} {k : Nat} {e : Et} {x : It} (ht : tcheck t = 0) (h : Mid N s0 s v t k) (he : t[k]? = some e) (hrb : Rb N' s') (hup : s.stamps ≤ s'.stamps) (hL : ∀ y, y ∈ s'.L ↔ y = x ∨ (y ∈ s.L ∧ y.path ≠ x.path))
    (ho : s'.L.filter (fun y => !inV v y) = s.L.filter (fun y => !inV v y)) (hk : Dk.kind s'.L v = 1) (hx : x.path = vp v e.path) (hn : nodeOf x = e.node) (hf : Fresh s0 s' x) (hne : ∀ y ∈ s.L, y.dir = false → y.path = vp v e.path → nodeOf y ≠ e.node) : Mid N' s0 s' v t (k + 1) := by
  have hem := List.mem_of_getElem? he
  refine ⟨hrb, Nat.le_trans h.up hup, hk, ho.trans h.others, fun i e' hi he' => ?_, fun y hy hv => ?_, fun y hy hv hd e' he' hp hnd => ?_⟩
  · have hem' := List.mem_of_getElem? he'
    by_cases hp : e'.path = e.path
    · have := tree_one ht hem' hem hp
      subst this
      exact ⟨x, (hL x).2 (.inl rfl), hx, hn⟩
    · by_cases e1 : i = k
      · subst e1
        rw [he] at he'
        injection he' with he'
        subst he'
        exact absurd rfl hp
      · obtain ⟨z, hz, hzp, hzn⟩ := h.done i e' (by omega) he'
        refine ⟨z, (hL z).2 (.inr ⟨hz, fun hh => hp ?_⟩), hzp, hzn⟩
        rw [hzp, hx] at hh
        exact vp_inj hh
  · rcases (hL y).1 hy with rfl | ⟨hy, _⟩
    · exact ⟨e, hem, hx, by rw [hn], .inr hf⟩
    · obtain ⟨e', h1, h2, h3, h4⟩ := h.rest y hy hv
      exact ⟨e', h1, h2, h3, h4.imp id (fun hh => hh.up hup)⟩
  · have hys := h.keep y hy hv hd e' he' hp hnd
    refine (hL y).2 (.inr ⟨hys, fun hh => ?_⟩)
    have hp2 : y.path = vp v e.path := hh.trans hx
    have := tree_one ht he' hem (vp_inj (hp.symm.trans hp2))
    subst this
    exact hne y hys hd hp2 hnd.symm
theorem no_data {d : ByteArray} (h : d.size = 0) : d = ⟨#[]⟩ := by
  apply ByteArray.ext
  apply Array.toList_inj.1
  have : d.data.toList.length = 0 := by rw [len_l]; exact h
  exact List.length_eq_zero_iff.1 this
theorem mid_dir {N : Nat} {s0 s : St} {v : ByteArray} {t : List Et} {k : Nat} {e : Et} (hv : chk v.data.toList 1 = 0) (ht : tcheck t = 0) (h : Mid N s0 s v t k) (hn : N + 1 ≤ 100000) (he : t[k]? = some e) (hk : e.node.kind = 1) :
    (mkdirS s (vp v e.path)).1 = 0 ∧ Mid (N + 1) s0 (mkdirS s (vp v e.path)).2 v t (k + 1) := by
  have hem := List.mem_of_getElem? he
  obtain ⟨hc, hw, _, _⟩ := En.tree_at ht he
  obtain ⟨c1, c2⟩ := chk_vp hv hc
  have hh := mid_home ht h he
  have hk2 : Dk.kind s.L (vp v e.path) ≠ 2 := by
    rcases mid_kind ht h hem with h1 | h1 <;> omega
  have hnd : e.node = ⟨1, ⟨#[]⟩⟩ := by
    obtain ⟨p, K, d⟩ := e
    simp only at hk hw
    subst hk
    unfold En.whole at hw
    rw [if_neg (fun h : (1 : Int) = 2 => absurd h (by decide)), Bool.and_eq_true] at hw
    have hd0 : d = ⟨#[]⟩ := no_data (of_decide_eq_true hw.2)
    rw [hd0]
  have hrb := rb_mkdir h.rb hn (Nat.le_trans (chk_short c1 (by omega)) (by omega)) c1 hh hk2
  rw [mkdir_is h.rb c1 hh hk2]
  refine ⟨rfl, mid_ins (x := dirI (vp v e.path)) ht h he hrb (Nat.le_refl _) (fun y => mem_ins_iff h.rb.inv.rises) (ins_others h.rb.inv.rises (inV_vp rfl)) ?_ rfl hnd.symm ⟨rfl, .inl ⟨rfl, rfl, rfl⟩⟩ (fun y hy hd hp hh => ?_)⟩
  · have := h.vol
    unfold Dk.kind at this ⊢
    show kindOf (find (ins s.L (dirI (vp v e.path))) v) = 1
    rw [find_ins s.L (x := dirI (vp v e.path)) (vp_ne v e.path)]
    exact this
  · have h1 : (nodeOf y).kind = 2 := by unfold nodeOf; rw [hd]; rfl
    rw [hh, hk] at h1
    exact absurd h1 (by decide)
theorem mid_file {N : Nat} {s0 s : St} {v : ByteArray} {t : List Et} {k : Nat} {e : Et} (hv : chk v.data.toList 1 = 0) (ht : tcheck t = 0) (h : Mid N s0 s v t k) (hn : N + 2 ≤ 100000) (he : t[k]? = some e) (hk : e.node.kind = 2) (hne : ∀ y ∈ s.L, y.dir = false → y.path = vp v e.path → nodeOf y ≠ e.node) :
    (writeS s (vp v e.path) e.node.data).1 = 0 ∧ Rb (N + 1) (writeS s (vp v e.path) e.node.data).2 ∧ (syncS (writeS s (vp v e.path) e.node.data).2 (vp v e.path)).1 = 0 ∧ Mid (N + 2) s0 (syncS (writeS s (vp v e.path) e.node.data).2 (vp v e.path)).2 v t (k + 1) := by
  have hem := List.mem_of_getElem? he
  obtain ⟨hc, hw, _, _⟩ := En.tree_at ht he
  obtain ⟨c1, c2⟩ := chk_vp hv hc
  have hh := mid_home ht h he
  have hk1 : Dk.kind s.L (vp v e.path) ≠ 1 := by
    rcases mid_kind ht h hem with h1 | h1 <;> omega
  have hd4 : e.node.data.size ≤ 4096 := by
    unfold En.whole at hw
    rw [if_pos hk] at hw
    exact of_decide_eq_true hw
  have hps : (vp v e.path).size ≤ 1048576 := Nat.le_trans (chk_short c1 (by omega)) (by omega)
  have hr1 := rb_write e.node.data h.rb (by omega) hps (by omega) c1 c2 hh hk1
  have hod : (old s.L (vp v e.path)).dir = false := by
    unfold old
    cases hf : find s.L (vp v e.path) with
    | none => rfl
    | some z =>
      show z.dir = false
      cases hz : z.dir
      · rfl
      · exact absurd (by rw [Dk.kind, hf]; show (if z.dir then 1 else 2) = 1; rw [hz]; rfl) hk1
  rw [write_is e.node.data h.rb c1 c2 hh hk1]
  obtain ⟨X1, hX1⟩ : ∃ X1, X1 = stamped (sp1 s) { old s.L (vp v e.path) with data := e.node.data, loose := true, anew := true } := ⟨_, rfl⟩
  have p1 : X1.path = vp v e.path := by rw [hX1]; exact old_path _ _
  have d1 : X1.dir = false := by rw [hX1]; exact hod
  have a1 : X1.data = e.node.data := by rw [hX1]; rfl
  have t1 : X1.stamp = s.stamps + 1 := by rw [hX1]; rfl
  obtain ⟨S1, hS1⟩ : ∃ S1, S1 = putS (sp1 s) { old s.L (vp v e.path) with data := e.node.data, loose := true, anew := true } := ⟨_, rfl⟩
  have l1 : S1.L = ins s.L X1 := by rw [hS1, hX1]; rfl
  have st1 : S1.stamps = s.stamps + 1 := by rw [hS1]; rfl
  rw [← hS1] at hr1 ⊢
  have r1 : Rises S1.L := hr1.inv.rises
  have f1 : find S1.L (vp v e.path) = some X1 := by rw [l1, ← p1]; exact find_ins_same h.rb.inv.rises
  have k1 : Dk.kind S1.L (vp v e.path) = 2 := by rw [Dk.kind, f1]; show (if X1.dir then 1 else 2) = 2; rw [d1]; rfl
  have o1 : old S1.L (vp v e.path) = X1 := by unfold old; rw [f1]; rfl
  have hr2 := rb_sync hr1 (by omega) hps c1 c2 k1
  rw [sync_is hr1 c1 c2 k1]
  rw [o1] at hr2 ⊢
  obtain ⟨X2, hX2⟩ : ∃ X2, X2 = ({ X1 with kept := X1.data, loose := false, anew := false } : It) := ⟨_, rfl⟩
  have p2 : X2.path = vp v e.path := by rw [hX2]; exact p1
  have hnd : nodeOf X2 = e.node := by
    have e1 : X2.dir = false := by rw [hX2]; exact d1
    have e2 : X2.data = e.node.data := by rw [hX2]; exact a1
    unfold nodeOf
    rw [e1, e2]
    show (⟨2, e.node.data⟩ : En.Nd) = e.node
    rw [← hk]
  rw [← hX2] at hr2 ⊢
  refine ⟨rfl, hr1, rfl, mid_ins (x := X2) ht h he hr2 (by show s.stamps ≤ S1.stamps; omega) (fun y => ?_) ?_ ?_ p2 hnd ⟨by rw [hX2], .inr ⟨by rw [hX2]; exact d1, ?_, ?_⟩⟩ hne⟩
  · show y ∈ ins S1.L X2 ↔ _
    rw [mem_ins_iff r1, l1, mem_ins_iff h.rb.inv.rises, p1, p2]
    constructor
    · rintro (h1 | ⟨h1 | h1, h2⟩)
      · exact .inl h1
      · rw [h1] at h2; exact absurd p1 h2
      · exact .inr h1
    · rintro (h1 | h1)
      · exact .inl h1
      · exact .inr ⟨.inr h1, h1.2⟩
  · show (ins S1.L X2).filter _ = _
    rw [ins_others r1 (inV_vp p2), l1, ins_others h.rb.inv.rises (inV_vp p1)]
  · have := h.vol
    unfold Dk.kind at this ⊢
    show kindOf (find (ins S1.L X2) v) = 1
    rw [find_ins S1.L (by rw [p2]; exact vp_ne v e.path), l1, find_ins s.L (by rw [p1]; exact vp_ne v e.path)]
    exact this
  · rw [hX2]
    show s0.stamps < X1.stamp
    have := h.up
    omega
  · rw [hX2]
    show X1.stamp ≤ S1.stamps
    omega
theorem mid_end {N n : Nat} {s0 s : St} {v : ByteArray} {t : List Et} (hv : chk v.data.toList 1 = 0) (ht : tcheck t = 0) (h : Mid N s0 s v t t.length) (hn : N ≤ n + 1000) (hm : n + 1000 ≤ 100000) : Laid n s0 s v t := by
  have h0 : v ≠ ⟨#[]⟩ := vol_name hv
  have hr := h.rb.inv.rises
  have hmem : ∀ x ∈ s.L, inV v x = true → (⟨tl v x.path, nodeOf x⟩ : Et) ∈ t := by
    intro x hx hxv
    obtain ⟨e, he, hp, _, _⟩ := h.rest x hx hxv
    obtain ⟨i, hi⟩ := List.getElem?_of_mem he
    obtain ⟨z, hz, hzp, hzn⟩ := h.done i e (List.getElem?_eq_some_iff.1 hi).1 hi
    have := rises_one hr z hz x hx (hzp.trans hp.symm)
    subst this
    rw [hzn, hzp, vp_tl]
    exact he
  have hent : ∀ e, e ∈ entS s.L v ↔ e ∈ t := by
    intro e
    constructor
    · intro he
      obtain ⟨x, hx, hxv, rfl⟩ := ent_of he
      exact hmem x hx hxv
    · intro he
      obtain ⟨i, hi⟩ := List.getElem?_of_mem he
      obtain ⟨z, hz, hzp, hzn⟩ := h.done i e (List.getElem?_eq_some_iff.1 hi).1 hi
      have := ent_in hz (inV_vp hzp)
      rw [hzp, vp_tl, hzn] at this
      exact this
  have hpw : ((entS s.L v).map (·.path)).Pairwise (fun a b => En.less a b = true) := by
    rw [List.pairwise_map]
    unfold entS
    rw [List.pairwise_map]
    refine List.Pairwise.imp_of_mem (fun {x y} hx hy hxy => ?_) (List.Pairwise.filter (inV v) hr)
    have hx2 := inV_at h0 (List.mem_filter.1 hx).2
    have hy2 := inV_at h0 (List.mem_filter.1 hy).2
    show Op.bytesLess (tl v x.path).toList (tl v y.path).toList = true
    rw [← less_vp v, ← hx2, ← hy2]
    exact hxy
  have hpaths : (entS s.L v).map (·.path) = t.map (·.path) := En.rise_ext _ _ hpw (En.tree_paths ht) fun p => by
    constructor
    · intro hp
      obtain ⟨e, he, rfl⟩ := List.mem_map.1 hp
      exact List.mem_map.2 ⟨e, (hent e).1 he, rfl⟩
    · intro hp
      obtain ⟨e, he, rfl⟩ := List.mem_map.1 hp
      exact List.mem_map.2 ⟨e, (hent e).2 he, rfl⟩
  have htree : entS s.L v = t := by
    have hlen : (entS s.L v).length = t.length := by
      have := congrArg List.length hpaths
      simpa using this
    refine List.ext_getElem hlen fun i h1 h2 => ?_
    refine tree_one ht ((hent _).1 (List.getElem_mem h1)) (List.getElem_mem h2) ?_
    have e1 : ((entS s.L v).map (·.path))[i]'(by rw [List.length_map]; exact h1) = (t.map (·.path))[i]'(by rw [List.length_map]; exact h2) := by simp only [hpaths]
    simpa using e1
  refine ⟨h.rb.mono hn hm, h.up, h.others, htree, fun x hx hxv => ?_, fun x hx hxv hd y hy hp hyd hdat => ?_⟩
  · obtain ⟨_, _, _, _, hh⟩ := h.rest x hx hxv
    exact hh
  · have hxp := inV_at h0 hxv
    have hyv : inV v y = true := inV_vp (hp.trans hxp)
    have hn1 : nodeOf x = nodeOf y := by
      unfold nodeOf
      rw [hd, hyd, hdat]
    have hys := h.keep y hy hyv hyd _ (hmem x hx hxv) (hp.trans hxp) hn1
    exact rises_one hr y hys x hx hp
end Go.Proofs.YtdpnmdnfnplcfaaGreat.Sc

namespace Go.Proofs.YtdpnmdnfnplcfaaGreat.Sc
open Go.RowKit Tx Pm Pr Dk Od
set_option linter.unusedVariables false
def bel (L : List It) (f : ByteArray) : List ByteArray := (L.filter (inV f)).map (·.path)
theorem bel_mem {L : List It} {f p : ByteArray} : p ∈ bel L f ↔ ∃ x ∈ L, inV f x = true ∧ x.path = p := by
  unfold bel
  rw [List.mem_map]
  constructor
  · rintro ⟨x, hx, rfl⟩
    exact ⟨x, (List.mem_filter.1 hx).1, (List.mem_filter.1 hx).2, rfl⟩
  · rintro ⟨x, hx, hv, rfl⟩
    exact ⟨x, List.mem_filter.2 ⟨hx, hv⟩, rfl⟩
theorem inV_iff {f : ByteArray} (h0 : f ≠ ⟨#[]⟩) {x : It} : inV f x = true ↔ ∃ r, x.path.data.toList = f.data.toList ++ 47 :: r := by
  constructor
  · intro h
    have := inV_at h0 h
    exact ⟨(tl f x.path).data.toList, by conv => lhs; rw [this, vp_list]⟩
  · rintro ⟨r, hr⟩
    refine inV_vp (p := tb r) ?_
    apply ByteArray.ext
    apply Array.toList_inj.1
    rw [vp_list, hr]
    rfl
theorem list_mem {L : List It} {f p : ByteArray} : p ∈ Dk.list L f ↔ ∃ x ∈ L, tb (par x.path.data.toList) = f ∧ x.path = p := by
  unfold Dk.list
  rw [List.mem_map]
  constructor
  · rintro ⟨x, hx, rfl⟩
    exact ⟨x, (List.mem_filter.1 hx).1, of_decide_eq_true (List.mem_filter.1 hx).2, rfl⟩
  · rintro ⟨x, hx, hv, rfl⟩
    exact ⟨x, List.mem_filter.2 ⟨hx, decide_eq_true hv⟩, rfl⟩
theorem par_cut {f p : ByteArray} (h0 : f ≠ ⟨#[]⟩) (h : tb (par p.data.toList) = f) : p.data.toList = f.data.toList ++ 47 :: bas p.data.toList := by
  have e : f.data.toList = par p.data.toList := by rw [← h]; rfl
  rcases par_bas p.data.toList with ⟨_, hn, _⟩ | hh
  · rw [hn] at e
    exact absurd e (list_ne h0)
  · rw [e]; exact hh
theorem less_tr {a b c : ByteArray} (h1 : Op.bytesLess a.toList b.toList = true) (h2 : Op.bytesLess b.toList c.toList = true) : Op.bytesLess a.toList c.toList = true := En.lt_trans (a := a) (b := b) (c := c) h1 h2
theorem no_sib {f c1 c2 : ByteArray} {r : List UInt8} (h0 : f ≠ ⟨#[]⟩) (h1 : tb (par c1.data.toList) = f) (h2 : tb (par c2.data.toList) = f) (h : c2.data.toList = c1.data.toList ++ 47 :: r) : False := by
  have e1 := par_cut h0 h1
  have e2 : f.data.toList = par c2.data.toList := by rw [← h2]; rfl
  have l1 := congrArg List.length e1
  rw [List.length_append, List.length_cons] at l1
  have l2 := congrArg List.length e2
  rw [h, par, last_app, List.length_take, List.length_append, List.length_cons] at l2
  omega
def kids (L : List It) (f : ByteArray) : List ByteArray := (Dk.list L f).flatMap fun p => p :: if kind L p = 1 then bel L p else []
theorem list_ne0 {L : List It} {f c : ByteArray} (hL : Wf L) (h : c ∈ Dk.list L f) : c ≠ ⟨#[]⟩ := by
  obtain ⟨x, hx, _, rfl⟩ := list_mem.1 h
  exact chk_ne (hL.names x hx)
theorem head_in {L : List It} {f c : ByteArray} (h : c ∈ Dk.list L f) : c ∈ kids L f := List.mem_flatMap.2 ⟨c, h, List.mem_cons_self ..⟩
theorem kids_up {L : List It} {f c p : ByteArray} (hL : Wf L) (h : c ∈ Dk.list L f) (hk : kind L c = 1) (hp : p ∈ bel L c) : p ∈ kids L f := List.mem_flatMap.2 ⟨c, h, by rw [if_pos hk]; exact List.mem_cons_of_mem _ hp⟩
theorem kind_of {L : List It} (hL : Wf L) {z : It} (hz : z ∈ L) (hd : z.dir = true) : kind L z.path = 1 := by
  rw [kind, Sc.find_one hL.rises hz]
  show (if z.dir then 1 else 2) = 1
  rw [hd]; rfl
theorem kids_in {L : List It} {f : ByteArray} (hL : Wf L) (h0 : f ≠ ⟨#[]⟩) : ∀ (n : Nat) (p : ByteArray), p.size ≤ n → p ∈ bel L f → p ∈ kids L f := by
  intro n
  induction n with
  | zero =>
    intro p hn hp
    obtain ⟨x, hx, hv, rfl⟩ := bel_mem.1 hp
    exact absurd (size_zero.1 (by omega)) (chk_ne (hL.names x hx))
  | succ n ih =>
    intro p hn hp
    obtain ⟨x, hx, hv, rfl⟩ := bel_mem.1 hp
    obtain ⟨r, hr⟩ := (inV_iff h0).1 hv
    have hfn := list_ne h0
    have hpe : par x.path.data.toList = f.data.toList ++ (47 :: r).take (lastN r) := by
      rw [hr, par, last_app, List.take_append, List.take_of_length_le (by omega)]
      congr 2
      omega
    have hpn : par x.path.data.toList ≠ [] := by
      rw [hpe]
      intro h
      exact hfn (List.append_eq_nil_iff.1 h).1
    obtain ⟨z, hz, hzp, hzd⟩ := hL.homes x hx hpn
    have hcut : x.path.data.toList = z.path.data.toList ++ 47 :: bas x.path.data.toList := par_cut (chk_ne (hL.names z hz)) hzp.symm
    by_cases h1 : lastN r = 0
    · refine head_in (list_mem.2 ⟨x, hx, ?_, rfl⟩)
      rw [hpe, h1, List.take_zero, List.append_nil, tb_of]
    · obtain ⟨k, hk⟩ : ∃ k, lastN r = k + 1 := ⟨lastN r - 1, by omega⟩
      rw [hk, List.take_succ_cons] at hpe
      have hzl : z.path.data.toList = f.data.toList ++ 47 :: r.take k := by
        rw [hzp]
        show par x.path.data.toList = _
        exact hpe
      have hzb : z.path ∈ bel L f := bel_mem.2 ⟨z, hz, (inV_iff h0).2 ⟨_, hzl⟩, rfl⟩
      have hsz := congrArg List.length hcut
      rw [List.length_append, List.length_cons, len_l, len_l] at hsz
      have hin := ih z.path (by omega) hzb
      obtain ⟨c, hc, hq⟩ := List.mem_flatMap.1 hin
      have hc0 := list_ne0 hL hc
      rcases List.mem_cons.1 hq with hq | hq
      · have hk1 := kind_of hL hz hzd
        rw [hq] at hk1
        refine kids_up hL hc hk1 (bel_mem.2 ⟨x, hx, (inV_iff hc0).2 ⟨bas x.path.data.toList, ?_⟩, rfl⟩)
        rw [← hq]; exact hcut
      · by_cases hk1 : kind L c = 1
        · rw [if_pos hk1] at hq
          obtain ⟨z2, hz2, hzv, hze⟩ := bel_mem.1 hq
          obtain ⟨r2, hr2⟩ := (inV_iff hc0).1 hzv
          refine kids_up hL hc hk1 (bel_mem.2 ⟨x, hx, (inV_iff hc0).2 ⟨r2 ++ 47 :: bas x.path.data.toList, ?_⟩, rfl⟩)
          have hc2 := hcut
          rw [← hze, hr2, List.append_assoc] at hc2
          exact hc2
        · rw [if_neg hk1] at hq
          cases hq
theorem kids_out {L : List It} {f p : ByteArray} (hL : Wf L) (h0 : f ≠ ⟨#[]⟩) (h : p ∈ kids L f) : p ∈ bel L f := by
  obtain ⟨c, hc, hq⟩ := List.mem_flatMap.1 h
  obtain ⟨y, hy, hyf, rfl⟩ := list_mem.1 hc
  have e := par_cut h0 hyf
  have hc0 := chk_ne (hL.names y hy)
  rcases List.mem_cons.1 hq with rfl | hq
  · exact bel_mem.2 ⟨y, hy, (inV_iff h0).2 ⟨_, e⟩, rfl⟩
  · split at hq
    · obtain ⟨x, hx, hv, rfl⟩ := bel_mem.1 hq
      obtain ⟨r, hr⟩ := (inV_iff hc0).1 hv
      exact bel_mem.2 ⟨x, hx, (inV_iff h0).2 ⟨bas y.path.data.toList ++ 47 :: r, (hr.trans (congrArg (· ++ 47 :: r) e)).trans (by show (f.data.toList ++ 47 :: bas y.path.data.toList) ++ 47 :: r = _; rw [List.append_assoc]; rfl)⟩, rfl⟩
    · cases hq
theorem bel_rise {L : List It} (hL : Wf L) (f : ByteArray) : (bel L f).Pairwise (fun a b => Op.bytesLess a.toList b.toList = true) := by
  unfold bel
  rw [List.pairwise_map]
  exact List.Pairwise.filter _ hL.rises
theorem list_rise {L : List It} (hL : Wf L) (f : ByteArray) : (Dk.list L f).Pairwise (fun a b => Op.bytesLess a.toList b.toList = true) := by
  unfold Dk.list
  rw [List.pairwise_map]
  exact List.Pairwise.filter _ hL.rises
theorem below_more {L : List It} {c p : ByteArray} (h0 : c ≠ ⟨#[]⟩) (h : p ∈ bel L c) : Op.bytesLess c.toList p.toList = true := by
  obtain ⟨x, hx, hv, rfl⟩ := bel_mem.1 h
  obtain ⟨r, hr⟩ := (inV_iff h0).1 hv
  rw [ByteArray.toList_eq, ByteArray.toList_eq, hr]
  exact less_more _ _ _
theorem kids_rise {L : List It} {f : ByteArray} (hL : Wf L) (h0 : f ≠ ⟨#[]⟩) : (kids L f).Pairwise (fun a b => Op.bytesLess a.toList b.toList = true) := by
  unfold kids
  rw [List.pairwise_flatMap]
  constructor
  · intro c hc
    have hc0 := list_ne0 hL hc
    refine List.pairwise_cons.2 ⟨fun p hp => ?_, ?_⟩
    · split at hp
      · exact below_more hc0 hp
      · cases hp
    · split
      · exact bel_rise hL c
      · exact List.Pairwise.nil
  · refine List.Pairwise.imp_of_mem (fun {c1 c2} hc1 hc2 hlt => ?_) (list_rise hL f)
    have n1 := list_ne0 hL hc1
    have n2 := list_ne0 hL hc2
    obtain ⟨y1, hy1, hf1, rfl⟩ := list_mem.1 hc1
    obtain ⟨y2, hy2, hf2, rfl⟩ := list_mem.1 hc2
    have hu : und y2.path.data.toList y1.path.data.toList = false := by
      cases hh : und y2.path.data.toList y1.path.data.toList
      · rfl
      · exfalso
        have hne : y2.path ≠ y1.path := fun e => by
          rw [e, less_irr] at hlt
          cases hlt
        rw [und_eq n1 hne, List.isPrefixOf_iff_prefix] at hh
        obtain ⟨r, hr⟩ := hh
        refine no_sib (r := r) h0 hf1 hf2 ?_
        rw [← hr, List.append_assoc]
        rfl
    have key : ∀ a, (a ∈ y1.path :: if kind L y1.path = 1 then bel L y1.path else []) → Op.bytesLess a.toList y2.path.toList = true := by
      intro a ha
      rcases List.mem_cons.1 ha with rfl | ha
      · exact hlt
      · split at ha
        · obtain ⟨x, hx, hv, rfl⟩ := bel_mem.1 ha
          obtain ⟨r, hr⟩ := (inV_iff n1).1 hv
          have ho := order (b := r) (ok_of (hL.names y2 hy2)).2 hu
          rw [ByteArray.toList_eq, ByteArray.toList_eq] at hlt ⊢
          rcases ho with h1 | ⟨h1, h2⟩
          · have := less_asymm _ _ hlt
            rw [h1] at this
            cases this
          · rw [hr]
            cases h3 : Op.bytesLess (y1.path.data.toList ++ 47 :: r) y2.path.data.toList
            · exact absurd (En.less_tri _ _ h1 h3) h2
            · rfl
        · cases ha
    intro a ha b hb
    have ha2 := key a ha
    rcases List.mem_cons.1 hb with rfl | hb
    · exact ha2
    · split at hb
      · exact less_tr ha2 (below_more n2 hb)
      · cases hb
theorem bel_kids {L : List It} {f : ByteArray} (hL : Wf L) (h0 : f ≠ ⟨#[]⟩) : bel L f = kids L f :=
  En.rise_ext _ _ (bel_rise hL f) (kids_rise hL h0) fun p => ⟨fun h => kids_in hL h0 _ p (Nat.le_refl _) h, fun h => kids_out hL h0 h⟩
theorem le_sumN {l : List Nat} {x : Nat} (h : x ∈ l) : x ≤ l.sum := by
  induction l with
  | nil => cases h
  | cons y l ih =>
    rw [List.sum_cons]
    rcases List.mem_cons.1 h with rfl | h
    · omega
    · have := ih h
      omega
theorem bel_less {L : List It} {f c : ByteArray} (hL : Wf L) (h0 : f ≠ ⟨#[]⟩) (hc : c ∈ Dk.list L f) : (bel L c).length < (bel L f).length := by
  have h1 : kids L f = bel L f := (bel_kids hL h0).symm
  rw [← h1]
  by_cases hk : kind L c = 1
  · unfold kids
    rw [List.length_flatMap]
    have h2 : (c :: if kind L c = 1 then bel L c else []).length ≤ (List.map (fun a => (a :: if kind L a = 1 then bel L a else []).length) (Dk.list L f)).sum := le_sumN (List.mem_map.2 ⟨c, hc, rfl⟩)
    rw [if_pos hk, List.length_cons] at h2
    omega
  · have e : bel L c = [] := by
      have hc0 := list_ne0 hL hc
      rw [bel_kids hL hc0]
      unfold kids
      rw [wf_file hL hc0 hk]
      rfl
    rw [e]
    exact List.length_pos_iff.2 (List.ne_nil_of_mem (head_in hc))
end Go.Proofs.YtdpnmdnfnplcfaaGreat.Sc

namespace Go.Proofs.YtdpnmdnfnplcfaaGreat.Sc
open Go.RowKit Tx Pm Pl Pr Dk
set_option linter.unusedVariables false
theorem imp_below {b : Nat} {w W : World} {F : Nat → Prop} {s : St} (h : ImpAt b w F s) (hb : Below w.heap.size w W) : ImpAt b W F s := (imp_kind b).kept h (fun i hi => hb.block i ((imp_kind b).lt h i hi))
structure Lk (s : St) : Prop where
  ok : Ok s
  wf : Wf s.L
  len : s.L.length ≤ 100000
theorem own_lowT {w : World} {B B2 : Nat} {v : Value} {l : List ByteArray} (h : Texts w B v l) (hb : B2 ≤ B) : Texts w B2 v l := own_low h hb
set_option maxRecDepth 100000 in
theorem wp_append_txt {w : World} {ops : Array Oper} {rest : List Oper} {o : Oper} {a : Act} {Q : Exit → Act → World → Prop} {v : Value} {l0 l : List ByteArray} {n c : Nat} {A : Option Addr} (hgd : o.guard = none) (s x : Operand)
    (ho : o.op = .call { callee := .builtin .append, args := #[s, x], argTypes := #[58, 58] }) (base : Nat) (hs : a.eval s = v) (hown : Texts w base v l0) (hx : a.eval x = .slice A n c)
    (hl : Strs w A n l) (hnil : A = none → c = 0) (hn : (l0.length + n) * 16 ≤ 140737488355328) (hb : base ≤ w.heap.size)
    (h : ∀ v' w', Texts w' base v' (l0 ++ l) → w.grownBy w' v.ownBlock → wpList Tryz.prog ops Q rest (a.put o.dst v') w') : wpList Tryz.prog ops Q (o :: rest) a w := by
  obtain ⟨i0, hi, hz0, hz1, hz2⟩ := info_parts info9
  have hln := hl.1
  cases A with
  | none =>
    have h0 : n = 0 := by
      rcases hl.2 with h | ⟨_, _, h, _⟩
      · exact h
      · cases h
    subst h0
    obtain rfl := hnil rfl
    obtain rfl : l = [] := List.length_eq_zero_iff.1 hln
    refine wpList_append_own_none hgd s x 58 ho base 9 i0 1 Tryz.underlying58 hi v l0.length (l0.map sv) hs hown hx (h v w ?_ ⟨rfl, rfl, rfl, Nat.le_refl _, fun _ _ _ => rfl⟩)
    rw [List.append_nil]
    exact hown
  | some ad =>
    refine wpList_append_own w hgd s x 58 ho base 9 i0 (.string ⟨#[]⟩) 1 16 Tryz.underlying58 hi hz0 hz1 hz2 rfl (by decide) v l0.length (l0.map sv) hs hown ad n c (l.map sv) hx (by rw [List.length_map, hln, Nat.mul_one]) (fun j u hu => ?_) (sv_one l) (by unfold maxLen; omega) hn hb ?_
    · rw [List.getElem?_map] at hu
      obtain ⟨y, hy, rfl⟩ := Option.map_eq_some_iff.1 hu
      have hj := (List.getElem?_eq_some_iff.1 hy).1
      obtain ⟨b, off, ha, hbl, hc⟩ := hl.2.resolve_left (by omega)
      injection ha with ha
      subst ha
      rw [WideShapes.add_plain]
      exact hc j y hy
    · intro v' w' h1 h2 h3
      refine h v' w' ?_ h2
      unfold Texts
      rw [List.length_append, hln, List.map_append]
      exact h1
theorem Texts.more {w : World} {B : Nat} {v : Value} {l : List ByteArray} (h : Texts w B v l) : ∃ a c, v = .slice a l.length c ∧ Strs w a l.length l ∧ (a = none → c = 0) := by
  obtain ⟨a, c, hv, hs, h1, h2⟩ := h.form
  refine ⟨a, c, hv, hs, fun e => ?_⟩
  rcases h.2 with ⟨hv2, h0⟩ | ⟨g, cap, cur, hv2, _⟩
  · rw [hv] at hv2
    injection hv2
  · rw [hv, e] at hv2
    injection hv2 with hv2
    cases hv2
def upK (L : List It) (f : ByteArray) (k : Nat) : List ByteArray := ((Dk.list L f).take k).flatMap fun p => p :: if kind L p = 1 then bel L p else []
theorem upK_next {L : List It} {f : ByteArray} {k : Nat} {p : ByteArray} (h : (Dk.list L f)[k]? = some p) : upK L f (k + 1) = (upK L f k ++ [p]) ++ if kind L p = 1 then bel L p else [] := by
  unfold upK
  rw [List.take_add_one, h, List.flatMap_append]
  show _ ++ List.flatMap _ [p] = _
  rw [List.flatMap_cons, List.flatMap_nil, List.append_nil, List.append_assoc]
  rfl
theorem upK_len {L : List It} {f : ByteArray} (hL : Wf L) (h0 : f ≠ ⟨#[]⟩) (k : Nat) : (upK L f k).length ≤ L.length := by
  have h1 : (upK L f k).length ≤ (kids L f).length := by
    unfold upK kids
    conv => rhs; rw [← List.take_append_drop k (Dk.list L f), List.flatMap_append, List.length_append]
    omega
  rw [← bel_kids hL h0] at h1
  unfold bel at h1
  rw [List.length_map] at h1
  exact Nat.le_trans h1 (List.length_filter_le _ _)
set_option maxRecDepth 100000 in
set_option maxHeartbeats 4000000 in
theorem below_any (b : Nat) (s : St) (F : Nat → Prop) (lk : Lk s) : ∀ (n : Nat) (f : ByteArray) (w : World), (bel s.L f).length < n → f ≠ ⟨#[]⟩ → f.size ≤ 1048576 → ImpAt b w F s →
    Calls Tryz.prog 45 #[.pointer (some ⟨b, 0, none⟩), .string f] w (ListTo (bel s.L f) w) := by
  intro n
  induction n with
  | zero => intro f w h; omega
  | succ n ih =>
    intro f w hn h0 hf h
    have cl := ok_list (p := f) h lk.ok
    have hrec : ∀ p ∈ Dk.list s.L f, ∀ W, Below w.heap.size w W → Calls Tryz.prog 45 #[.pointer (some ⟨b, 0, none⟩), .string p] W (ListTo (bel s.L p) W) := fun p hp W hW => by
      obtain ⟨x, hx, _, rfl⟩ := list_mem.1 hp
      have := bel_less lk.wf h0 hp
      exact ih _ W (by omega) (chk_ne (lk.wf.names x hx)) (Nat.le_trans (chk_short (lk.wf.names x hx) (by omega)) (by omega)) (imp_below h hW)
    have hkind : ∀ p ∈ Dk.list s.L f, ∀ W, Below w.heap.size w W → Calls Tryz.prog 47 #[.pointer (some ⟨b, 0, none⟩), .string p] W fun e w' => e = .returned (.int .i64 (Dk.kind s.L p : Nat)) ∧ W = w' := fun p hp W hW => by
      obtain ⟨x, hx, _, rfl⟩ := list_mem.1 hp
      exact ok_kind (imp_below h hW) (Nat.le_trans (chk_short (lk.wf.names x hx) (by omega)) (by omega))
    have hup := fun k => upK_len lk.wf h0 k
    have hlen := lk.len
    have hll : (Dk.list s.L f).length ≤ 100000 := Nat.le_trans (by unfold Dk.list; rw [List.length_map]; exact List.length_filter_le _ _) hlen
    have HR := Lib.hid hrec
    have HK := Lib.hid hkind
    have HU : Hid (∀ k, (upK s.L f k).length ≤ 100000) := fun k => Nat.le_trans (hup k) hlen
    have HBK : Hid (bel s.L f = kids s.L f) := bel_kids lk.wf h0
    clear hrec hkind ih hup hlen lk h hn
    obtain ⟨i0, hi, hz0, hz1, hz2⟩ := info_parts info9
    go_enter Tryz.func45, Tryz.ntmps45
    go_wp2_with fail
    go_at_call 26
    refine cl.mono ?_
    rintro e w1 ⟨v, rfl, hv, hb1⟩
    obtain ⟨a, c, rfl, hS, _⟩ := Texts.more hv
    obtain ⟨m, hm⟩ : ∃ m, m = (Dk.list s.L f).length := ⟨_, rfl⟩
    have HM := Lib.hid hm
    rw [← hm] at hS hll ⊢
    have HS := Lib.hid hS
    have HB1 := Lib.hid hb1
    clear hv hS hb1 cl hm
    go_wp2_with fail
    go_loopw [5, 7, 12] (fun vo _ i wr => ∃ k : Nat, k ≤ m ∧ i = .int .i64 (k : Int) ∧ Hid (Texts wr w1.heap.size vo (upK s.L f k)) ∧ Hid (Below w1.heap.size w1 wr)) (fun _ _ i _ => m - (intOf i).toNat)
    case atStart => exact ⟨0, Nat.zero_le _, rfl, World.ownsRow_nil _ _ _ _, Below.refl _ _⟩
    case round =>
      obtain ⟨k, hk, rfl, HO, HB⟩ := hrel
      have HBW : Hid (Below w.heap.size w wr) := HB1.out.trans (HB.out.mono HB1.out.size)
      by_cases hlt : k < m
      · have hltz : (k : Int) < (m : Int) := by omega
        obtain ⟨g, off, rfl, hg, hc⟩ := HS.out.2.resolve_left (by omega)
        obtain ⟨p, hp⟩ : ∃ p, (Dk.list s.L f)[k]? = some p := ⟨_, List.getElem?_eq_getElem (by rw [← HM.out]; exact hlt)⟩
        have hpm := List.mem_of_getElem? hp
        have d0 := (HB.out.cell (p := ⟨g, _, none⟩) hg).trans (hc k p hp)
        have hnx := upK_next hp
        have hT := HU.out k
        have hT2 := HU.out (k + 1)
        have hKp := HK.out p hpm
        have hRp := HR.out p hpm
        clear hc hp hpm
        obtain ⟨T, hTe⟩ : ∃ T, T = (upK s.L f k).length := ⟨_, rfl⟩
        rw [← hTe] at hT
        have hown : wr.ownsRow w1.heap.size 9 1 u5 T ((upK s.L f k).map sv) := by rw [hTe]; exact HO.out
        have HTE := Lib.hid hTe
        have HNX := Lib.hid hnx
        have HKP := Lib.hid hKp
        have HRP := Lib.hid hRp
        clear hTe hnx hKp hRp HO
        have hB := HB.out
        go_wp2_with (at_builtin; refine wpList_append_own _ rfl _ _ 58 rfl w1.heap.size 9 i0 (.string ⟨#[]⟩) 1 16 Tryz.underlying58 hi hz0 hz1 hz2 rfl (by decide) _ _ _ rfl (hown.alloc _) ⟨wr.heap.size, 0, none⟩ 1 1 [sv p] rfl rfl ?c1 ?c2 ?c3 ?c4 ?c5 ?_)
        case c1 => exact cell_one_new _ _ _
        case c2 => exact sv_one [p]
        case c3 => unfold maxLen; omega
        case c4 => omega
        case c5 => have := hB.size; simp; omega
        intro v2 w2 hown2 hgrow2 _
        have hB2 := below_step hB hown hgrow2
        have hO2 : Texts w2 w1.heap.size v2 (upK s.L f k ++ [p]) := by
          unfold Texts
          rw [List.length_append, ← HTE.out, List.map_append]
          exact hown2
        have HO2 := Lib.hid hO2
        have HB2 := Lib.hid hB2
        have HBW2 : Hid (Below w.heap.size w w2) := HB1.out.trans (hB2.mono HB1.out.size)
        clear hown hown2 hgrow2 hB2 hO2 hB d0
        go_wp2_with fail
        go_at_call 47
        refine (HKP.out _ HBW2.out).mono ?_
        rintro e w2' ⟨rfl, rfl⟩
        by_cases hkd : Dk.kind s.L p = 1
        · have HNX2 : Hid (upK s.L f (k + 1) = (upK s.L f k ++ [p]) ++ bel s.L p) := by have := HNX.out; rw [if_pos hkd] at this; exact this
          rw [hkd]
          have HRP2 := Lib.hid (HRP.out w2 HBW2.out)
          clear HNX HRP HKP hkd
          go_wp2_with fail
          go_at_call 45
          refine HRP2.out.mono ?_
          rintro e w3 ⟨v3, rfl, hv3, hb3⟩
          obtain ⟨a3, c3, rfl, hS3, hnil3⟩ := Texts.more hv3
          have hO3 : Texts w3 w1.heap.size v2 (upK s.L f k ++ [p]) := HO2.out.below hb3
          have hB3 : Below w1.heap.size w1 w3 := HB2.out.trans (hb3.mono HB2.out.size)
          have hsz : ((upK s.L f k ++ [p]).length + (bel s.L p).length) * 16 ≤ 140737488355328 := by
            rw [HNX2.out, List.length_append] at hT2
            omega
          have hb3s := hB3.size
          clear HRP2 hv3
          go_wp2_with (at_builtin; refine wp_append_txt rfl _ _ rfl w1.heap.size rfl hO3 rfl hS3 hnil3 hsz hb3s ?_)
          intro v4 w4 hO4 hg4
          have hB4 : Below w1.heap.size w1 w4 := hB3.grown hg4 hb3s (fun q hq => (World.ownsRow.lt hO3 q hq).1)
          have hO5 : Texts w4 w1.heap.size v4 (upK s.L f (k + 1)) := by rw [HNX2.out, List.append_assoc]; exact hO4
          have HO4 := Lib.hid hO5
          have HB4 := Lib.hid hB4
          clear hO3 hB3 hsz hb3s hS3 hnil3 hO4 hO5 hg4 hB4 hb3
          go_wp2_with fail
          go_roundw
          case rel => exact ⟨k + 1, by omega, by go_num, HO4, HB4⟩
          case measure => simp only [intOf]; omega
        · have HNX2 : Hid (upK s.L f (k + 1) = upK s.L f k ++ [p]) := by have := HNX.out; rw [if_neg hkd, List.append_nil] at this; exact this
          have e1 : ¬ ((Dk.kind s.L p : Nat) : Int) = 1 := by omega
          clear HNX HRP HKP hkd
          go_wp2_with fail
          go_roundw
          case rel => exact ⟨k + 1, by omega, by go_num, by rw [HNX2.out]; exact HO2, HB2⟩
          case measure => simp only [intOf]; omega
      · have hkn : k = m := by omega
        have e2 : ¬ (k : Int) < (m : Int) := by omega
        have HALL : Hid (upK s.L f k = kids s.L f) := by
          show _ = _
          unfold upK kids
          rw [List.take_of_length_le (by rw [hkn]; exact Nat.le_of_eq HM.out.symm)]
        clear hkn
        go_wp2_with fail
        go_ret
        have ho := HO.out
        rw [HALL.out, ← HBK.out] at ho
        exact ⟨_, rfl, own_lowT ho HB1.out.size, HBW.out⟩
end Go.Proofs.YtdpnmdnfnplcfaaGreat.Sc

namespace Go.Proofs.YtdpnmdnfnplcfaaGreat.Sc
open Go.RowKit Tx
set_option linter.unusedVariables false
theorem laidOutK : laidOutB Tryz.prog = true := by kernel_rfl
theorem wideK : (match Tryz.prog.underlying 86 with | some (.array _ _) | some (.struct _) => true | _ => false) = true := by rw [Tryz.underlying86]
set_option maxRecDepth 100000 in
theorem keyL : WideMaps.KeyLaw Tryz.prog 86 := deep_law_laid laidOutK (m := 2) (by omega) (of_decide_eq_true (by kernel_rfl)) (by kernel_rfl) wideK
theorem keyedS : Go.Maps.Keyed Tryz.prog 86 := Go.Maps.Keyed.of_law keyL
def kv (p : ByteArray) (st : Int) : Value := .agg #[.string p, .int .i64 st]
def kvL (p : ByteArray) (st : Int) : Lit := .string (keyBytes [.string p.data.toList, .int .i64 st])
theorem cellsK : Tryz.prog.cellsOf 86 = 2 := by kernel_rfl
theorem one_str (d : Nat) (p : ByteArray) (hp : p.size ≤ maxLen) : Tryz.prog.keyLits (d + 1) 9 [.string p] = some [.string p.data.toList] := by
  unfold Program.keyLits
  rw [Tryz.underlying9]
  simp only [if_pos hp]
theorem one_int (d : Nat) (st : Int) (hs : (Lit.int .i64 st).wf = true) : Tryz.prog.keyLits (d + 1) 3 [.int .i64 st] = some [.int .i64 st] := by
  unfold Program.keyLits
  rw [Tryz.underlying3]
  simp only [hs, and_self, if_true]
theorem key_of {p : ByteArray} {st : Int} (hp : p.size ≤ maxLen) (hs : (Lit.int .i64 st).wf = true) : keyOf Tryz.prog 86 (kv p st) = some (kvL p st) := by
  have h1 := one_str (Tryz.prog.types.size - 1) p hp
  have h2 := one_int (Tryz.prog.types.size - 1) st hs
  have hsz : Tryz.prog.types.size - 1 + 1 = Tryz.prog.types.size := by kernel_rfl
  rw [hsz] at h1 h2
  have hform : (kv p st).formed Tryz.prog 86 = true := by
    unfold kv Value.formed
    simp only [Tryz.underlying86, cellsK]
    rfl
  have hkt : Tryz.prog.keyType 86 = true := by kernel_rfl
  unfold keyOf
  rw [Tryz.underlying86]
  simp only [hform, hkt, Bool.and_self, if_true]
  unfold Program.keyLits
  rw [Tryz.underlying86]
  simp only [cellsK]
  have e1 : Tryz.prog.cellsOf 9 = 1 := by kernel_rfl
  have e2 : Tryz.prog.cellsOf 3 = 1 := by kernel_rfl
  have ec : (kv p st).cells.toList = [.string p, .int .i64 st] := rfl
  rw [ec, if_pos ⟨rfl, by decide +kernel⟩]
  simp only [List.mapM_cons, List.mapM_nil, e1, e2, List.drop_zero, List.drop_succ_cons, List.take_succ_cons, List.take_zero, h1, h2]
  rfl
theorem kvL_inj {p q : ByteArray} {a b : Int} (hp : p.size ≤ maxLen) (hq : q.size ≤ maxLen) (ha : (Lit.int .i64 a).wf = true) (hb : (Lit.int .i64 b).wf = true) (h : kvL p a = kvL q b) : p = q ∧ a = b := by
  have h1 := key_of hp ha
  have h2 := key_of hq hb
  rw [← h] at h2
  have h3 := keyL.inj h1 h2
  unfold kv at h3
  simp at h3
  exact h3
end Go.Proofs.YtdpnmdnfnplcfaaGreat.Sc

namespace Go.Proofs.YtdpnmdnfnplcfaaGreat.Sc
open Go.RowKit Tx Pm Pr Dk
set_option linter.unusedVariables false
def ndV (n : En.Nd) : Value := .agg #[.int .i64 n.kind, .string n.data]
def ndD (n : En.Nd) : DataW Unit := .agg [.lit (.int .i64 n.kind), .lit (.string n.data.data.toList)]
def nodeR : Value → Option (DataW Unit × List MemPlace)
  | .agg ⟨[.int .i64 k, .string s]⟩ => some (ndD ⟨k, s⟩, [])
  | _ => none
theorem nodeR_nd (n : En.Nd) : nodeR (ndV n) = some (ndD n, []) := rfl
theorem nodeR_inv {v : Value} {z : DataW Unit × List MemPlace} (h : nodeR v = some z) : ∃ n, v = ndV n ∧ z = (ndD n, []) := by
  unfold nodeR at h
  split at h
  · cases h
    exact ⟨_, rfl, rfl⟩
  · cases h
theorem ndD_inj {n m : En.Nd} (h : ndD n = ndD m) : n = m := by
  obtain ⟨k, d⟩ := n
  obtain ⟨k', d'⟩ := m
  unfold ndD at h
  simp only [DataW.agg.injEq, List.cons.injEq, DataW.lit.injEq, Lit.int.injEq, Lit.string.injEq, true_and, and_true] at h
  obtain ⟨h1, h2⟩ := h
  rw [h1, ByteArray.ext (Array.toList_inj.1 h2)]
theorem zeroNd (w : World) : (zeroValue 52).run Tryz.prog w = .ok (ndV ⟨0, ⟨#[]⟩⟩) w := by kernel_rfl
def kfd (K : List Sn) (p : ByteArray) (st : Nat) : Option Sn := K.find? fun y => decide (y.path = p) && decide (y.stamp = st)
def kb (p : ByteArray) (st : Nat) : Prop := p.size ≤ maxLen ∧ (Lit.int .i64 (st : Int)).wf = true
def Kn (w : World) (b : Nat) (K : List Sn) : Prop := ∃ D : DataW Unit, w.ownsMap Tryz.prog 86 nodeR b K.length D ∧ ∀ p st z, kb p st → D.atKey (kvL p (st : Int)) z = match kfd K p st with
  | some y => ndD y.node
  | none => z
theorem kn_made (w : World) : Kn (w.alloc (.map #[] 0)) w.heap.size [] := ⟨_, World.ownsMap_made w _ _ _, fun p st z _ => rfl⟩
theorem Kn.lt {w : World} {b : Nat} {K : List Sn} (h : Kn w b K) : b < w.heap.size := by
  obtain ⟨D, h, _⟩ := h
  exact h.lt
theorem Kn.kept {w w1 : World} {b : Nat} {K : List Sn} (h : Kn w b K) (he : w1.heap[b]? = w.heap[b]?) : Kn w1 b K := by
  obtain ⟨D, ⟨es, clock, hb, r⟩, q⟩ := h
  exact ⟨D, ⟨es, clock, he.trans hb, r⟩, q⟩
theorem Kn.store {w : World} {b : Nat} {K : List Sn} (h : Kn w b K) {x : Sn} (hx : kb x.path x.stamp) (hn : K.length < maxLen) :
    ∃ w', (Instr.mapUpdate 79 (.map (some b)) (kv x.path (x.stamp : Int)) (ndV x.node)).run Tryz.prog w = .ok () w' ∧ Kn w' b (x :: K) ∧ w.mapTurned w' b := by
  obtain ⟨D, ho, hr⟩ := h
  obtain ⟨w', hrun, ho', ht⟩ := ho.store keyedS Tryz.underlying79 hn (key_of hx.1 hx.2) (nodeR_nd x.node)
  refine ⟨w', hrun, ⟨_, ho', fun p st z hp => ?_⟩, ht⟩
  unfold kfd
  by_cases he : x.path = p ∧ x.stamp = st
  · obtain ⟨rfl, rfl⟩ := he
    rw [Go.Maps.atKey_put_same ho.isMap (show WideAt.IsKeyLit (kvL x.path (x.stamp : Int)) from trivial), List.find?_cons_of_pos (by simp)]
  · rw [List.find?_cons_of_neg (by simp; exact fun e1 e2 => he ⟨e1, e2⟩)]
    rw [Go.Maps.atKey_put_other (fun e => he (by
      obtain ⟨e1, e2⟩ := kvL_inj hp.1 hx.1 hp.2 hx.2 e
      exact ⟨e1.symm, by omega⟩))]
    exact hr p st z hp
theorem Kn.look {w : World} {b : Nat} {K : List Sn} (h : Kn w b K) {p : ByteArray} {st : Nat} (hp : kb p st) :
    (Instr.lookup 79 (.map (some b)) (kv p (st : Int)) true).run Tryz.prog w = .ok (.tuple #[match kfd K p st with | some y => ndV y.node | none => ndV ⟨0, ⟨#[]⟩⟩, .bool (kfd K p st).isSome]) w := by
  obtain ⟨D, ho, hr⟩ := h
  obtain ⟨v, ps, hrun, hv⟩ := ho.look_ok keyedS Tryz.underlying79 (zeroNd w) (nodeR_nd _) (key_of hp.1 hp.2)
  rw [hrun]
  obtain ⟨n, rfl, hz⟩ := nodeR_inv hv
  have hz := congrArg Prod.fst hz
  simp only [hr p st _ hp] at hz
  have hhas : Go.Maps.has D (kvL p (st : Int)) = (kfd K p st).isSome := by
    cases hf : kfd K p st with
    | none =>
      refine (Go.Maps.has_false_of_atKey fun z => ?_).trans rfl
      rw [hr p st z hp, hf]
    | some x =>
      refine (Go.Maps.has_true_of_atKey (y := ndD x.node) fun z => ?_).trans rfl
      rw [hr p st z hp, hf]
  rw [hhas]
  cases hf : kfd K p st with
  | none =>
    rw [hf] at hz
    rw [← ndD_inj hz]
  | some x =>
    rw [hf] at hz
    rw [← ndD_inj hz]
theorem kfd_some {K : List Sn} {p : ByteArray} {st : Nat} {y : Sn} (h : kfd K p st = some y) : y ∈ K ∧ y.path = p ∧ y.stamp = st := by
  unfold kfd at h
  have h1 := List.find?_some h
  simp only [Bool.and_eq_true, decide_eq_true_eq] at h1
  exact ⟨List.mem_of_find?_eq_some h, h1.1, h1.2⟩
def kfiles (seen : List Sn) : List Sn := (seen.filter fun y => decide (y.node.kind = 2)).reverse
theorem kfiles_next {seen : List Sn} {k : Nat} {x : Sn} (h : seen[k]? = some x) : kfiles (seen.take (k + 1)) = (if x.node.kind = 2 then [x] else []) ++ kfiles (seen.take k) := by
  unfold kfiles
  rw [List.take_add_one, h, List.filter_append, List.reverse_append]
  congr 1
  by_cases e : x.node.kind = 2
  · rw [if_pos e]
    show (List.filter _ [x]).reverse = [x]
    rw [List.filter_cons_of_pos (by rw [decide_eq_true e])]
    rfl
  · rw [if_neg e]
    show (List.filter _ [x]).reverse = []
    rw [List.filter_cons_of_neg (by rw [decide_eq_false e]; decide)]
    rfl
theorem known_kfd {seen : List Sn} {x : Sn} (hk : x.node.kind = 2) : known seen x = (kfd (kfiles seen) x.path x.stamp).isSome := by
  unfold known
  rw [decide_eq_false (show ¬ x.node.kind = 1 by rw [hk]; decide), Bool.false_or, Bool.eq_iff_iff, List.any_eq_true]
  unfold kfd
  rw [List.find?_isSome]
  constructor
  · rintro ⟨y, hy, hc⟩
    simp only [Bool.and_eq_true, decide_eq_true_eq] at hc
    exact ⟨y, List.mem_reverse.2 (List.mem_filter.2 ⟨hy, decide_eq_true hc.2⟩), by simp [hc.1.1, hc.1.2]⟩
  · rintro ⟨y, hy, hc⟩
    obtain ⟨h1, h2⟩ := List.mem_filter.1 (List.mem_reverse.1 hy)
    simp only [Bool.and_eq_true, decide_eq_true_eq] at hc
    exact ⟨y, h1, by simp [hc.1, hc.2, of_decide_eq_true h2]⟩
theorem kfd_good {s : St} {v : ByteArray} {seen : List Sn} {p : ByteArray} {st : Nat} {y : Sn} {x : It} (hg : Sc.Good s v seen) (h : kfd (kfiles seen) p st = some y) (hx : x ∈ s.L) (hp : x.path = v ++ ⟨#[47]⟩ ++ p) (hs : x.stamp = st) (hd : x.dir = false) : y.node = ⟨2, x.data⟩ := by
  obtain ⟨h1, h2, h3⟩ := kfd_some h
  obtain ⟨h4, h5⟩ := List.mem_filter.1 (List.mem_reverse.1 h1)
  have hk : y.node.kind = 2 := of_decide_eq_true h5
  have := (hg y h4 hk).2 x hx (by rw [h2]; exact hp) (by rw [h3]; exact hs) hd
  obtain ⟨⟨K, d⟩⟩ : ∃ n, n = y.node := ⟨_, rfl⟩
  obtain ⟨yp, ys, ⟨yk, yd⟩⟩ := y
  simp only at hk this
  rw [hk, this]
end Go.Proofs.YtdpnmdnfnplcfaaGreat.Sc

namespace Go.Proofs.YtdpnmdnfnplcfaaGreat.Sc
open Go.RowKit Tx Pm Pr Dk
set_option linter.unusedVariables false
theorem szn_kb {seen : List Sn} (h : Szn seen) : ∀ x ∈ seen, kb x.path x.stamp := fun x hx => by
  obtain ⟨h1, h2⟩ := h x hx
  refine ⟨by unfold maxLen; omega, ?_⟩
  simp [Lit.wf, IntKind.min, IntKind.max, IntKind.signed, IntKind.bits]
  omega
theorem below_turned {w w1 w2 : World} {b : Nat} (hb : Below w.heap.size w w1) (ht : w1.mapTurned w2 b) (h : w.heap.size ≤ b) : Below w.heap.size w w2 := hb.grown ht.grown hb.size (fun k hk => by injection hk with hk; omega)
theorem kfiles_len (seen : List Sn) : (kfiles seen).length ≤ seen.length := by
  unfold kfiles
  rw [List.length_reverse]
  exact List.length_filter_le _ _
set_option maxRecDepth 100000 in
set_option maxHeartbeats 4000000 in
theorem files_any (A : Option Addr) (m c : Nat) (seen : List Sn) (w : World) (hS : Sns w A m seen) (hm : m ≤ 1000000) (hz : Szn seen) :
    Calls Tryz.prog 44 #[.slice A m c] w fun e w' => ∃ bm, e = .returned (.map (some bm)) ∧ Kn w' bm (kfiles seen) ∧ w.heap.size ≤ bm ∧ Below w.heap.size w w' := by
  have hln := hS.1
  have hkb := szn_kb hz
  have hmm := @run_makeMap Tryz.prog
  have HS := Lib.hid hS
  have HLN := Lib.hid hln
  have HKB := Lib.hid hkb
  have hst : Hid (Kn (w.alloc (.map #[] 0)) w.heap.size (kfiles (seen.take 0))) := kn_made w
  have hsb : Hid (Below w.heap.size w (w.alloc (.map #[] 0))) := (Below.refl _ _).alloc (Nat.le_refl _) _
  clear hS hln hkb hz
  go_enter Tryz.func44, Tryz.ntmps44
  go_wp2_with fail
  clear hmm
  go_loopw [5, 9] (fun _ i wr => ∃ k : Nat, k ≤ m ∧ i = .int .i64 (k : Int) ∧ Hid (Kn wr w.heap.size (kfiles (seen.take k))) ∧ Hid (Below w.heap.size w wr)) (fun _ i _ => m - (intOf i).toNat)
  case atStart => exact ⟨0, Nat.zero_le _, rfl, hst, hsb⟩
  case round =>
    obtain ⟨k, hk, rfl, HK, HB⟩ := hrel
    clear hst hsb
    by_cases hlt : k < m
    · have hltz : (k : Int) < (m : Int) := by omega
      obtain ⟨g, off, rfl, hg, hc⟩ := HS.out.2.resolve_left (by omega)
      obtain ⟨x, hx⟩ : ∃ x, seen[k]? = some x := ⟨_, List.getElem?_eq_getElem (by rw [HLN.out]; exact hlt)⟩
      obtain ⟨c0, c1, c2, c3⟩ := hc k x hx
      have d0 := (HB.out.cell (p := ⟨g, _, none⟩) hg).trans c0
      have d1 := (HB.out.cell (p := ⟨g, _, none⟩) hg).trans c1
      have d2 := (HB.out.cell (p := ⟨g, _, none⟩) hg).trans c2
      have d3 := (HB.out.cell (p := ⟨g, _, none⟩) hg).trans c3
      have hnx := kfiles_next hx
      have hxb := HKB.out x (List.mem_of_getElem? hx)
      have hlen : (kfiles (seen.take k)).length < maxLen := by
        have := kfiles_len (seen.take k)
        rw [List.length_take] at this
        unfold maxLen; omega
      obtain ⟨P, T, ⟨K, D⟩⟩ := x
      simp only at d0 d1 d2 d3 hnx hxb
      have hb1 : ∀ o, Below w.heap.size w (wr.alloc o) := fun o => HB.out.alloc HB.out.size o
      have hk1 : ∀ o, Kn (wr.alloc o) w.heap.size (kfiles (seen.take k)) := fun o => HK.out.kept (Below.heap_alloc _ _ _ HK.out.lt)
      have HB1 := Lib.hid hb1
      have HK1 := Lib.hid hk1
      clear hc c0 c1 c2 c3 hx hb1 hk1
      by_cases hkd : K = 2
      · subst hkd
        rw [if_pos rfl] at hnx
        obtain ⟨w2, hrun, hK2, ht2⟩ := (HK1.out (.cells #[.string P, .int .i64 (T : Int), .int .i64 2, .string D] 83)).store (x := ⟨P, T, ⟨2, D⟩⟩) hxb hlen
        unfold kv ndV at hrun
        simp only at hrun
        have HK2 : Hid (Kn w2 w.heap.size (kfiles (seen.take (k + 1)))) := by show Kn _ _ _; rw [hnx]; exact hK2
        have HB2 : Hid (Below w.heap.size w w2) := below_turned (HB1.out _) ht2 (Nat.le_refl _)
        clear hnx hxb hlen hK2 ht2 HK HB HK1 HB1
        go_wp2_with fail
        go_roundw
        case rel => exact ⟨k + 1, by omega, by go_num, HK2, HB2⟩
        case measure => simp only [intOf]; omega
      · rw [if_neg hkd, List.nil_append] at hnx
        have HNX := Lib.hid hnx
        clear hnx hxb hlen HK HB
        go_wp2_with fail
        go_roundw
        case rel => exact ⟨k + 1, by omega, by go_num, by rw [HNX.out]; exact HK1.out _, HB1.out _⟩
        case measure => simp only [intOf]; omega
    · have hkn : k = m := by omega
      have e2 : ¬ (k : Int) < (m : Int) := by omega
      have HALL : Hid (seen.take k = seen) := List.take_of_length_le (by rw [hkn]; exact Nat.le_of_eq HLN.out)
      clear hkn
      go_wp2_with fail
      go_ret
      have hkk := HK.out
      rw [HALL.out] at hkk
      exact ⟨_, rfl, hkk, Nat.le_refl _, HB.out⟩
end Go.Proofs.YtdpnmdnfnplcfaaGreat.Sc

namespace Go.Proofs.YtdpnmdnfnplcfaaGreat.Rg
open Go.RowKit
set_option linter.unusedVariables false
section
variable {P : Program} {S : World → Prop}
theorem y_buildK {o : Oper} {a : Act} {T : TypeId} {parts : Array (Nat × Operand)} {vs : Array (Nat × Value)} {v : Value} (ho : o.op = .build T parts) (hx : (parts.map fun (i, x) => (i, a.eval x)) = vs)
    (hv : ∀ w, S w → (Instr.build T vs).run P w = .ok v w) : ∀ w, S w → (execOp a.eval o).run P w = .ok (.value v) w := by
  intro w hw
  obtain ⟨dst, op, ty, pos, after, guard⟩ := o
  simp only at ho
  subst ho
  have := hv w hw
  simp only [execOp, Sem.run_bind]
  rw [hx, this]
  rfl
theorem y_sl1K {o : Oper} {a : Act} {T : TypeId} {x l : Operand} {vx vl v : Value} (ho : o.op = .slice T x (some l) none none) (hx : a.eval x = vx) (hl : a.eval l = vl)
    (hv : ∀ w, S w → (Instr.sliceAt T vx (some vl) none none).run P w = .ok v w) : ∀ w, S w → (execOp a.eval o).run P w = .ok (.value v) w := by
  intro w hw
  obtain ⟨dst, op, ty, pos, after, guard⟩ := o
  simp only at ho
  subst ho
  have := hv w hw
  simp only [execOp, hx, hl, Option.map_some, Option.map_none, Sem.run_bind]
  rw [this]
  rfl
end
end Go.Proofs.YtdpnmdnfnplcfaaGreat.Rg
namespace Go.Proofs.YtdpnmdnfnplcfaaGreat.Sc
open Go.RowKit Tx Pm Pr Dk
set_option linter.unusedVariables false
set_option maxRecDepth 100000 in
set_option maxHeartbeats 4000000 in
theorem scanReg (ops : Array Oper) (hops : ops = (Rg.opsOf Tryz.f11 8)) (id : Nat) (m st kd : Nat) (v p q : ByteArray) (dv : Value) {u2 u3 u4 u5 u6 u7 u8 u9 u10 u11 u12 u14 u15 u16 u17 u18 u19 u20 u21 u22 u23 u24 u25 u26 u27 u28 u29 u30 u31 u32 u33 u34 u35 u36 u37 u38 u39 u40 u41 u42 u43 u44 u45 u46 u47 u48 u49 u50 u51 u52 u53 u54 u55 u56 u57 u58 u59 u60 u61 u62 u63 u64 u65 u66 u67 u68 u69 u70 u71 u72 u73 u74 u75 u76 u77 u78 u79 u80 u81 u82 u83 u84 : Value} (w : World) (X : World → Prop) (hw : X w.drew) (q1 : (v.size : Int) + 1 = (m : Int)) (V1 : IntKind.i64.wrap (m : Int) = (m : Int))
    (S1 : ∀ W : World, (Instr.sliceAt 9 (.string p) (some (.int .i64 (m : Int))) none none).run Tryz.prog W = .ok (.string q) W)
    (hX1 : X (w.drew.alloc (.cells #[.string ⟨#[]⟩, .int .i64 0, .int .i64 0, .string ⟨#[]⟩] 83))) (hX2 : X (w.drew.alloc (.cells #[.string q, .int .i64 (st : Int), .int .i64 (kd : Int), .string ⟨#[]⟩] 83)))
    (hA : ∀ W, X W → Calls Tryz.prog 46 #[dv, .string p] W fun e w' => e = .returned (.int .i64 (st : Int)) ∧ W = w')
    (hB : ∀ W, X W → Calls Tryz.prog 47 #[dv, .string p] W fun e w' => e = .returned (.int .i64 (kd : Int)) ∧ W = w') :
    (Code.region id ops true).wp Tryz.prog (Rg.Only fun a' w' => a' = ⟨#[dv, (.string v), u2, u3, u4, u5, u6, u7, u8, u9, u10, u11, u12, (.string p), (.pointer (some ⟨w.heap.size, 0, none⟩)), u15, u16, u17, u18, u19, u20, u21, u22, u23, u24, u25, u26, u27, u28, u29, u30, u31, u32, (.string p), (.string v), (.int .i64 (v.size : Int)), (.int .i64 (m : Int)), (.string q), dv, (.string p), (.int .i64 (st : Int)), dv, (.string p), (.int .i64 (kd : Int)), (.agg #[.int .i64 (kd : Int), .string ⟨#[]⟩]), (.agg #[.string q, .int .i64 (st : Int), .int .i64 (kd : Int), .string ⟨#[]⟩]), u46, u47, u48, u49, u50, u51, u52, u53, u54, u55, u56, u57, u58, u59, u60, u61, u62, u63, u64, u65, u66, u67, u68, u69, u70, u71, u72, u73, u74, u75, u76, u77, u78, u79, u80, u81, u82, u83, u84], []⟩ ∧ w' = w.drew.alloc (.cells #[.string q, .int .i64 (st : Int), .int .i64 (kd : Int), .string ⟨#[]⟩] 83)) ⟨#[dv, (.string v), u2, u3, u4, u5, u6, u7, u8, u9, u10, u11, u12, (.string p), u14, u15, u16, u17, u18, u19, u20, u21, u22, u23, u24, u25, u26, u27, u28, u29, u30, u31, u32, u33, u34, u35, u36, u37, u38, u39, u40, u41, u42, u43, u44, u45, u46, u47, u48, u49, u50, u51, u52, u53, u54, u55, u56, u57, u58, u59, u60, u61, u62, u63, u64, u65, u66, u67, u68, u69, u70, u71, u72, u73, u74, u75, u76, u77, u78, u79, u80, u81, u82, u83, u84], []⟩ w := by
  subst hops
  have hNS : Region.noSelect (Rg.opsOf Tryz.f11 8) = true := by kernel_rfl
  refine wp_region_held_drew (S := X) (by kernel_rfl) hw (fun hHeld => ?_)
  rw [show (Rg.opsOf Tryz.f11 8).size = 15 by kernel_rfl]
  refine Rg.take (ops := (Rg.opsOf Tryz.f11 8)) 0 (some 33) ((.string p)) hNS (by kernel_rfl) (by kernel_rfl) (by kernel_rfl) (by kernel_rfl) (by kernel_rfl) hHeld (Rg.y_move (x := (Operand.tmp 13)) (Or.inl (by kernel_rfl)) (by kernel_rfl)) ?_
  refine Rg.take (ops := (Rg.opsOf Tryz.f11 8)) 1 (some 34) ((.string v)) hNS (by kernel_rfl) (by kernel_rfl) (by kernel_rfl) (by kernel_rfl) (by kernel_rfl) hHeld (Rg.y_move (x := (Operand.tmp 1)) (Or.inl (by kernel_rfl)) (by kernel_rfl)) ?_
  refine Rg.take (ops := (Rg.opsOf Tryz.f11 8)) 2 (some 35) ((.int .i64 (v.size : Int))) hNS (by kernel_rfl) (by kernel_rfl) (by kernel_rfl) (by kernel_rfl) (by kernel_rfl) hHeld (Rg.y_len (x := (Operand.tmp 34)) (ats := #[9]) (vx := (.string v)) (n := v.size) (by kernel_rfl) (by kernel_rfl) ?_) ?_
  · (intro ty w hSw; go_simp)
  refine Rg.take (ops := (Rg.opsOf Tryz.f11 8)) 3 (some 36) ((.int .i64 (m : Int))) hNS (by kernel_rfl) (by kernel_rfl) (by kernel_rfl) (by kernel_rfl) (by kernel_rfl) hHeld (Rg.y_bin (b := BinOp.add) (T := 3) (R' := 3) (x := (Operand.tmp 35)) (y := (Operand.const (Value.int IntKind.i64 1))) (vx := (.int .i64 (v.size : Int))) (vy := (Value.int IntKind.i64 1)) (by kernel_rfl) (by kernel_rfl) (by kernel_rfl) ?_) ?_
  · (intro W hSw; clear hSw hHeld; go_simp)
  refine Rg.take (ops := (Rg.opsOf Tryz.f11 8)) 4 (some 37) ((.string q)) hNS (by kernel_rfl) (by kernel_rfl) (by kernel_rfl) (by kernel_rfl) (by kernel_rfl) hHeld (Rg.y_sl1K (T := 9) (x := (Operand.tmp 33)) (l := (Operand.tmp 36)) (vx := (.string p)) (vl := (.int .i64 (m : Int))) (by kernel_rfl) (by kernel_rfl) (by kernel_rfl) ?_) ?_
  · (intro W hSw; clear hSw hHeld; exact S1 W)
  refine Rg.take (ops := (Rg.opsOf Tryz.f11 8)) 5 (some 38) (dv) hNS (by kernel_rfl) (by kernel_rfl) (by kernel_rfl) (by kernel_rfl) (by kernel_rfl) hHeld (Rg.y_move (x := (Operand.tmp 0)) (Or.inl (by kernel_rfl)) (by kernel_rfl)) ?_
  refine Rg.take (ops := (Rg.opsOf Tryz.f11 8)) 6 (some 39) ((.string p)) hNS (by kernel_rfl) (by kernel_rfl) (by kernel_rfl) (by kernel_rfl) (by kernel_rfl) hHeld (Rg.y_move (x := (Operand.tmp 13)) (Or.inl (by kernel_rfl)) (by kernel_rfl)) ?_
  refine Rg.take (ops := (Rg.opsOf Tryz.f11 8)) 8 (some 41) (dv) hNS (by kernel_rfl) (by kernel_rfl) (by kernel_rfl) (by kernel_rfl) (by kernel_rfl) hHeld (Rg.y_move (x := (Operand.tmp 0)) (Or.inl (by kernel_rfl)) (by kernel_rfl)) ?_
  refine Rg.take (ops := (Rg.opsOf Tryz.f11 8)) 9 (some 42) ((.string p)) hNS (by kernel_rfl) (by kernel_rfl) (by kernel_rfl) (by kernel_rfl) (by kernel_rfl) hHeld (Rg.y_move (x := (Operand.tmp 13)) (Or.inl (by kernel_rfl)) (by kernel_rfl)) ?_
  refine Rg.two (ops := (Rg.opsOf Tryz.f11 8)) (i := 7) (j := 13) (by kernel_rfl) ?_ ?_
  · refine Rg.op_call (ops := (Rg.opsOf Tryz.f11 8)) (fn := Tryz.f46) (xs := #[Operand.tmp 38, Operand.tmp 39]) (ats := #[23, 9]) 7 (some 40) 46 #[dv, (.string p)] (by kernel_rfl) (by kernel_rfl) (by kernel_rfl) (by kernel_rfl) Tryz.func46 (by kernel_rfl) (by kernel_rfl) (by kernel_rfl) ?_
    refine (hA _ hHeld).mono ?_
    rintro e w5 ⟨rfl, rfl⟩
    refine ⟨_, rfl, hHeld, fun hHeld => ?_⟩
    refine Rg.two (ops := (Rg.opsOf Tryz.f11 8)) (i := 10) (j := 13) (by kernel_rfl) ?_ ?_
    · refine Rg.op_call (ops := (Rg.opsOf Tryz.f11 8)) (fn := Tryz.f47) (xs := #[Operand.tmp 41, Operand.tmp 42]) (ats := #[23, 9]) 10 (some 43) 47 #[dv, (.string p)] (by kernel_rfl) (by kernel_rfl) (by kernel_rfl) (by kernel_rfl) Tryz.func47 (by kernel_rfl) (by kernel_rfl) (by kernel_rfl) ?_
      refine (hB _ hHeld).mono ?_
      rintro e w5 ⟨rfl, rfl⟩
      refine ⟨_, rfl, hHeld, fun hHeld => ?_⟩
      refine Rg.take (ops := (Rg.opsOf Tryz.f11 8)) 11 (some 44) ((.agg #[.int .i64 (kd : Int), .string ⟨#[]⟩])) hNS (by kernel_rfl) (by kernel_rfl) (by kernel_rfl) (by kernel_rfl) (by kernel_rfl) hHeld (Rg.y_buildK (T := 52) (parts := #[(0, Operand.tmp 43)]) (vs := #[(0, (.int .i64 (kd : Int)))]) (by kernel_rfl) (by kernel_rfl) ?_) ?_
      · (intro W hSw; clear hSw hHeld; go_simp)
      refine Rg.take (ops := (Rg.opsOf Tryz.f11 8)) 12 (some 45) ((.agg #[.string q, .int .i64 (st : Int), .int .i64 (kd : Int), .string ⟨#[]⟩])) hNS (by kernel_rfl) (by kernel_rfl) (by kernel_rfl) (by kernel_rfl) (by kernel_rfl) hHeld (Rg.y_buildK (T := 83) (parts := #[(0, Operand.tmp 37), (1, Operand.tmp 40), (2, Operand.tmp 44)]) (vs := #[(0, (.string q)), (1, (.int .i64 (st : Int))), (2, (.agg #[.int .i64 (kd : Int), .string ⟨#[]⟩]))]) (by kernel_rfl) (by kernel_rfl) ?_) ?_
      · (intro W hSw; clear hSw hHeld; go_simp)
      refine Rg.one (ops := (Rg.opsOf Tryz.f11 8)) (i := 13) (by kernel_rfl) ?_
      refine Rg.op_alloc (ops := (Rg.opsOf Tryz.f11 8)) 13 (some 14) (T := 83) (v := (.pointer (some ⟨w.heap.size, 0, none⟩))) (w1 := w.drew.alloc (.cells #[.string ⟨#[]⟩, .int .i64 0, .int .i64 0, .string ⟨#[]⟩] 83)) (by kernel_rfl) (by kernel_rfl) (by kernel_rfl) (by kernel_rfl) ?_ (hX1) (fun hHeld => ?_)
      · (clear hHeld; go_simp)
      refine Rg.store (ops := (Rg.opsOf Tryz.f11 8)) 14 (T := 83) (x := (Operand.tmp 14)) (y := (Operand.tmp 45)) (vx := (.pointer (some ⟨w.heap.size, 0, none⟩))) (vy := (.agg #[.string q, .int .i64 (st : Int), .int .i64 (kd : Int), .string ⟨#[]⟩])) (w1 := w.drew.alloc (.cells #[.string q, .int .i64 (st : Int), .int .i64 (kd : Int), .string ⟨#[]⟩] 83)) (by kernel_rfl) (by kernel_rfl) (by kernel_rfl) (by kernel_rfl) (by kernel_rfl) (by kernel_rfl) (by kernel_rfl) ?_ (hX2) (fun hHeld => ?_)
      · (clear hHeld; go_simp)
      refine Rg.done (ops := (Rg.opsOf Tryz.f11 8)) (by kernel_rfl) ?_
      exact ⟨by kernel_rfl, rfl⟩
    · refine Rg.op_alloc (ops := (Rg.opsOf Tryz.f11 8)) 13 (some 14) (T := 83) (v := (.pointer (some ⟨w.heap.size, 0, none⟩))) (w1 := w.drew.alloc (.cells #[.string ⟨#[]⟩, .int .i64 0, .int .i64 0, .string ⟨#[]⟩] 83)) (by kernel_rfl) (by kernel_rfl) (by kernel_rfl) (by kernel_rfl) ?_ (hX1) (fun hHeld => ?_)
      · (clear hHeld; go_simp)
      refine Rg.call (ops := (Rg.opsOf Tryz.f11 8)) (fn := Tryz.f47) (xs := #[Operand.tmp 41, Operand.tmp 42]) (ats := #[23, 9]) 10 (some 43) 47 #[dv, (.string p)] (by kernel_rfl) (by kernel_rfl) (by kernel_rfl) (by kernel_rfl) (by kernel_rfl) Tryz.func47 (by kernel_rfl) (by kernel_rfl) (by kernel_rfl) ?_
      refine (hB _ hHeld).mono ?_
      rintro e w5 ⟨rfl, rfl⟩
      refine ⟨_, rfl, hHeld, fun hHeld => ?_⟩
      refine Rg.take (ops := (Rg.opsOf Tryz.f11 8)) 11 (some 44) ((.agg #[.int .i64 (kd : Int), .string ⟨#[]⟩])) hNS (by kernel_rfl) (by kernel_rfl) (by kernel_rfl) (by kernel_rfl) (by kernel_rfl) hHeld (Rg.y_buildK (T := 52) (parts := #[(0, Operand.tmp 43)]) (vs := #[(0, (.int .i64 (kd : Int)))]) (by kernel_rfl) (by kernel_rfl) ?_) ?_
      · (intro W hSw; clear hSw hHeld; go_simp)
      refine Rg.take (ops := (Rg.opsOf Tryz.f11 8)) 12 (some 45) ((.agg #[.string q, .int .i64 (st : Int), .int .i64 (kd : Int), .string ⟨#[]⟩])) hNS (by kernel_rfl) (by kernel_rfl) (by kernel_rfl) (by kernel_rfl) (by kernel_rfl) hHeld (Rg.y_buildK (T := 83) (parts := #[(0, Operand.tmp 37), (1, Operand.tmp 40), (2, Operand.tmp 44)]) (vs := #[(0, (.string q)), (1, (.int .i64 (st : Int))), (2, (.agg #[.int .i64 (kd : Int), .string ⟨#[]⟩]))]) (by kernel_rfl) (by kernel_rfl) ?_) ?_
      · (intro W hSw; clear hSw hHeld; go_simp)
      refine Rg.store (ops := (Rg.opsOf Tryz.f11 8)) 14 (T := 83) (x := (Operand.tmp 14)) (y := (Operand.tmp 45)) (vx := (.pointer (some ⟨w.heap.size, 0, none⟩))) (vy := (.agg #[.string q, .int .i64 (st : Int), .int .i64 (kd : Int), .string ⟨#[]⟩])) (w1 := w.drew.alloc (.cells #[.string q, .int .i64 (st : Int), .int .i64 (kd : Int), .string ⟨#[]⟩] 83)) (by kernel_rfl) (by kernel_rfl) (by kernel_rfl) (by kernel_rfl) (by kernel_rfl) (by kernel_rfl) (by kernel_rfl) ?_ (hX2) (fun hHeld => ?_)
      · (clear hHeld; go_simp)
      refine Rg.done (ops := (Rg.opsOf Tryz.f11 8)) (by kernel_rfl) ?_
      exact ⟨by kernel_rfl, rfl⟩
  · refine Rg.op_alloc (ops := (Rg.opsOf Tryz.f11 8)) 13 (some 14) (T := 83) (v := (.pointer (some ⟨w.heap.size, 0, none⟩))) (w1 := w.drew.alloc (.cells #[.string ⟨#[]⟩, .int .i64 0, .int .i64 0, .string ⟨#[]⟩] 83)) (by kernel_rfl) (by kernel_rfl) (by kernel_rfl) (by kernel_rfl) ?_ (hX1) (fun hHeld => ?_)
    · (clear hHeld; go_simp)
    refine Rg.call (ops := (Rg.opsOf Tryz.f11 8)) (fn := Tryz.f46) (xs := #[Operand.tmp 38, Operand.tmp 39]) (ats := #[23, 9]) 7 (some 40) 46 #[dv, (.string p)] (by kernel_rfl) (by kernel_rfl) (by kernel_rfl) (by kernel_rfl) (by kernel_rfl) Tryz.func46 (by kernel_rfl) (by kernel_rfl) (by kernel_rfl) ?_
    refine (hA _ hHeld).mono ?_
    rintro e w5 ⟨rfl, rfl⟩
    refine ⟨_, rfl, hHeld, fun hHeld => ?_⟩
    refine Rg.call (ops := (Rg.opsOf Tryz.f11 8)) (fn := Tryz.f47) (xs := #[Operand.tmp 41, Operand.tmp 42]) (ats := #[23, 9]) 10 (some 43) 47 #[dv, (.string p)] (by kernel_rfl) (by kernel_rfl) (by kernel_rfl) (by kernel_rfl) (by kernel_rfl) Tryz.func47 (by kernel_rfl) (by kernel_rfl) (by kernel_rfl) ?_
    refine (hB _ hHeld).mono ?_
    rintro e w5 ⟨rfl, rfl⟩
    refine ⟨_, rfl, hHeld, fun hHeld => ?_⟩
    refine Rg.take (ops := (Rg.opsOf Tryz.f11 8)) 11 (some 44) ((.agg #[.int .i64 (kd : Int), .string ⟨#[]⟩])) hNS (by kernel_rfl) (by kernel_rfl) (by kernel_rfl) (by kernel_rfl) (by kernel_rfl) hHeld (Rg.y_buildK (T := 52) (parts := #[(0, Operand.tmp 43)]) (vs := #[(0, (.int .i64 (kd : Int)))]) (by kernel_rfl) (by kernel_rfl) ?_) ?_
    · (intro W hSw; clear hSw hHeld; go_simp)
    refine Rg.take (ops := (Rg.opsOf Tryz.f11 8)) 12 (some 45) ((.agg #[.string q, .int .i64 (st : Int), .int .i64 (kd : Int), .string ⟨#[]⟩])) hNS (by kernel_rfl) (by kernel_rfl) (by kernel_rfl) (by kernel_rfl) (by kernel_rfl) hHeld (Rg.y_buildK (T := 83) (parts := #[(0, Operand.tmp 37), (1, Operand.tmp 40), (2, Operand.tmp 44)]) (vs := #[(0, (.string q)), (1, (.int .i64 (st : Int))), (2, (.agg #[.int .i64 (kd : Int), .string ⟨#[]⟩]))]) (by kernel_rfl) (by kernel_rfl) ?_) ?_
    · (intro W hSw; clear hSw hHeld; go_simp)
    refine Rg.store (ops := (Rg.opsOf Tryz.f11 8)) 14 (T := 83) (x := (Operand.tmp 14)) (y := (Operand.tmp 45)) (vx := (.pointer (some ⟨w.heap.size, 0, none⟩))) (vy := (.agg #[.string q, .int .i64 (st : Int), .int .i64 (kd : Int), .string ⟨#[]⟩])) (w1 := w.drew.alloc (.cells #[.string q, .int .i64 (st : Int), .int .i64 (kd : Int), .string ⟨#[]⟩] 83)) (by kernel_rfl) (by kernel_rfl) (by kernel_rfl) (by kernel_rfl) (by kernel_rfl) (by kernel_rfl) (by kernel_rfl) ?_ (hX2) (fun hHeld => ?_)
    · (clear hHeld; go_simp)
    refine Rg.done (ops := (Rg.opsOf Tryz.f11 8)) (by kernel_rfl) ?_
    exact ⟨by kernel_rfl, rfl⟩
set_option maxRecDepth 100000 in
set_option maxHeartbeats 4000000 in
theorem putReg (ops : Array Oper) (hops : ops = (Rg.opsOf Tryz.f55 3)) (id : Nat) (gn kd : Nat) (p Dt D0 : ByteArray) (K : Int) (bb : Bool) (dv : Value) {u2 u3 u4 u6 u7 u8 u9 u10 u11 u12 u13 u14 u15 u16 u17 u18 u19 u20 u21 u22 u23 u24 u25 u26 u27 u28 u29 : Value} (w : World) (X : World → Prop) (hX : ∀ W, X W → W.cell? ⟨gn, 0, none⟩ = some (.int .i64 K) ∧ W.cell? ⟨gn, 1, none⟩ = some (.string Dt)) (hw : X w.drew)
    (S1 : ∀ W : World, (binOp .eql 52 (.agg #[.int .i64 (kd : Int), .string D0]) (.agg #[.int .i64 K, .string Dt])).run Tryz.prog W = .ok (.bool bb) W)
    (hA : ∀ W, X W → Calls Tryz.prog 48 #[dv, .string p] W fun e w' => e = .returned (.agg #[.int .i64 (kd : Int), .string D0]) ∧ X w') :
    (Code.region id ops true).wp Tryz.prog (Rg.Only fun a' w' => a' = ⟨#[dv, (.string p), u2, u3, u4, (.pointer (some ⟨gn, 0, none⟩)), u6, u7, u8, u9, u10, u11, u12, u13, dv, (.string p), (.agg #[.int .i64 (kd : Int), .string D0]), (.agg #[.int .i64 K, .string Dt]), (.bool bb), u19, u20, u21, u22, u23, u24, u25, u26, u27, u28, u29], []⟩ ∧ X w') ⟨#[dv, (.string p), u2, u3, u4, (.pointer (some ⟨gn, 0, none⟩)), u6, u7, u8, u9, u10, u11, u12, u13, u14, u15, u16, u17, u18, u19, u20, u21, u22, u23, u24, u25, u26, u27, u28, u29], []⟩ w := by
  subst hops
  have hNS : Region.noSelect (Rg.opsOf Tryz.f55 3) = true := by kernel_rfl
  refine wp_region_held_drew (S := X) (by kernel_rfl) hw (fun hHeld => ?_)
  rw [show (Rg.opsOf Tryz.f55 3).size = 5 by kernel_rfl]
  refine Rg.take (ops := (Rg.opsOf Tryz.f55 3)) 0 (some 14) (dv) hNS (by kernel_rfl) (by kernel_rfl) (by kernel_rfl) (by kernel_rfl) (by kernel_rfl) hHeld (Rg.y_move (x := (Operand.tmp 0)) (Or.inl (by kernel_rfl)) (by kernel_rfl)) ?_
  refine Rg.take (ops := (Rg.opsOf Tryz.f55 3)) 1 (some 15) ((.string p)) hNS (by kernel_rfl) (by kernel_rfl) (by kernel_rfl) (by kernel_rfl) (by kernel_rfl) hHeld (Rg.y_move (x := (Operand.tmp 1)) (Or.inl (by kernel_rfl)) (by kernel_rfl)) ?_
  refine Rg.take (ops := (Rg.opsOf Tryz.f55 3)) 3 (some 17) ((.agg #[.int .i64 K, .string Dt])) hNS (by kernel_rfl) (by kernel_rfl) (by kernel_rfl) (by kernel_rfl) (by kernel_rfl) hHeld (Rg.y_load (T := 52) (x := (Operand.tmp 5)) (vx := (.pointer (some ⟨gn, 0, none⟩))) (by kernel_rfl) (by kernel_rfl) ?_) ?_
  · (intro W hSw; obtain ⟨s0, s1⟩ := hX _ hSw; clear hSw hHeld; go_simp)
  refine Rg.call (ops := (Rg.opsOf Tryz.f55 3)) (fn := Tryz.f48) (xs := #[Operand.tmp 14, Operand.tmp 15]) (ats := #[23, 9]) 2 (some 16) 48 #[dv, (.string p)] (by kernel_rfl) (by kernel_rfl) (by kernel_rfl) (by kernel_rfl) (by kernel_rfl) Tryz.func48 (by kernel_rfl) (by kernel_rfl) (by kernel_rfl) ?_
  refine (hA _ hHeld).mono ?_
  rintro e w5 ⟨rfl, k5⟩
  refine ⟨_, rfl, k5, fun hHeld => ?_⟩
  refine Rg.take (ops := (Rg.opsOf Tryz.f55 3)) 4 (some 18) ((.bool bb)) hNS (by kernel_rfl) (by kernel_rfl) (by kernel_rfl) (by kernel_rfl) (by kernel_rfl) hHeld (Rg.y_bin (b := BinOp.eql) (T := 52) (R' := 52) (x := (Operand.tmp 16)) (y := (Operand.tmp 17)) (vx := (.agg #[.int .i64 (kd : Int), .string D0])) (vy := (.agg #[.int .i64 K, .string Dt])) (by kernel_rfl) (by kernel_rfl) (by kernel_rfl) ?_) ?_
  · (intro W hSw; clear hSw hHeld; have hg : Tryz.prog.eqGuardType Tryz.prog.depth 52 = false := (by kernel_rfl); have h1 := S1 W; go_simp)
  refine Rg.done (ops := (Rg.opsOf Tryz.f55 3)) (by kernel_rfl) ?_
  exact ⟨by kernel_rfl, hHeld⟩
end Go.Proofs.YtdpnmdnfnplcfaaGreat.Sc

namespace Go.Proofs.YtdpnmdnfnplcfaaGreat.Sc
open Go.RowKit Tx Pm Pr Dk Od
open En (tcheck Et)
set_option linter.unusedVariables false
def stays (v : ByteArray) (t : List Et) (x : It) : Prop := (En.tget t (tl v x.path)).kind = (nodeOf x).kind
def inside (s : St) (v : ByteArray) : List It := s.L.filter (inV v)
structure Rem (N : Nat) (s0 s : St) (v : ByteArray) (t : List Et) (i : Nat) : Prop where
  rb : Rb N s
  stamps : s.stamps = s0.stamps
  vol : Dk.kind s.L v = 1
  others : s.L.filter (fun x => !inV v x) = s0.L.filter (fun x => !inV v x)
  mem : ∀ x, x ∈ s.L ↔ x ∈ s0.L ∧ (inV v x = true → stays v t x ∨ x ∈ (inside s0 v).take i)
theorem rem_start {N : Nat} {s0 : St} {v : ByteArray} {t : List Et} (h : Rb N s0) (hk : Dk.kind s0.L v = 1) : Rem N s0 s0 v t (inside s0 v).length :=
  ⟨h, rfl, hk, rfl, fun x => ⟨fun hx => ⟨hx, fun hv => .inr (by rw [List.take_of_length_le (Nat.le_refl _)]; exact List.mem_filter.2 ⟨hx, hv⟩)⟩, fun hx => hx.1⟩⟩
theorem rem_stay {N : Nat} {s0 s : St} {v : ByteArray} {t : List Et} {i : Nat} {x : It} (h : Rem N s0 s v t (i + 1)) (hx : (inside s0 v)[i]? = some x) (hs : stays v t x) : Rem N s0 s v t i := by
  refine ⟨h.rb, h.stamps, h.vol, h.others, fun y => ?_⟩
  rw [h.mem y, List.take_add_one, hx]
  refine and_congr_right fun _ => imp_congr_right fun _ => ?_
  constructor
  · rintro (h1 | h1)
    · exact .inl h1
    · rcases List.mem_append.1 h1 with h1 | h1
      · exact .inr h1
      · rw [show y = x by simpa using h1]
        exact .inl hs
  · rintro (h1 | h1)
    · exact .inl h1
    · exact .inr (List.mem_append.2 (.inl h1))
theorem get_kind {t : List Et} {p : ByteArray} {k : Int} (h : (En.tget t p).kind = k) (hk : k ≠ 0) : ∃ e ∈ t, e.path = p ∧ e.node = En.tget t p := by
  unfold En.tget at h ⊢
  cases hf : t.find? (fun x => decide (x.path = p)) with
  | none => rw [hf] at h; exact absurd h.symm hk
  | some z => exact ⟨z, List.mem_of_find?_eq_some hf, by have := List.find?_some hf; simpa using this, rfl⟩
theorem node_ne (x : It) : (nodeOf x).kind ≠ 0 := by
  rcases node_kind x with h | h <;> rw [h] <;> decide
theorem rem_empty {N : Nat} {s0 s : St} {v : ByteArray} {t : List Et} {i : Nat} {x : It} (hv : chk v.data.toList 1 = 0) (ht : tcheck t = 0) (h0 : Rb N s0) (h : Rem N s0 s v t (i + 1)) (hx : (inside s0 v)[i]? = some x) (hs : ¬ stays v t x) : Dk.list s.L x.path = [] := by
  have hv0 := vol_name hv
  have hxm := List.mem_filter.1 (List.mem_of_getElem? hx)
  have hxp := inV_at hv0 hxm.2
  refine List.map_eq_nil_iff.2 (List.filter_eq_nil_iff.2 fun y hy hc => ?_)
  have hpar : tb (par y.path.data.toList) = x.path := of_decide_eq_true hc
  obtain ⟨hy0, hy1⟩ := (h.mem y).1 hy
  have hcut : y.path.data.toList = x.path.data.toList ++ 47 :: bas y.path.data.toList := by
    have e : x.path.data.toList = par y.path.data.toList := by rw [← hpar]; rfl
    rcases par_bas y.path.data.toList with ⟨_, hn, _⟩ | hh
    · rw [hn, hxp, vp_list] at e
      exact absurd (congrArg List.length e) (by rw [List.length_append, List.length_cons]; show ¬ _ = 0; omega)
    · rw [e]; exact hh
  have hyv : inV v y = true := by
    obtain ⟨bb, hbb⟩ : ∃ bb, y.path.data.toList = x.path.data.toList ++ 47 :: bb := ⟨_, hcut⟩
    refine inV_vp (p := vp (tl v x.path) (tb bb)) ?_
    apply ByteArray.ext
    apply Array.toList_inj.1
    rw [hbb, vp_list, vp_list]
    conv => lhs; rw [hxp, vp_list]
    rw [List.append_assoc, List.cons_append]
    rfl
  have hyp := inV_at hv0 hyv
  rcases hy1 hyv with hst | hin
  · obtain ⟨e, he, hep, hen⟩ := get_kind hst (node_ne y)
    have hpn : par y.path.data.toList ≠ [] := fun hn => by
      have e1 : x.path.data.toList = par y.path.data.toList := by rw [← hpar]; rfl
      rw [hn, hxp, vp_list] at e1
      exact absurd (congrArg List.length e1) (by rw [List.length_append, List.length_cons]; show ¬ _ = 0; omega)
    obtain ⟨z, hz, hzp, hzd⟩ := h0.homes y hy0 hpn
    have hzx := rises_one h0.inv.rises z hz x hxm.1 (hzp.trans hpar)
    subst hzx
    obtain ⟨j, hj⟩ := List.getElem?_of_mem he
    obtain ⟨hec, _⟩ := En.tree_at ht hj
    refine hs ?_
    have hk1 : (nodeOf z).kind = 1 := by unfold nodeOf; rw [hzd]; rfl
    show (En.tget t (tl v z.path)).kind = (nodeOf z).kind
    rw [hk1]
    rw [hep] at hec
    have hpv := par_vp (v := v) (ok_of hec).2
    rw [← hyp, hpar] at hpv
    rcases hpv with ⟨_, h1⟩ | ⟨hne, h1⟩
    · rw [hxp] at h1
      exact absurd h1 (vp_ne v _)
    · rw [hxp] at h1
      have h2 := vp_inj h1
      have hok : En.okAt t j = true := by
        cases ex : En.okAt t j
        · have := En.tcheck_bad (List.getElem?_eq_some_iff.1 hj).1 ex (by unfold tcheck at ht; split at ht; cases ht; omega)
          omega
        · rfl
      rw [En.okAt_eq hj] at hok
      simp only [Bool.and_eq_true, Bool.or_eq_true, decide_eq_true_eq] at hok
      rw [hep] at hok
      have h3 := hok.2.resolve_left hne
      rw [← h2] at h3
      exact h3
  · obtain ⟨j, hj⟩ := List.getElem?_of_mem hin
    have hjl : j < i + 1 := by
      have := (List.getElem?_eq_some_iff.1 hj).1
      rw [List.length_take] at this
      omega
    have hless : Op.bytesLess x.path.toList y.path.toList = true := by
      rw [ByteArray.toList_eq, ByteArray.toList_eq, hcut]
      exact less_more _ _ _
    have hj2 : (inside s0 v)[j]? = some y := by
      rw [List.getElem?_take_of_lt hjl] at hj
      exact hj
    have hr : (inside s0 v).Pairwise (fun x y => Op.bytesLess x.path.toList y.path.toList = true) := List.Pairwise.filter _ h0.inv.rises
    rcases Nat.lt_or_ge j i with h2 | h2
    · obtain ⟨b1, b2⟩ := List.getElem?_eq_some_iff.1 hj2
      obtain ⟨c1, c2⟩ := List.getElem?_eq_some_iff.1 hx
      have h3 := List.pairwise_iff_getElem.1 hr j i b1 c1 h2
      rw [b2, c2] at h3
      have h4 := En.lt_asymm (show En.less x.path y.path = true from hless)
      rw [show En.less y.path x.path = true from h3] at h4
      cases h4
    · have : j = i := by omega
      subst this
      rw [hx] at hj2
      injection hj2 with hj2
      rw [hj2, less_irr] at hless
      cases hless
theorem rem_go {N : Nat} {s0 s : St} {v : ByteArray} {t : List Et} {i : Nat} {x : It} (hv : chk v.data.toList 1 = 0) (ht : tcheck t = 0) (h0 : Rb N s0) (h : Rem N s0 s v t (i + 1)) (hx : (inside s0 v)[i]? = some x) (hs : ¬ stays v t x) (hc : chk x.path.data.toList 6 = 0) (hn : N + 1 ≤ 100000) :
    (removeS s x.path).1 = 0 ∧ Rem (N + 1) s0 (removeS s x.path).2 v t i := by
  have hv0 := vol_name hv
  have hxm := List.mem_filter.1 (List.mem_of_getElem? hx)
  have hxp := inV_at hv0 hxm.2
  have hl := rem_empty hv ht h0 h hx hs
  have hi := (List.getElem?_eq_some_iff.1 hx).1
  have hxs : x ∈ s.L := (h.mem x).2 ⟨hxm.1, fun _ => .inr (by rw [List.take_add_one, hx]; exact List.mem_append.2 (.inr (by simp)))⟩
  have hk : Dk.kind s.L x.path ≠ 0 := by
    have h1 := kind_node h.rb.inv.rises hxs
    have h2 := node_ne x
    omega
  have hrb := rb_remove h.rb hn hc hk hl
  rw [remove_is h.rb hc hk hl]
  refine ⟨rfl, hrb, h.stamps, ?_, ?_, fun y => ?_⟩
  · have := h.vol
    unfold Dk.kind at this ⊢
    show kindOf (find (drop s.L x.path) v) = 1
    rw [find_drop s.L (by rw [hxp]; exact vp_ne v _)]
    exact this
  · show (drop s.L x.path).filter _ = _
    rw [drop_others (fun z hz hp => inV_vp (hp.trans hxp))]
    exact h.others
  · show y ∈ drop s.L x.path ↔ _
    unfold drop
    rw [List.mem_filter, h.mem y, List.take_add_one, hx]
    have hr : (inside s0 v).Pairwise (fun x y => Op.bytesLess x.path.toList y.path.toList = true) := List.Pairwise.filter _ h0.inv.rises
    constructor
    · rintro ⟨⟨h1, h2⟩, h3⟩
      refine ⟨h1, fun hyv => ?_⟩
      rcases h2 hyv with h4 | h4
      · exact .inl h4
      · rcases List.mem_append.1 h4 with h4 | h4
        · exact .inr h4
        · rw [show y = x by simpa using h4] at h3
          simp at h3
    · rintro ⟨h1, h2⟩
      refine ⟨⟨h1, fun hyv => (h2 hyv).imp id (fun h3 => List.mem_append.2 (.inl h3))⟩, ?_⟩
      by_cases hp : y.path = x.path
      · have := rises_one h0.inv.rises y h1 x hxm.1 hp
        subst this
        rcases h2 hxm.2 with h3 | h3
        · exact absurd h3 hs
        · obtain ⟨j, hj⟩ := List.getElem?_of_mem h3
          have hjl : j < i := by
            have := (List.getElem?_eq_some_iff.1 hj).1
            rw [List.length_take] at this
            omega
          rw [List.getElem?_take_of_lt hjl] at hj
          obtain ⟨b1, b2⟩ := List.getElem?_eq_some_iff.1 hj
          obtain ⟨c1, c2⟩ := List.getElem?_eq_some_iff.1 hx
          have h5 := List.pairwise_iff_getElem.1 hr j i b1 c1 hjl
          rw [b2, c2, less_irr] at h5
          cases h5
      · rw [decide_eq_false hp]; rfl
theorem rem_end {N : Nat} {s0 s : St} {v : ByteArray} {t : List Et} (hv : chk v.data.toList 1 = 0) (ht : tcheck t = 0) (h : Rem N s0 s v t 0) : Mid N s0 s v t 0 := by
  have hv0 := vol_name hv
  refine ⟨h.rb, Nat.le_of_eq h.stamps.symm, h.vol, h.others, fun i e hi _ => absurd hi (by omega), fun x hx hxv => ?_, fun y hy hyv hd e he hp hn => ?_⟩
  · obtain ⟨h1, h2⟩ := (h.mem x).1 hx
    rcases h2 hxv with h3 | h3
    · obtain ⟨e, he, hep, hen⟩ := get_kind h3 (node_ne x)
      refine ⟨e, he, ?_, ?_, .inl h1⟩
      · rw [hep]; exact inV_at hv0 hxv
      · rw [hen]; exact h3.symm
    · rw [List.take_zero] at h3
      cases h3
  · refine (h.mem y).2 ⟨hy, fun _ => .inl ?_⟩
    show (En.tget t (tl v y.path)).kind = (nodeOf y).kind
    rw [hp, vp_tl, En.tree_get ht he, hn]
end Go.Proofs.YtdpnmdnfnplcfaaGreat.Sc

namespace Go.Proofs.YtdpnmdnfnplcfaaGreat.Sc
open Go.RowKit Tx Pm Pl Pr Dk
set_option linter.unusedVariables false
theorem results_tmp4 {fn : Func} {t u v x : Tmp} (h : fn.results = #[.tmp t, .tmp u, .tmp v, .tmp x]) (tmps : Array Value) (P : Program) (w : World) :
    (results fn tmps).run P w = .ok (.tuple #[tmps.getD t undef, tmps.getD u undef, tmps.getD v undef, tmps.getD x undef]) w := by
  simp [results, h]
theorem name_chk (l : List UInt8) : isName l = true ↔ chk l 1 = 0 := by
  constructor
  · intro h
    have h0 : lastN l = 0 := by
      rcases Nat.eq_zero_or_pos (lastN l) with h0 | h0
      · exact h0
      · exfalso
        obtain ⟨k, hk⟩ : ∃ k, lastN l = k + 1 := ⟨lastN l - 1, by omega⟩
        have hc := cut_last hk
        unfold isName at h
        simp only [Bool.and_eq_true] at h
        have := List.all_eq_true.1 h.2 47 (by rw [hc]; simp)
        exact absurd this (by decide)
    rw [chk, isPath, spl_one h0]
    simp [h]
  · intro h
    obtain ⟨h1, h2⟩ := ok_of h
    have h0 : lastN l = 0 := by
      rcases par_bas l with ⟨h0, _⟩ | hh
      · exact h0
      · exfalso
        rw [hh, spl_app, List.length_append] at h1
        have := spl_pos (par l)
        have := spl_pos (bas l)
        omega
    unfold good at h2
    rw [spl_one h0] at h2
    simpa using h2
theorem cells_twoS {w1 : World} {b : Nat} {u v : Value} {t : TypeId} (h : w1.heap[b]? = some (.cells #[u, v] t)) : w1.cell? ⟨b, 0, none⟩ = some u ∧ w1.cell? ⟨b, 1, none⟩ = some v ∧ ∀ k, w1.frozen? ⟨b, k, none⟩ = false := by
  refine ⟨?_, ?_, fun k => frozen_of_row w1 b k _ _ h⟩ <;> simp [World.cell?, h]
theorem two_setS {w1 : World} {b : Nat} {u v x y : Value} {t : TypeId} (h : w1.heap[b]? = some (.cells #[u, v] t)) : ((w1.setCell ⟨b, 0, none⟩ x).setCell ⟨b, 1, none⟩ y).heap[b]? = some (.cells #[x, y] t) :=
  Go.heap_setCell_same _ b 1 _ _ _ (Go.heap_setCell_same _ b 0 _ _ x h)
theorem cells_fourS {w1 : World} {b : Nat} {u v x y : Value} {t : TypeId} (h : w1.heap[b]? = some (.cells #[u, v, x, y] t)) : w1.cell? ⟨b, 0, none⟩ = some u ∧ w1.cell? ⟨b, 1, none⟩ = some v ∧ w1.cell? ⟨b, 2, none⟩ = some x ∧ w1.cell? ⟨b, 3, none⟩ = some y ∧ ∀ k, w1.frozen? ⟨b, k, none⟩ = false := by
  refine ⟨?_, ?_, ?_, ?_, fun k => frozen_of_row w1 b k _ _ h⟩ <;> simp [World.cell?, h]
set_option maxRecDepth 100000 in
set_option maxHeartbeats 2000000 in
theorem stands_at {b : Nat} {w : World} {F : Nat → Prop} {s : St} {p : ByteArray} (h : ImpAt b w F s) (hp : p.size ≤ 8000000000000) :
    Calls Tryz.prog 48 #[.pointer (some ⟨b, 0, none⟩), .string p] w fun e w' => e = .returned (.agg #[.int .i64 (Dk.kind s.L p : Nat), .string (readS s p).1]) ∧ Below w.heap.size w w' := by
  have hB : ∀ o, Below w.heap.size w (w.alloc o) := fun o => (Below.refl _ _).alloc (Nat.le_refl _) _
  have cr := fun W (hW : Below w.heap.size w W) => ok_read (imp_below h hW) hp
  have ck := fun W (hW : Below w.heap.size w W) => ok_kind (imp_below h hW) hp
  clear h
  go_enter Tryz.func48, Tryz.ntmps48
  go_wp2_with fail
  go_at_call 94
  refine (cr _ (hB _)).mono ?_
  rintro e w1 ⟨rfl, hb1⟩
  have hB1 := below_call (hB _) hb1
  have hblk := hb1.block w.heap.size (by simp)
  rw [heap_alloc_new] at hblk
  obtain ⟨e1, e2, e3⟩ := cells_twoS hblk
  go_wp2_with fail
  go_at_call 47
  refine (ck _ hB1).mono ?_
  rintro e w2 ⟨rfl, rfl⟩
  go_wp2_with fail
  refine bodyPost_ret (results_cell_row rfl _ _ _ _ _ _ _ rfl (two_setS hblk) Tryz.underlying52 rfl En.infoN) rfl ?_
  exact ⟨rfl, (hB1.setCell (Nat.le_refl _) _).setCell (Nat.le_refl _) _⟩
set_option maxRecDepth 100000 in
set_option maxHeartbeats 2000000 in
theorem mayWalk_any {b : Nat} {w : World} {F : Nat → Prop} {s : St} {v : ByteArray} (h : ImpAt b w F s) (wf : Wf s.L) (hv : v.size ≤ 1048576) :
    Calls Tryz.prog 43 #[.pointer (some ⟨b, 0, none⟩), .string v] w fun e w' => e = .returned (.int .i64 (err15 s v : Nat)) ∧ Below w.heap.size w w' := by
  have cn := pName_any v w (by omega)
  have cd := fun W (hW : Below w.heap.size w W) => ok_down (imp_below h hW)
  have ck := fun W (hW : Below w.heap.size w W) => ok_kind (p := v) (imp_below h hW) (by omega)
  clear h
  by_cases h1 : chk v.data.toList 1 = 0
  · have hk := wf_vol wf h1
    rw [(name_chk _).2 h1] at cn
    by_cases h2 : s.down = true
    · have HE : Hid (err15 s v = 14) := by show _ = _; unfold err15; simp [h1, h2]
      rw [h2] at cd
      clear h1 h2 hk wf
      go_enter Tryz.func43, Tryz.ntmps43
      go_wp2_with fail
      go_at_call 92
      refine cn.mono ?_
      rintro e w1 ⟨rfl, hb1⟩
      go_wp2_with fail
      go_at_call 93
      refine (cd _ hb1).mono ?_
      rintro e w2 ⟨rfl, rfl⟩
      go_wp2_with fail
      go_ret
      exact ⟨by rw [HE.out]; rfl, hb1⟩
    · have hd : s.down = false := by simpa using h2
      rw [hd] at cd
      by_cases h3 : Dk.kind s.L v = 1
      · have HE : Hid (err15 s v = 0) := by show _ = _; unfold err15; simp [h1, h2, h3]
        rw [h3] at ck
        clear h1 h2 h3 hd hk wf
        go_enter Tryz.func43, Tryz.ntmps43
        go_wp2_with fail
        go_at_call 92
        refine cn.mono ?_
        rintro e w1 ⟨rfl, hb1⟩
        go_wp2_with fail
        go_at_call 93
        refine (cd _ hb1).mono ?_
        rintro e w2 ⟨rfl, rfl⟩
        go_wp2_with fail
        go_at_call 47
        refine (ck _ hb1).mono ?_
        rintro e w2 ⟨rfl, rfl⟩
        go_wp2_with fail
        go_ret
        exact ⟨by rw [HE.out]; rfl, hb1⟩
      · have hk0 : Dk.kind s.L v = 0 := hk.resolve_right h3
        have HE : Hid (err15 s v = 11) := by show _ = _; unfold err15; simp [h1, h2, h3]
        rw [hk0] at ck
        clear h1 h2 h3 hd hk wf hk0
        go_enter Tryz.func43, Tryz.ntmps43
        go_wp2_with fail
        go_at_call 92
        refine cn.mono ?_
        rintro e w1 ⟨rfl, hb1⟩
        go_wp2_with fail
        go_at_call 93
        refine (cd _ hb1).mono ?_
        rintro e w2 ⟨rfl, rfl⟩
        go_wp2_with fail
        go_at_call 47
        refine (ck _ hb1).mono ?_
        rintro e w2 ⟨rfl, rfl⟩
        go_wp2_with fail
        go_ret
        exact ⟨by rw [HE.out]; rfl, hb1⟩
  · have hn : isName v.data.toList = false := by
      cases e : isName v.data.toList
      · rfl
      · exact absurd ((name_chk _).1 e) h1
    have HE : Hid (err15 s v = 10) := by show _ = _; unfold err15; simp [h1]
    rw [hn] at cn
    clear h1 hn wf
    go_enter Tryz.func43, Tryz.ntmps43
    go_wp2_with fail
    go_at_call 92
    refine cn.mono ?_
    rintro e w1 ⟨rfl, hb1⟩
    go_wp2_with fail
    go_ret
    exact ⟨by rw [HE.out]; rfl, hb1⟩
theorem err_zero {s : St} {v : ByteArray} (h : err15 s v = 0) : chk v.data.toList 1 = 0 ∧ s.down = false ∧ Dk.kind s.L v = 1 := by
  unfold err15 at h
  split at h
  · cases h
  · rename_i h1
    split at h
    · cases h
    · rename_i h2
      split at h
      · cases h
      · rename_i h3
        exact ⟨by omega, by simpa using h2, by omega⟩
def snI (v : ByteArray) (x : It) : Sn := ⟨tl v x.path, x.stamp, nodeOf x⟩
theorem sn_is {s : St} {v : ByteArray} (hL : Wf s.L) (he : err15 s v = 0) : snS s v = (inside s v).map (snI v) ∧ (wkS s v).1 = (inside s v).map fun x => ⟨tl v x.path, nodeOf x⟩ := by
  have h0 := vol_name (err_zero he).1
  have e : wkS s v = (entS s.L v, 0) := by unfold wkS; rw [if_neg (by rw [he]; decide)]
  have e2 : entS s.L v = (inside s v).map fun x => ⟨tl v x.path, nodeOf x⟩ := rfl
  refine ⟨?_, by rw [e, e2]⟩
  unfold snS
  rw [e]
  show (entS s.L v).map _ = _
  rw [e2, List.map_map]
  refine List.map_congr_left fun x hx => ?_
  have hx1 := List.mem_filter.1 hx
  show snOf s v _ = _
  unfold snOf snI
  congr 1
  show stampS s (vp v (tl v x.path)) = _
  rw [← inV_at h0 hx1.2]
  unfold stampS
  rw [Sc.find_one hL.rises hx1.1]
def cntK (s : St) (v : ByteArray) (seen : List Sn) (k : Nat) : Nat := ((((inside s v).map (snI v)).take k).filter fun x => !known seen x).length
theorem cnt_next {s : St} {v : ByteArray} {seen : List Sn} {k : Nat} {x : It} (h : (inside s v)[k]? = some x) : cntK s v seen (k + 1) = cntK s v seen k + if known seen (snI v x) = true then 0 else 1 := by
  unfold cntK
  rw [List.take_add_one, List.getElem?_map, h, List.filter_append, List.length_append]
  congr 1
  show (List.filter _ [snI v x]).length = _
  cases hk : known seen (snI v x)
  · rw [List.filter_cons_of_pos (by rw [hk]; rfl)]; rfl
  · rw [List.filter_cons_of_neg (by rw [hk]; decide)]; rfl
theorem cnt_le (s : St) (v : ByteArray) (seen : List Sn) (k : Nat) : cntK s v seen k ≤ k := by
  unfold cntK
  refine Nat.le_trans (List.length_filter_le _ _) ?_
  rw [List.length_take]
  omega
theorem take_next {α β : Type} (f : α → β) {l : List α} {k : Nat} {x : α} (h : l[k]? = some x) : (l.map f).take (k + 1) = (l.map f).take k ++ [f x] := by
  rw [List.take_add_one, List.getElem?_map, h]
  rfl
theorem own_other {w w1 : World} {B B2 size size2 n n2 : Nat} {e e2 : TypeId} {v v2 : Value} {xs xs2 : List Value} (h : w.ownsRow B e size v n xs) (h2 : w.ownsRow B2 e2 size2 v2 n2 xs2) (hne : e ≠ e2) (hg : w.grownBy w1 v2.ownBlock) : w1.ownsRow B e size v n xs := by
  refine own_kept h (fun g hgb => hg.block g (h.lt g hgb).2 (fun hh => ?_))
  rcases h.2 with ⟨rfl, _⟩ | ⟨g1, cap, cur, rfl, _, hh1, _⟩
  · cases hgb
  rcases h2.2 with ⟨rfl, _⟩ | ⟨g2, cap2, cur2, rfl, _, hh2, _⟩
  · cases hh
  have a1 : g1 = g := by injection hgb
  have a2 : g = g2 := by injection hh
  subst a1
  subst a2
  rw [hh1] at hh2
  injection hh2 with hh2
  injection hh2 with _ hh2
  exact hne hh2
set_option maxRecDepth 100000 in
set_option maxHeartbeats 8000000 in
theorem scan_any {b : Nat} {w : World} {F : Nat → Prop} {s : St} {v : ByteArray} (A : Option Addr) (m0 c0 : Nat) (seen : List Sn) (h : ImpAt b w F s) (lk : Lk s) (stp : Stp s) (hv : v.size ≤ 1048576) (hSn : Sns w A m0 seen) (hm0 : m0 ≤ 1000000) (hgd : Sc.Good s v seen) (hz : Szn seen) :
    Calls Tryz.prog 11 #[.pointer (some ⟨b, 0, none⟩), .string v, .slice A m0 c0] w (ScTo s v seen w) := by
  have cm := mayWalk_any h lk.wf hv
  by_cases he : err15 s v = 0
  · obtain ⟨v1, v2, v3⟩ := err_zero he
    obtain ⟨hsn, hwk⟩ := sn_is lk.wf he
    have HSC : Hid (wkS s v = ((inside s v).map (fun x => ⟨tl v x.path, nodeOf x⟩), 0)) := by
      show _ = _
      rw [← hwk]
      unfold wkS
      rw [if_neg (by rw [he]; decide)]
    have HSN := Lib.hid hsn
    rw [he] at cm
    have h0 := vol_name v1
    have cf := fun W (hW : Below w.heap.size w W) => files_any A m0 c0 seen W (hSn.below hW) hm0 hz
    have cb := fun W (hW : Below w.heap.size w W) => below_any b s F lk ((bel s.L v).length + 1) v W (Nat.lt_succ_self _) h0 hv (imp_below h hW)
    have HST : Hid (∀ x ∈ s.L, ∀ W, Below w.heap.size w W → Calls Tryz.prog 46 #[.pointer (some ⟨b, 0, none⟩), .string x.path] W fun e w' => e = .returned (.int .i64 (x.stamp : Int)) ∧ W = w') := fun x hx W hW => by
      have := ok_stamp (p := x.path) (imp_below h hW) (Nat.le_trans (chk_short (lk.wf.names x hx) (by omega)) (by omega))
      have e : stampS s x.path = x.stamp := by unfold stampS; rw [Sc.find_one lk.wf.rises hx]
      rw [e] at this
      exact this
    have hkn : ∀ x ∈ s.L, Dk.kind s.L x.path = if x.dir then 1 else 2 := fun x hx => by rw [Dk.kind, Sc.find_one lk.wf.rises hx]; rfl
    have HKD : Hid (∀ x ∈ s.L, ∀ W, Below w.heap.size w W → Calls Tryz.prog 47 #[.pointer (some ⟨b, 0, none⟩), .string x.path] W fun e w' => e = .returned (.int .i64 ((if x.dir then 1 else 2 : Nat) : Int)) ∧ W = w') := fun x hx W hW => by
      have := ok_kind (p := x.path) (imp_below h hW) (Nat.le_trans (chk_short (lk.wf.names x hx) (by omega)) (by omega))
      rw [hkn x hx] at this
      exact this
    have HSD : Hid (∀ x ∈ s.L, x.dir = false → ∀ W, Below w.heap.size w W → Calls Tryz.prog 48 #[.pointer (some ⟨b, 0, none⟩), .string x.path] W fun e w' => e = .returned (.agg #[.int .i64 2, .string x.data]) ∧ Below W.heap.size W w') := fun x hx hd W hW => by
      have := stands_at (p := x.path) (imp_below h hW) (Nat.le_trans (chk_short (lk.wf.names x hx) (by omega)) (by omega))
      have e : readS s x.path = (x.data, 0) := by unfold readS; rw [v2, if_neg (by decide), Sc.find_one lk.wf.rises hx]; simp only [hd]; rfl
      rw [hkn x hx, hd, e] at this
      exact this
    have HPS : Hid (∀ x ∈ inside s v, x ∈ s.L ∧ v.size + 1 ≤ x.path.size ∧ x.path.size ≤ 1000 ∧ kb (tl v x.path) x.stamp ∧ x.path = vp v (tl v x.path)) := fun x hx => by
      obtain ⟨hx1, hx2⟩ := List.mem_filter.1 hx
      have hs := chk_short (lk.wf.names x hx1) (by omega)
      have hst := stp x hx1
      have hst2 := lk.ok.stamps
      refine ⟨hx1, (inV_long h0 hx2).1, hs, ⟨?_, ?_⟩, inV_at h0 hx2⟩
      · unfold tl
        rw [ByteArray.size_extract]
        unfold maxLen
        omega
      · simp [Lit.wf, IntKind.min, IntKind.max, IntKind.signed, IntKind.bits]
        omega
    have hil : (inside s v).length ≤ 100000 := Nat.le_trans (List.length_filter_le _ _) lk.len
    have HGD := Lib.hid hgd
    have hbl : bel s.L v = (inside s v).map (·.path) := rfl
    rw [hbl] at cb
    have HCF := Lib.hid cf
    have HCB := Lib.hid cb
    obtain ⟨iE, hiE, hzE0, hzE1, hzE2⟩ := info_parts En.infoE
    obtain ⟨iN, hiN, hzN0, hzN1, hzN2⟩ := info_parts infoS
    clear h lk stp hSn hz hgd v1 v2 v3 hsn hwk he h0 cf cb hkn hbl
    go_enter Tryz.func11, Tryz.ntmps11
    go_wp2_with fail
    go_at_call 43
    refine cm.mono ?_
    rintro e w1 ⟨rfl, hb1⟩
    have HB1 := Lib.hid hb1
    clear cm hb1
    go_wp2_with fail
    go_at_call 44
    refine (HCF.out _ HB1.out).mono ?_
    rintro e w2 ⟨bm, rfl, hKn, hbm, hb2⟩
    have HB2 : Hid (Below w.heap.size w w2) := below_call HB1.out hb2
    have hbm2 := hKn.lt
    have HKN := Lib.hid hKn
    clear HCF hb2 hKn
    go_wp2_with fail
    go_at_call 45
    refine (HCB.out _ HB2.out).mono ?_
    rintro e w3 ⟨vl, rfl, hvl, hb3⟩
    obtain ⟨a, c, rfl, hS, _⟩ := Texts.more hvl
    rw [List.length_map] at hS ⊢
    obtain ⟨m, hm⟩ : ∃ m, m = (inside s v).length := ⟨_, rfl⟩
    have HM := Lib.hid hm
    rw [← hm] at hS hil ⊢
    have HS := Lib.hid hS
    have HB3 : Hid (Below w.heap.size w w3) := below_call HB2.out hb3
    have HK3 : Hid (Kn w3 bm (kfiles seen)) := HKN.out.kept (hb3.block bm hbm2)
    have hbm3 : bm < w3.heap.size := Nat.lt_of_lt_of_le hbm2 hb3.size
    have hsz3 := HB3.out.size
    clear HCB HKN hvl hS hb3 hm hbm2
    go_wp2_with fail
    go_loopw [6, 7, 8, 13, 14, 15, 16, 29] (fun vt vn rd _ _ _ _ i wr => ∃ k : Nat, k ≤ m ∧ i = .int .i64 (k : Int) ∧ rd = .int .i64 (cntK s v seen k : Int) ∧ Hid (En.Own wr w3.heap.size vt (((inside s v).map fun x => ⟨tl v x.path, nodeOf x⟩).take k)) ∧ Hid (OwnN wr w3.heap.size vn (((inside s v).map (snI v)).take k)) ∧ Hid (Below w3.heap.size w3 wr)) (fun _ _ _ _ _ _ _ i _ => m - (intOf i).toNat)
    case atStart => exact ⟨0, Nat.zero_le _, rfl, rfl, own_nilE _ _, own_nilN _ _, Below.refl _ _⟩
    case round =>
      obtain ⟨k, hk, rfl, rfl, HOt, HOn, HB⟩ := hrel
      by_cases hlt : k < m
      · have hltz : (k : Int) < (m : Int) := by omega
        obtain ⟨g, off, rfl, hg, hc⟩ := HS.out.2.resolve_left (by omega)
        obtain ⟨x, hx⟩ : ∃ x, (inside s v)[k]? = some x := ⟨_, List.getElem?_eq_getElem (by rw [← HM.out]; exact hlt)⟩
        have hxm := List.mem_of_getElem? hx
        obtain ⟨hxL, hlong, hps, hkb, hvp⟩ := HPS.out x hxm
        have d0 := (HB.out.cell (p := ⟨g, _, none⟩) hg).trans (hc k x.path (by rw [List.getElem?_map, hx]; rfl))
        have HT1 := Lib.hid (take_next (fun x : It => (⟨tl v x.path, nodeOf x⟩ : En.Et)) hx)
        have HT2 := Lib.hid (take_next (snI v) hx)
        have HC2 := Lib.hid (cnt_next (seen := seen) hx)
        have hcl := cnt_le s v seen k
        have HL1 : Hid ((((inside s v).map fun x => (⟨tl v x.path, nodeOf x⟩ : En.Et)).take k).length = k) := by show _ = _; rw [List.length_take, List.length_map]; have := HM.out; omega
        have HL2 : Hid ((((inside s v).map (snI v)).take k).length = k) := by show _ = _; rw [List.length_take, List.length_map]; have := HM.out; omega
        have cst := HST.out x hxL
        have ckd := HKD.out x hxL
        have csd := HSD.out x hxL
        have HCUT := Lib.hid (cut_text x.path (v.size + 1) hlong)
        have q1 : (v.size : Int) + 1 = ((v.size + 1 : Nat) : Int) := by omega
        have V1 : IntKind.i64.wrap ((v.size + 1 : Nat) : Int) = ((v.size + 1 : Nat) : Int) := IntWalk.i64_in _ (by omega)
        have HBW : Hid (Below w.heap.size w wr.drew) := (HB3.out.trans (HB.out.mono hsz3)).drew
        have hszr : w3.heap.size ≤ wr.heap.size := HB.out.size
        have lo : ∀ q, u6.ownBlock = some q → q < wr.heap.size := fun q hq => (World.ownsRow.lt HOt.out q hq).2
        have ln : ∀ q, u7.ownBlock = some q → q < wr.heap.size := fun q hq => (World.ownsRow.lt HOn.out q hq).2
        have HLO := Lib.hid lo
        have HLN := Lib.hid ln
        have HCST := Lib.hid cst
        have HCKD := Lib.hid ckd
        have HCSD := Lib.hid csd
        have HXL := Lib.hid hxL
        have HVP := Lib.hid hvp
        clear hc hx hxm lo ln cst ckd csd hxL hvp
        obtain ⟨CN, hCN⟩ : ∃ CN, CN = cntK s v seen k := ⟨_, rfl⟩
        rw [← hCN] at hcl ⊢
        have HCN := Lib.hid hCN
        clear hCN
        cases hdir : x.dir with
        | true =>
          have hnd : nodeOf x = ⟨1, ⟨#[]⟩⟩ := by unfold nodeOf; rw [hdir]; rfl
          have HND := Lib.hid hnd
          have HCN2 : Hid (cntK s v seen (k + 1) = CN) := by
            have e := HC2.out
            have hkk : known seen (snI v x) = true := by
              unfold known snI
              rw [hnd]
              rfl
            rw [hkk, if_pos rfl] at e
            show _ = _
            rw [e, HCN.out]
            rfl
          have hck : ∀ W, Below w.heap.size w W → Calls Tryz.prog 47 #[.pointer (some ⟨b, 0, none⟩), .string x.path] W fun e w' => e = .returned (.int .i64 ((1 : Nat) : Int)) ∧ W = w' := fun W hW => by
            have := HCKD.out W hW
            rw [hdir] at this
            exact this
          have HCK := Lib.hid hck
          clear hck
          go_wp2_with fail
          refine Rg.wp_only ?_ (scanReg _ (by kernel_rfl) _ (v.size + 1) x.stamp 1 v x.path (tl v x.path) _ wr (fun W => Below w.heap.size w W) HBW.out q1 V1 HCUT.out (HBW.out.alloc HBW.out.size _) (HBW.out.alloc HBW.out.size _) HCST.out HCK.out)
          rintro _ W5 ⟨rfl, hW5⟩
          have hG5 : W5.heap[wr.heap.size]? = some (.cells #[.string (tl v x.path), .int .i64 (x.stamp : Int), .int .i64 1, .string ⟨#[]⟩] 83) := by rw [hW5]; exact heap_alloc_new wr.drew _
          have hb5 : Below wr.heap.size wr W5 := by rw [hW5]; exact ((Below.refl _ _).drew).alloc (Nat.le_refl _) _
          have hs5 : W5.heap.size = wr.heap.size + 1 := by rw [hW5]; go_simp
          have HG5 := Lib.hid hG5
          have HBB5 := Lib.hid hb5
          clear hW5 hG5 hb5 HCUT q1 V1 HCST HCKD HCK d0
          clear HCSD HC2
          have hkd1 : ¬ (1 : Int) = 2 := by decide
          have hsW : W5.heap.size = (wr.heap.size + 1) := by exact hs5
          obtain ⟨d0, d1, d2, d3, d4⟩ := cells_fourS HG5.out
          have hot := HOt.out.below HBB5.out
          have hon := HOn.out.below HBB5.out
          have hB5 : Below w3.heap.size w3 W5 := HB.out.trans (HBB5.out.mono hszr)
          have hs3 := hB5.size
          have hown : W5.ownsRow w3.heap.size 54 3 u6 k ((((inside s v).map fun x => (⟨tl v x.path, nodeOf x⟩ : En.Et)).take k).flatMap En.cells) := by have := hot; unfold En.Own at this; rw [HL1.out] at this; exact this
          have hownN : W5.ownsRow w3.heap.size 83 4 u7 k ((((inside s v).map (snI v)).take k).flatMap cellsN) := by have := hon; unfold OwnN at this; rw [HL2.out] at this; exact this
          go_wp2_with (at_builtin; refine wpList_append_own _ rfl _ _ 32 rfl w3.heap.size 54 iE (.agg #[.string ⟨#[]⟩, .int .i64 0, .string ⟨#[]⟩]) 3 40 Tryz.underlying32 hiE hzE0 hzE1 hzE2 rfl (by decide) _ _ _ rfl (hown.alloc _) ⟨(wr.heap.size + 1), 0, none⟩ 1 1 (En.cells ⟨tl v x.path, ⟨1, ⟨#[]⟩⟩⟩) rfl rfl ?c1 ?c2 ?c3 ?c4 ?c5 ?_)
          case c1 =>
            rw [← hsW]
            exact En.cell_three_new _ _ _ _ _
          case c2 => exact En.cells_one _
          case c3 => unfold maxLen; omega
          case c4 => omega
          case c5 => simp; omega
          intro v6 w6 hown6 hgrow6 _
          have hB6 := below_step hB5 hown hgrow6
          have hG6 : w6.heap[wr.heap.size]? = some (.cells #[.string (tl v x.path), .int .i64 (x.stamp : Int), .int .i64 1, .string ⟨#[]⟩] 83) := (hgrow6.block _ (by have := (Array.getElem?_eq_some_iff.1 HG5.out).1; simp; omega) (fun e => by have := HLO.out _ e.symm; omega)).trans ((Below.heap_alloc _ _ _ (Array.getElem?_eq_some_iff.1 HG5.out).1).trans HG5.out)
          have hownN6 := own_other (hownN.alloc (.cells #[.string (tl v x.path), .int .i64 1, .string ⟨#[]⟩] 54)) (hown.alloc (.cells #[.string (tl v x.path), .int .i64 1, .string ⟨#[]⟩] 54)) (by decide) hgrow6
          obtain ⟨f0, f1, f2, f3, f4⟩ := cells_fourS hG6
          have hs6 := hB6.size
          clear hsW
          have HOT6 : Hid (En.Own w6 w3.heap.size v6 (((inside s v).map fun x => (⟨tl v x.path, nodeOf x⟩ : En.Et)).take (k + 1))) := by
            show En.Own _ _ _ _
            rw [HT1.out, HND.out]
            unfold En.Own
            rw [List.length_append, HL1.out, List.flatMap_append]
            simpa using hown6
          have HG6 := Lib.hid hG6
          have HB6 := Lib.hid hB6
          clear d0 d1 d2 d3 d4 hot hon hB5 hown hownN hs3 hown6 hgrow6 hG6 hB6
          go_wp2_with (at_builtin; refine wpList_append_own _ rfl _ _ 28 rfl w3.heap.size 83 iN (.agg #[.string ⟨#[]⟩, .int .i64 0, .int .i64 0, .string ⟨#[]⟩]) 4 48 Tryz.underlying28 hiN hzN0 hzN1 hzN2 rfl (by decide) _ _ _ rfl (hownN6.alloc _) ⟨w6.heap.size, 0, none⟩ 1 1 (cellsN ⟨tl v x.path, x.stamp, ⟨1, ⟨#[]⟩⟩⟩) rfl rfl ?e1 ?e2 ?e3 ?e4 ?e5 ?_)
          case e1 => exact cell_four _ _ _ _ _ _
          case e2 => exact cellsN_one _
          case e3 => unfold maxLen; omega
          case e4 => omega
          case e5 => simp; omega
          intro v7 w7 hown7 hgrow7 _
          have HB7 : Hid (Below w3.heap.size w3 w7) := below_step HB6.out hownN6 hgrow7
          have HOT7 : Hid (En.Own w7 w3.heap.size v6 (((inside s v).map fun x => (⟨tl v x.path, nodeOf x⟩ : En.Et)).take (k + 1))) := own_other (World.ownsRow.alloc HOT6.out _) (hownN6.alloc _) (by decide) hgrow7
          have HON7 : Hid (OwnN w7 w3.heap.size v7 (((inside s v).map (snI v)).take (k + 1))) := by
            show OwnN _ _ _ _
            have e : snI v x = ⟨tl v x.path, x.stamp, ⟨1, ⟨#[]⟩⟩⟩ := by unfold snI; rw [HND.out]
            rw [HT2.out, e]
            unfold OwnN
            rw [List.length_append, HL2.out, List.flatMap_append]
            simpa using hown7
          clear f0 f1 f2 f3 f4 hownN6 hown7 hgrow7 hs6
          go_wp2_with fail
          go_roundw
          case rel => exact ⟨k + 1, by omega, by go_num, by rw [HCN2.out], HOT7, HON7, HB7⟩
          case measure => simp only [intOf]; omega
        | false =>
          have hnd : nodeOf x = ⟨2, x.data⟩ := by unfold nodeOf; rw [hdir]; rfl
          have HND := Lib.hid hnd
          have hkk : known seen (snI v x) = (kfd (kfiles seen) (tl v x.path) x.stamp).isSome := known_kfd (x := snI v x) (by unfold snI; rw [hnd])
          have hck : ∀ W, Below w.heap.size w W → Calls Tryz.prog 47 #[.pointer (some ⟨b, 0, none⟩), .string x.path] W fun e w' => e = .returned (.int .i64 ((2 : Nat) : Int)) ∧ W = w' := fun W hW => by
            have := HCKD.out W hW
            rw [hdir] at this
            exact this
          have HCK := Lib.hid hck
          clear hck
          go_wp2_with fail
          refine Rg.wp_only ?_ (scanReg _ (by kernel_rfl) _ (v.size + 1) x.stamp 2 v x.path (tl v x.path) _ wr (fun W => Below w.heap.size w W) HBW.out q1 V1 HCUT.out (HBW.out.alloc HBW.out.size _) (HBW.out.alloc HBW.out.size _) HCST.out HCK.out)
          rintro _ W5 ⟨rfl, hW5⟩
          have hG5 : W5.heap[wr.heap.size]? = some (.cells #[.string (tl v x.path), .int .i64 (x.stamp : Int), .int .i64 2, .string ⟨#[]⟩] 83) := by rw [hW5]; exact heap_alloc_new wr.drew _
          have hb5 : Below wr.heap.size wr W5 := by rw [hW5]; exact ((Below.refl _ _).drew).alloc (Nat.le_refl _) _
          have hs5 : W5.heap.size = wr.heap.size + 1 := by rw [hW5]; go_simp
          have HG5 := Lib.hid hG5
          have HBB5 := Lib.hid hb5
          clear hW5 hG5 hb5 HCUT q1 V1 HCST HCKD HCK d0
          have hK5 : Kn W5 bm (kfiles seen) := HK3.out.kept ((HBB5.out.block bm (Nat.lt_of_lt_of_le hbm3 hszr)).trans (HB.out.block bm hbm3))
          have hlook := hK5.look hkb
          unfold kv ndV at hlook
          cases hfd : kfd (kfiles seen) (tl v x.path) x.stamp with
          | some y =>
            rw [hfd] at hlook hkk
            have hyn : y.node = ⟨2, x.data⟩ := kfd_good HGD.out hfd HXL.out HVP.out rfl hdir
            simp only [hyn, Option.isSome_some] at hlook
            have HCN2 : Hid (cntK s v seen (k + 1) = CN) := by
              have e := HC2.out
              rw [hkk] at e
              show _ = _
              rw [e, HCN.out]
              rfl
            clear HCSD HC2 hkk hyn hfd hK5
            have hGa : (W5.alloc (.cells #[.int .i64 2, .string x.data] 52)).heap[wr.heap.size]? = some (.cells #[.string (tl v x.path), .int .i64 (x.stamp : Int), .int .i64 2, .string ⟨#[]⟩] 83) := (Below.heap_alloc _ _ _ (by omega)).trans HG5.out
            have hGb : (W5.setCell ⟨wr.heap.size, 2, none⟩ (.int .i64 2)).heap[wr.heap.size]? = some (.cells #[.string (tl v x.path), .int .i64 (x.stamp : Int), .int .i64 2, .string ⟨#[]⟩] 83) := Go.heap_setCell_same _ _ 2 _ _ _ HG5.out
            have hGc : ((W5.setCell ⟨wr.heap.size, 2, none⟩ (.int .i64 2)).setCell ⟨wr.heap.size, 3, none⟩ (.string x.data)).heap[wr.heap.size]? = some (.cells #[.string (tl v x.path), .int .i64 (x.stamp : Int), .int .i64 2, .string x.data] 83) := Go.heap_setCell_same _ _ 3 _ _ _ hGb
            have hGd : (((W5.setCell ⟨wr.heap.size, 2, none⟩ (.int .i64 2)).setCell ⟨wr.heap.size, 3, none⟩ (.string x.data)).alloc (.cells #[.int .i64 2, .string x.data] 52)).heap[wr.heap.size]? = some (.cells #[.string (tl v x.path), .int .i64 (x.stamp : Int), .int .i64 2, .string x.data] 83) := (Below.heap_alloc _ _ _ (by simp; omega)).trans hGc
            have hNa : (W5.alloc (.cells #[.int .i64 2, .string x.data] 52)).heap[wr.heap.size + 1]? = some (.cells #[.int .i64 2, .string x.data] 52) := by rw [← hs5]; exact heap_alloc_new _ _
            obtain ⟨g0, g1, g2, g3, g4⟩ := cells_fourS HG5.out
            obtain ⟨a0, a1, a2, a3, a4⟩ := cells_fourS hGa
            obtain ⟨n0, n1, n2⟩ := cells_twoS hNa
            have HGW := Lib.hid hGd
            have hbw6 : Below wr.heap.size wr (((W5.setCell ⟨wr.heap.size, 2, none⟩ (.int .i64 2)).setCell ⟨wr.heap.size, 3, none⟩ (.string x.data)).alloc (.cells #[.int .i64 2, .string x.data] 52)) := ((HBB5.out.setCell (Nat.le_refl _) _).setCell (Nat.le_refl _) _).alloc (by simp; omega) _
            have HBW6 := Lib.hid hbw6
            clear hGa hGb hGc hGd hNa hbw6
            have hsW : (((W5.setCell ⟨wr.heap.size, 2, none⟩ (.int .i64 2)).setCell ⟨wr.heap.size, 3, none⟩ (.string x.data)).alloc (.cells #[.int .i64 2, .string x.data] 52)).heap.size = (wr.heap.size + 1 + 1) := by simp [hs5]
            obtain ⟨d0, d1, d2, d3, d4⟩ := cells_fourS HGW.out
            have hot := HOt.out.below HBW6.out
            have hon := HOn.out.below HBW6.out
            have hB5 : Below w3.heap.size w3 (((W5.setCell ⟨wr.heap.size, 2, none⟩ (.int .i64 2)).setCell ⟨wr.heap.size, 3, none⟩ (.string x.data)).alloc (.cells #[.int .i64 2, .string x.data] 52)) := HB.out.trans (HBW6.out.mono hszr)
            have hs3 := hB5.size
            have hown : (((W5.setCell ⟨wr.heap.size, 2, none⟩ (.int .i64 2)).setCell ⟨wr.heap.size, 3, none⟩ (.string x.data)).alloc (.cells #[.int .i64 2, .string x.data] 52)).ownsRow w3.heap.size 54 3 u6 k ((((inside s v).map fun x => (⟨tl v x.path, nodeOf x⟩ : En.Et)).take k).flatMap En.cells) := by have := hot; unfold En.Own at this; rw [HL1.out] at this; exact this
            have hownN : (((W5.setCell ⟨wr.heap.size, 2, none⟩ (.int .i64 2)).setCell ⟨wr.heap.size, 3, none⟩ (.string x.data)).alloc (.cells #[.int .i64 2, .string x.data] 52)).ownsRow w3.heap.size 83 4 u7 k ((((inside s v).map (snI v)).take k).flatMap cellsN) := by have := hon; unfold OwnN at this; rw [HL2.out] at this; exact this
            go_wp2_with (at_builtin; refine wpList_append_own _ rfl _ _ 32 rfl w3.heap.size 54 iE (.agg #[.string ⟨#[]⟩, .int .i64 0, .string ⟨#[]⟩]) 3 40 Tryz.underlying32 hiE hzE0 hzE1 hzE2 rfl (by decide) _ _ _ rfl (hown.alloc _) ⟨(wr.heap.size + 1 + 1), 0, none⟩ 1 1 (En.cells ⟨tl v x.path, ⟨2, x.data⟩⟩) rfl rfl ?c1 ?c2 ?c3 ?c4 ?c5 ?_)
            case c1 =>
              rw [← hsW]
              exact En.cell_three_new _ _ _ _ _
            case c2 => exact En.cells_one _
            case c3 => unfold maxLen; omega
            case c4 => omega
            case c5 => simp; omega
            intro v6 w6 hown6 hgrow6 _
            have hB6 := below_step hB5 hown hgrow6
            have hG6 : w6.heap[wr.heap.size]? = some (.cells #[.string (tl v x.path), .int .i64 (x.stamp : Int), .int .i64 2, .string x.data] 83) := (hgrow6.block _ (by have := (Array.getElem?_eq_some_iff.1 HGW.out).1; simp; omega) (fun e => by have := HLO.out _ e.symm; omega)).trans ((Below.heap_alloc _ _ _ (Array.getElem?_eq_some_iff.1 HGW.out).1).trans HGW.out)
            have hownN6 := own_other (hownN.alloc (.cells #[.string (tl v x.path), .int .i64 2, .string x.data] 54)) (hown.alloc (.cells #[.string (tl v x.path), .int .i64 2, .string x.data] 54)) (by decide) hgrow6
            obtain ⟨f0, f1, f2, f3, f4⟩ := cells_fourS hG6
            have hs6 := hB6.size
            clear hsW
            have HOT6 : Hid (En.Own w6 w3.heap.size v6 (((inside s v).map fun x => (⟨tl v x.path, nodeOf x⟩ : En.Et)).take (k + 1))) := by
              show En.Own _ _ _ _
              rw [HT1.out, HND.out]
              unfold En.Own
              rw [List.length_append, HL1.out, List.flatMap_append]
              simpa using hown6
            have HG6 := Lib.hid hG6
            have HB6 := Lib.hid hB6
            clear d0 d1 d2 d3 d4 hot hon hB5 hown hownN hs3 hown6 hgrow6 hG6 hB6
            go_wp2_with (at_builtin; refine wpList_append_own _ rfl _ _ 28 rfl w3.heap.size 83 iN (.agg #[.string ⟨#[]⟩, .int .i64 0, .int .i64 0, .string ⟨#[]⟩]) 4 48 Tryz.underlying28 hiN hzN0 hzN1 hzN2 rfl (by decide) _ _ _ rfl (hownN6.alloc _) ⟨w6.heap.size, 0, none⟩ 1 1 (cellsN ⟨tl v x.path, x.stamp, ⟨2, x.data⟩⟩) rfl rfl ?e1 ?e2 ?e3 ?e4 ?e5 ?_)
            case e1 => exact cell_four _ _ _ _ _ _
            case e2 => exact cellsN_one _
            case e3 => unfold maxLen; omega
            case e4 => omega
            case e5 => simp; omega
            intro v7 w7 hown7 hgrow7 _
            have HB7 : Hid (Below w3.heap.size w3 w7) := below_step HB6.out hownN6 hgrow7
            have HOT7 : Hid (En.Own w7 w3.heap.size v6 (((inside s v).map fun x => (⟨tl v x.path, nodeOf x⟩ : En.Et)).take (k + 1))) := own_other (World.ownsRow.alloc HOT6.out _) (hownN6.alloc _) (by decide) hgrow7
            have HON7 : Hid (OwnN w7 w3.heap.size v7 (((inside s v).map (snI v)).take (k + 1))) := by
              show OwnN _ _ _ _
              have e : snI v x = ⟨tl v x.path, x.stamp, ⟨2, x.data⟩⟩ := by unfold snI; rw [HND.out]
              rw [HT2.out, e]
              unfold OwnN
              rw [List.length_append, HL2.out, List.flatMap_append]
              simpa using hown7
            clear f0 f1 f2 f3 f4 hownN6 hown7 hgrow7 hs6
            go_wp2_with fail
            go_roundw
            case rel => exact ⟨k + 1, by omega, by go_num, by rw [HCN2.out], HOT7, HON7, HB7⟩
            case measure => simp only [intOf]; omega
          | none =>
            rw [hfd] at hlook hkk
            simp only [Option.isSome_none] at hlook
            have HCN2 : Hid (cntK s v seen (k + 1) = CN + 1) := by
              have e := HC2.out
              rw [hkk] at e
              show _ = _
              rw [e, HCN.out]
              rfl
            have HST5 := Lib.hid (HCSD.out hdir)
            clear HCSD HC2 hkk hfd hK5
            have hGa : (W5.alloc (.cells #[.int .i64 0, .string ⟨#[]⟩] 52)).heap[wr.heap.size]? = some (.cells #[.string (tl v x.path), .int .i64 (x.stamp : Int), .int .i64 2, .string ⟨#[]⟩] 83) := (Below.heap_alloc _ _ _ (by omega)).trans HG5.out
            have hNa : (W5.alloc (.cells #[.int .i64 0, .string ⟨#[]⟩] 52)).heap[wr.heap.size + 1]? = some (.cells #[.int .i64 0, .string ⟨#[]⟩] 52) := by rw [← hs5]; exact heap_alloc_new _ _
            have hBa : Below wr.heap.size wr (W5.alloc (.cells #[.int .i64 0, .string ⟨#[]⟩] 52)) := HBB5.out.alloc HBB5.out.size _
            have hBWa : Below w.heap.size w (W5.alloc (.cells #[.int .i64 0, .string ⟨#[]⟩] 52)) := (HB3.out.trans (HB.out.mono hsz3)).trans (hBa.mono (Nat.le_trans hsz3 hszr))
            obtain ⟨g0, g1, g2, g3, g4⟩ := cells_fourS HG5.out
            have HGA := Lib.hid hGa
            have HNA := Lib.hid hNa
            have HBA := Lib.hid hBa
            have HBWA := Lib.hid hBWa
            have hsa : (W5.alloc (.cells #[.int .i64 0, .string ⟨#[]⟩] 52)).heap.size = W5.heap.size + 1 := by simp
            clear hGa hNa hBa hBWa
            go_wp2_with fail
            go_at_call 48
            refine (HST5.out _ HBWA.out).mono ?_
            rintro e W6 ⟨rfl, hb6⟩
            have hG6 := (hb6.block wr.heap.size (by rw [hsa]; omega)).trans HGA.out
            have hN6 := (hb6.block (wr.heap.size + 1) (by rw [hsa]; omega)).trans HNA.out
            have hB6 : Below wr.heap.size wr W6 := HBA.out.trans (hb6.mono HBA.out.size)
            obtain ⟨gn, hgn⟩ : ∃ gn, gn = wr.heap.size + 1 := ⟨_, rfl⟩
            have hgne : gn ≠ wr.heap.size := by omega
            have hgle : wr.heap.size ≤ gn := by omega
            rw [← hgn] at hN6 ⊢
            clear hb6 hsa hgn HGA HNA HBA HBWA g0 g1 g2 g3 g4 hlook
            have hN7 : (W6.setCell ⟨gn, 0, none⟩ (.int .i64 2)).heap[gn]? = some (.cells #[.int .i64 2, .string ⟨#[]⟩] 52) := Go.heap_setCell_same _ _ 0 _ _ _ hN6
            have hN8 : ((W6.setCell ⟨gn, 0, none⟩ (.int .i64 2)).setCell ⟨gn, 1, none⟩ (.string x.data)).heap[gn]? = some (.cells #[.int .i64 2, .string x.data] 52) := Go.heap_setCell_same _ _ 1 _ _ _ hN7
            have hG8 : ((W6.setCell ⟨gn, 0, none⟩ (.int .i64 2)).setCell ⟨gn, 1, none⟩ (.string x.data)).heap[wr.heap.size]? = some (.cells #[.string (tl v x.path), .int .i64 (x.stamp : Int), .int .i64 2, .string ⟨#[]⟩] 83) := (Below.heap_setCell _ ⟨gn, 1, none⟩ _ _ (fun e => hgne e.symm)).trans ((Below.heap_setCell _ ⟨gn, 0, none⟩ _ _ (fun e => hgne e.symm)).trans hG6)
            have hG9 : (((W6.setCell ⟨gn, 0, none⟩ (.int .i64 2)).setCell ⟨gn, 1, none⟩ (.string x.data)).setCell ⟨wr.heap.size, 2, none⟩ (.int .i64 2)).heap[wr.heap.size]? = some (.cells #[.string (tl v x.path), .int .i64 (x.stamp : Int), .int .i64 2, .string ⟨#[]⟩] 83) := Go.heap_setCell_same _ _ 2 _ _ _ hG8
            have hG10 : ((((W6.setCell ⟨gn, 0, none⟩ (.int .i64 2)).setCell ⟨gn, 1, none⟩ (.string x.data)).setCell ⟨wr.heap.size, 2, none⟩ (.int .i64 2)).setCell ⟨wr.heap.size, 3, none⟩ (.string x.data)).heap[wr.heap.size]? = some (.cells #[.string (tl v x.path), .int .i64 (x.stamp : Int), .int .i64 2, .string x.data] 83) := Go.heap_setCell_same _ _ 3 _ _ _ hG9
            obtain ⟨m0, m1, m2⟩ := cells_twoS hN6
            obtain ⟨n0, n1, n2⟩ := cells_twoS hN7
            obtain ⟨o0, o1, o2⟩ := cells_twoS hN8
            obtain ⟨p0, p1, p2, p3, p4⟩ := cells_fourS hG8
            obtain ⟨q0, q1, q2, q3, q4⟩ := cells_fourS hG9
            have HGW := Lib.hid hG10
            have HBW6 : Hid (Below wr.heap.size wr ((((W6.setCell ⟨gn, 0, none⟩ (.int .i64 2)).setCell ⟨gn, 1, none⟩ (.string x.data)).setCell ⟨wr.heap.size, 2, none⟩ (.int .i64 2)).setCell ⟨wr.heap.size, 3, none⟩ (.string x.data))) := (((hB6.setCell (p := ⟨gn, 0, none⟩) hgle _).setCell (p := ⟨gn, 1, none⟩) hgle _).setCell (Nat.le_refl _) _).setCell (Nat.le_refl _) _
            clear hN6 hN7 hN8 hG6 hG8 hG9 hG10 hB6
            have hsW : ((((W6.setCell ⟨gn, 0, none⟩ (.int .i64 2)).setCell ⟨gn, 1, none⟩ (.string x.data)).setCell ⟨wr.heap.size, 2, none⟩ (.int .i64 2)).setCell ⟨wr.heap.size, 3, none⟩ (.string x.data)).heap.size = W6.heap.size := by simp
            obtain ⟨d0, d1, d2, d3, d4⟩ := cells_fourS HGW.out
            have hot := HOt.out.below HBW6.out
            have hon := HOn.out.below HBW6.out
            have hB5 : Below w3.heap.size w3 ((((W6.setCell ⟨gn, 0, none⟩ (.int .i64 2)).setCell ⟨gn, 1, none⟩ (.string x.data)).setCell ⟨wr.heap.size, 2, none⟩ (.int .i64 2)).setCell ⟨wr.heap.size, 3, none⟩ (.string x.data)) := HB.out.trans (HBW6.out.mono hszr)
            have hs3 := hB5.size
            have hown : ((((W6.setCell ⟨gn, 0, none⟩ (.int .i64 2)).setCell ⟨gn, 1, none⟩ (.string x.data)).setCell ⟨wr.heap.size, 2, none⟩ (.int .i64 2)).setCell ⟨wr.heap.size, 3, none⟩ (.string x.data)).ownsRow w3.heap.size 54 3 u6 k ((((inside s v).map fun x => (⟨tl v x.path, nodeOf x⟩ : En.Et)).take k).flatMap En.cells) := by have := hot; unfold En.Own at this; rw [HL1.out] at this; exact this
            have hownN : ((((W6.setCell ⟨gn, 0, none⟩ (.int .i64 2)).setCell ⟨gn, 1, none⟩ (.string x.data)).setCell ⟨wr.heap.size, 2, none⟩ (.int .i64 2)).setCell ⟨wr.heap.size, 3, none⟩ (.string x.data)).ownsRow w3.heap.size 83 4 u7 k ((((inside s v).map (snI v)).take k).flatMap cellsN) := by have := hon; unfold OwnN at this; rw [HL2.out] at this; exact this
            go_wp2_with (at_builtin; refine wpList_append_own _ rfl _ _ 32 rfl w3.heap.size 54 iE (.agg #[.string ⟨#[]⟩, .int .i64 0, .string ⟨#[]⟩]) 3 40 Tryz.underlying32 hiE hzE0 hzE1 hzE2 rfl (by decide) _ _ _ rfl (hown.alloc _) ⟨W6.heap.size, 0, none⟩ 1 1 (En.cells ⟨tl v x.path, ⟨2, x.data⟩⟩) rfl rfl ?c1 ?c2 ?c3 ?c4 ?c5 ?_)
            case c1 =>
              rw [← hsW]
              exact En.cell_three_new _ _ _ _ _
            case c2 => exact En.cells_one _
            case c3 => unfold maxLen; omega
            case c4 => omega
            case c5 => simp; omega
            intro v6 w6 hown6 hgrow6 _
            have hB6 := below_step hB5 hown hgrow6
            have hG6 : w6.heap[wr.heap.size]? = some (.cells #[.string (tl v x.path), .int .i64 (x.stamp : Int), .int .i64 2, .string x.data] 83) := (hgrow6.block _ (by have := (Array.getElem?_eq_some_iff.1 HGW.out).1; simp; omega) (fun e => by have := HLO.out _ e.symm; omega)).trans ((Below.heap_alloc _ _ _ (Array.getElem?_eq_some_iff.1 HGW.out).1).trans HGW.out)
            have hownN6 := own_other (hownN.alloc (.cells #[.string (tl v x.path), .int .i64 2, .string x.data] 54)) (hown.alloc (.cells #[.string (tl v x.path), .int .i64 2, .string x.data] 54)) (by decide) hgrow6
            obtain ⟨f0, f1, f2, f3, f4⟩ := cells_fourS hG6
            have hs6 := hB6.size
            clear hsW
            have HOT6 : Hid (En.Own w6 w3.heap.size v6 (((inside s v).map fun x => (⟨tl v x.path, nodeOf x⟩ : En.Et)).take (k + 1))) := by
              show En.Own _ _ _ _
              rw [HT1.out, HND.out]
              unfold En.Own
              rw [List.length_append, HL1.out, List.flatMap_append]
              simpa using hown6
            have HG6 := Lib.hid hG6
            have HB6 := Lib.hid hB6
            clear d0 d1 d2 d3 d4 hot hon hB5 hown hownN hs3 hown6 hgrow6 hG6 hB6
            go_wp2_with (at_builtin; refine wpList_append_own _ rfl _ _ 28 rfl w3.heap.size 83 iN (.agg #[.string ⟨#[]⟩, .int .i64 0, .int .i64 0, .string ⟨#[]⟩]) 4 48 Tryz.underlying28 hiN hzN0 hzN1 hzN2 rfl (by decide) _ _ _ rfl (hownN6.alloc _) ⟨w6.heap.size, 0, none⟩ 1 1 (cellsN ⟨tl v x.path, x.stamp, ⟨2, x.data⟩⟩) rfl rfl ?e1 ?e2 ?e3 ?e4 ?e5 ?_)
            case e1 => exact cell_four _ _ _ _ _ _
            case e2 => exact cellsN_one _
            case e3 => unfold maxLen; omega
            case e4 => omega
            case e5 => simp; omega
            intro v7 w7 hown7 hgrow7 _
            have HB7 : Hid (Below w3.heap.size w3 w7) := below_step HB6.out hownN6 hgrow7
            have HOT7 : Hid (En.Own w7 w3.heap.size v6 (((inside s v).map fun x => (⟨tl v x.path, nodeOf x⟩ : En.Et)).take (k + 1))) := own_other (World.ownsRow.alloc HOT6.out _) (hownN6.alloc _) (by decide) hgrow7
            have HON7 : Hid (OwnN w7 w3.heap.size v7 (((inside s v).map (snI v)).take (k + 1))) := by
              show OwnN _ _ _ _
              have e : snI v x = ⟨tl v x.path, x.stamp, ⟨2, x.data⟩⟩ := by unfold snI; rw [HND.out]
              rw [HT2.out, e]
              unfold OwnN
              rw [List.length_append, HL2.out, List.flatMap_append]
              simpa using hown7
            clear f0 f1 f2 f3 f4 hownN6 hown7 hgrow7 hs6
            go_wp2_with fail
            go_roundw
            case rel => exact ⟨k + 1, by omega, by go_num, by rw [HCN2.out]; go_num, HOT7, HON7, HB7⟩
            case measure => simp only [intOf]; omega
      · have hkn : k = m := by omega
        have e2 : ¬ (k : Int) < (m : Int) := by omega
        have HA1 : Hid ((((inside s v).map fun x => (⟨tl v x.path, nodeOf x⟩ : En.Et)).take k) = (wkS s v).1) := by
          show _ = _
          rw [HSC.out, List.take_of_length_le (by rw [List.length_map, hkn]; exact Nat.le_of_eq HM.out.symm)]
        have HA2 : Hid ((((inside s v).map (snI v)).take k) = snS s v) := by
          show _ = _
          rw [HSN.out, List.take_of_length_le (by rw [List.length_map, hkn]; exact Nat.le_of_eq HM.out.symm)]
        have HA3 : Hid (cntK s v seen k = rdS s v seen) := by
          show _ = _
          unfold cntK rdS
          rw [HA2.out]
        clear hkn
        go_wp2_with fail
        refine bodyPost_ret (results_tmp4 rfl _ _ _) rfl ?_
        have ho := HOt.out
        have hn := HOn.out
        rw [HA1.out] at ho
        rw [HA2.out] at hn
        refine ⟨_, _, ?_, own_low ho hsz3, own_low hn hsz3, HB3.out.trans (HB.out.mono hsz3)⟩
        rw [HA3.out, HSC.out]
        rfl
  · obtain ⟨h1, h2, h3⟩ := wk_err (s := s) (v := v) (by unfold wkS; rw [if_pos he]; exact he)
    have HE : Hid (wkS s v = ([], err15 s v)) := by show _ = _; unfold wkS; rw [if_pos he]
    have H2 := Lib.hid h2
    have H3 := Lib.hid (h3 seen)
    have e1 : ¬ ((err15 s v : Nat) : Int) = 0 := by omega
    clear h lk stp hSn hz hgd h1 h2 h3 he
    go_enter Tryz.func11, Tryz.ntmps11
    go_wp2_with fail
    go_at_call 43
    refine cm.mono ?_
    rintro e w1 ⟨rfl, hb1⟩
    have HB1 := Lib.hid hb1
    clear cm hb1
    go_wp2_with fail
    refine bodyPost_ret (results_tmp4 rfl _ _ _) rfl ?_
    refine ⟨.slice none 0 0, .slice none 0 0, ?_, ?_, ?_, HB1.out⟩
    · rw [HE.out, H3.out]; rfl
    · rw [HE.out]; exact own_nilE _ _
    · rw [H2.out]; exact own_nilN _ _
set_option maxRecDepth 100000 in
set_option maxHeartbeats 2000000 in
theorem walk_any {b : Nat} {w : World} {F : Nat → Prop} {s : St} {v : ByteArray} (h : ImpAt b w F s) (lk : Lk s) (stp : Stp s) (hv : v.size ≤ 1048576) :
    Calls Tryz.prog 9 #[.pointer (some ⟨b, 0, none⟩), .string v] w (WkA (wkS s v) w) := by
  have cs := scan_any none 0 0 [] h lk stp hv (sns_nil _ _) (by omega) (good_none _ _) szn_nil
  clear h lk stp
  go_enter Tryz.func9, Tryz.ntmps9
  go_wp2_with fail
  go_at_call 11
  refine cs.mono ?_
  rintro e w1 ⟨v1, v2, rfl, h1, _, hb1⟩
  have H1 := Lib.hid h1
  clear h1 cs
  go_wp2_with fail
  go_ret2
  exact ⟨_, rfl, H1.out, hb1⟩
end Go.Proofs.YtdpnmdnfnplcfaaGreat.Sc

namespace Go.Proofs.YtdpnmdnfnplcfaaGreat.Sc
open Go.RowKit Tx Pm Pr Dk
set_option linter.unusedVariables false
def Oi (b : Nat) (w : World) (F : Nat → Prop) (s : St) : Prop := ImpAt b w F s ∧ Wf s.L ∧ Stp s
theorem oi_kind (b : Nat) : Kind (Oi b) where
  lt := fun h => (imp_kind b).lt h.1
  kept := fun h hk => ⟨(imp_kind b).kept h.1 hk, h.2⟩
theorem oi_does {b : Nat} {w w' : World} {F : Nat → Prop} {r : Nat × St} {e : Ending} (h : Does (ImpAt b) w F r e w') (hw : Wf r.2.L) (hs : Stp r.2) : Does (Oi b) w F r e w' := by
  obtain ⟨he, F', h1, h2, h3⟩ := h
  exact ⟨he, F', ⟨h1, hw, hs⟩, h2, h3⟩
theorem oi_turns (b : Nat) : Turns (Oi b) (.pointer (some ⟨b, 0, none⟩)) where
  kind := oi_kind b
  mkdir := fun P h hf hP => ((imp_turns b).mkdir P h.1 hf hP).mono fun e w' hd => oi_does hd (wf_mkdir P h.2.1) (h.2.2.keep (keeps_mkdir _ P))
  write := fun P Q h hf hP hQ => ((imp_turns b).write P Q h.1 hf hP hQ).mono fun e w' hd => oi_does hd (wf_write P Q h.2.1) (h.2.2.keep (keeps_write _ P Q))
  append := fun P Q h hf hP hQ => ((imp_turns b).append P Q h.1 hf hP hQ).mono fun e w' hd => oi_does hd (wf_append P Q h.2.1) (h.2.2.keep (keeps_append _ P Q))
  rename := fun P Q h hf hP hQ => ((imp_turns b).rename P Q h.1 hf hP hQ).mono fun e w' hd => oi_does hd (wf_rename P Q h.2.1) (h.2.2.keep (keeps_rename _ P Q))
  remove := fun P h hf hP => ((imp_turns b).remove P h.1 hf hP).mono fun e w' hd => oi_does hd (wf_remove P h.2.1) (h.2.2.keep (keeps_remove _ P))
  restart := fun M h hf hM => ((imp_turns b).restart M h.1 hf hM).mono fun e w' hd => oi_does hd (wf_restart M h.2.1) (h.2.2.keep (keeps_restart _ M))
  rot := fun P M h hf hP hM => ((imp_turns b).rot P M h.1 hf hP hM).mono fun e w' hd => oi_does hd (wf_rot P M h.2.1) (h.2.2.keep (keeps_rot _ P M))
theorem oi_new (w : World) : Calls Tryz.prog 5 #[] w fun e w' => ∃ b F, e = .returned (.pointer (some ⟨b, 0, none⟩)) ∧ Oi b w' F newS ∧ (∀ i, F i → w.heap.size ≤ i) ∧ Below w.heap.size w w' :=
  (ok_new w).mono fun e w' ⟨b, F, h1, h2, h3, h4⟩ => ⟨b, F, h1, ⟨h2, wf_nil, stp_new⟩, h3, h4⟩
theorem oi_impl : Impl Oi where
  turns := oi_turns
  new := oi_new
  walk := fun b {w F s i T} V h hf hV => walk_any h.1 ⟨hf.inv.ok hf.i hf.T, h.2.1, by have := hf.inv.len; have := hf.i; omega⟩ h.2.2 hV
  scan := fun b {w F s i T} V A m c seen h hf hV hS hm hg hz => scan_any A m c seen h.1 ⟨hf.inv.ok hf.i hf.T, h.2.1, by have := hf.inv.len; have := hf.i; omega⟩ h.2.2 hV hS hm hg hz
end Go.Proofs.YtdpnmdnfnplcfaaGreat.Sc

namespace Go.Proofs.YtdpnmdnfnplcfaaGreat.Ea
open Go.RowKit Tx En Ap
set_option linter.unusedVariables false
theorem own_frozen {w : World} {base g n cap size : Nat} {e : TypeId} {xs : List Value} (h : w.ownsRow base e size (.slice (some ⟨g, 0, none⟩) n cap) n xs) (k : Nat) : w.frozen? ⟨g, k, none⟩ = false := by
  rcases h.2 with ⟨h0, _⟩ | ⟨g', cap', cur, hv, _, hh, _⟩
  · cases h0
  · injection hv with hg
    injection hg with hg
    injection hg with hg
    subst hg
    simp [World.frozen?, hh]
theorem own_cell {w : World} {base g n cap size : Nat} {e : TypeId} {xs : List Value} (h : w.ownsRow base e size (.slice (some ⟨g, 0, none⟩) n cap) n xs) {k : Nat} {u : Value} (hk : xs[k]? = some u) : w.cell? ⟨g, k, none⟩ = some u := by
  have := h.cells (g := g) rfl k u hk
  rwa [WideShapes.add_plain, Nat.zero_add] at this
theorem own_put {w : World} {base g n cap size : Nat} {e : TypeId} {xs : List Value} (h : w.ownsRow base e size (.slice (some ⟨g, 0, none⟩) n cap) n xs) (k : Nat) (u : Value) :
    (w.setCell ⟨g, k, none⟩ u).ownsRow base e size (.slice (some ⟨g, 0, none⟩) n cap) n (xs.set k u) := by
  refine ⟨by rw [List.length_set]; exact h.1, ?_⟩
  rcases h.2 with ⟨h0, _⟩ | ⟨g', cap', cur, hv, hb, hh, hn, hc, hs, ht⟩
  · cases h0
  · injection hv with hg _ hcap
    injection hg with hg
    injection hg with hg
    subst hg
    subst hcap
    refine .inr ⟨g, cap, cur.setIfInBounds k u, rfl, hb, ?_, hn, hc, by simpa using hs, ?_⟩
    · simp [World.setCell, Array.getElem?_modify, hh]
    · rw [Array.toList_setIfInBounds, List.take_set, ht]
theorem own_far {w : World} {base n size : Nat} {e : TypeId} {v : Value} {xs : List Value} (h : w.ownsRow base e size v n xs) {g k : Nat} (hne : v.ownBlock ≠ some g) (u : Value) : (w.setCell ⟨g, k, none⟩ u).ownsRow base e size v n xs := by
  have hg : w.grownBy (w.setCell ⟨g, k, none⟩ u) (some g) := ⟨rfl, rfl, rfl, by simp [World.setCell], fun j _ hj => Below.heap_setCell w ⟨g, k, none⟩ u j (fun e => hj (by rw [e]))⟩
  exact h.kept hg (.inr hne)
theorem types_ne {w : World} {base b2 n n2 size size2 : Nat} {e e2 : TypeId} {v v2 : Value} {xs ys : List Value} (h : w.ownsRow base e size v n xs) (h2 : w.ownsRow b2 e2 size2 v2 n2 ys) (hne : e ≠ e2) {g : Nat} (hg : v.ownBlock = some g) : v2.ownBlock ≠ some g := by
  rcases h.2 with ⟨rfl, _⟩ | ⟨a, cap, cur, rfl, _, hh, _⟩
  · simp [Value.ownBlock] at hg
  · rcases h2.2 with ⟨rfl, _⟩ | ⟨a2, cap2, cur2, rfl, _, hh2, _⟩
    · simp [Value.ownBlock]
    · simp only [Value.ownBlock, Option.some.injEq] at hg ⊢
      subst hg
      intro he
      injection he with he
      subst he
      rw [hh] at hh2
      injection hh2 with hh2
      injection hh2 with _ ht
      exact hne ht
theorem flat_set : ∀ (l : List Et) (k : Nat) (x : Et), k < l.length → (((l.flatMap cells).set (k * 3) (.string x.path)).set (k * 3 + 1) (.int .i64 x.node.kind)).set (k * 3 + 1 + 1) (.string x.node.data) = (l.set k x).flatMap cells
  | [], k, x, h => by simp at h
  | y :: l, 0, x, h => by
    simp [cells]
  | y :: l, k + 1, x, h => by
    have ih := flat_set l k x (by simpa using h)
    have e1 : (k + 1) * 3 = (cells y).length + k * 3 := by show _ = 3 + _; omega
    rw [List.set_cons_succ, List.flatMap_cons, List.flatMap_cons, ← ih, e1]
    have hle : ∀ (q : Nat) (u : Value) (m : List Value), (cells y ++ m).set ((cells y).length + q) u = cells y ++ m.set q u := by
      intro q u m
      rw [List.set_append_right _ _ (by omega), Nat.add_sub_cancel_left]
    rw [hle, Nat.add_assoc, hle, Nat.add_assoc, hle]
theorem own_store {w : World} {base g n cap : Nat} {e : TypeId} {xs : List Et} (h : w.ownsRow base e 3 (.slice (some ⟨g, 0, none⟩) n cap) n (xs.flatMap cells)) {k : Nat} (hk : k < xs.length) (x : Et) :
    (((w.setCell ⟨g, k * 3, none⟩ (.string x.path)).setCell ⟨g, k * 3 + 1, none⟩ (.int .i64 x.node.kind)).setCell ⟨g, k * 3 + 1 + 1, none⟩ (.string x.node.data)).ownsRow base e 3 (.slice (some ⟨g, 0, none⟩) n cap) n ((xs.set k x).flatMap cells) := by
  rw [← flat_set xs k x hk]
  exact own_put (own_put (own_put h _ _) _ _) _ _
end Go.Proofs.YtdpnmdnfnplcfaaGreat.Ea
