import PyProof.Rows.All
import Wide.All
import OpenK.AllK
import Wide.FinOn
import HandS.ForMost
import HandS.Style
import HandS.IsInst
import HandS.Defaults
import PyProof.ReprRoads
import PyProof.ReprBulk
import PyProof.Rows.SortShellAny
import KE.GoesMore
import HandS.Conv
import HandS.SetFor
import HandS.Zip
import HandS.TupAny
import HandS.Deep
import KE.DataMinMax
import HandS.TupMul
import HandS.ForSpec
import HandS.ExcIs
import HandS.ExcField
import KE.KDictZip
import HandS.ExcValue
import HandS.Strs
import PySem.Challenge.RW_citylines_k24_stretches_spans_and_places
set_option Elab.async false
set_option linter.all false
set_option maxRecDepth 100000
set_option maxHeartbeats 2000000
/-! Dv: readings of pure code by data. G: the part of the heap that is data (never changed); B: what stood when the def began (but for a pot). -/
namespace Dv
open PySem L2
abbrev Fg := PySem.W.Frag
abbrev Dt := PyData
def Ex (H H' : Hp) : Prop := ∀ a o, H a = some o → H' a = some o
theorem Ex.refl (H : Hp) : Ex H H := fun _ _ h => h
theorem Ex.trans {H H1 H2 : Hp} (a : Ex H H1) (b : Ex H1 H2) : Ex H H2 := fun x o h => b x o (a x o h)
theorem Ex.new {H : Hp} {p : Addr} {o : HO} (h : H p = none) : Ex H (upd H p o) := fun a u e => by
  rw [upd_ne (ne_of_none e h)]; exact e
theorem Ex.mut {H H' : Hp} {p : Addr} {o : HO} (e : Ex H H') (h : H p = none) : Ex H (upd H' p o) := fun a u ha => by
  rw [upd_ne (ne_of_none ha h)]; exact e a u ha
theorem Ex.both {H H' : Hp} {p : Addr} {o : HO} (e : Ex H H') : Ex (upd H p o) (upd H' p o) := fun a u ha => by
  by_cases h : a = p
  · subst h; rw [upd_same] at ha ⊢; exact ha
  · rw [upd_ne h] at ha ⊢; exact e a u ha
theorem Ex.free {H H' : Hp} {p : Addr} (e : Ex H H') (h : H' p = none) : H p = none := by
  cases h1 : H p with
  | none => rfl
  | some o => rw [e p o h1] at h; cases h
theorem ex_rd {H H' : Hp} {a : Addr} {u : HO} (e : Ex H H') (h : Rd H a u) : Rd H' a u := by
  rcases h with h | ⟨o, h⟩
  · exact .inl (e a _ h)
  · exact .inr ⟨o, e a _ h⟩
theorem ex_l {K : Fg} {H H' : Hp} {a : Addr} {xs : List V} (e : Ex H H') (h : SqL K H a xs) : SqL K H' a xs := by
  rcases h with h | h
  · exact .inl (ex_rd e h)
  · exact .inr h
theorem ex_t {K : Fg} {H H' : Hp} {a : Addr} {xs : List V} (e : Ex H H') (h : SqT K H a xs) : SqT K H' a xs := by
  rcases h with h | h
  · exact .inl (ex_rd e h)
  · exact .inr h
/-- a list that is tracked or locked, or a plain list of the module -/
def SqX (K : Fg) (H : Hp) (a : Addr) (xs : List V) : Prop := Rd H a (.lst xs) ∨ ∃ (its : List Value) (n : Nat), K.lookup a = some { cls := .type "list", data := .seq its.toArray n } ∧ its.length ≤ sizeLine ∧ Vals xs its
theorem ex_x {K : Fg} {H H' : Hp} {a : Addr} {xs : List V} (e : Ex H H') (h : SqX K H a xs) : SqX K H' a xs := by
  rcases h with h | h
  · exact .inl (ex_rd e h)
  · exact .inr h
theorem sqx_l {K : Fg} {H : Hp} {a : Addr} {xs : List V} (h : SqX K H a xs) : SqL K H a xs := by
  rcases h with h | ⟨its, n, h1, h2, h3⟩
  · exact .inl h
  · exact .inr ⟨_, its.toArray, n, h1, rfl, rfl, rfl, by simpa using h2, by simpa using h3⟩
theorem exl {K : Fg} {H H' : Hp} {a : Addr} {xs : List V} (e : Ex H H') (h : SqX K H a xs) : SqL K H' a xs := sqx_l (ex_x e h)
/-! a value that reads as data; lists are tracked (or locked), tuples may stand in the written part -/
mutual
inductive Dz (K : Fg) (H : Hp) : V → PyData → Prop
  | non : Dz K H .non .none
  | bl (b : Bool) : Dz K H (.bl b) (.bool b)
  | int (i : Int) : Dz K H (.int i) (.int i)
  | str (x : Str) : Dz K H (.str x) (.str x)
  | lst {a : Addr} {xs : List V} {ds : List PyData} : SqX K H a xs → DzAll K H xs ds → Dz K H (.ref a) (.list ds)
  | tup {a : Addr} {xs : List V} {ds : List PyData} : SqT K H a xs → DzAll K H xs ds → Dz K H (.ref a) (.tuple ds)
  | dct {a : Addr} : Rd H a (.dK []) → Dz K H (.ref a) (.dict [])
inductive DzAll (K : Fg) (H : Hp) : List V → List PyData → Prop
  | nil : DzAll K H [] []
  | cons {v : V} {vs : List V} {d : PyData} {ds : List PyData} : Dz K H v d → DzAll K H vs ds → DzAll K H (v :: vs) (d :: ds)
end
mutual
theorem dz_dp {K : Fg} {H : Hp} : ∀ (d : PyData) (v : V), d.hasDict = false → Dz K H v d → Dp K H v d
  | .none, _, _, h => by cases h; exact .non
  | .bool b, _, _, h => by cases h; exact .bl b
  | .int i, _, _, h => by cases h; exact .int i
  | .str x, _, _, h => by cases h; exact .str x
  | .list ds, _, n, h => by
    cases h with
    | lst hs ha => exact .lst (sqx_l hs) (dzAll_dp ds _ (by simpa only [PyData.hasDict] using n) ha)
  | .tuple ds, _, n, h => by
    cases h with
    | tup hs ha => exact .tup hs (dzAll_dp ds _ (by simpa only [PyData.hasDict] using n) ha)
  | .dict _, _, n, _ => by simp [PyData.hasDict] at n
theorem dzAll_dp {K : Fg} {H : Hp} : ∀ (ds : List PyData) (vs : List V), PyData.hasDictAll ds = false → DzAll K H vs ds → DpAll K H vs ds
  | [], _, _, h => by cases h; exact .nil
  | d :: ds, _, n, h => by
    cases h with
    | cons h1 h2 =>
      simp only [PyData.hasDictAll, Bool.or_eq_false_iff] at n
      exact .cons (dz_dp d _ n.1 h1) (dzAll_dp ds _ n.2 h2)
end
theorem nds {d : PyData} (h : SeqAt.shaped d = true) : d.hasDict = false := PyData.hasDict_of_canLay d (SeqAt.canLay_of_shaped h)
section
variable {K : Fg} {H H' : Hp}
mutual
theorem dp_ex (e : Ex H H') : ∀ (d : Dt) (v : V), Dz K H v d → Dz K H' v d
  | .none, _, h => by cases h; exact .non
  | .bool b, _, h => by cases h; exact .bl b
  | .int i, _, h => by cases h; exact .int i
  | .str x, _, h => by cases h; exact .str x
  | .list ds, _, h => by
    cases h with
    | lst hs ha => exact .lst (ex_x e hs) (dpAll_ex e ds _ ha)
  | .tuple ds, _, h => by
    cases h with
    | tup hs ha => exact .tup (ex_t e hs) (dpAll_ex e ds _ ha)
  | .dict _, _, h => by
    cases h with
    | dct hr => exact .dct (ex_rd e hr)
theorem dpAll_ex (e : Ex H H') : ∀ (ds : List Dt) (vs : List V), DzAll K H vs ds → DzAll K H' vs ds
  | [], _, h => by cases h; exact .nil
  | d :: ds, _, h => by
    cases h with
    | cons h1 h2 => exact .cons (dp_ex e d _ h1) (dpAll_ex e ds _ h2)
end
theorem dpAll_length : ∀ {vs : List V} {ds : List Dt}, DzAll K H vs ds → vs.length = ds.length
  | _, [], h => by cases h; rfl
  | _, _ :: _, h => by
    cases h with
    | cons h1 h2 => rw [List.length_cons, List.length_cons, dpAll_length h2]
theorem dpAll_get : ∀ {vs : List V} {ds : List Dt} {i : Nat} {d : Dt}, DzAll K H vs ds → ds[i]? = some d → ∃ v, vs[i]? = some v ∧ Dz K H v d
  | _, [], _, _, _, e => by simp at e
  | _, _ :: _, 0, _, h, e => by
    cases h with
    | cons h1 h2 => simp at e; subst e; exact ⟨_, rfl, h1⟩
  | _, _ :: _, i + 1, d, h, e => by
    cases h with
    | cons h1 h2 =>
      obtain ⟨v, q1, q2⟩ := dpAll_get (i := i) (d := d) h2 (by simpa using e)
      exact ⟨v, by simpa using q1, q2⟩
theorem dpAll_get' : ∀ {vs : List V} {ds : List Dt} {i : Nat} {v : V}, DzAll K H vs ds → vs[i]? = some v → ∃ d, ds[i]? = some d ∧ Dz K H v d
  | _, [], _, _, h, e => by cases h; simp at e
  | _, _ :: _, 0, _, h, e => by
    cases h with
    | cons h1 h2 => simp at e; subst e; exact ⟨_, rfl, h1⟩
  | _, _ :: _, i + 1, v, h, e => by
    cases h with
    | cons h1 h2 =>
      obtain ⟨d, q1, q2⟩ := dpAll_get' (i := i) (v := v) h2 (by simpa using e)
      exact ⟨d, by simpa using q1, q2⟩
theorem dpAll_append : ∀ {vs ws : List V} {ds es : List Dt}, DzAll K H vs ds → DzAll K H ws es → DzAll K H (vs ++ ws) (ds ++ es)
  | _, _, [], _, h, g => by cases h; exact g
  | _, _, _ :: _, _, h, g => by
    cases h with
    | cons h1 h2 => exact .cons h1 (dpAll_append h2 g)
theorem dpAll_take : ∀ {vs : List V} {ds : List Dt} (n : Nat), DzAll K H vs ds → DzAll K H (vs.take n) (ds.take n)
  | _, _, 0, _ => by simpa using (.nil : DzAll K H [] [])
  | _, [], n + 1, h => by cases h; exact .nil
  | _, _ :: _, n + 1, h => by
    cases h with
    | cons h1 h2 => exact .cons h1 (dpAll_take n h2)
theorem dpAll_drop : ∀ {vs : List V} {ds : List Dt} (n : Nat), DzAll K H vs ds → DzAll K H (vs.drop n) (ds.drop n)
  | _, _, 0, h => h
  | _, [], n + 1, h => by cases h; exact .nil
  | _, _ :: _, n + 1, h => by
    cases h with
    | cons h1 h2 => exact dpAll_drop n h2
theorem dpAll_reverse : ∀ {vs : List V} {ds : List Dt}, DzAll K H vs ds → DzAll K H vs.reverse ds.reverse
  | _, [], h => by cases h; exact .nil
  | _, _ :: _, h => by
    cases h with
    | cons h1 h2 => rw [List.reverse_cons, List.reverse_cons]; exact dpAll_append (dpAll_reverse h2) (.cons h1 .nil)
theorem dpAll_ints : ∀ {vs : List V} {ns : List Int}, DzAll K H vs (ns.map PyData.int) → vs = ns.map V.int
  | _, [], h => by cases h; rfl
  | _, n :: ns, h => by
    cases h with
    | cons h1 h2 => cases h1; rw [dpAll_ints h2]; rfl
theorem dpAll_bools : ∀ {vs : List V} {ns : List Bool}, DzAll K H vs (ns.map PyData.bool) → vs = ns.map V.bl
  | _, [], h => by cases h; rfl
  | _, n :: ns, h => by
    cases h with
    | cons h1 h2 => cases h1; rw [dpAll_bools h2]; rfl
theorem dpAll_of_ints : ∀ (ns : List Int), DzAll K H (ns.map V.int) (ns.map PyData.int)
  | [] => .nil
  | n :: ns => .cons (.int n) (dpAll_of_ints ns)
end

/-! ### what the slots hold. p: the pot's address, if there is a pot -/
inductive En where
  | no | d (x : Dt) | own (ds : List Dt) | own2 (as : List Addr) (dss : List (List Dt)) | pot | rng (lo hi : Int)
abbrev De := List En
def potOk (a b : Int) : Prop := 0 ≤ a ∧ 0 ≤ b ∧ b ≤ 2147483588
def PotI (p : Option Addr) (B G H : Hp) : Prop := ∀ q, p = some q → B q = none ∧ G q = none ∧ ∃ a b, H q = some (.lst [.int a, .int b]) ∧ potOk a b
structure I3 (p : Option Addr) (B G H : Hp) : Prop where
  bh : Ex B H
  gh : Ex G H
  pot : PotI p B G H
/-- of the def's own alone: not there at its begin, no data, not the pot -/
def Fr (p : Option Addr) (B G : Hp) (a : Addr) : Prop := B a = none ∧ G a = none ∧ p ≠ some a
def En.isOwn : En → Prop
  | .own _ => True
  | .own2 _ _ => True
  | _ => False
def En.inner : En → List Addr
  | .own2 as _ => as
  | _ => []
/-- the addresses that a slot alone may write to -/
def Foot (e : En) (o : Option V) (a : Addr) : Prop := (e.isOwn ∧ o = some (.ref a)) ∨ a ∈ e.inner
def Slot (K : Fg) (p : Option Addr) (B G H : Hp) : En → Option V → Prop
  | .no, _ => True
  | .d x, o => ∃ v, o = some v ∧ Dz K G v x
  | .own ds, o => ∃ l xs, o = some (.ref l) ∧ B l = none ∧ G l = none ∧ p ≠ some l ∧ H l = some (.lst xs) ∧ DzAll K G xs ds
  | .own2 as dss, o => ∃ l, o = some (.ref l) ∧ Fr p B G l ∧ H l = some (.lst (as.map V.ref)) ∧ (l :: as).Nodup ∧ as.length = dss.length ∧ ∀ (i : Nat) a ds, as[i]? = some a → dss[i]? = some ds → Fr p B G a ∧ ∃ xs, H a = some (.lst xs) ∧ DzAll K G xs ds
  | .pot, o => ∃ q, o = some (.ref q) ∧ p = some q
  | .rng lo hi, o => ∃ a, o = some (.ref a) ∧ p ≠ some a ∧ H a = some (.rng lo hi)
structure EnvD (K : Fg) (p : Option Addr) (B G H : Hp) (σ : L2.St) (δ : De) : Prop where
  len : σ.length = δ.length
  slot : ∀ (i : Nat) en, δ[i]? = some en → ∃ o, σ[i]? = some o ∧ Slot K p B G H en o
  apart : ∀ (i j : Nat) e f oi oj a, i ≠ j → δ[i]? = some e → δ[j]? = some f → σ[i]? = some oi → σ[j]? = some oj → Foot e oi a → Foot f oj a → False
def del (p : Option Addr) (H : Hp) : Hp := fun a => if p = some a then none else H a
theorem del_none (H : Hp) : del none H = H := by funext a; unfold del; simp
theorem del_ne {p : Option Addr} {H : Hp} {a : Addr} (h : p ≠ some a) : del p H a = H a := by unfold del; rw [if_neg h]
theorem del_le {p : Option Addr} {H : Hp} {a : Addr} {o : HO} (h : del p H a = some o) : H a = some o ∧ p ≠ some a := by
  unfold del at h
  by_cases q : p = some a
  · rw [if_pos q] at h; cases h
  · rw [if_neg q] at h; exact ⟨h, q⟩
def Step (B G G' : Hp) : Prop := Ex G G' ∧ ∀ a, B a ≠ none → G a = none → G' a = none
theorem Step.refl (B G : Hp) : Step B G G := ⟨Ex.refl G, fun _ _ h => h⟩
theorem Step.trans {B G G1 G2 : Hp} (h : Step B G G1) (k : Step B G1 G2) : Step B G G2 := ⟨h.1.trans k.1, fun a b c => k.2 a b (h.2 a b c)⟩
theorem nn {o : Option HO} {u : HO} (h : o = some u) : o ≠ none := by rw [h]; intro z; cases z
theorem Step.le {B B' G G' : Hp} (h : Step B' G G') (e : ∀ a, B a ≠ none → B' a ≠ none) : Step B G G' := ⟨h.1, fun a b c => h.2 a (e a b) c⟩
/-- from (G, H) on: all but the pot stands; what is new in G' was not there -/
structure Nxt (p : Option Addr) (G H G' H' : Hp) : Prop where
  st : Step H G G'
  ex : Ex (del p H) H'
  gh : Ex G' H'
  pot : ∀ q, p = some q → ∃ a b, H' q = some (.lst [.int a, .int b]) ∧ potOk a b
theorem Nxt.dom {p : Option Addr} {G H G' H' : Hp} (n : Nxt p G H G' H') : ∀ a, H a ≠ none → H' a ≠ none := fun a h => by
  by_cases q : p = some a
  · obtain ⟨x, y, e, _⟩ := n.pot a q
    exact nn e
  · cases e : H a with
    | none => exact absurd e h
    | some o => exact nn (n.ex a o (by rw [del_ne q]; exact e))
theorem Nxt.exd {p : Option Addr} {G H G' H' : Hp} (n : Nxt p G H G' H') : Ex (del p H) (del p H') := fun a o h => by
  obtain ⟨_, q⟩ := del_le h
  rw [del_ne q]
  exact n.ex a o h
theorem Nxt.trans {p : Option Addr} {G H G1 H1 G2 H2 : Hp} (a : Nxt p G H G1 H1) (b : Nxt p G1 H1 G2 H2) : Nxt p G H G2 H2 :=
  ⟨a.st.trans (b.st.le a.dom), a.exd.trans b.ex, b.gh, b.pot⟩
theorem Nxt.refl {p : Option Addr} {B G H : Hp} (i : I3 p B G H) : Nxt p G H G H :=
  ⟨Step.refl _ _, fun a o h => (del_le h).1, i.gh, fun q e => (i.pot q e).2.2⟩
theorem I3.nxt {p : Option Addr} {B G H G' H' : Hp} (i : I3 p B G H) (n : Nxt p G H G' H') : I3 p B G' H' := by
  refine ⟨fun a o h => ?_, n.gh, fun q e => ?_⟩
  · have h1 := i.bh a o h
    by_cases q : p = some a
    · rw [(i.pot a q).1] at h; cases h
    · exact n.ex a o (by rw [del_ne q]; exact h1)
  · obtain ⟨h1, h2, x, y, h3, _⟩ := i.pot q e
    exact ⟨h1, n.st.2 q (nn h3) h2, n.pot q e⟩
/-- a new object, data or not -/
theorem Nxt.new {p : Option Addr} {B G H : Hp} (i : I3 p B G H) {a : Addr} (o : HO) (h : H a = none) : Nxt p G H (upd G a o) (upd H a o) := by
  refine ⟨⟨Ex.new (i.gh.free h), fun b hb hg => ?_⟩, fun b u hu => ?_, i.gh.both, fun q e => ?_⟩
  · have : b ≠ a := fun z => hb (z ▸ h)
    rw [upd_ne this]; exact hg
  · obtain ⟨h1, _⟩ := del_le hu
    rw [upd_ne (ne_of_none h1 h)]; exact h1
  · obtain ⟨_, _, x, y, h3, h4⟩ := i.pot q e
    exact ⟨x, y, by rw [upd_ne (ne_of_none h3 h)]; exact h3, h4⟩
theorem Nxt.newH {p : Option Addr} {B G H : Hp} (i : I3 p B G H) {a : Addr} (o : HO) (h : H a = none) : Nxt p G H G (upd H a o) := by
  refine ⟨Step.refl _ _, fun b u hu => ?_, i.gh.trans (Ex.new h), fun q e => ?_⟩
  · obtain ⟨h1, _⟩ := del_le hu
    rw [upd_ne (ne_of_none h1 h)]; exact h1
  · obtain ⟨_, _, x, y, h3, h4⟩ := i.pot q e
    exact ⟨x, y, by rw [upd_ne (ne_of_none h3 h)]; exact h3, h4⟩
theorem Slot.nxt {K : Fg} {p : Option Addr} {B G H G' H' : Hp} {en : En} {o : Option V} (h : Slot K p B G H en o) (n : Nxt p G H G' H') : Slot K p B G' H' en o := by
  cases en with
  | no => trivial
  | d x => obtain ⟨v, a, b⟩ := h; exact ⟨v, a, dp_ex n.st.1 _ _ b⟩
  | own ds => obtain ⟨l, xs, a, b, c, e, d, f⟩ := h; exact ⟨l, xs, a, b, n.st.2 l (nn d) c, e, n.ex _ _ (by rw [del_ne e]; exact d), dpAll_ex n.st.1 _ _ f⟩
  | own2 as dss =>
    obtain ⟨l, a, ⟨b1, b2, b3⟩, c, d, e, f⟩ := h
    refine ⟨l, a, ⟨b1, n.st.2 l (nn c) b2, b3⟩, n.ex _ _ (by rw [del_ne b3]; exact c), d, e, fun i x ds h1 h2 => ?_⟩
    obtain ⟨⟨k1, k2, k3⟩, xs, k4, k5⟩ := f i x ds h1 h2
    exact ⟨⟨k1, n.st.2 x (nn k4) k2, k3⟩, xs, n.ex _ _ (by rw [del_ne k3]; exact k4), dpAll_ex n.st.1 _ _ k5⟩
  | pot => exact h
  | rng lo hi => obtain ⟨a, b, c, d⟩ := h; exact ⟨a, b, c, n.ex _ _ (by rw [del_ne c]; exact d)⟩
theorem EnvD.nxt {K : Fg} {p : Option Addr} {B G H G' H' : Hp} {σ : L2.St} {δ : De} (h : EnvD K p B G H σ δ) (n : Nxt p G H G' H') : EnvD K p B G' H' σ δ :=
  ⟨h.len, fun i en q => let ⟨o, a, b⟩ := h.slot i en q; ⟨o, a, b.nxt n⟩, h.apart⟩
section
variable {K : Fg} {p : Option Addr} {B G H : Hp} {σ σ' : L2.St} {δ : De}
/-- what a slot may write to is there, and nobody else's -/
theorem foot_of {e : En} {o : Option V} {a : Addr} (h : Slot K p B G H e o) (f : Foot e o a) : Fr p B G a ∧ ∃ xs, H a = some (.lst xs) := by
  cases e with
  | no => rcases f with ⟨z, _⟩ | z <;> cases z
  | d x => rcases f with ⟨z, _⟩ | z <;> cases z
  | pot => rcases f with ⟨z, _⟩ | z <;> cases z
  | rng lo hi => rcases f with ⟨z, _⟩ | z <;> cases z
  | own ds =>
    obtain ⟨l, xs, e1, h1, h2, h3, h4, _⟩ := h
    rcases f with ⟨_, z⟩ | z
    · rw [e1] at z; cases z; exact ⟨⟨h1, h2, h3⟩, xs, h4⟩
    · cases z
  | own2 as dss =>
    obtain ⟨l, e1, h1, h2, _, h5, h6⟩ := h
    rcases f with ⟨_, z⟩ | z
    · rw [e1] at z; cases z; exact ⟨h1, _, h2⟩
    · obtain ⟨i, hi, ei⟩ := List.getElem_of_mem z
      have hi2 : i < dss.length := by rw [← h5]; exact hi
      obtain ⟨k1, xs, k2, _⟩ := h6 i a dss[i] (by rw [← ei]; exact List.getElem?_eq_getElem hi) (List.getElem?_eq_getElem hi2)
      exact ⟨k1, xs, k2⟩
/-- a slot is set -/
theorem EnvD.put (h : EnvD K p B G H σ δ) {i : Nat} {o : Option V} {en : En} (hv : Slot K p B G H en o) (ha : ∀ a, Foot en o a → ∀ (j : Nat) f oj, j ≠ i → δ[j]? = some f → σ[j]? = some oj → Foot f oj a → False) : EnvD K p B G H (σ.set i o) (δ.set i en) := by
  refine ⟨by rw [List.length_set, List.length_set]; exact h.len, fun j e q => ?_, fun j k e f oj ok a hjk q1 q2 r1 r2 f1 f2 => ?_⟩
  · by_cases hj : i = j
    · subst hj
      have hl : i < (δ.set i en).length := (List.getElem?_eq_some_iff.mp q).1
      rw [List.length_set] at hl
      rw [List.getElem?_set_self hl] at q
      cases q
      exact ⟨o, List.getElem?_set_self (by rw [h.len]; exact hl), hv⟩
    · rw [List.getElem?_set_ne hj] at q ⊢
      exact h.slot j e q
  · by_cases hj : i = j
    · subst hj
      have hl : i < (δ.set i en).length := (List.getElem?_eq_some_iff.mp q1).1
      rw [List.length_set] at hl
      rw [List.getElem?_set_self hl] at q1
      rw [List.getElem?_set_self (by rw [h.len]; exact hl)] at r1
      rw [List.getElem?_set_ne hjk] at q2 r2
      cases q1; cases r1
      exact ha a f1 k f ok (Ne.symm hjk) q2 r2 f2
    · by_cases hk : i = k
      · subst hk
        have hl : i < (δ.set i en).length := (List.getElem?_eq_some_iff.mp q2).1
        rw [List.length_set] at hl
        rw [List.getElem?_set_self hl] at q2
        rw [List.getElem?_set_self (by rw [h.len]; exact hl)] at r2
        rw [List.getElem?_set_ne hj] at q1 r1
        cases q2; cases r2
        exact ha a f2 j e oj hjk q1 r1 f1
      · rw [List.getElem?_set_ne hj] at q1 r1
        rw [List.getElem?_set_ne hk] at q2 r2
        exact h.apart j k e f oj ok a hjk q1 q2 r1 r2 f1 f2
theorem foot_no {o : Option V} {a : Addr} (h : Foot .no o a) : False := by rcases h with ⟨z, _⟩ | z <;> cases z
theorem foot_d {x : Dt} {o : Option V} {a : Addr} (h : Foot (.d x) o a) : False := by rcases h with ⟨z, _⟩ | z <;> cases z
theorem foot_pot {o : Option V} {a : Addr} (h : Foot .pot o a) : False := by rcases h with ⟨z, _⟩ | z <;> cases z
theorem EnvD.set (h : EnvD K p B G H σ δ) {i : Nat} {v : V} {x : Dt} (hv : Dz K G v x) : EnvD K p B G H (σ.set i (some v)) (δ.set i (.d x)) :=
  h.put (en := .d x) ⟨v, rfl, hv⟩ fun a z => (foot_d z).elim
theorem EnvD.wipe (h : EnvD K p B G H σ δ) (i : Nat) : EnvD K p B G H (σ.set i none) (δ.set i .no) := h.put (en := .no) (by trivial) fun a z => (foot_no z).elim
/-- a slot takes things that were not there before -/
theorem EnvD.putNew (h : EnvD K p B G H σ δ) {G' H' : Hp} (n : Nxt p G H G' H') {i : Nat} {o : Option V} {en : En} (hv : Slot K p B G' H' en o) (hf : ∀ a, Foot en o a → H a = none) : EnvD K p B G' H' (σ.set i o) (δ.set i en) :=
  (h.nxt n).put hv fun a fa j f oj hj q r fb => by
    obtain ⟨o2, e1, e2⟩ := h.slot j f q
    rw [r] at e1
    cases e1
    obtain ⟨_, xs, hx⟩ := foot_of e2 fb
    rw [hf a fa] at hx
    cases hx
theorem EnvD.putOwn (h : EnvD K p B G H σ δ) (i3 : I3 p B G H) {G' H' : Hp} {l : Addr} {xs : List V} {ds : List Dt} (n : Nxt p G H G' H') (h0 : H l = none) (g : G' l = none) (pl : p ≠ some l) (hl : H' l = some (.lst xs)) (ha : DzAll K G' xs ds) (i : Nat) :
    EnvD K p B G' H' (σ.set i (some (.ref l))) (δ.set i (.own ds)) := h.putNew n (en := .own ds) ⟨l, xs, rfl, i3.bh.free h0, g, pl, hl, ha⟩ fun a fa => by
  rcases fa with ⟨_, z⟩ | z
  · cases z; exact h0
  · cases z
/-- one slot's things are written to, and its reading is another one -/
theorem EnvD.write2 (h : EnvD K p B G H σ δ) {H' : Hp} {i : Nat} {e e' : En} {o : Option V} (hs : δ[i]? = some e) (hσ : σ[i]? = some o) (he : ∀ a, ¬ Foot e o a → H a ≠ none → H' a = H a) (hv : Slot K p B G H' e' o) (hf : ∀ a, Foot e' o a → Foot e o a ∨ ∀ (j : Nat) f oj, j ≠ i → δ[j]? = some f → σ[j]? = some oj → ¬ Foot f oj a) : EnvD K p B G H' σ (δ.set i e') := by
  have hil : i < δ.length := (List.getElem?_eq_some_iff.mp hs).1
  refine ⟨by rw [List.length_set]; exact h.len, fun j f qj => ?_, fun j k e1 f1 oj ok a hjk q1 q2 r1 r2 g1 g2 => ?_⟩
  · by_cases hj : i = j
    · subst hj
      rw [List.getElem?_set_self hil] at qj
      cases qj
      exact ⟨o, hσ, hv⟩
    · rw [List.getElem?_set_ne hj] at qj
      obtain ⟨o2, b1, b2⟩ := h.slot j f qj
      refine ⟨o2, b1, ?_⟩
      have same : ∀ a, Foot f o2 a → H' a = H a := fun a fa => he a (fun fb => h.apart i j e f o o2 a hj hs qj hσ b1 fb fa) (by obtain ⟨_, xs, hx⟩ := foot_of b2 fa; exact nn hx)
      cases f with
      | no => trivial
      | d y => exact b2
      | pot => exact b2
      | rng lo hi =>
        obtain ⟨a, c1, c2, c3⟩ := b2
        obtain ⟨oe, g1, g2⟩ := h.slot i e hs
        rw [hσ] at g1
        cases g1
        refine ⟨a, c1, c2, ?_⟩
        rw [he a (fun fe => by obtain ⟨_, xs, hx⟩ := foot_of g2 fe; rw [c3] at hx; cases hx) (nn c3)]
        exact c3
      | own fs =>
        obtain ⟨l2, zs, c1, c2, c3, c4, c5, c6⟩ := b2
        exact ⟨l2, zs, c1, c2, c3, c4, by rw [same l2 (.inl ⟨trivial, c1⟩)]; exact c5, c6⟩
      | own2 as dss =>
        obtain ⟨l2, c1, c2, c3, c4, c5, c6⟩ := b2
        refine ⟨l2, c1, c2, by rw [same l2 (.inl ⟨trivial, c1⟩)]; exact c3, c4, c5, fun n a ds k1 k2 => ?_⟩
        obtain ⟨m1, xs, m2, m3⟩ := c6 n a ds k1 k2
        exact ⟨m1, xs, by rw [same a (.inr (List.mem_of_getElem? k1))]; exact m2, m3⟩
  · by_cases hj : i = j
    · subst hj
      rw [List.getElem?_set_self hil] at q1
      rw [List.getElem?_set_ne hjk] at q2
      cases q1
      rw [hσ] at r1
      cases r1
      rcases hf a g1 with z | z
      · exact h.apart i k e f1 o ok a hjk hs q2 hσ r2 z g2
      · exact z k f1 ok (Ne.symm hjk) q2 r2 g2
    · rw [List.getElem?_set_ne hj] at q1
      by_cases hk : i = k
      · subst hk
        rw [List.getElem?_set_self hil] at q2
        cases q2
        rw [hσ] at r2
        cases r2
        rcases hf a g2 with z | z
        · exact h.apart j i e1 e oj o a hjk q1 hs r1 hσ g1 z
        · exact z j e1 oj hjk q1 r1 g1
      · rw [List.getElem?_set_ne hk] at q2
        exact h.apart j k e1 f1 oj ok a hjk q1 q2 r1 r2 g1 g2
theorem EnvD.write (h : EnvD K p B G H σ δ) {H' : Hp} {i : Nat} {e e' : En} {o : Option V} (hs : δ[i]? = some e) (hσ : σ[i]? = some o) (he : ∀ a, ¬ Foot e o a → H' a = H a) (hv : Slot K p B G H' e' o) (hf : ∀ a, Foot e' o a → Foot e o a) : EnvD K p B G H' σ (δ.set i e') :=
  h.write2 hs hσ (fun a na _ => he a na) hv fun a fa => .inl (hf a fa)
theorem EnvD.app (h : EnvD K p B G H σ δ) {i : Nat} {l : Addr} {ys : List V} {ds es : List Dt} (hs : δ[i]? = some (.own ds)) (h1 : σ[i]? = some (some (.ref l))) (ha : DzAll K G ys es) : EnvD K p B G (upd H l (.lst ys)) σ (δ.set i (.own es)) := by
  obtain ⟨o, q1, l2, xs, q2, b, g, pp, _, _⟩ := h.slot i _ hs
  rw [h1] at q1
  cases q1
  cases q2
  exact h.write hs h1 (fun a na => upd_ne fun z => na (.inl ⟨trivial, by rw [z]⟩)) (e' := .own es) ⟨l, ys, rfl, b, g, pp, upd_same, ha⟩ fun a fa => by
    rcases fa with ⟨_, z⟩ | z
    · exact .inl ⟨trivial, z⟩
    · cases z
/-- σ may be otherwise where δ says nothing -/
theorem EnvD.other (h : EnvD K p B G H σ δ) (hl : σ'.length = σ.length) (hs : ∀ (i : Nat) en, δ[i]? = some en → en ≠ .no → σ'[i]? = σ[i]?) : EnvD K p B G H σ' δ := by
  refine ⟨by rw [hl]; exact h.len, fun j en q => ?_, fun j k e f oj ok a hjk q1 q2 r1 r2 f1 f2 => ?_⟩
  · obtain ⟨o, a, b⟩ := h.slot j en q
    by_cases hn : en = .no
    · subst hn
      have hj : j < σ'.length := by rw [hl]; exact (List.getElem?_eq_some_iff.mp a).1
      exact ⟨σ'[j], List.getElem?_eq_getElem hj, trivial⟩
    · exact ⟨o, by rw [hs j en q hn]; exact a, b⟩
  · have n1 : e ≠ .no := fun z => by subst z; exact foot_no f1
    have n2 : f ≠ .no := fun z => by subst z; exact foot_no f2
    rw [hs j e q1 n1] at r1
    rw [hs k f q2 n2] at r2
    exact h.apart j k e f oj ok a hjk q1 q2 r1 r2 f1 f2
end
end Dv

set_option linter.all false
set_option maxRecDepth 100000
set_option maxHeartbeats 2000000
namespace Dv
open PySem L2
/-! ### the judgements -/
def rX (K : Fg) (δ : De) (R : Dt → Prop) : TE := fun σ H Q => ∃ p B G, I3 p B G H ∧ EnvD K p B G H σ δ ∧ ∀ v d G' H', R d → Nxt p G H G' H' → Dz K G' v d → Q v H'
def rA (K : Fg) (δ : De) (R : List Dt → Prop) : TA := fun σ H Q => ∃ p B G, I3 p B G H ∧ EnvD K p B G H σ δ ∧ ∀ vs ds G' H', R ds → Nxt p G H G' H' → DzAll K G' vs ds → Q vs H'
def rT (K : Fg) (δ : De) (R : Bool → Prop) : TT := fun σ H Q => ∃ p B G, I3 p B G H ∧ EnvD K p B G H σ δ ∧ ∀ c G' H', R c → Nxt p G H G' H' → Q c H'
def XD (X : Cx) (e : Expr) (δ : De) (R : Dt → Prop) : Prop := PE X e (rX X.K δ R)
structure XA (X : Cx) (es : List Expr) (δ : De) (R : List Dt → Prop) : Prop where
  pa : PA X es (rA X.K δ R)
  pl : starEach es X.env = es.map fun e => (false, eval e X.env)
theorem XA.he {X : Cx} {e : Expr} {es : List Expr} {δ : De} {R : List Dt → Prop} (h : XA X (e :: es) δ R) : starEach (e :: es) X.env = (false, eval e X.env) :: (es.map fun e => (false, eval e X.env)) := h.pl
theorem back_plain {X : Cx} {es : List Expr} {pos : Pos} (h : starEach es X.env = es.map fun e => (false, eval e X.env)) : (backTo pos (starEach es X.env)).any (·.1) = false := by
  rw [h]
  unfold backTo
  rw [List.map_map, List.any_map]
  exact List.any_eq_false.mpr fun e _ => by simp
def XT (X : Cx) (e : Expr) (δ : De) (R : Bool → Prop) : Prop := PT X e (rT X.K δ R)
def XW (X : Cx) (e : Expr) (δ : De) (R : Bool → Prop) : Prop := PW X e (rT X.K δ R)
abbrev PD (X : Cx) (e : Expr) (δ : De) (d : Dt) : Prop := XD X e δ (fun x => x = d)
abbrev PAD (X : Cx) (es : List Expr) (δ : De) (ds : List Dt) : Prop := XA X es δ (fun x => x = ds)
abbrev PTD (X : Cx) (e : Expr) (δ : De) (c : Bool) : Prop := XT X e δ (fun x => x = c)
abbrev PWD (X : Cx) (e : Expr) (δ : De) (c : Bool) : Prop := XW X e δ (fun x => x = c)

theorem PE.imp {X : Cx} {e : Expr} {t t' : TE} (h : PE X e t) (k : ∀ σ H Q, t' σ H Q → t σ H Q) : PE X e t' := ⟨fun pins s σ H Q I q => h.run pins s σ H Q I (k σ H Q q)⟩
theorem PA.imp {X : Cx} {e : List Expr} {t t' : TA} (h : PA X e t) (k : ∀ σ H Q, t' σ H Q → t σ H Q) : PA X e t' := ⟨fun pos pins s σ H Q I q => h.run pos pins s σ H Q I (k σ H Q q)⟩
theorem PT.imp {X : Cx} {e : Expr} {t t' : TT} (h : PT X e t) (k : ∀ σ H Q, t' σ H Q → t σ H Q) : PT X e t' := ⟨fun pins s σ H Q I q => h.run pins s σ H Q I (k σ H Q q)⟩
theorem PW.imp {X : Cx} {e : Expr} {t t' : TT} (h : PW X e t) (k : ∀ σ H Q, t' σ H Q → t σ H Q) : PW X e t' := ⟨fun w pins s σ H Q I q => h.run w pins s σ H Q I (k σ H Q q)⟩
theorem PS.imp {X : Cx} {e : Stmt} {t t' : TS} (h : PS X e t) (k : ∀ D σ H, t' D σ H → t D σ H) : PS X e t' := ⟨fun pins s σ H Q I q => h.run pins s σ H Q I (k Q σ H q)⟩
theorem PSs.imp {X : Cx} {e : List Stmt} {t t' : TS} (h : PSs X e t) (k : ∀ D σ H, t' D σ H → t D σ H) : PSs X e t' := ⟨fun pins s σ H Q I q => h.run pins s σ H Q I (k Q σ H q)⟩
section
variable {X : Cx} {a b c e : Expr} {es : List Expr} {δ : De} {pos : Pos} {R U1 U2 : Dt → Prop} {d x y : Dt} {ds : List Dt}
theorem XD.mono (h : XD X e δ U1) (k : ∀ d, U1 d → R d) : XD X e δ R := PE.imp h fun σ H Q ⟨p, B, G, i, en, q⟩ => ⟨p, B, G, i, en, fun v d G' H' r => q v d G' H' (k d r)⟩
theorem XT.mono {U1 R : Bool → Prop} (h : XT X e δ U1) (k : ∀ d, U1 d → R d) : XT X e δ R := PT.imp h fun σ H Q ⟨p, B, G, i, en, q⟩ => ⟨p, B, G, i, en, fun c G' H' r => q c G' H' (k c r)⟩
theorem XA.mono {U1 R : List Dt → Prop} (h : XA X es δ U1) (k : ∀ d, U1 d → R d) : XA X es δ R := ⟨PA.imp h.pa fun σ H Q ⟨p, B, G, i, en, q⟩ => ⟨p, B, G, i, en, fun v d G' H' r => q v d G' H' (k d r)⟩, h.pl⟩
theorem PD.is (h : PD X e δ x) (k : x = d) : PD X e δ d := k ▸ h
theorem pd_v (i : Nat) {x : Str} (hs : δ[i]? = some (.d d) := by rfl) (hN : X.N[i]? = some x := by rfl) (hv : Vis X.env.scope x := by first | exact Or.inl rfl | exact Or.inr (Or.inl rfl) | exact Or.inr (Or.inr rfl)) (hd : (x == ("__debug__" : Str)) = false := by decide)
    (hcd : (x == ("__classdict__" : Str)) = false := by decide) : PD X (.Name x pos) δ d := PE.imp (pe_var hN hv hd hcd) fun σ H Q ⟨p, B, G, i3, en, q⟩ => by
  obtain ⟨o, h1, v, rfl, h2⟩ := en.slot i _ hs
  exact ⟨v, h1, q v d G H rfl (.refl i3) h2⟩
theorem pd_int {i : Int} {j} : PD X (.Constant (.int i) j pos) δ (.int i) := PE.imp pe_int fun σ H Q ⟨p, B, G, i3, en, q⟩ => q _ _ G H rfl (.refl i3) (.int i)
theorem pd_bl {i : Bool} {j} : PD X (.Constant (.bool i) j pos) δ (.bool i) := PE.imp pe_bl fun σ H Q ⟨p, B, G, i3, en, q⟩ => q _ _ G H rfl (.refl i3) (.bl i)
theorem pd_str {i : Str} {j} : PD X (.Constant (.str i) j pos) δ (.str i) := PE.imp pe_str fun σ H Q ⟨p, B, G, i3, en, q⟩ => q _ _ G H rfl (.refl i3) (.str i)
theorem pd_non {j} : PD X (.Constant .none j pos) δ .none := PE.imp pe_non fun σ H Q ⟨p, B, G, i3, en, q⟩ => q _ _ G H rfl (.refl i3) .non
/-- a constant of the module -/
theorem pd_glob {x : Str} {v : V} {u : Value} (hg : Gl X x) (hm : X.mg x = some u) (r : RelV v u) (hv : ∀ G, Dz X.K G v d) (hd : (x == ("__debug__" : Str)) = false := by decide) : PD X (.Name x pos) δ d :=
  PE.imp (pe_glob hg hm r hd) fun σ H Q ⟨p, B, G, i3, en, q⟩ => q _ _ G H rfl (.refl i3) (hv G)
/-- two in a row -/
theorem two {U1 U2 : Dt → Prop} {K : Fg} {p : Option Addr} {B G H : Hp} {σ : L2.St} {Q : V → V → Hp → Prop} (i3 : I3 p B G H) (en : EnvD K p B G H σ δ)
    (k : ∀ v w d1 d2 G' H', U1 d1 → U2 d2 → Nxt p G H G' H' → I3 p B G' H' → Dz K G' v d1 → Dz K G' w d2 → Q v w H') : rX K δ U1 σ H fun v H1 => rX K δ U2 σ H1 fun w H2 => Q v w H2 :=
  ⟨p, B, G, i3, en, fun v d1 G1 H1 r1 n1 h1 => ⟨p, B, G1, i3.nxt n1, en.nxt n1, fun w d2 G2 H2 r2 n2 h2 => k v w d1 d2 G2 H2 r1 r2 (n1.trans n2) (i3.nxt (n1.trans n2)) (dp_ex n2.st.1 _ _ h1) h2⟩⟩
/-- what a relation of two values gives -/
def RD (K : Fg) (r : R2) (x y : Dt) (R : Dt → Prop) : Prop := ∀ p B G H v w, I3 p B G H → Dz K G v x → Dz K G w y → ∀ Q : VK, (∀ u d G' H', R d → Nxt p G H G' H' → Dz K G' u d → Q u H') → r v w H Q
theorem xd_op {op : Operator} {r : R2} (ho : OpR X (binaryOp op) r) (ha : XD X a δ U1) (hb : XD X b δ U2) (hr : ∀ x y, U1 x → U2 y → RD X.K r x y R) : XD X (.BinOp a op b pos) δ R :=
  PE.imp (pe_op ho ha hb) fun σ H Q ⟨p, B, G, i3, en, q⟩ => two i3 en fun v w d1 d2 G' H' r1 r2 n i' h1 h2 => hr d1 d2 r1 r2 p B G' H' v w i' h1 h2 Q fun u d G2 H2 rr n2 hu => q u d G2 H2 rr (n.trans n2) hu
theorem xd_cmp {op : CmpOp} {r : R2} (ho : OpR X (compareOp op) r) (ha : XD X a δ U1) (hb : XD X b δ U2) (hm : behindInMarks op b = false) (hr : ∀ x y, U1 x → U2 y → RD X.K r x y R) : XD X (.Compare a [op] [b] pos) δ R :=
  PE.imp (pe_cmpR ho ha hb hm) fun σ H Q ⟨p, B, G, i3, en, q⟩ => two i3 en fun v w d1 d2 G' H' r1 r2 n i' h1 h2 => hr d1 d2 r1 r2 p B G' H' v w i' h1 h2 Q fun u d G2 H2 rr n2 hu => q u d G2 H2 rr (n.trans n2) hu
theorem xd_ix {r : R2} (ho : IxR X r) (ha : XD X a δ U1) (hb : XD X b δ U2) (hs : PlainIx b) (hr : ∀ x y, U1 x → U2 y → RD X.K r x y R) : XD X (.Subscript a b pos) δ R :=
  PE.imp (pe_ix ho ha hb hs) fun σ H Q ⟨p, B, G, i3, en, q⟩ => two i3 en fun v w d1 d2 G' H' r1 r2 n i' h1 h2 => hr d1 d2 r1 r2 p B G' H' v w i' h1 h2 Q fun u d G2 H2 rr n2 hu => q u d G2 H2 rr (n.trans n2) hu
theorem rd_i {g : Int → Int → Int} {i j : Int} (hR : R (.int (g i j))) {K : Fg} : RD K (rI0 fun i j => .int (g i j)) (.int i) (.int j) R := by
  intro p B G H v w i3 h1 h2 Q q
  cases h1; cases h2
  exact ⟨i, j, rfl, rfl, q _ _ G H hR (.refl i3) (.int _)⟩
theorem rd_b {g : Int → Int → Bool} {i j : Int} (hR : R (.bool (g i j))) {K : Fg} : RD K (rI0 fun i j => .bl (g i j)) (.int i) (.int j) R := by
  intro p B G H v w i3 h1 h2 Q q
  cases h1; cases h2
  exact ⟨i, j, rfl, rfl, q _ _ G H hR (.refl i3) (.bl _)⟩
theorem rd_c {C : Int → Int → Prop} {g : Int → Int → Int} {i j : Int} (hc : C i j) (hR : R (.int (g i j))) {K : Fg} : RD K (rI C fun i j => .int (g i j)) (.int i) (.int j) R := by
  intro p B G H v w i3 h1 h2 Q q
  cases h1; cases h2
  exact ⟨i, j, rfl, rfl, hc, q _ _ G H hR (.refl i3) (.int _)⟩
variable {i j : Int}
theorem pd_add (ha : PD X a δ (.int i)) (hb : PD X b δ (.int j)) : PD X (.BinOp a .Add b pos) δ (.int (i + j)) := xd_op op_add ha hb fun x y e1 e2 => by subst e1; subst e2; (refine rd_i ?_; rfl)
theorem pd_sub (ha : PD X a δ (.int i)) (hb : PD X b δ (.int j)) : PD X (.BinOp a .Sub b pos) δ (.int (i - j)) := xd_op op_sub ha hb fun x y e1 e2 => by subst e1; subst e2; (refine rd_i ?_; rfl)
theorem pd_mul (ha : PD X a δ (.int i)) (hb : PD X b δ (.int j)) (hc : CMul i j) : PD X (.BinOp a .Mult b pos) δ (.int (i * j)) := xd_op op_mul ha hb fun x y e1 e2 => by subst e1; subst e2; (refine rd_c ?_ ?_; exact hc; rfl)
theorem pd_mod (ha : PD X a δ (.int i)) (hb : PD X b δ (.int j)) (hc : 0 < j) : PD X (.BinOp a .Mod b pos) δ (.int (i % j)) := xd_op op_mod ha hb fun x y e1 e2 => by subst e1; subst e2; (refine rd_c ?_ ?_; exact hc; rfl)
theorem pd_fdiv (ha : PD X a δ (.int i)) (hb : PD X b δ (.int j)) (hc : CDiv i j) : PD X (.BinOp a .FloorDiv b pos) δ (.int (i / j)) := xd_op op_fdiv ha hb fun x y e1 e2 => by subst e1; subst e2; (refine rd_c ?_ ?_; exact hc; rfl)
theorem pd_pow (ha : PD X a δ (.int i)) (hb : PD X b δ (.int j)) (hc : CPow i j) : PD X (.BinOp a .Pow b pos) δ (.int (i ^ j.toNat)) := xd_op op_pow ha hb fun x y e1 e2 => by subst e1; subst e2; (refine rd_c ?_ ?_; exact hc; rfl)
theorem pd_lt (ha : PD X a δ (.int i)) (hb : PD X b δ (.int j)) : PD X (.Compare a [.Lt] [b] pos) δ (.bool (decide (i < j))) := xd_cmp op_lt ha hb (nomark _) fun x y e1 e2 => by subst e1; subst e2; (refine rd_b ?_; rfl)
theorem pd_le (ha : PD X a δ (.int i)) (hb : PD X b δ (.int j)) : PD X (.Compare a [.LtE] [b] pos) δ (.bool (decide (i ≤ j))) := xd_cmp op_le ha hb (nomark _) fun x y e1 e2 => by subst e1; subst e2; (refine rd_b ?_; rfl)
theorem pd_gt (ha : PD X a δ (.int i)) (hb : PD X b δ (.int j)) : PD X (.Compare a [.Gt] [b] pos) δ (.bool (decide (j < i))) := xd_cmp op_gt ha hb (nomark _) fun x y e1 e2 => by subst e1; subst e2; (refine rd_b ?_; rfl)
theorem pd_ge (ha : PD X a δ (.int i)) (hb : PD X b δ (.int j)) : PD X (.Compare a [.GtE] [b] pos) δ (.bool (decide (j ≤ i))) := xd_cmp op_ge ha hb (nomark _) fun x y e1 e2 => by subst e1; subst e2; (refine rd_b ?_; rfl)
theorem pd_eqI (ha : PD X a δ (.int i)) (hb : PD X b δ (.int j)) : PD X (.Compare a [.Eq] [b] pos) δ (.bool (decide (i = j))) := xd_cmp op_eq ha hb (nomark _) fun x y e1 e2 => by
  subst e1; subst e2
  intro p B G H v w i3 h1 h2 Q q
  cases h1; cases h2
  refine ⟨rfl, q _ _ G H rfl (.refl i3) ?_⟩
  have : decide (V.int i = V.int j) = decide (i = j) := by rw [dec_int]; rfl
  rw [this]; exact .bl _
theorem pd_neI (ha : PD X a δ (.int i)) (hb : PD X b δ (.int j)) : PD X (.Compare a [.NotEq] [b] pos) δ (.bool (!decide (i = j))) := xd_cmp op_ne ha hb (nomark _) fun x y e1 e2 => by
  subst e1; subst e2
  intro p B G H v w i3 h1 h2 Q q
  cases h1; cases h2
  refine ⟨rfl, q _ _ G H rfl (.refl i3) ?_⟩
  have : decide (V.int i = V.int j) = decide (i = j) := by rw [dec_int]; rfl
  rw [this]; exact .bl _
theorem pd_eqS {i j : Str} (ha : PD X a δ (.str i)) (hb : PD X b δ (.str j)) : PD X (.Compare a [.Eq] [b] pos) δ (.bool (decide (i = j))) := xd_cmp op_eq ha hb (nomark _) fun x y e1 e2 => by
  subst e1; subst e2
  intro p B G H v w i3 h1 h2 Q q
  cases h1; cases h2
  refine ⟨rfl, q _ _ G H rfl (.refl i3) ?_⟩
  have : decide (V.str i = V.str j) = decide (i = j) := by by_cases h : i = j <;> simp [h]
  rw [this]; exact .bl _
theorem pd_neS {i j : Str} (ha : PD X a δ (.str i)) (hb : PD X b δ (.str j)) : PD X (.Compare a [.NotEq] [b] pos) δ (.bool (!decide (i = j))) := xd_cmp op_ne ha hb (nomark _) fun x y e1 e2 => by
  subst e1; subst e2
  intro p B G H v w i3 h1 h2 Q q
  cases h1; cases h2
  refine ⟨rfl, q _ _ G H rfl (.refl i3) ?_⟩
  have : decide (V.str i = V.str j) = decide (i = j) := by by_cases h : i = j <;> simp [h]
  rw [this]; exact .bl _
theorem pd_eqB {i j : Bool} (ha : PD X a δ (.bool i)) (hb : PD X b δ (.bool j)) : PD X (.Compare a [.Eq] [b] pos) δ (.bool (decide (i = j))) := xd_cmp op_eq ha hb (nomark _) fun x y e1 e2 => by
  subst e1; subst e2
  intro p B G H v w i3 h1 h2 Q q
  cases h1; cases h2
  refine ⟨rfl, q _ _ G H rfl (.refl i3) ?_⟩
  have : decide (V.bl i = V.bl j) = decide (i = j) := by by_cases h : i = j <;> simp [h]
  rw [this]; exact .bl _
theorem pd_neB {i j : Bool} (ha : PD X a δ (.bool i)) (hb : PD X b δ (.bool j)) : PD X (.Compare a [.NotEq] [b] pos) δ (.bool (!decide (i = j))) := xd_cmp op_ne ha hb (nomark _) fun x y e1 e2 => by
  subst e1; subst e2
  intro p B G H v w i3 h1 h2 Q q
  cases h1; cases h2
  refine ⟨rfl, q _ _ G H rfl (.refl i3) ?_⟩
  have : decide (V.bl i = V.bl j) = decide (i = j) := by by_cases h : i = j <;> simp [h]
  rw [this]; exact .bl _
/-- == and != of data -/
theorem pd_eqD (hu : X.A.units + 64 < cLine) (ha : PD X a δ x) (hb : PD X b δ y) (hx : SeqAt.shaped x = true) (hy : SeqAt.shaped y = true) : PD X (.Compare a [.Eq] [b] pos) δ (.bool (PyData.eqv x y)) := xd_cmp (op_eqD hu) ha hb (nomark _) fun x y e1 e2 => by
  subst e1; subst e2
  intro p B G H v w i3 h1 h2 Q q
  exact ⟨_, _, dz_dp _ _ (nds hx) (dp_ex i3.gh _ _ h1), dz_dp _ _ (nds hy) (dp_ex i3.gh _ _ h2), hx, hy, q _ _ G H rfl (.refl i3) (.bl _)⟩
theorem pd_neD (hu : X.A.units + 64 < cLine) (ha : PD X a δ x) (hb : PD X b δ y) (hx : SeqAt.shaped x = true) (hy : SeqAt.shaped y = true) : PD X (.Compare a [.NotEq] [b] pos) δ (.bool (!PyData.eqv x y)) := xd_cmp (op_neD hu) ha hb (nomark _) fun x y e1 e2 => by
  subst e1; subst e2
  intro p B G H v w i3 h1 h2 Q q
  exact ⟨_, _, dz_dp _ _ (nds hx) (dp_ex i3.gh _ _ h1), dz_dp _ _ (nds hy) (dp_ex i3.gh _ _ h2), hx, hy, q _ _ G H rfl (.refl i3) (.bl _)⟩
theorem pd_isN {c : Bool} (ha : PD X a δ x) (hb : PD X b δ .none) (hc : c = (match x with | .none => true | _ => false) := by rfl) : PD X (.Compare a [.Is] [b] pos) δ (.bool c) := xd_cmp op_isN ha hb (nomark _) fun x y e1 e2 => by
  subst e1; subst e2
  intro p B G H v w i3 h1 h2 Q q
  cases h2
  refine ⟨rfl, q _ _ G H rfl (.refl i3) ?_⟩
  subst hc
  cases h1 <;> exact .bl _
theorem pd_notN {c : Bool} (ha : PD X a δ x) (hb : PD X b δ .none) (hc : c = (match x with | .none => false | _ => true) := by rfl) : PD X (.Compare a [.IsNot] [b] pos) δ (.bool c) := xd_cmp op_notN ha hb (nomark _) fun x y e1 e2 => by
  subst e1; subst e2
  intro p B G H v w i3 h1 h2 Q q
  cases h2
  refine ⟨rfl, q _ _ G H rfl (.refl i3) ?_⟩
  subst hc
  cases h1 <;> exact .bl _
/-! places -/
theorem atI_all {K : Fg} {G : Hp} {xs : List V} {ds : List Dt} {i : Int} {d : Dt} (h : DzAll K G xs ds) (e : atI ds i = some d) : ∃ v, atI xs i = some v ∧ Dz K G v d := by
  unfold atI at e ⊢
  rw [← dpAll_length h] at e
  cases q : ixN xs.length i with
  | none => rw [q] at e; cases e
  | some j => rw [q] at e; exact dpAll_get h e
theorem rd_ixT {K : Fg} {i : Int} (h : ∃ d, atI ds i = some d ∧ R d) : RD K (rIxT K) (.tuple ds) (.int i) R := by
  intro p B G H v w i3 h1 h2 Q q
  cases h2
  cases h1 with
  | tup hs ha =>
    obtain ⟨d, e, hR⟩ := h
    obtain ⟨u, e1, e2⟩ := atI_all ha e
    exact ⟨_, _, i, u, rfl, rfl, ex_t i3.gh hs, e1, q u d G H hR (.refl i3) e2⟩
theorem rd_ixL {K : Fg} {i : Int} (h : ∃ d, atI ds i = some d ∧ R d) : RD K (rIxL K) (.list ds) (.int i) R := by
  intro p B G H v w i3 h1 h2 Q q
  cases h2
  cases h1 with
  | lst hs ha =>
    obtain ⟨d, e, hR⟩ := h
    obtain ⟨u, e1, e2⟩ := atI_all ha e
    exact ⟨_, _, i, u, rfl, rfl, exl i3.gh hs, e1, q u d G H hR (.refl i3) e2⟩
theorem pd_ixT (ha : PD X a δ (.tuple ds)) (hb : PD X b δ (.int i)) (h : atI ds i = some d) (hs : PlainIx b := by exact fun _ _ => rfl) : PD X (.Subscript a b pos) δ d := xd_ix ix_tup ha hb hs fun x y e1 e2 => by subst e1; subst e2; exact rd_ixT ⟨d, h, rfl⟩
theorem pd_ixL (ha : PD X a δ (.list ds)) (hb : PD X b δ (.int i)) (h : atI ds i = some d) (hs : PlainIx b := by exact fun _ _ => rfl) : PD X (.Subscript a b pos) δ d := xd_ix ix_list ha hb hs fun x y e1 e2 => by subst e1; subst e2; exact rd_ixL ⟨d, h, rfl⟩
/-! bool values, conditional expressions -/
theorem pd_not {c : Bool} (ha : PD X a δ (.bool c)) : PD X (.UnaryOp .Not a pos) δ (.bool (!c)) := PE.imp (pe_not ha) fun σ H Q ⟨p, B, G, i3, en, q⟩ => ⟨p, B, G, i3, en, fun v d G' H' r n h => by
  subst r; cases h; exact ⟨c, rfl, q _ _ G' H' rfl n (.bl _)⟩⟩
theorem pd_one {op} (h : XD X a δ R) : XD X (.BoolOp op [a] pos) δ R := pe_one h
theorem pd_and {rest : List Expr} {u w : Bool} (ha : PD X a δ (.bool u)) (hb : u = true → PD X (.BoolOp .And (b :: rest) pos) δ (.bool w)) : PD X (.BoolOp .And (a :: b :: rest) pos) δ (.bool (u && w)) := by
  cases u with
  | true => exact PE.imp (pe_and ha (hb rfl)) fun σ H Q ⟨p, B, G, i3, en, q⟩ => ⟨p, B, G, i3, en, fun v d G' H' r n h => by
      subst r; cases h
      exact ⟨true, rfl, iteT ⟨p, B, G', i3.nxt n, en.nxt n, fun v2 d2 G2 H2 r2 n2 h2 => by subst r2; exact q v2 _ G2 H2 rfl (n.trans n2) h2⟩⟩⟩
  | false =>
    have hz : PE X (.BoolOp .And (b :: rest) pos) (fun _ _ _ => False) := ⟨fun _ _ _ _ _ _ z => z.elim⟩
    exact PE.imp (pe_and ha hz) fun σ H Q ⟨p, B, G, i3, en, q⟩ => ⟨p, B, G, i3, en, fun v d G' H' r n h => by
      subst r; cases h
      exact ⟨false, rfl, iteF (q _ _ G' H' rfl n (.bl _))⟩⟩
theorem pd_or {rest : List Expr} {u w : Bool} (ha : PD X a δ (.bool u)) (hb : u = false → PD X (.BoolOp .Or (b :: rest) pos) δ (.bool w)) : PD X (.BoolOp .Or (a :: b :: rest) pos) δ (.bool (u || w)) := by
  cases u with
  | false => exact PE.imp (pe_or ha (hb rfl)) fun σ H Q ⟨p, B, G, i3, en, q⟩ => ⟨p, B, G, i3, en, fun v d G' H' r n h => by
      subst r; cases h
      exact ⟨false, rfl, iteF ⟨p, B, G', i3.nxt n, en.nxt n, fun v2 d2 G2 H2 r2 n2 h2 => by subst r2; exact q v2 _ G2 H2 rfl (n.trans n2) h2⟩⟩⟩
  | true =>
    have hz : PE X (.BoolOp .Or (b :: rest) pos) (fun _ _ _ => False) := ⟨fun _ _ _ _ _ _ z => z.elim⟩
    exact PE.imp (pe_or ha hz) fun σ H Q ⟨p, B, G, i3, en, q⟩ => ⟨p, B, G, i3, en, fun v d G' H' r n h => by
      subst r; cases h
      exact ⟨true, rfl, iteT (q _ _ G' H' rfl n (.bl _))⟩⟩
/-! tests -/
theorem xt_val {R : Bool → Prop} (h : XD X e δ fun d => ∃ c, d = .bool c ∧ R c) (he : ∀ whole, isTrue e X.env whole = (do let v ← whole; standAt e.pos; holding [v] (truthy v)) := by intro _; rfl) : XT X e δ R := PT.imp (pt_val h he) fun σ H Q ⟨p, B, G, i3, en, q⟩ =>
  ⟨p, B, G, i3, en, fun v d G' H' ⟨c, r, rc⟩ n hv => by subst r; cases hv; exact ⟨c, rfl, q c G' H' rc n⟩⟩
theorem pt_v {u : Bool} (h : PD X e δ (.bool u)) (he : ∀ whole, isTrue e X.env whole = (do let v ← whole; standAt e.pos; holding [v] (truthy v)) := by intro _; rfl) : PTD X e δ u := xt_val (h.mono fun d e => ⟨u, e, rfl⟩) he
theorem xt_cmp {op : CmpOp} {r : R2} {R : Bool → Prop} (ho : OpR X (compareOp op) r) (ha : XD X a δ U1) (hb : XD X b δ U2) (hm : behindInMarks op b = false) (hr : ∀ x y, U1 x → U2 y → RD X.K r x y fun d => ∃ c, d = .bool c ∧ R c) : XT X (.Compare a [op] [b] pos) δ R :=
  PT.imp (pt_cmpR ho ha hb hm) fun σ H Q ⟨p, B, G, i3, en, q⟩ => two i3 en fun v w d1 d2 G' H' r1 r2 n i' h1 h2 => hr d1 d2 r1 r2 p B G' H' v w i' h1 h2 _ fun u d G2 H2 ⟨c, rr, rc⟩ n2 hu => by
    subst rr; cases hu; exact ⟨c, rfl, q c G2 H2 rc (n.trans n2)⟩
theorem xt_not {R : Bool → Prop} (h : XT X e δ fun c => R (!c)) : XT X (.UnaryOp .Not e pos) δ R := PT.imp (pt_not h) fun σ H Q ⟨p, B, G, i3, en, q⟩ => ⟨p, B, G, i3, en, fun c G' H' r n => q _ G' H' r n⟩
theorem pt_n {u : Bool} (h : PTD X e δ u) : PTD X (.UnaryOp .Not e pos) δ (!u) := xt_not (h.mono fun c e => by rw [e])
theorem XW.pt {R : Bool → Prop} (h : XW X e δ R) : XT X e δ R := L2.PW.pt h
theorem pw_a1 {R : Bool → Prop} (h : XT X a δ R) : XW X (.BoolOp .And [a] pos) δ R := pw_and1 h
theorem pw_o1 {R : Bool → Prop} (h : XT X a δ R) : XW X (.BoolOp .Or [a] pos) δ R := pw_or1 h
theorem pw_a {rest : List Expr} {u w : Bool} (ha : PTD X a δ u) (hb : u = true → PWD X (.BoolOp .And (b :: rest) pos) δ w) : PWD X (.BoolOp .And (a :: b :: rest) pos) δ (u && w) := by
  cases u with
  | true => exact PW.imp (pw_and ha (hb rfl)) fun σ H Q ⟨p, B, G, i3, en, q⟩ => ⟨p, B, G, i3, en, fun c G' H' r n => by
      subst r
      exact iteT ⟨p, B, G', i3.nxt n, en.nxt n, fun c2 G2 H2 r2 n2 => by subst r2; exact q _ G2 H2 rfl (n.trans n2)⟩⟩
  | false =>
    have hz : PW X (.BoolOp .And (b :: rest) pos) (fun _ _ _ => False) := ⟨fun _ _ _ _ _ _ _ z => z.elim⟩
    exact PW.imp (pw_and ha hz) fun σ H Q ⟨p, B, G, i3, en, q⟩ => ⟨p, B, G, i3, en, fun c G' H' r n => by
      subst r
      exact iteF (q _ G' H' rfl n)⟩
theorem pw_o {rest : List Expr} {u w : Bool} (ha : PTD X a δ u) (hb : u = false → PWD X (.BoolOp .Or (b :: rest) pos) δ w) : PWD X (.BoolOp .Or (a :: b :: rest) pos) δ (u || w) := by
  cases u with
  | false => exact PW.imp (pw_or ha (hb rfl)) fun σ H Q ⟨p, B, G, i3, en, q⟩ => ⟨p, B, G, i3, en, fun c G' H' r n => by
      subst r
      exact iteF ⟨p, B, G', i3.nxt n, en.nxt n, fun c2 G2 H2 r2 n2 => by subst r2; exact q _ G2 H2 rfl (n.trans n2)⟩⟩
  | true =>
    have hz : PW X (.BoolOp .Or (b :: rest) pos) (fun _ _ _ => False) := ⟨fun _ _ _ _ _ _ _ z => z.elim⟩
    exact PW.imp (pw_or ha hz) fun σ H Q ⟨p, B, G, i3, en, q⟩ => ⟨p, B, G, i3, en, fun c G' H' r n => by
      subst r
      exact iteT (q _ G' H' rfl n)⟩
/-- conditional expressions -/
theorem xd_if {S : Bool → Prop} (hc : XT X c δ S) (ha : S true → XD X a δ R) (hb : S false → XD X b δ R) : XD X (.IfExp c a b pos) δ R := by
  have za : PE X a (fun σ H Q => S true ∧ rX X.K δ R σ H Q) := ⟨fun pins s σ H Q I h => (ha h.1).run pins s σ H Q I h.2⟩
  have zb : PE X b (fun σ H Q => S false ∧ rX X.K δ R σ H Q) := ⟨fun pins s σ H Q I h => (hb h.1).run pins s σ H Q I h.2⟩
  exact PE.imp (pe_ifExp hc za zb) fun σ H Q ⟨p, B, G, i3, en, q⟩ => ⟨p, B, G, i3, en, fun k G' H' r n => by
    cases k with
    | true => exact iteT ⟨r, p, B, G', i3.nxt n, en.nxt n, fun v d G2 H2 r2 n2 h2 => q v d G2 H2 r2 (n.trans n2) h2⟩
    | false => exact iteF ⟨r, p, B, G', i3.nxt n, en.nxt n, fun v d G2 H2 r2 n2 h2 => q v d G2 H2 r2 (n.trans n2) h2⟩⟩
theorem pd_if {k : Bool} (hc : PTD X c δ k) (ha : k = true → PD X a δ d) (hb : k = false → PD X b δ d) : PD X (.IfExp c a b pos) δ d := xd_if hc (fun h => ha h.symm) fun h => hb h.symm
/-! argument lists, displays -/
theorem xa_nil : XA X [] δ (fun ds => ds = []) := ⟨PA.imp pa_nil fun σ H Q ⟨p, B, G, i3, en, q⟩ => q [] [] G H rfl (.refl i3) .nil, rfl⟩
theorem xa_cons {S T : List Dt → Prop} (ha : XD X e δ R) (hr : XA X es δ S) (hT : ∀ d ds, R d → S ds → T (d :: ds)) (hs : starEach (e :: es) X.env = (false, eval e X.env) :: starEach es X.env := by rfl) : XA X (e :: es) δ T :=
  ⟨PA.imp (pa_cons ha hr.pa hs) fun σ H Q ⟨p, B, G, i3, en, q⟩ => ⟨p, B, G, i3, en, fun v d G1 H1 r1 n1 h1 => ⟨p, B, G1, i3.nxt n1, en.nxt n1, fun vs ds G2 H2 r2 n2 h2 => q (v :: vs) (d :: ds) G2 H2 (hT d ds r1 r2) (n1.trans n2) (.cons (dp_ex n2.st.1 _ _ h1) h2)⟩⟩, by rw [hs, hr.pl]; rfl⟩
theorem pa_n : PAD X [] δ [] := xa_nil
theorem pa_c (ha : PD X e δ d) (hr : PAD X es δ ds) (hs : starEach (e :: es) X.env = (false, eval e X.env) :: starEach es X.env := by rfl) : PAD X (e :: es) δ (d :: ds) := xa_cons ha hr (fun a b h1 h2 => by rw [h1, h2]) hs
theorem xd_tup {S : List Dt → Prop} {k} (h : XA X es δ S) (hl : es.length ≤ 1000) (hS : ∀ ds, S ds → R (.tuple ds) ∧ ds.length ≤ 100000) : XD X (.Tuple es k pos) δ R := PE.imp (pe_tup h.pa) fun σ H Q ⟨p, B, G, i3, en, q⟩ => ⟨p, B, G, i3, en, fun vs ds G' H' r n h' =>
  ⟨by rw [dpAll_length h']; exact Nat.le_trans (hS ds r).2 (by decide), fun a ha => q (.ref a) _ _ _ (hS ds r).1 (n.trans (.new (i3.nxt n) (.tup vs) ha)) (.tup (.inl (.inl upd_same)) (dpAll_ex (Ex.new ((i3.nxt n).gh.free ha)) _ _ h'))⟩⟩
theorem xd_lst {S : List Dt → Prop} (h : XA X es δ S) (hS : ∀ ds, S ds → R (.list ds) ∧ ds.length ≤ 100000) : XD X (.List es pos) δ R := PE.imp (pe_lst h.pa) fun σ H Q ⟨p, B, G, i3, en, q⟩ => ⟨p, B, G, i3, en, fun vs ds G' H' r n h' =>
  ⟨by rw [dpAll_length h']; exact Nat.le_trans (hS ds r).2 (by decide), fun a ha => q (.ref a) _ _ _ (hS ds r).1 (n.trans (.new (i3.nxt n) (.lst vs) ha)) (.lst (.inl (.inl upd_same)) (dpAll_ex (Ex.new ((i3.nxt n).gh.free ha)) _ _ h'))⟩⟩
theorem pd_tup {k} (h : PAD X es δ ds) (hl : ds.length ≤ 100000 := by first | decide | simp) : PD X (.Tuple es k pos) δ (.tuple ds) := PE.imp (pe_tup h.pa) fun σ H Q ⟨p, B, G, i3, en, q⟩ => ⟨p, B, G, i3, en, fun vs ds G' H' r n h' =>
  ⟨by rw [dpAll_length h', r]; exact Nat.le_trans hl (by decide), fun a ha => q (.ref a) _ _ _ (by rw [r]) (n.trans (.new (i3.nxt n) (.tup vs) ha)) (.tup (.inl (.inl upd_same)) (dpAll_ex (Ex.new ((i3.nxt n).gh.free ha)) _ _ h'))⟩⟩
theorem pd_lst (h : PAD X es δ ds) (hl : ds.length ≤ 100000 := by first | decide | simp) : PD X (.List es pos) δ (.list ds) := xd_lst h fun ds' e => by subst e; exact ⟨rfl, hl⟩
end
end Dv

set_option linter.all false
set_option maxRecDepth 100000
set_option maxHeartbeats 2000000
namespace Dv
open PySem PySem.Spec PyProof.Rows L2
/-! ### defs, where no repr is under way -/
structure FnG (P : Program) (w : World) (K : Fg) (mg : Str → Option Value) (base : Heap) (k : Nat) (f : Addr) (fd : FuncData) (ps : List Str) (sp : Sp) : Prop where
  len : ∀ vs H Q E, sp vs H Q E → vs.length = ps.length
  run : ∀ (A : Around) (outer : List Env) (s : Shared) (H : Hp) (args : Args) (us : List Value) (vs : List V) (Q : VK) (E : XK),
    Room k A → A.guards = some [] → Env0 P w K mg base A outer s H → BindsTo s fd args (ps.zip us) → Vals vs us → sp vs H Q E →
      codeAny (model P w) A (.call (.ref f) args) (CR CX0 outer P w H s Q E) s
section
variable {P : Program} {w : World} {K : Fg} {mg : Str → Option Value} {base : Heap}
abbrev xc (P : Program) (w : World) (K : Fg) (mg : Str → Option Value) (base : Heap) (N : List Str) (x : Str) (st : Stmt) (f : Addr) (cdv : Value) (A : Around) (outer : List Env) (s : Shared) (H : Hp) (E : XK) : Cx :=
  (cxOf CX0 P w K mg base N x (defScope st) f cdv A outer s H E).nox
theorem fnG_of {x : Str} {st : Stmt} {f : Addr} {fd : FuncData} {N ps : List Str} {k : Nat} {sp : Sp} (F : Fun K x x st f fd) (S : FnScope N ps (defScope st)) (len : ∀ vs H Q E, sp vs H Q E → vs.length = ps.length)
    (body : ∀ (cdv : Value) (A : Around) (outer : List Env) (s : Shared) (H : Hp) (vs : List V) (Q : VK) (E : XK), Room k (A.deeper (envOfC x (defScope st) s.heap.objs.size f cdv)) → A.guards = some [] → sp vs H Q E →
      ∃ t, PSs (xc P w K mg base N x st f cdv A outer s H E) (defBody st) t ∧ t { nx := fun _ H' => Q .non H', rt := Q } (start N vs) H) : FnG P w K mg base (k + 1) f fd ps sp := by
  obtain ⟨oc, od, kV, doc, pm, an, cdv, ct, osl, rfl, lk, hcd⟩ := F.ex
  refine ⟨len, fun A outer s H args us vs Q E hr hg e0 hb r hsp => ?_⟩
  have hl := len _ _ _ _ hsp
  have KX : K.In s.heap := e0.mod.kin.keeps fun b o e => (e0.bs b o e).1
  have lim : s.heap.NoLimit := e0.mod.nolimit.keeps fun b o e => (e0.bs b o e).1
  refine codeAny_call_function hr.depth (KX _ _ lk) rfl S.co S.gen rfl (PySem.W.codeRec_of KX hcd) (hb _ _ _ _ ?_)
  refine wpAny_newFunctionEnv_cells S.kind (fun ⟨n, v⟩ hy => ?_) fun env he s1 z => ?_
  · rcases S.par n (List.of_mem_zip hy).1 with q | q
    · exact .inl q
    · exact .inr ⟨q, PySem.W.cellsFrom_some _ _ _ (.inl q)⟩
  · subst he
    refine ⟨lim.keeps z.toInCall.keep, codeAny_func ?_⟩
    obtain ⟨t, ht, hq⟩ := body cdv A outer s H vs Q E (hr.deeper _) hg hsp
    have I : Inv (cxOf CX0 P w K mg base N x (defScope st) f cdv A outer s H E) [] (start N vs) H s1 := inv_start S hr.hd e0 hl r z
    refine wpAny_mono (ht.nox.run [] s1 (start N vs) H _ I hq) (fun fl s' hs => ?_) fun e s' hs => hs
    cases fl with
    | ret u => obtain ⟨v, σ', H', J, rv, q⟩ := hs; exact ⟨v, H', J.os, J.bare, J.base, J.hok, rv, q⟩
    | next => obtain ⟨σ', H', J, q⟩ := hs; exact ⟨V.non, H', J.os, J.bare, J.base, J.hok, rfl, q⟩
    | brk => obtain ⟨_, _, _, q⟩ := hs; exact False.elim q
    | cont => obtain ⟨_, _, _, q⟩ := hs; exact False.elim q
end
section
variable {X : Cx} {k n : Nat} {f : Addr} {fd : FuncData} {ps ks : List Str} {sp : Sp} {x : Str} {p pos : Pos} {e : Expr} {es : List Expr} {t tk : TA} {kws : List Keyword} {g : List Value → List Value → List Value} {gV : List V → List V → List V}
theorem fnG_end {pins : List (Addr × Obj)} {σ : L2.St} {H : Hp} {s s' : Shared} {Q : VK} {E : XK} {r : Result} (I : Inv X pins σ H s) (hq : CR CX0 X.stack X.prog X.w H s Q E r s') : match r with
    | .ok (.ret u) => EP X pins σ Q u s'
    | .ok _ => False
    | .error e => X.xe e s' := by
  cases r with
  | error e => exact False.elim hq
  | ok fl =>
    cases fl with
    | ret u => exact I.after hq
    | next => exact False.elim hq
    | brk => exact False.elim hq
    | cont => exact False.elim hq
theorem run_g {pins : List (Addr × Obj)} {σ : L2.St} {H : Hp} {s : Shared} {Q : VK} {us : List Value} {vs : List V} (F : FnG X.prog X.w X.K X.mg X.base k f fd ps sp) (hr : Room k X.A) (hgd : X.A.guards = some []) (hb : Binds X.K fd ps [])
    (I : Inv X pins σ H s) (r : Vals vs us) (h : sp vs H Q E0) : wpAny (model X.prog X.w) X.A (call (.ref f) us) (EP X pins σ Q) X.xe s := by
  have hl : (us ++ []).length = ps.length := by rw [List.append_nil, ← r.length]; exact F.len _ _ _ _ h
  have hb' := hb s us I.kIn hl
  rw [List.append_nil] at hb'
  refine wpAny_call (codeAny_mono (F.run X.A X.stack s H ⟨us, []⟩ us vs Q E0 hr hgd I.env0 hb' r h) fun r s' hq => ?_)
  have z := fnG_end I hq
  cases r with
  | error e => exact z
  | ok fl => cases fl <;> first | exact z | exact False.elim z
theorem pe_g (F : FnG X.prog X.w X.K X.mg X.base k f fd ps sp) (hr : Room k X.A) (hgd : X.A.guards = some []) (hg : Gl X x) (hm : X.mg x = some (.ref f)) (hk : PySem.W.keepIn X.K (.ref f) = true) (hb : Binds X.K fd ps [])
    (ha : PA X (e :: es) t) (hdb : (x == ("__debug__" : Str)) = false := by decide) (he : starEach (e :: es) X.env = (false, eval e X.env) :: starEach es X.env := by rfl) (hpl : (backTo pos (starEach es X.env)).any (·.1) = false := by rfl) :
    PE X (.Call (.Name x p) (e :: es) [] pos) (fun σ H Q => t σ H fun vs H1 => sp vs H1 Q E0) := by
  refine ⟨fun pins s σ H Q I h => ?_⟩
  refine wpAny_Call_Name_kw (ld_glob I hg hm ?_ hdb)
  refine PySem.W.callWith_K (h₀ := X.base) I.ok.mod.kin hk (thn (ha.run pos pins s σ H _ I h) fun us s1 ⟨vs, H1, I1, r, q⟩ => ⟨I1.kIn, ?_⟩) he hpl
  exact run_g F hr hgd hb I1 r q
theorem pe_g0 (F : FnG X.prog X.w X.K X.mg X.base k f fd ps sp) (hr : Room k X.A) (hgd : X.A.guards = some []) (hg : Gl X x) (hm : X.mg x = some (.ref f)) (hk : PySem.W.keepIn X.K (.ref f) = true) (hb : Binds X.K fd ps [])
    (hdb : (x == ("__debug__" : Str)) = false := by decide) : PE X (.Call (.Name x p) [] [] pos) (fun σ H Q => sp [] H Q E0) := by
  refine ⟨fun pins s σ H Q I h => ?_⟩
  refine wpAny_Call_Name_kw (ld_glob I hg hm ?_ hdb)
  exact PySem.W.callWith_K0 I.kIn hk (run_g (us := []) F hr hgd hb I .nil h)
end
end Dv

set_option linter.all false
set_option maxRecDepth 100000
set_option maxHeartbeats 2000000
namespace Dv
open PySem PySem.Spec PyProof.Rows L2
/-! ### what is walked -/
def Yld (K : Fg) (J : It) (G : Hp) (ds : List Dt) : Prop := ∀ p B G1 H1, Ex G G1 → I3 p B G1 H1 → ∀ i : Nat,
  (i < ds.length → J.go i H1 ∧ ∀ x H2, J.yld i H1 x H2 → ∃ G2 d, ds[i]? = some d ∧ Nxt p G1 H1 G2 H2 ∧ Dz K G2 x d) ∧ (i = ds.length → J.stop i H1)
def rI (K : Fg) (δ : De) (S : List Dt → Prop) : TI := fun σ H R => ∃ p B G, I3 p B G H ∧ EnvD K p B G H σ δ ∧ ∀ J ds G' H', S ds → Nxt p G H G' H' → Yld K J G' ds → R J H'
def XI (X : Cx) (tg e : Expr) (δ : De) (S : List Dt → Prop) : Prop := PI X tg e (rI X.K δ S)
abbrev ID (X : Cx) (tg e : Expr) (δ : De) (ds : List Dt) : Prop := XI X tg e δ (fun x => x = ds)
theorem PI.imp {X : Cx} {tg e : Expr} {t t' : TI} (h : PI X tg e t) (k : ∀ σ H Q, t' σ H Q → t σ H Q) : PI X tg e t' := ⟨fun pins s σ H Q I q => h.run pins s σ H Q I (k σ H Q q)⟩
theorem yld_list {K : Fg} {G : Hp} {a : Addr} {xs : List V} {ds : List Dt} (hs : SqX K G a xs) (ha : DzAll K G xs ds) (inj : ∀ H, Ex G H → ∀ ys, SqL K H a ys → True := by intros; trivial) : Yld K (Itl K a) G ds := by
  intro p B G1 H1 e i3 i
  have h1 : SqL K H1 a xs := exl (e.trans i3.gh) hs
  refine ⟨fun hi => ?_, fun hi => ⟨xs, h1, by rw [dpAll_length ha]; omega⟩⟩
  obtain ⟨v, hv, hd⟩ := dpAll_get (i := i) (d := ds[i]) ha (List.getElem?_eq_getElem hi)
  refine ⟨⟨xs, v, h1, hv⟩, fun x H2 ⟨e2, hx⟩ => ?_⟩
  subst e2
  have := hx xs h1
  rw [hv] at this
  cases this
  exact ⟨G1, ds[i], List.getElem?_eq_getElem hi, .refl i3, dp_ex e _ _ hd⟩
theorem yld_tup {K : Fg} {G : Hp} {a : Addr} {xs : List V} {ds : List Dt} (hs : SqT K G a xs) (ha : DzAll K G xs ds) : Yld K (Itt K a) G ds := by
  intro p B G1 H1 e i3 i
  have h1 : SqT K H1 a xs := ex_t (e.trans i3.gh) hs
  refine ⟨fun hi => ?_, fun hi => ⟨xs, h1, by rw [dpAll_length ha]; omega⟩⟩
  obtain ⟨v, hv, hd⟩ := dpAll_get (i := i) (d := ds[i]) ha (List.getElem?_eq_getElem hi)
  refine ⟨⟨xs, v, h1, hv⟩, fun x H2 ⟨e2, hx⟩ => ?_⟩
  subst e2
  have := hx xs h1
  rw [hv] at this
  cases this
  exact ⟨G1, ds[i], List.getElem?_eq_getElem hi, .refl i3, dp_ex e _ _ hd⟩
def rngD (lo : Int) (n : Nat) : List Dt := (List.range n).map fun i => .int (lo + (i : Nat))
theorem rngD_get {lo : Int} {n i : Nat} (h : i < n) : (rngD lo n)[i]? = some (.int (lo + (i : Nat))) := by
  unfold rngD
  rw [List.getElem?_map, List.getElem?_range h]; rfl
theorem rngD_length {lo : Int} {n : Nat} : (rngD lo n).length = n := by unfold rngD; rw [List.length_map, List.length_range]
theorem yld_rng {K : Fg} {G : Hp} {lo : Int} {n : Nat} : Yld K (Itr lo n) G (rngD lo n) := by
  intro p B G1 H1 e i3 i
  rw [rngD_length]
  refine ⟨fun hi => ⟨hi, fun x H2 ⟨e2, hx⟩ => ?_⟩, fun hi => Nat.le_of_eq hi.symm⟩
  subst e2; subst hx
  exact ⟨G1, _, rngD_get hi, .refl i3, .int _⟩
def enD (ds : List Dt) : List Dt := ds.zipIdx.map fun q => .tuple [.int ((q.2 : Nat) : Int), q.1]
theorem enD_length {ds : List Dt} : (enD ds).length = ds.length := by unfold enD; rw [List.length_map, List.length_zipIdx]
theorem enD_get {ds : List Dt} {i : Nat} {d : Dt} (h : ds[i]? = some d) : (enD ds)[i]? = some (.tuple [.int ((i : Nat) : Int), d]) := by
  unfold enD
  rw [List.getElem?_map, List.getElem?_zipIdx, h]
  simp
theorem yld_enum {K : Fg} {G : Hp} {a : Addr} {xs : List V} {ds : List Dt} (hs : SqX K G a xs) (ha : DzAll K G xs ds) : Yld K (Ite K a) G (enD ds) := by
  intro p B G1 H1 e i3 i
  rw [enD_length]
  have h1 : SqL K H1 a xs := exl (e.trans i3.gh) hs
  refine ⟨fun hi => ?_, fun hi => ⟨xs, h1, by rw [dpAll_length ha]; omega⟩⟩
  obtain ⟨v, hv, hd⟩ := dpAll_get (i := i) (d := ds[i]) ha (List.getElem?_eq_getElem hi)
  refine ⟨⟨xs, v, h1, hv⟩, fun x H2 ⟨T, z, e1, hT, e2, hx⟩ => ?_⟩
  subst e1; subst e2
  have := hx xs h1
  rw [hv] at this
  cases this
  exact ⟨_, _, enD_get (List.getElem?_eq_getElem hi), .new i3 _ hT, .tup (.inl (.inl upd_same)) (.cons (.int _) (.cons (dp_ex (e.trans (Ex.new (i3.gh.free hT))) _ _ hd) .nil))⟩
section
variable {X : Cx} {tg e a b : Expr} {es : List Expr} {δ : De} {ds : List Dt} {p pos tpos : Pos} {S : List Dt → Prop} {R : Dt → Prop}
theorem xi_list (h : XD X e δ fun d => ∃ ds, d = .list ds ∧ S ds) : XI X tg e δ S := PI.imp (pi_list h) fun σ H Q ⟨p, B, G, i3, en, q⟩ => ⟨p, B, G, i3, en, fun v d G' H' ⟨ds, e1, s⟩ n hv => by
  subst e1
  cases hv with
  | lst hs ha => exact ⟨_, rfl, ⟨_, exl n.gh hs⟩, q _ ds G' H' s n (yld_list hs ha)⟩⟩
theorem xi_tup (h : XD X e δ fun d => ∃ ds, d = .tuple ds ∧ S ds) : XI X tg e δ S := PI.imp (pi_tup h) fun σ H Q ⟨p, B, G, i3, en, q⟩ => ⟨p, B, G, i3, en, fun v d G' H' ⟨ds, e1, s⟩ n hv => by
  subst e1
  cases hv with
  | tup hs ha => exact ⟨_, rfl, ⟨_, ex_t n.gh hs⟩, q _ ds G' H' s n (yld_tup hs ha)⟩⟩
theorem i_list (h : PD X e δ (.list ds)) : ID X tg e δ ds := xi_list (h.mono fun d e => ⟨ds, e, rfl⟩)
theorem i_tup (h : PD X e δ (.tuple ds)) : ID X tg e δ ds := xi_tup (h.mono fun d e => ⟨ds, e, rfl⟩)
theorem i_rng1 {j : Int} (h : PAD X [e] δ [.int j]) (hm : X.mg "range" = none) (hj : -(2 ^ 62) ≤ j ∧ j < 2 ^ 62) (hg : Gl X "range" := by rfl) : ID X tg (.Call (.Name "range" p) [e] [] pos) δ (rngD 0 j.toNat) :=
  PI.imp (pi_range1 hg hm h.pa h.pl) fun σ H Q ⟨p, B, G, i3, en, q⟩ => ⟨p, B, G, i3, en, fun v d G' H' r n hv => by
    subst r
    cases hv with
    | cons h1 h2 => cases h2; cases h1; exact ⟨j, rfl, hj.1, hj.2, q _ _ G' H' rfl n yld_rng⟩⟩
theorem i_rng2 {i j : Int} (h : PAD X [a, b] δ [.int i, .int j]) (hm : X.mg "range" = none) (hj : (-(2 ^ 62) ≤ i ∧ i < 2 ^ 62 ∧ -(2 ^ 62) ≤ j ∧ j < 2 ^ 62)) (hg : Gl X "range" := by rfl) (hs2 : starEach [b] X.env = [(false, eval b X.env)] := by rfl) : ID X tg (.Call (.Name "range" p) [a, b] [] pos) δ (rngD i (j - i).toNat) :=
  PI.imp (pi_range2 hg hm h.pa h.pl hs2) fun σ H Q ⟨p, B, G, i3, en, q⟩ => ⟨p, B, G, i3, en, fun v d G' H' r n hv => by
    subst r
    cases hv with
    | cons h1 h2 => cases h2 with
      | cons h2 h3 => cases h3; cases h1; cases h2; exact ⟨i, j, rfl, hj, q _ _ G' H' rfl n yld_rng⟩⟩
theorem i_enum {elts : List Expr} {kk : Nat} (h : PAD X [e] δ [.list ds]) (hm : X.mg "enumerate" = none) (hg : Gl X "enumerate" := by rfl) : ID X (.Tuple elts kk tpos) (.Call (.Name "enumerate" p) [e] [] pos) δ (enD ds) :=
  PI.imp (pi_enum hg hm h.pa h.pl) fun σ H Q ⟨p, B, G, i3, en, q⟩ => ⟨p, B, G, i3, en, fun v d G' H' r n hv => by
    subst r
    cases hv with
    | cons h1 h2 => cases h2; cases h1 with
      | lst hs ha => exact ⟨_, _, rfl, exl n.gh hs, q _ _ G' H' rfl n (yld_enum hs ha)⟩⟩
end

/-! ### targets: js, the slots that are set -/
def rG (K : Fg) (js : List Nat) (d : Dt) (δ δ' : De) : TG := fun v σ H Q => ∃ p B G, I3 p B G H ∧ EnvD K p B G H σ δ ∧ Dz K G v d ∧ ∀ σ', EnvD K p B G H σ' δ' → σ'.length = σ.length ∧ (∀ i, i ∉ js → σ'[i]? = σ[i]?) → Q σ' H
def rGs (K : Fg) (js : List Nat) (ds : List Dt) (δ δ' : De) : TGs := fun vs σ H Q => ∃ p B G, I3 p B G H ∧ EnvD K p B G H σ δ ∧ DzAll K G vs ds ∧ ∀ σ', EnvD K p B G H σ' δ' → σ'.length = σ.length ∧ (∀ i, i ∉ js → σ'[i]? = σ[i]?) → Q σ' H
def TgD (X : Cx) (tg : Expr) (js : List Nat) (d : Dt) (δ δ' : De) : Prop := PG X tg (rG X.K js d δ δ')
def TgsD (X : Cx) (tg : List Expr) (js : List Nat) (d : List Dt) (δ δ' : De) : Prop := PGs X tg (rGs X.K js d δ δ')
theorem PG.imp {X : Cx} {tg : Expr} {t t' : TG} (h : PG X tg t) (k : ∀ v σ H Q, t' v σ H Q → t v σ H Q) : PG X tg t' := ⟨fun pins s σ H v u Q I r q => h.run pins s σ H v u Q I r (k v σ H Q q)⟩
theorem PGs.imp {X : Cx} {tg : List Expr} {t t' : TGs} (h : PGs X tg t) (k : ∀ v σ H Q, t' v σ H Q → t v σ H Q) : PGs X tg t' := ⟨fun pins s σ H v u Q I r q => h.run pins s σ H v u Q I r (k v σ H Q q)⟩
section
variable {X : Cx} {pos : Pos} {δ δ1 δ2 : De} {d : Dt} {ds : List Dt} {js ks : List Nat}
theorem tg_name (i : Nat) {x : Str} (hN : X.N.Nodup) (hi : X.N[i]? = some x := by rfl) (hx : Loc X.env.scope x := by first | exact Or.inl rfl | exact Or.inr rfl) (hf : X.fn x = true ∨ X.env.scope.names.lookup x = some .local := by first | exact .inl rfl | exact .inr rfl | assumption) : TgD X (.Name x pos) [i] d δ (δ.set i (.d d)) :=
  PG.imp (pg_name hN hi hx hf) fun v σ H Q ⟨p, B, G, i3, en, hv, q⟩ => q _ (en.set hv) ⟨by rw [List.length_set], fun j hj => by
    have : i ≠ j := fun e => hj (by simp [e])
    rw [List.getElem?_set_ne this]⟩
theorem tgs_nil : TgsD X [] [] [] δ δ := PGs.imp pgs_nil fun v σ H Q ⟨p, B, G, i3, en, hv, q⟩ => by
  cases hv
  exact ⟨rfl, q σ en ⟨rfl, fun _ _ => rfl⟩⟩
theorem tgs_cons {e : Expr} {es : List Expr} (h1 : TgD X e js d δ δ1) (h2 : TgsD X es ks ds δ1 δ2) (hs : (assignEach (e :: es) X.env).map (·.2) = assign e X.env :: (assignEach es X.env).map (·.2) := by rfl) : TgsD X (e :: es) (js ++ ks) (d :: ds) δ δ2 :=
  PGs.imp (pgs_cons h1 h2 hs) fun v σ H Q ⟨p, B, G, i3, en, hv, q⟩ => by
    cases hv with
    | cons a b =>
      refine ⟨_, _, rfl, p, B, G, i3, en, a, fun σ1 en1 ⟨l1, k1⟩ => ⟨p, B, G, i3, en1, b, fun σ2 en2 ⟨l2, k2⟩ => q σ2 en2 ⟨l2.trans l1, fun i hi => ?_⟩⟩⟩
      rw [List.mem_append, not_or] at hi
      rw [k2 i hi.2, k1 i hi.1]
theorem tg_tup {es : List Expr} {k : Nat} (hc : X.calm = true) (h : TgsD X es js ds δ δ1) (hn : (assignEach es X.env).length = ds.length := by rfl) (hst : (assignEach es X.env).findIdx? (·.1) = none := by rfl) : TgD X (.Tuple es k pos) js (.tuple ds) δ δ1 :=
  PG.imp (pg_tup hc h hn hst) fun v σ H Q ⟨p, B, G, i3, en, hv, q⟩ => by
    cases hv with
    | tup hs ha => exact ⟨_, _, rfl, ex_t i3.gh hs, dpAll_length ha, p, B, G, i3, en, ha, q⟩
end

/-! ### list comprehensions of one clause -/
def wipeD (δ : De) : List Nat → De
  | [] => δ
  | v :: vs => (wipeD δ vs).set v .no
theorem EnvD.wipes {K : Fg} {p : Option Addr} {B G H : Hp} {σ : L2.St} {δ : De} (h : EnvD K p B G H σ δ) : ∀ vs : List Nat, EnvD K p B G H (L2.wipe σ vs) (wipeD δ vs)
  | [] => h
  | v :: vs => (h.wipes vs).wipe v
theorem wipe_in {σ : L2.St} {i : Nat} : ∀ {vs : List Nat}, i ∈ vs → i < σ.length → (wipe σ vs)[i]? = some none
  | v :: vs, h, hl => by
    unfold wipe
    by_cases e : v = i
    · subst e; rw [List.getElem?_set_self (by rw [wipe_length]; exact hl)]
    · rw [List.getElem?_set_ne e]
      exact wipe_in (by rcases List.mem_cons.mp h with z | z; exact absurd z.symm e; exact z) hl
theorem wipe_same {σ σ' : L2.St} {vs : List Nat} (hl : σ'.length = σ.length) (h : ∀ i, i ∉ vs → σ'[i]? = (wipe σ vs)[i]?) : wipe σ' vs = wipe σ vs := by
  refine List.ext_getElem? fun i => ?_
  by_cases hi : i ∈ vs
  · by_cases hb : i < σ.length
    · rw [wipe_in hi hb, wipe_in hi (by rw [hl]; exact hb)]
    · rw [List.getElem?_eq_none (by rw [wipe_length, hl]; omega), List.getElem?_eq_none (by rw [wipe_length]; omega)]
  · rw [wipe_out hi, h i hi]
structure Makes (K : Fg) (p : Option Addr) (G H : Hp) (D : Addr) (out : List Dt → Prop) (n : Nat) (H' : Hp) : Prop where
  ex : ∃ G' acc os, Nxt p G H G' H' ∧ G' D = none ∧ H' D = some (.lst acc) ∧ DzAll K G' acc os ∧ out os ∧ os.length ≤ n
abbrev bX (X : Cx) (sc : Scope) (s : Shared) (H : Hp) (C : Addr) (cl : List (Str × Addr)) (fp : List Addr) : Cx := X.blk s H sc (compEnvC sc cl C X.env) fp
def rPs (K : Fg) (δ : De) (R : Bool → Prop) : TT := rT K δ R
def XPs (X : Cx) (ifs : List Expr) (δ : De) (R : Bool → Prop) : Prop := PTs X ifs (rT X.K δ R)
theorem PTs.imp {X : Cx} {e : List Expr} {t t' : TT} (h : PTs X e t) (k : ∀ σ H Q, t' σ H Q → t σ H Q) : PTs X e t' := ⟨fun pins s σ H Q I q => h.run pins s σ H Q I (k σ H Q q)⟩
section
variable {X : Cx} {elt tg iter : Expr} {ifs : List Expr} {scope : Scope} {own : List (Str × Nat)} {pos : Pos} {δ : De} {S : List Dt → Prop} {R : Dt → Prop}
/-- a comprehension's parts, and what it makes -/
structure Lc (X : Cx) (elt tg iter : Expr) (ifs : List Expr) (scope : Scope) (δ : De) (R : Dt → Prop) : Prop where
  ex : ∃ (own : List (Str × Nat)) (wi : TI) (g : TG) (tt : TT) (te : TE), PI X tg iter wi ∧ BlkOk X.N X.env.scope scope own ∧ (∀ s H C cl fp, PG (bX X scope s H C cl fp) tg g) ∧ (∀ s H C cl fp, PTs (bX X scope s H C cl fp) ifs tt) ∧ (∀ s H C cl fp, PE (bX X scope s H C cl fp) elt te) ∧
    ∀ σ H Q, rX X.K δ R σ H Q → tLc wi g tt te (own.map (·.2)) σ H Q
/-- Iv: what has been made behind so many turns -/
theorem lc_of (hi : XI X tg iter δ S) (ok : BlkOk X.N X.env.scope scope own) (hS : ∀ ds, S ds → ds.length ≤ 100000)
    (Iv : List Dt → Nat → List Dt → Prop) (h0 : ∀ ds, S ds → Iv ds 0 []) (hR : ∀ ds out, S ds → Iv ds ds.length out → R (.list out))
    (δt : Dt → De) (T : List Dt → Nat → Dt → Bool → Prop)
    (hg : ∀ s H C cl fp ds (i : Nat) d, S ds → ds[i]? = some d → TgD (bX X scope s H C cl fp) tg (own.map (·.2)) d (wipeD δ (own.map (·.2))) (δt d))
    (ht : ∀ s H C cl fp ds (i : Nat) d, S ds → ds[i]? = some d → XPs (bX X scope s H C cl fp) ifs (δt d) (T ds i d))
    (hf : ∀ ds (i : Nat) d out, S ds → ds[i]? = some d → T ds i d false → Iv ds i out → Iv ds (i + 1) out)
    (he : ∀ s H C cl fp ds (i : Nat) d, S ds → ds[i]? = some d → T ds i d true → XD (bX X scope s H C cl fp) elt (δt d) fun y => ∀ out, Iv ds i out → Iv ds (i + 1) (out ++ [y])) : Lc X elt tg iter ifs scope δ R := by
  have pg : ∀ s H C cl fp, PG (bX X scope s H C cl fp) tg (fun v σ H Q => ∃ ds, ∃ (i : Nat), ∃ d, S ds ∧ ds[i]? = some d ∧ rG X.K (own.map (·.2)) d (wipeD δ (own.map (·.2))) (δt d) v σ H Q) := fun s H C cl fp =>
    ⟨fun pins s1 σ H1 v u Q I r ⟨ds, i, d, a, b, q⟩ => (hg s H C cl fp ds i d a b).run pins s1 σ H1 v u Q I r q⟩
  have pt : ∀ s H C cl fp, PTs (bX X scope s H C cl fp) ifs (fun σ H Q => ∃ ds, ∃ (i : Nat), ∃ d, S ds ∧ ds[i]? = some d ∧ rT X.K (δt d) (T ds i d) σ H Q) := fun s H C cl fp =>
    ⟨fun pins s1 σ H1 Q I ⟨ds, i, d, a, b, q⟩ => (ht s H C cl fp ds i d a b).run pins s1 σ H1 Q I q⟩
  have pe : ∀ s H C cl fp, PE (bX X scope s H C cl fp) elt (fun σ H Q => ∃ ds, ∃ (i : Nat), ∃ d, S ds ∧ ds[i]? = some d ∧ T ds i d true ∧ rX X.K (δt d) (fun y => ∀ out, Iv ds i out → Iv ds (i + 1) (out ++ [y])) σ H Q) := fun s H C cl fp =>
    ⟨fun pins s1 σ H1 Q I ⟨ds, i, d, a, b, c, q⟩ => (he s H C cl fp ds i d a b c).run pins s1 σ H1 Q I q⟩
  refine ⟨own, _, _, _, _, hi, ok, pg, pt, pe, fun σ H Q ⟨p, B, G, i3, en, q⟩ => ⟨p, B, G, i3, en, fun J ds G1 H1 s n yl Dl hD => ?_⟩⟩
  have i31 := i3.nxt n
  have en1 := en.nxt n
  have gD : G1 Dl = none := i31.gh.free hD
  have pD : p ≠ some Dl := fun z => by
    obtain ⟨_, _, _, _, h3, _⟩ := i31.pot Dl z
    rw [hD] at h3; cases h3
  refine ⟨fun i m H' => m = ds.length - i ∧ i ≤ ds.length ∧ Makes X.K p G1 H1 Dl (Iv ds i) i H', ⟨_, rfl, Nat.zero_le _, ⟨G1, [], [], .newH i31 _ hD, gD, upd_same, .nil, h0 ds s, Nat.le_refl _⟩⟩, ?_⟩
  rintro i m H' ⟨em, hle, ⟨G', acc, os, n', gd, hd, ha, iv, hl⟩⟩
  have i3' := i31.nxt n'
  by_cases hlt : i < ds.length
  · obtain ⟨go, yd⟩ := (yl p B G' H' n'.st.1 i3' i).1 hlt
    refine .inr ⟨go, fun H'' => Makes X.K p G1 H1 Dl (Iv ds (i + 1)) (i + 1) H'', fun H'' k => ⟨_, by omega, rfl, by omega, k⟩, fun x H2 hy => ?_⟩
    obtain ⟨G2, d, e2, n2, hx⟩ := yd x H2 hy
    have n12 := n'.trans n2
    have gd2 : G2 Dl = none := n2.st.2 Dl (nn hd) gd
    have hd2 : H2 Dl = some (.lst acc) := n2.ex Dl _ (by rw [del_ne pD]; exact hd)
    refine ⟨ds, i, d, s, e2, p, B, G2, i31.nxt n12, (en1.nxt n12).wipes _, hx, fun σ2 en2 ⟨ks', ks⟩ => ⟨?_, ds, i, d, s, e2, p, B, G2, i31.nxt n12, en2, fun c G3 H3 hc3 n3 => ?_⟩⟩
    · refine wipe_same ?_ ks
      rw [ks', wipe_length]
    · have n13 := n12.trans n3
      have gd3 : G3 Dl = none := n3.st.2 Dl (nn hd2) gd2
      have hd3 : H3 Dl = some (.lst acc) := n3.ex Dl _ (by rw [del_ne pD]; exact hd2)
      have ha3 := dpAll_ex (n2.st.1.trans n3.st.1) _ _ ha
      cases c with
      | false => exact iteF ⟨G3, acc, os, n13, gd3, hd3, ha3, hf ds i d os s e2 hc3 iv, by omega⟩
      | true =>
        refine iteT ⟨ds, i, d, s, e2, hc3, p, B, G3, i31.nxt n13, en2.nxt n3, fun y dy G4 H4 ry n4 hy4 => ?_⟩
        have n14 := n13.trans n4
        have gd4 : G4 Dl = none := n4.st.2 Dl (nn hd3) gd3
        have hd4 : H4 Dl = some (.lst acc) := n4.ex Dl _ (by rw [del_ne pD]; exact hd3)
        have ha4 := dpAll_ex n4.st.1 _ _ ha3
        refine ⟨acc, hd4, ?_, ⟨G4, acc ++ [y], os ++ [dy], ⟨⟨n14.st.1, n14.st.2⟩, fun a o h => ?_, n14.gh.mut gd4, fun z hz => ?_⟩, gd4, upd_same, dpAll_append ha4 (.cons hy4 .nil), ry os iv, by rw [List.length_append, List.length_singleton]; omega⟩⟩
        · rw [dpAll_length ha4]
          exact Nat.lt_of_le_of_lt (Nat.le_trans hl (Nat.le_trans hle (hS ds s))) (by decide)
        · have : a ≠ Dl := ne_of_none (del_le h).1 hD
          rw [upd_ne this]; exact n14.ex a o h
        · have : z ≠ Dl := fun w => pD (by rw [hz, w])
          rw [upd_ne this]; exact n14.pot z hz
  · have e : i = ds.length := by omega
    subst e
    refine .inl ⟨(yl p B G' H' n'.st.1 i3' _).2 rfl, q (.ref Dl) (.list os) (upd G' Dl (.lst acc)) H' (hR ds os s iv) (n.trans ⟨⟨n'.st.1.mut gD, fun a h1 h2 => ?_⟩, n'.ex, fun a o h => ?_, n'.pot⟩) (.lst (.inl (.inl upd_same)) (dpAll_ex (Ex.new gd) _ _ ha))⟩
    · have : a ≠ Dl := fun z => h1 (z ▸ hD)
      rw [upd_ne this]; exact n'.st.2 a h1 h2
    · by_cases z : a = Dl
      · subst z; rw [upd_same] at h; cases h; exact hd
      · rw [upd_ne z] at h; exact n'.gh a o h
theorem Lc.xd (h : Lc X elt tg iter ifs scope δ R) (hN : X.N.Nodup) (hc : X.calm = true := by rfl) (hs : ∀ x, foldedSetIterable iter X.env x = pure x := by intro _; rfl) : XD X (.ListComp elt [⟨tg, iter, ifs, 0⟩] scope pos) δ R := by
  obtain ⟨own, wi, g, tt, te, a1, a2, a3, a4, a5, a6⟩ := h.ex
  exact PE.imp (pe_lc hc hN a1 a2 a3 a4 a5 hs) a6
end
end Dv

set_option linter.all false
set_option maxRecDepth 100000
set_option maxHeartbeats 2000000
namespace Dv
open PySem PySem.Spec PyProof.Rows L2
/-! ### built-in functions -/
def RC (K : Fg) (r : List V → Hp → VK → Prop) (ds : List Dt) (R : Dt → Prop) : Prop := ∀ p B G H vs, I3 p B G H → DzAll K G vs ds → ∀ Q : VK, (∀ u d G' H', R d → Nxt p G H G' H' → Dz K G' u d → Q u H') → r vs H Q
section
variable {X : Cx} {a b c e : Expr} {es : List Expr} {δ : De} {p pos : Pos} {R : Dt → Prop} {S : List Dt → Prop} {d : Dt} {ds : List Dt} {i j : Int} {x T id : String} {r : List V → Hp → VK → Prop}
theorem xd_cb {x : Str} (hc : CallR X (.builtin id) r) (hg : Gl X x) (hm : X.mg x = none) (hv : bootBuiltins x = some (.builtin id)) (ha : XA X (e :: es) δ S) (hr : ∀ ds, S ds → RC X.K r ds R) (hpl : starEach es X.env = es.map fun e => (false, eval e X.env) := by rfl) (hn : x ≠ "__name__" := by decide) (hdb : (x == ("__debug__" : Str)) = false := by decide) : XD X (.Call (.Name x p) (e :: es) [] pos) δ R :=
  PE.imp (pe_callB hc hg hm hv ha.pa hn hdb (by rw [hpl]; exact ha.pl) (back_plain hpl)) fun σ H Q ⟨p, B, G, i3, en, q⟩ => ⟨p, B, G, i3, en, fun vs ds G' H' s n hv => hr ds s p B G' H' vs (i3.nxt n) hv Q fun u d G2 H2 rr n2 hu => q u d G2 H2 rr (n.trans n2) hu⟩
theorem xd_ct {x : Str} (hc : CallR X (.type T) r) (hg : Gl X x) (hm : X.mg x = none) (hv : bootBuiltins x = some (.type T)) (ha : XA X (e :: es) δ S) (hr : ∀ ds, S ds → RC X.K r ds R) (hpl : starEach es X.env = es.map fun e => (false, eval e X.env) := by rfl) (hn : x ≠ "__name__" := by decide) (hdb : (x == ("__debug__" : Str)) = false := by decide) : XD X (.Call (.Name x p) (e :: es) [] pos) δ R :=
  PE.imp (pe_callTy hc hg hm hv ha.pa hn hdb (by rw [hpl]; exact ha.pl) (back_plain hpl)) fun σ H Q ⟨p, B, G, i3, en, q⟩ => ⟨p, B, G, i3, en, fun vs ds G' H' s n hv => hr ds s p B G' H' vs (i3.nxt n) hv Q fun u d G2 H2 rr n2 hu => q u d G2 H2 rr (n.trans n2) hu⟩
theorem one_of {K : Fg} {G : Hp} {vs : List V} (h : DzAll K G vs [d]) : ∃ v, vs = [v] ∧ Dz K G v d := by
  cases h with
  | cons a b => cases b; exact ⟨_, rfl, a⟩
theorem two_of {K : Fg} {G : Hp} {d d' : Dt} {vs : List V} (h : DzAll K G vs [d, d']) : ∃ v w, vs = [v, w] ∧ Dz K G v d ∧ Dz K G w d' := by
  cases h with
  | cons a b => obtain ⟨w, e, f⟩ := one_of b; exact ⟨_, w, by rw [e], a, f⟩
theorem pd_len_list (hm : X.mg "len" = none) (ha : PAD X [e] δ [.list ds]) (hg : Gl X "len" := by rfl) : PD X (.Call (.Name "len" p) [e] [] pos) δ (.int (ds.length : Int)) :=
  xd_cb call_len_seq hg hm PySem.boot_len ha fun ds' e p B G H vs i3 hv Q q => by
    subst e
    obtain ⟨v, rfl, h⟩ := one_of hv
    cases h with
    | lst hs ha => exact ⟨_, _, rfl, .inl (exl i3.gh hs), q _ _ G H (by rw [dpAll_length ha]) (.refl i3) (.int _)⟩
theorem pd_len_tup (hm : X.mg "len" = none) (ha : PAD X [e] δ [.tuple ds]) (hg : Gl X "len" := by rfl) : PD X (.Call (.Name "len" p) [e] [] pos) δ (.int (ds.length : Int)) :=
  xd_cb call_len_seq hg hm PySem.boot_len ha fun ds' e p B G H vs i3 hv Q q => by
    subst e
    obtain ⟨v, rfl, h⟩ := one_of hv
    cases h with
    | tup hs ha => exact ⟨_, _, rfl, .inr (ex_t i3.gh hs), q _ _ G H (by rw [dpAll_length ha]) (.refl i3) (.int _)⟩
theorem pd_abs (hm : X.mg "abs" = none) (ha : PAD X [e] δ [.int i]) (hg : Gl X "abs" := by rfl) : PD X (.Call (.Name "abs" p) [e] [] pos) δ (.int (if i < 0 then -i else i)) :=
  xd_cb call_abs hg hm (by decide +kernel) ha fun ds' e p B G H vs i3 hv Q q => by
    subst e
    obtain ⟨v, rfl, h⟩ := one_of hv
    cases h
    exact ⟨i, rfl, q _ _ G H rfl (.refl i3) (.int _)⟩
theorem pd_max2 (hc : X.calm = true) (hm : X.mg "max" = none) (ha : PAD X [a, b] δ [.int i, .int j]) (hg : Gl X "max" := by rfl) (hpl : starEach [b] X.env = [(false, eval b X.env)] := by rfl) : PD X (.Call (.Name "max" p) [a, b] [] pos) δ (.int (max i j)) :=
  xd_cb (call_max2 hc) hg hm (by decide +kernel) ha (fun ds' e p B G H vs i3 hv Q q => by
    subst e
    obtain ⟨v, w, rfl, h1, h2⟩ := two_of hv
    cases h1; cases h2
    refine ⟨i, j, rfl, q _ _ G H rfl (.refl i3) ?_⟩
    have : (if j > i then j else i) = max i j := by omega
    rw [this]; exact .int _) (hpl := hpl)
theorem pd_min2 (hc : X.calm = true) (hm : X.mg "min" = none) (ha : PAD X [a, b] δ [.int i, .int j]) (hg : Gl X "min" := by rfl) (hpl : starEach [b] X.env = [(false, eval b X.env)] := by rfl) : PD X (.Call (.Name "min" p) [a, b] [] pos) δ (.int (min i j)) :=
  xd_cb (call_min2 hc) hg hm (by decide +kernel) ha (fun ds' e p B G H vs i3 hv Q q => by
    subst e
    obtain ⟨v, w, rfl, h1, h2⟩ := two_of hv
    cases h1; cases h2
    refine ⟨i, j, rfl, q _ _ G H rfl (.refl i3) ?_⟩
    have : (if j < i then j else i) = min i j := by omega
    rw [this]; exact .int _) (hpl := hpl)
theorem xd_int {S : Int → Prop} (hm : X.mg "int" = none) (ha : XA X [e] δ fun ds => ∃ i, ds = [.int i] ∧ S i) (hg : Gl X "int" := by rfl) : XD X (.Call (.Name "int" p) [e] [] pos) δ fun d => ∃ i, d = .int i ∧ S i :=
  xd_ct call_int1 hg hm (by decide +kernel) ha fun ds' ⟨i, e, s⟩ p B G H vs i3 hv Q q => by
    subst e
    obtain ⟨v, rfl, h⟩ := one_of hv
    cases h
    exact .inl ⟨i, rfl, q _ _ G H ⟨i, rfl, s⟩ (.refl i3) (.int _)⟩
theorem pd_int1 (hm : X.mg "int" = none) (ha : PAD X [e] δ [.int i]) (hg : Gl X "int" := by rfl) : PD X (.Call (.Name "int" p) [e] [] pos) δ (.int i) :=
  (xd_int (S := fun j => j = i) hm (ha.mono fun ds e => ⟨i, e, rfl⟩) hg).mono fun d ⟨j, e, f⟩ => by rw [e, f]
theorem pd_maxL {ns : List Int} {m : Int} (hc : X.calm = true) (hm : X.mg "max" = none) (ha : PAD X [e] δ [.list (ns.map PyData.int)]) (h1 : m ∈ ns) (h2 : ∀ y ∈ ns, y ≤ m) (hg : Gl X "max" := by rfl) : PD X (.Call (.Name "max" p) [e] [] pos) δ (.int m) :=
  xd_cb (cr_max hc) hg hm (by decide +kernel) ha fun ds' e p B G H vs i3 hv Q q => by
    subst e
    obtain ⟨v, rfl, h⟩ := one_of hv
    cases h with
    | lst hs ha =>
      have e := dpAll_ints ha
      subst e
      refine ⟨_, ns, rfl, exl i3.gh hs, List.length_pos_of_mem h1, fun k k1 k2 => q _ _ G H rfl (.refl i3) ?_⟩
      have : k = m := Int.le_antisymm (h2 k k1) (k2 m h1)
      rw [this]; exact .int _
theorem pd_any {bs : List Bool} (hc : X.calm = true) (hm : X.mg "any" = none) (ha : PAD X [e] δ [.list (bs.map PyData.bool)]) (hg : Gl X "any" := by rfl) : PD X (.Call (.Name "any" p) [e] [] pos) δ (.bool (bs.any _root_.id)) :=
  xd_cb (cr_any hc) hg hm (by decide +kernel) ha fun ds' e p B G H vs i3 hv Q q => by
    subst e
    obtain ⟨v, rfl, h⟩ := one_of hv
    cases h with
    | lst hs ha =>
      have e := dpAll_bools ha
      subst e
      exact ⟨_, bs, rfl, exl i3.gh hs, q _ _ G H rfl (.refl i3) (.bl _)⟩
theorem xd_all {S : List Bool → Prop} {R : Bool → Prop} (hc : X.calm = true) (hm : X.mg "all" = none) (ha : XA X [e] δ fun ds => ∃ bs : List Bool, ds = [.list (bs.map PyData.bool)] ∧ S bs) (hR : ∀ bs, S bs → R (bs.all _root_.id)) (hg : Gl X "all" := by rfl) : XD X (.Call (.Name "all" p) [e] [] pos) δ (fun d => ∃ b, d = .bool b ∧ R b) :=
  xd_cb (cr_all hc) hg hm (by decide +kernel) ha fun ds' ⟨bs, e, sb⟩ p B G H vs i3 hv Q q => by
    subst e
    obtain ⟨v, rfl, h⟩ := one_of hv
    cases h with
    | lst hs ha =>
      have e := dpAll_bools ha
      subst e
      exact ⟨_, bs, rfl, exl i3.gh hs, q _ _ G H ⟨_, rfl, hR bs sb⟩ (.refl i3) (.bl _)⟩
theorem pd_all {bs : List Bool} (hc : X.calm = true) (hm : X.mg "all" = none) (ha : PAD X [e] δ [.list (bs.map PyData.bool)]) (hg : Gl X "all" := by rfl) : PD X (.Call (.Name "all" p) [e] [] pos) δ (.bool (bs.all _root_.id)) :=
  (xd_all (S := fun x => x = bs) (R := fun c => c = bs.all _root_.id) hc hm (ha.mono fun ds e => ⟨bs, e, rfl⟩) (fun x e => by rw [e]) hg).mono fun d ⟨b, e, f⟩ => by rw [e, f]
/-- sorted of whole numbers, any number of them -/
def rSortA (K : Fg) : List V → Hp → VK → Prop := fun vs H Q => ∃ (a : Addr) (ns : List Int), vs = [V.ref a] ∧ SqL K H a (ns.map V.int) ∧
  ∀ (ms : List Int) (p : Addr), ms.Perm ns → ms.Pairwise (· ≤ ·) → H p = none → Q (.ref p) (upd H p (.lst (ms.map V.int)))
theorem cr_sortA : CallR X (.builtin "sorted") (rSortA X.K) := by
  intro pins s σ H vs us Q I r h
  obtain ⟨a, ns, rfl, hs, q⟩ := h
  obtain ⟨its, rv, hl, hz⟩ := I.list hs
  rw [Vals.ref1 r]
  have hi := rv.ints
  have hz' : its.length ≤ sizeLine := by rw [← rv.length]; exact hz
  refine PyProof.Rows.sorted_intsAny hl.isList hi hz' fun out ms h1 h2 h3 => ?_
  obtain ⟨ep, he⟩ := PyProof.Rows.sortedAll_at s.heap its out
  have hlen : (ms.map V.int).length ≤ sizeLine := by rw [List.length_map, h2.length_eq, ← List.length_map (f := V.int)]; exact hz
  exact ⟨.ref _, upd H (s.heap.objs.size + 1) (.lst (ms.map V.int)), I.laid (t' := s.toks) (fun _ _ => PyProof.Rows.sortedAll_old) (Nat.le_succ _) ⟨hlen, out.toList, ep, vals_of_ints h1, he⟩, rfl, q ms _ h2 h3 (I.hok.fresh (Nat.le_succ _))⟩
theorem pd_sorted {ns ms : List Int} (hm : X.mg "sorted" = none) (ha : PAD X [e] δ [.list (ns.map PyData.int)]) (hp : ms.Perm ns) (hw : ms.Pairwise (· ≤ ·)) (hg : Gl X "sorted" := by rfl) : PD X (.Call (.Name "sorted" p) [e] [] pos) δ (.list (ms.map PyData.int)) :=
  xd_cb cr_sortA hg hm (by decide +kernel) ha fun ds' e p B G H vs i3 hv Q q => by
    subst e
    obtain ⟨v, rfl, h⟩ := one_of hv
    cases h with
    | lst hs ha =>
      have e := dpAll_ints ha
      subst e
      refine ⟨_, ns, rfl, exl i3.gh hs, fun ks l k1 k2 hl => ?_⟩
      have : ks = ms := List.Perm.eq_of_pairwise (fun a b _ _ h1 h2 => Int.le_antisymm h1 h2) k2 hw (k1.trans hp.symm)
      subst this
      exact q _ _ _ _ rfl (.new i3 _ hl) (.lst (.inl (.inl upd_same)) (dpAll_of_ints ks))
/-- list(..), tuple(..) -/
theorem pd_tuple_of (hm : X.mg "tuple" = none) (ha : PAD X [e] δ [.list ds]) (hg : Gl X "tuple" := by rfl) : PD X (.Call (.Name "tuple" p) [e] [] pos) δ (.tuple ds) :=
  xd_ct call_tuple_of hg hm (by decide +kernel) ha fun ds' e p B G H vs i3 hv Q q => by
    subst e
    obtain ⟨v, rfl, h⟩ := one_of hv
    cases h with
    | lst hs ha => exact ⟨_, _, rfl, .inl ⟨exl i3.gh hs, fun l hl => q _ _ _ _ rfl (.new i3 _ hl) (.tup (.inl (.inl upd_same)) (dpAll_ex (Ex.new (i3.gh.free hl)) _ _ ha))⟩⟩
/-! repr -/
structure OkD (d : Dt) (b k : Nat) : Prop where
  sh : d.leavesShort 40 = true
  ok : d.showable = true
  dp : d.depth ≤ k
  bk : d.bulk ≤ b
theorem OkD.mono {b k b' k' : Nat} (h : OkD d b k) (hb : b ≤ b' := by omega) (hk : k ≤ k' := by omega) : OkD d b' k' := ⟨h.sh, h.ok, Nat.le_trans h.dp hk, Nat.le_trans h.bk hb⟩
theorem okd_bool {c : Bool} : OkD (.bool c) 0 0 := ⟨by simp [PyData.leavesShort], by simp [PyData.showable], by simp [PyData.depth], by simp [PyData.bulk]⟩
theorem okd_none : OkD .none 0 0 := ⟨by simp [PyData.leavesShort], by simp [PyData.showable], by simp [PyData.depth], by simp [PyData.bulk]⟩
theorem okd_int (h : i.natAbs < 10 ^ 38) : OkD (.int i) 0 0 := by
  refine ⟨?_, ?_, by simp [PyData.depth], by simp [PyData.bulk]⟩
  · simp only [PyData.leavesShort, decide_eq_true_eq]
    have e := int_text_length_le10 (k := 38) (by decide) h
    show (Str.ofString (toString i)).length ≤ 40
    rw [PySem.ofString_length]; omega
  · simp only [PyData.showable, decide_eq_true_eq]
    by_cases z : i.natAbs = 0
    · rw [z]; decide
    · have h2 : i.natAbs.log2 < 127 := (Nat.log2_lt z).mpr (Nat.lt_of_lt_of_le h (by decide))
      omega
theorem okd_str {x : Str} (h : (x.cps.toList.all fun c => decide (c < 16 ^ 8)) = true) : OkD (.str x) x.cps.size 0 := ⟨by simpa [PyData.leavesShort] using h, by simp [PyData.showable], by simp [PyData.depth], by simp [PyData.bulk]⟩
theorem okd_all {b k : Nat} : ∀ {ds : List Dt}, (∀ d ∈ ds, OkD d b k) → PyData.leavesShortAll 40 ds = true ∧ PyData.showableAll ds = true ∧ PyData.depthAll ds ≤ k ∧ PyData.bulkAll ds ≤ ds.length * (b + 1)
  | [], _ => ⟨by simp [PyData.leavesShortAll], by simp [PyData.showableAll], by simp [PyData.depthAll], by simp [PyData.bulkAll]⟩
  | d :: ds, h => by
    obtain ⟨h1, h2, h4, h5⟩ := okd_all fun x hx => h x (List.mem_cons_of_mem _ hx)
    have g := h d List.mem_cons_self
    refine ⟨by simp [PyData.leavesShortAll, g.sh, h1], by simp [PyData.showableAll, g.ok, h2], ?_, ?_⟩
    · simp only [PyData.depthAll]; exact Nat.max_le.mpr ⟨g.dp, h4⟩
    · simp only [PyData.bulkAll, List.length_cons]
      have := g.bk
      rw [Nat.add_mul]; omega
theorem okd_list {b k n : Nat} (h : ∀ d ∈ ds, OkD d b k) (hn : ds.length ≤ n := by simp) : OkD (.list ds) (n * (b + 1)) (k + 1) := by
  obtain ⟨h1, h2, h4, h5⟩ := okd_all h
  exact ⟨by simp only [PyData.leavesShort]; exact h1, by simp only [PyData.showable]; exact h2, by simp only [PyData.depth]; omega, by simp only [PyData.bulk]; exact Nat.le_trans h5 (Nat.mul_le_mul_right _ hn)⟩
theorem okd_tuple {b k n : Nat} (h : ∀ d ∈ ds, OkD d b k) (hn : ds.length ≤ n := by simp) : OkD (.tuple ds) (n * (b + 1)) (k + 1) := by
  obtain ⟨h1, h2, h4, h5⟩ := okd_all h
  exact ⟨by simp only [PyData.leavesShort]; exact h1, by simp only [PyData.showable]; exact h2, by simp only [PyData.depth]; omega, by simp only [PyData.bulk]; exact Nat.le_trans h5 (Nat.mul_le_mul_right _ hn)⟩
theorem OkD.fits (h : OkD d 390000 40) : d.shown.length ≤ sizeLine := by
  have h1 := PyData.shown_le_bulk 40 (by decide) d h.sh
  have h2 := h.bk
  rw [sizeLine_eq]
  omega
theorem okd_dict : OkD (.dict []) 0 1 := ⟨by simp [PyData.leavesShort, PyData.leavesShortKv], by simp [PyData.showable, PyData.showableKv], by simp [PyData.depth, PyData.depthKv], by simp [PyData.bulk, PyData.bulkKv]⟩
/-! a reading in which the dicts are empty ones of ours: no other address is asked about -/
mutual
inductive Rx (h : Heap) : Value → PyData → List Addr → Prop
  | non : Rx h .none .none []
  | bl (b : Bool) : Rx h (.bool b) (.bool b) []
  | num (i : Int) (t : Tok) : Rx h (.int i t) (.int i) []
  | txt (x : Str) (t : Tok) : Rx h (.str x t) (.str x) []
  | lst {a : Addr} {o : Obj} {vs : Array Value} {n : Nat} {xs : List PyData} {as : List Addr} : h.get? a = some o → o.cls = .type "list" → o.data = .seq vs n → RxAll h vs.toList xs as → Rx h (.ref a) (.list xs) (a :: as)
  | tup {a : Addr} {o : Obj} {vs : Array Value} {n : Nat} {xs : List PyData} {as : List Addr} : h.get? a = some o → o.cls = .type "tuple" → o.data = .seq vs n → RxAll h vs.toList xs as → Rx h (.ref a) (.tuple xs) as
  | dct {a : Addr} {o : Obj} {es : Array DictEntry} {n : Nat} : h.get? a = some o → o.cls = .type "dict" → o.data = .dict es n → es.toList = [] → (a == sysModules) = false → Rx h (.ref a) (.dict []) [a]
inductive RxAll (h : Heap) : List Value → List PyData → List Addr → Prop
  | nil : RxAll h [] [] []
  | cons {v : Value} {vs : List Value} {d : PyData} {ds : List PyData} {as bs : List Addr} : Rx h v d as → RxAll h vs ds bs → RxAll h (v :: vs) (d :: ds) (as ++ bs)
end
section
variable {prog : Program} {w : World} {h : Heap}
mutual
theorem Rx.rd : ∀ {v : Value} {d : PyData} {as : List Addr}, Rx h v d as → Reads h v d as
  | _, _, _, .non => .none
  | _, _, _, .bl b => .bool b
  | _, _, _, .num i t => .int i t
  | _, _, _, .txt x t => .str x t
  | _, _, _, .lst p q r s => .list p q r s.rd
  | _, _, _, .tup p q r s => .tuple p q r s.rd
  | _, _, _, .dct p q r s _ => .dict (kvs := []) (as := []) (bs := []) p q r (by rw [s]; exact .nil) (by rw [s]; exact .nil)
theorem RxAll.rd : ∀ {vs : List Value} {ds : List PyData} {as : List Addr}, RxAll h vs ds as → ReadsAll h vs ds as
  | _, _, _, .nil => .nil
  | _, _, _, .cons r rs => .cons r.rd rs.rd
end
theorem rx_ents {es : Array DictEntry} {bs : List Addr} {n : Nat} (e : es.toList = []) : ReprEntriesK prog w bs h n es.toList (PyData.shownKv []) := by rw [e]; simp only [PyData.shownKv]; exact .nil
mutual
theorem Rx.sh : ∀ {v : Value} {d : PyData} {as : List Addr}, Rx h v d as → d.showable = true → d.shown.length ≤ sizeLine → ∃ bs, ReadAtMost h d.depth bs ∧ ReprK prog w bs h d.depth v d.shown
  | _, _, _, .non, _, _ => ⟨[], (fun _ z => nomatch z), by simp only [PyData.shown]; exact .of_is .none _ _ _⟩
  | _, _, _, .bl b, _, _ => ⟨[], (fun _ z => nomatch z), by simp only [PyData.shown]; exact .of_is (.bool b) _ _ _⟩
  | _, _, _, .num i t, k, _ => ⟨[], (fun _ z => nomatch z), by simp only [PyData.shown]; exact .of_is (.int t (of_decide_eq_true (by simpa only [PyData.showable] using k))) _ _ _⟩
  | _, _, _, .txt x t, _, z => ⟨[], (fun _ z => nomatch z), by simp only [PyData.shown] at z ⊢; exact .of_is (.str x t z) _ _ _⟩
  | _, _, _, .lst (a := b) (vs := ws) (xs := ys) p q r s, k, z => by
    simp only [PyData.shown] at z
    simp only [PyData.showable] at k
    obtain ⟨cs, u1, u2⟩ := s.sh k fun t m => Nat.le_trans (listText_mem_le m) z
    have rr := (Rx.lst p q r s).rd
    have out := not_mem_of_deeper rr (n := PyData.depthAll ys) (by simp only [PyData.depth]; exact Nat.lt_succ_self _) u1
    refine ⟨b :: cs, .cons rr (n := PyData.depthAll ys) (by simp only [PyData.depth]; exact Nat.le_succ _) u1, ?_⟩
    simp only [PyData.shown, PyData.depth]
    match ws, s, u2, r with
    | ⟨[]⟩, s, _, r => cases s; simp only [PyData.shownAll, listText_nil]; exact .listEmpty p q r
    | ⟨_ :: _⟩, _, u2, r => exact .list p q r out (by simpa using u2.length_eq) fun i y m => u2.item i y (by simpa using m)
  | _, _, _, .tup (a := b) (xs := ys) p q r s, k, z => by
    simp only [PyData.shown] at z
    simp only [PyData.showable] at k
    obtain ⟨cs, u1, u2⟩ := s.sh k fun t m => Nat.le_trans (tupleText_mem_le m) z
    have rr := (Rx.tup p q r s).rd
    have out := not_mem_of_deeper rr (n := PyData.depthAll ys) (by simp only [PyData.depth]; exact Nat.lt_succ_self _) u1
    refine ⟨b :: cs, .cons rr (n := PyData.depthAll ys) (by simp only [PyData.depth]; exact Nat.le_succ _) u1, ?_⟩
    simp only [PyData.shown, PyData.depth]
    exact .tuple p q r out u2
  | _, _, _, .dct (a := b) p q r s y, _, _ => by
    have rr := (Rx.dct p q r s y).rd
    refine ⟨[b], .cons rr (n := 0) (Nat.zero_le _) (fun _ z => nomatch z), ?_⟩
    simp only [PyData.shown, PyData.depth, PyData.depthKv]
    exact .dict p q r y (fun z => nomatch z) (rx_ents s)
theorem RxAll.sh : ∀ {vs : List Value} {ds : List PyData} {as : List Addr}, RxAll h vs ds as → PyData.showableAll ds = true → (∀ t ∈ PyData.shownAll ds, t.length ≤ sizeLine) → ∃ bs, ReadAtMost h (PyData.depthAll ds) bs ∧ ReprAllK prog w bs h (PyData.depthAll ds) vs (PyData.shownAll ds)
  | _, _, _, .nil, _, _ => ⟨[], (fun _ z => nomatch z), by simp only [PyData.shownAll]; exact .nil⟩
  | _, _, _, .cons r rs, k, z => by
    simp only [PyData.showableAll, Bool.and_eq_true] at k
    simp only [PyData.shownAll] at z ⊢
    obtain ⟨c1, u1, v1⟩ := r.sh k.1 (z _ List.mem_cons_self)
    obtain ⟨c2, u2, v2⟩ := rs.sh k.2 fun t m => z t (List.mem_cons_of_mem _ m)
    simp only [PyData.depthAll]
    exact ⟨c1 ++ c2, (u1.mono (Nat.le_max_left _ _)).append (u2.mono (Nat.le_max_right _ _)), .cons ((v1.more fun y m => List.mem_append_left _ m).level_le (Nat.le_max_left _ _)) (v2.more_le (fun y m => List.mem_append_right _ m) (Nat.le_max_right _ _))⟩
end
end
/-- repr of a value that reads as data -/
def rRepr (K : Fg) : List V → Hp → VK → Prop := fun vs H Q => ∃ v d, vs = [v] ∧ Dz K H v d ∧ OkD d 390000 40 ∧ Q (.str d.shown) H
section
variable {pins : List (Addr × Obj)} {σ : L2.St} {H : Hp} {s : Shared}
mutual
theorem dz_rx (I : L2.Inv X pins σ H s) : ∀ (d : PyData) (v : V) (u : Value), Dz X.K H v d → RelV v u → ∃ as, Rx s.heap u d as
  | .none, _, _, h, r => by cases h; cases r; exact ⟨_, .non⟩
  | .bool b, _, _, h, r => by cases h; cases r; exact ⟨_, .bl b⟩
  | .int i, _, _, h, r => by
    cases h
    obtain ⟨t, rfl⟩ := r
    exact ⟨_, .num i t⟩
  | .str x, _, _, h, r => by
    cases h
    obtain ⟨t, rfl⟩ := r
    exact ⟨_, .txt x t⟩
  | .list ds, _, _, h, r => by
    cases h with
    | lst hs ha =>
      cases r
      obtain ⟨its, rv, ⟨o, n, ho, hc, _, hd⟩, _⟩ := I.list (sqx_l hs)
      obtain ⟨as, hr⟩ := dzAll_rx I ds _ its ha rv
      exact ⟨_, .lst ho hc hd hr⟩
  | .tuple ds, _, _, h, r => by
    cases h with
    | tup hs ha =>
      cases r
      obtain ⟨its, rv, ⟨o, ho, hc, n, hd⟩, _⟩ := I.tuple hs
      obtain ⟨as, hr⟩ := dzAll_rx I ds _ its ha rv
      exact ⟨_, .tup ho hc hd hr⟩
  | .dict _, _, _, h, r => by
    cases h with
    | dct hr =>
      cases r
      obtain ⟨_, hsm, vs, rv, o, es, ep, ho, hx, hd, _, hp, _⟩ := dk_rd I.hok hr
      have ev : vs = [] := by cases rv; rfl
      subst ev
      have ee : es.toList = [] := by
        cases q : es.toList with
        | nil => rfl
        | cons y ys => rw [q] at hp; cases hp
      exact ⟨_, .dct ho hx.1 hd ee hsm⟩
theorem dzAll_rx (I : L2.Inv X pins σ H s) : ∀ (ds : List PyData) (vs : List V) (us : List Value), DzAll X.K H vs ds → Vals vs us → ∃ as, RxAll s.heap us ds as
  | [], _, _, h, r => by cases h; cases r; exact ⟨_, .nil⟩
  | d :: ds, _, _, h, r => by
    cases h with
    | cons h1 h2 =>
      cases r with
      | cons r1 r2 =>
        obtain ⟨as, q1⟩ := dz_rx I d _ _ h1 r1
        obtain ⟨bs, q2⟩ := dzAll_rx I ds _ _ h2 r2
        exact ⟨_, .cons q1 q2⟩
end
end
theorem cr_repr (hg : X.A.guards = some []) (hu : X.A.units + 64 < cLine) : CallR X (.builtin "repr") (rRepr X.K) := by
  intro pins s σ H vs us Q I r h
  obtain ⟨v, d, rfl, hd, ok, q⟩ := h
  obtain ⟨u, rfl, ru⟩ := r.one
  obtain ⟨as, rx⟩ := dz_rx I d v u hd ru
  have fin : ∀ (h' : Heap) (t : Tok) (k : Nat), (∀ b o, s.heap.get? b = some o → h'.get? b = some o) → EP X pins σ Q (.str d.shown t) { s with heap := h', toks := k } := fun h' t k kp => ⟨.str d.shown, H, I.kept (t' := k) kp, ⟨t, rfl⟩, q⟩
  have hsz := ok.fits
  have hdp := ok.dp
  cases rx with
  | non => exact PySem.P.repr_of_none (fin s.heap _ _ fun _ _ e => e)
  | bl b => exact PySem.P.repr_of_bool (fin s.heap _ _ fun _ _ e => e)
  | num i t => exact PySem.P.repr_of_int (by simpa [PyData.showable] using ok.ok) (fin s.heap _ _ fun _ _ e => e)
  | txt x t => exact PySem.P.repr_of_str (fin s.heap _ _ fun _ _ e => e) hsz
  | @lst a o ws n ys as p c dt rs =>
    have rr := (Rx.lst p c dt rs).rd
    have kk := ok.ok
    simp only [PyData.showable] at kk
    simp only [PyData.shown] at hsz
    simp only [PyData.depth] at hdp
    obtain ⟨cs, u1, u2⟩ := rs.sh (prog := X.prog) (w := X.w) kk fun t m => Nat.le_trans (listText_mem_le m) hsz
    have out := not_mem_of_deeper rr (n := PyData.depthAll ys) (by simp only [PyData.depth]; exact Nat.lt_succ_self _) u1
    refine call_repr_slot (by omega) ⟨o, p, c⟩ F.slot_list_repr.toG ?_
    match ws, rs, u2, dt with
    | ⟨[]⟩, rs, _, dt =>
      cases rs
      exact call_list_repr_empty ⟨o, p, c⟩ p dt ⟨_, _, rfl, by have := fin s.heap s.toks (s.toks + 1) fun _ _ e => e; simpa only [PyData.shown, PyData.shownAll, listText_nil] using this⟩
    | ⟨_ :: _⟩, _, u2, dt => exact call_list_reprK p c dt out (by simpa using u2.length_eq) (fun i y m => u2.item i y (by simpa using m)) hg (fun b _ => Clear.nil b) (by show X.A.units + 1 + _ < _; omega) (fun _ _ e => e) (fun h' u tk kp => ⟨_, _, rfl, by have := fin h' u tk kp; simpa only [PyData.shown] using this⟩) hsz
  | @tup a o ws n ys as p c dt rs =>
    have rr := (Rx.tup p c dt rs).rd
    have kk := ok.ok
    simp only [PyData.showable] at kk
    simp only [PyData.shown] at hsz
    simp only [PyData.depth] at hdp
    obtain ⟨cs, u1, u2⟩ := rs.sh (prog := X.prog) (w := X.w) kk fun t m => Nat.le_trans (tupleText_mem_le m) hsz
    have out := not_mem_of_deeper rr (n := PyData.depthAll ys) (by simp only [PyData.depth]; exact Nat.lt_succ_self _) u1
    refine call_repr_slot (by omega) ⟨o, p, c⟩ F.slot_tuple_repr ?_
    exact call_tuple_reprK p c dt out u2 hg (fun b _ => Clear.nil b) (by show X.A.units + 1 + _ < _; omega) (fun _ _ e => e) (fun h' u tk kp => ⟨_, _, rfl, by have := fin h' u tk kp; simpa only [PyData.shown] using this⟩) hsz
  | @dct a o es n p c dt e0 y =>
    simp only [PyData.depth, PyData.depthKv] at hdp
    refine call_repr_slot (by omega) ⟨o, p, c⟩ F.slot_dict_repr ?_
    exact call_dict_reprK (as := []) p c dt y (fun z => nomatch z) (rx_ents e0) hg (fun b _ => Clear.nil b) (by show X.A.units + 1 + (0 + 1) < _; omega) (fun _ _ e => e) (fun h' u tk kp => ⟨_, _, rfl, by have := fin h' u tk kp; simpa only [PyData.shown] using this⟩) (by simpa only [PyData.shown] using hsz)
theorem pd_repr (hgd : X.A.guards = some []) (hu : X.A.units + 64 < cLine) (hm : X.mg "repr" = none) (ha : PAD X [e] δ [d]) (ok : OkD d 390000 40) (hg : Gl X "repr" := by rfl) : PD X (.Call (.Name "repr" p) [e] [] pos) δ (.str d.shown) :=
  xd_cb (cr_repr hgd hu) hg hm (by decide +kernel) ha fun ds' e p B G H vs i3 hv Q q => by
    subst e
    obtain ⟨v, rfl, h⟩ := one_of hv
    exact ⟨v, _, rfl, dp_ex i3.gh _ _ h, ok, q _ _ G H rfl (.refl i3) (.str _)⟩
/-- isinstance against a built-in class -/
def tyD : Dt → String
  | .none => "NoneType"
  | .bool _ => "bool"
  | .int _ => "int"
  | .str _ => "str"
  | .list _ => "list"
  | .tuple _ => "tuple"
  | .dict _ => "dict"
theorem dz_ty {K : Fg} {G H : Hp} {v : V} (h : Dz K G v d) (ex : Ex G H) : TyX K H v (.type (tyD d)) := by
  cases h with
  | non => exact .base .non
  | bl b => exact .base (.bl b)
  | int i => exact .base (.int i)
  | str x => exact .base (.str x)
  | lst hs _ =>
    rcases ex_x ex hs with (h | ⟨o, h⟩) | ⟨its, n, h, _⟩
    · exact .base (.lst h)
    · exact .base (.frz h)
    · exact .kList h rfl
  | tup hs _ =>
    rcases ex_t ex hs with (h | ⟨o, h⟩) | ⟨o, its, n, h1, h2, _⟩
    · exact .base (.tup h)
    · exact .fTuple h
    · exact .kTuple h1 h2
  | dct hr =>
    rcases ex_rd ex hr with h | ⟨o, h⟩
    · exact .base (.dK h)
    · exact .fDict h
theorem pd_isi (t T : String) (c : Bool) {tn : Str} {p2 : Pos} (hm : X.mg "isinstance" = none) (hmT : X.mg tn = none) (he : PD X e δ d) (ht : tyD d = t := by rfl) (hk : kitB t T = some c := by decide +kernel) (hv : bootBuiltins tn = some (.type T) := by decide +kernel) (hgT : Gl X tn := by rfl) (hg : Gl X "isinstance" := by rfl)
    (hn : tn ≠ "__name__" := by decide) (hd : (tn == ("__debug__" : Str)) = false := by decide) (hs1 : starEach [.Name tn p2] X.env = [(false, eval (.Name tn p2) X.env)] := by rfl) (hs : starEach [e, .Name tn p2] X.env = (false, eval e X.env) :: starEach [.Name tn p2] X.env := by rfl) :
    PD X (.Call (.Name "isinstance" p) [e, .Name tn p2] [] pos) δ (.bool c) := by
  refine PE.imp (pe_callB call_isi hg hm (by decide +kernel) (pa_cons he (pa_cons (pe_bltn (v := .ty T) hgT hmT hv rfl hn hd) pa_nil (by rw [hs1]; rfl)) hs) (he := hs) (hpl := by rw [hs1]; rfl)) fun σ H Q ⟨p, B, G, i3, en, q⟩ => ⟨p, B, G, i3, en, fun v d' G' H' r n hv' => ?_⟩
  subst r
  exact ⟨v, .ty T, _, _, c, rfl, .ty T, dz_ty hv' n.gh, kit_ty (ht.symm ▸ hk), q _ _ G' H' rfl n (.bl _)⟩
theorem pd_isi2 (t T U : String) (c c2 : Bool) {tn un : Str} {p2 p3 p4 : Pos} {k : Nat} (hm : X.mg "isinstance" = none) (hmT : X.mg tn = none) (hmU : X.mg un = none) (he : PD X e δ d) (ht : tyD d = t := by rfl) (hk : kitB t T = some c := by decide +kernel) (hkU : kitB t U = some c2 := by decide +kernel) (hv : bootBuiltins tn = some (.type T) := by decide +kernel) (hvU : bootBuiltins un = some (.type U) := by decide +kernel)
    (hgT : Gl X tn := by rfl) (hgU : Gl X un := by rfl) (hg : Gl X "isinstance" := by rfl) (hn : tn ≠ "__name__" := by decide) (hd : (tn == ("__debug__" : Str)) = false := by decide) (hn2 : un ≠ "__name__" := by decide) (hd2 : (un == ("__debug__" : Str)) = false := by decide)
    (hs1 : starEach [.Tuple [.Name tn p2, .Name un p3] k p4] X.env = [(false, eval (.Tuple [.Name tn p2, .Name un p3] k p4) X.env)] := by rfl) (hs : starEach [e, .Tuple [.Name tn p2, .Name un p3] k p4] X.env = (false, eval e X.env) :: starEach [.Tuple [.Name tn p2, .Name un p3] k p4] X.env := by rfl) (ht2 : starEach [.Name un p3] X.env = [(false, eval (.Name un p3) X.env)] := by rfl) (ht : starEach [.Name tn p2, .Name un p3] X.env = (false, eval (.Name tn p2) X.env) :: starEach [.Name un p3] X.env := by rfl) :
    PD X (.Call (.Name "isinstance" p) [e, .Tuple [.Name tn p2, .Name un p3] k p4] [] pos) δ (.bool (c || c2)) := by
  refine PE.imp (pe_callB call_isiT hg hm (by decide +kernel) (pa_cons he (pa_cons (pe_tup (pa_cons (pe_bltn (v := .ty T) hgT hmT hv rfl hn hd) (pa_cons (pe_bltn (v := .ty U) hgU hmU hvU rfl hn2 hd2) pa_nil (by rw [ht2]; rfl)) ht)) pa_nil (by rw [hs1]; rfl)) hs) (he := hs) (hpl := by rw [hs1]; rfl)) fun σ H Q ⟨p, B, G, i3, en, q⟩ => ⟨p, B, G, i3, en, fun v d' G' H' r n hv' => ?_⟩
  subst r
  have i3' := i3.nxt n
  refine ⟨by show 2 ≤ sizeLine; decide, fun l hl => ?_⟩
  have n2 := Nxt.newH i3' (.tup [.ty T, .ty U]) hl
  refine ⟨v, l, _, _, [.type T, .type U], c || c2, rfl, upd_same, .cons (.ty T) (.cons (.ty U) .nil), dz_ty hv' n2.gh, kitAny_cons (kit_ty (ht.symm ▸ hk)) (fun hc => kitAny_cons (kit_ty (ht.symm ▸ hkU)) (fun h2 => ?_) (fun h2 => ?_)) (fun hc => ?_), q _ _ _ _ rfl (n.trans n2) (.bl _)⟩
  · rw [hc, h2]; rfl
  · rw [hc, h2]; rfl
  · rw [hc]; rfl
/-- x in (..), texts -/
theorem dz_strs {K : Fg} {G : Hp} : ∀ {xs : List V} {ss : List Str}, DzAll K G xs (ss.map PyData.str) → xs = ss.map V.str
  | _, [], h => by cases h; rfl
  | _, n :: ns, h => by
    cases h with
    | cons h1 h2 => cases h1; rw [dz_strs h2]; rfl
theorem pd_inS {ss : List Str} {x : Str} (ha : PD X a δ (.str x)) (hb : PD X b δ (.tuple (ss.map PyData.str))) (hmk : behindInMarks .In b = false := by rfl) : PD X (.Compare a [.In] [b] pos) δ (.bool (ss.any fun y => y == x)) :=
  xd_cmp op_in_seq ha hb hmk fun d1 d2 e1 e2 => by
    subst e1; subst e2
    intro p B G H v w i3 h1 h2 Q q
    cases h1
    cases h2 with
    | tup hs ha =>
      have e := dz_strs ha
      subst e
      refine ⟨_, _, rfl, .inr (ex_t i3.gh hs), rfl, ?_, q _ _ G H rfl (.refl i3) ?_⟩
      · rw [List.all_map]; exact List.all_eq_true.mpr fun _ _ => rfl
      · have : inV (V.str x) (ss.map V.str) = ss.any fun y => y == x := by unfold inV; rw [List.any_map]; rfl
        show Dz _ _ (V.bl (inV (V.str x) (ss.map V.str))) _
        rw [this]; exact .bl _
/-! slices, sums of lists -/
def cutD (ds : List Dt) (lo hi : Option Int) : List Dt := (ds.drop (HT.sIx ds.length 0 lo)).take (HT.sIx ds.length ds.length hi - HT.sIx ds.length 0 lo)
theorem dz_cut {K : Fg} {G : Hp} {xs : List V} {lo hi : Option Int} (h : DzAll K G xs ds) : DzAll K G (cutV xs lo hi) (cutD ds lo hi) := by
  unfold cutV cutD
  rw [dpAll_length h]
  exact dpAll_take _ (dpAll_drop _ h)
def rO (K : Fg) (δ : De) (o : Option Int) : TO := fun σ H Q => ∃ p B G, I3 p B G H ∧ EnvD K p B G H σ δ ∧ ∀ G' H', Nxt p G H G' H' → Q o H'
def OD (X : Cx) (e : Option Expr) (δ : De) (o : Option Int) : Prop := PO X e (rO X.K δ o)
theorem PO.imp {X : Cx} {e : Option Expr} {t t' : TO} (h : PO X e t) (k : ∀ σ H Q, t' σ H Q → t σ H Q) : PO X e t' := ⟨fun pins s σ H Q I q => h.run pins s σ H Q I (k σ H Q q)⟩
theorem od_none : OD X none δ none := PO.imp po_none fun σ H Q ⟨p, B, G, i3, en, q⟩ => q G H (.refl i3)
theorem od_some (h : PD X e δ (.int i)) : OD X (some e) δ (some i) := PO.imp (po_some h) fun σ H Q ⟨p, B, G, i3, en, q⟩ => ⟨p, B, G, i3, en, fun v d G' H' r n hv => by subst r; cases hv; exact ⟨i, rfl, q G' H' n⟩⟩
theorem pd_slL {lo hi : Option Expr} {l u : Option Int} {p2 : Pos} (he : PD X e δ (.list ds)) (hl : OD X lo δ l) (hu : OD X hi δ u) : PD X (.Subscript e (.Slice lo hi none p2) pos) δ (.list (cutD ds l u)) :=
  PE.imp (pe_slice sl_list he hl hu) fun σ H Q ⟨p, B, G, i3, en, q⟩ => ⟨p, B, G, i3, en, fun v d G1 H1 r n1 hv => ⟨p, B, G1, i3.nxt n1, en.nxt n1, fun G2 H2 n2 => ⟨p, B, G2, i3.nxt (n1.trans n2), en.nxt (n1.trans n2), fun G3 H3 n3 => by
    subst r
    have n := (n1.trans n2).trans n3
    have i3' := i3.nxt n
    cases dp_ex (n2.st.1.trans n3.st.1) _ _ hv with
    | lst hs ha => exact ⟨_, _, rfl, exl i3'.gh hs, fun l hl => q _ _ _ _ rfl (n.trans (.new i3' _ hl)) (.lst (.inl (.inl upd_same)) (dpAll_ex (Ex.new (i3'.gh.free hl)) _ _ (dz_cut ha)))⟩⟩⟩⟩
theorem pd_rev {k : Nat} {p1 p2 p3 : Pos} (he : PD X e δ (.list ds)) : PD X (.Subscript e (.Slice none none (some (.UnaryOp .USub (.Constant (.int 1) k p1) p2)) p3) pos) δ (.list ds.reverse) :=
  PE.imp (pe_revL he) fun σ H Q ⟨p, B, G, i3, en, q⟩ => ⟨p, B, G, i3, en, fun v d G' H' r n hv => by
    subst r
    have i3' := i3.nxt n
    cases hv with
    | lst hs ha => exact ⟨_, _, rfl, exl i3'.gh hs, fun l hl => q _ _ _ _ rfl (n.trans (.new i3' _ hl)) (.lst (.inl (.inl upd_same)) (dpAll_ex (Ex.new (i3'.gh.free hl)) _ _ (dpAll_reverse ha)))⟩⟩
def rCatR (K : Fg) : R2 := fun x y H Q => ∃ l b xs zs, x = .ref l ∧ y = .ref b ∧ SqX K H l xs ∧ SqX K H b zs ∧ xs.length + zs.length ≤ sizeLine ∧ ∀ p, H p = none → Q (.ref p) (upd H p (.lst (xs ++ zs)))
theorem rd_lst {pins : List (Addr × Obj)} {σ : L2.St} {H : Hp} {s : Shared} {l : Addr} {xs : List V} (I : Inv X pins σ H s) (h : SqX X.K H l xs) : ∃ its n, Vals xs its ∧ s.heap.get? l = some { cls := .type "list", data := .seq its.toArray n } := by
  rcases h with h | ⟨its, n, h1, _, h3⟩
  case inr => exact ⟨its, n, h3, I.kIn l _ h1⟩
  obtain ⟨_, its, n, r, e⟩ := (show ObjOk X.prog X.w H s.heap l (.lst xs) from h.ok I.hok)
  exact ⟨its, n, r, e⟩
theorem op_catR : OpR X (binaryOp .Add) (rCatR X.K) := by
  intro pins s σ H x y v u Q I rx ry h
  obtain ⟨l, b, xs, zs, rfl, rfl, hH, hB, hz, q⟩ := h
  cases rx
  cases ry
  obtain ⟨its, n, r, e⟩ := rd_lst I hH
  obtain ⟨its2, n2, r2, e2⟩ := rd_lst I hB
  refine PySem.P.add_list e e2 ?_ (by rw [List.size_toArray, List.size_toArray, ← r.length, ← r2.length]; exact hz)
  have ea : its.toArray ++ its2.toArray = (its ++ its2).toArray := by simp
  rw [ea]
  exact ⟨.ref _, _, I.lnew (t' := s.toks) (r.append r2) (by rw [List.length_append]; exact hz), rfl, q _ I.fresh⟩
theorem pd_cat {es fs : List Dt} (ha : PD X a δ (.list es)) (hb : PD X b δ (.list fs)) (hl : es.length + fs.length ≤ 100000) : PD X (.BinOp a .Add b pos) δ (.list (es ++ fs)) := xd_op op_catR ha hb fun x y e1 e2 => by
  subst e1; subst e2
  intro p B G H v w i3 h1 h2 Q q
  cases h1 with
  | lst hs ha => cases h2 with
    | lst hs2 ha2 =>
      exact ⟨_, _, _, _, rfl, rfl, ex_x i3.gh hs, ex_x i3.gh hs2, by rw [dpAll_length ha, dpAll_length ha2]; exact Nat.le_trans hl (by decide), fun l hl => q _ _ _ _ rfl (.new i3 _ hl) (.lst (.inl (.inl upd_same)) (dpAll_ex (Ex.new (i3.gh.free hl)) _ _ (dpAll_append ha ha2)))⟩
end
end Dv

namespace Dv
open PySem PySem.Spec PyProof.Rows L2
section
variable {X : Cx} {a b c e : Expr} {δ : De} {pos : Pos} {x y : Dt} {i j : Int}
/-- comparisons as tests -/
theorem ptc {op : CmpOp} {r : R2} {k : Bool} (ho : OpR X (compareOp op) r) (ha : PD X a δ x) (hb : PD X b δ y) (hm : behindInMarks op b = false) (hr : RD X.K r x y fun d => d = .bool k) : PTD X (.Compare a [op] [b] pos) δ k :=
  xt_cmp ho ha hb hm fun x' y' e1 e2 => by
    subst e1; subst e2
    intro p B G H v w i3 h1 h2 Q q
    exact hr p B G H v w i3 h1 h2 Q fun u d G' H' e => q u d G' H' ⟨k, e, rfl⟩
theorem pt_lt (ha : PD X a δ (.int i)) (hb : PD X b δ (.int j)) : PTD X (.Compare a [.Lt] [b] pos) δ (decide (i < j)) := ptc op_lt ha hb (nomark _) (by refine rd_b ?_; rfl)
theorem pt_le (ha : PD X a δ (.int i)) (hb : PD X b δ (.int j)) : PTD X (.Compare a [.LtE] [b] pos) δ (decide (i ≤ j)) := ptc op_le ha hb (nomark _) (by refine rd_b ?_; rfl)
theorem pt_gt (ha : PD X a δ (.int i)) (hb : PD X b δ (.int j)) : PTD X (.Compare a [.Gt] [b] pos) δ (decide (j < i)) := ptc op_gt ha hb (nomark _) (by refine rd_b ?_; rfl)
theorem pt_ge (ha : PD X a δ (.int i)) (hb : PD X b δ (.int j)) : PTD X (.Compare a [.GtE] [b] pos) δ (decide (j ≤ i)) := ptc op_ge ha hb (nomark _) (by refine rd_b ?_; rfl)
theorem pt_eqI {i j : Int} (ha : PD X a δ (.int i)) (hb : PD X b δ (.int j)) : PTD X (.Compare a [.Eq] [b] pos) δ (decide (i = j)) := ptc op_eq ha hb (nomark _) (by
  intro p B G H v w i3 h1 h2 Q q
  cases h1; cases h2
  refine ⟨rfl, q _ _ G H rfl (.refl i3) ?_⟩
  have : decide (V.int i = V.int j) = decide (i = j) := by by_cases h : i = j <;> simp [h]
  rw [this]; exact .bl _)
theorem pt_neI {i j : Int} (ha : PD X a δ (.int i)) (hb : PD X b δ (.int j)) : PTD X (.Compare a [.NotEq] [b] pos) δ (!decide (i = j)) := ptc op_ne ha hb (nomark _) (by
  intro p B G H v w i3 h1 h2 Q q
  cases h1; cases h2
  refine ⟨rfl, q _ _ G H rfl (.refl i3) ?_⟩
  have : decide (V.int i = V.int j) = decide (i = j) := by by_cases h : i = j <;> simp [h]
  rw [this]; exact .bl _)
theorem pt_eqS {i j : Str} (ha : PD X a δ (.str i)) (hb : PD X b δ (.str j)) : PTD X (.Compare a [.Eq] [b] pos) δ (decide (i = j)) := ptc op_eq ha hb (nomark _) (by
  intro p B G H v w i3 h1 h2 Q q
  cases h1; cases h2
  refine ⟨rfl, q _ _ G H rfl (.refl i3) ?_⟩
  have : decide (V.str i = V.str j) = decide (i = j) := by by_cases h : i = j <;> simp [h]
  rw [this]; exact .bl _)
theorem pt_neS {i j : Str} (ha : PD X a δ (.str i)) (hb : PD X b δ (.str j)) : PTD X (.Compare a [.NotEq] [b] pos) δ (!decide (i = j)) := ptc op_ne ha hb (nomark _) (by
  intro p B G H v w i3 h1 h2 Q q
  cases h1; cases h2
  refine ⟨rfl, q _ _ G H rfl (.refl i3) ?_⟩
  have : decide (V.str i = V.str j) = decide (i = j) := by by_cases h : i = j <;> simp [h]
  rw [this]; exact .bl _)
theorem pt_eqB {i j : Bool} (ha : PD X a δ (.bool i)) (hb : PD X b δ (.bool j)) : PTD X (.Compare a [.Eq] [b] pos) δ (decide (i = j)) := ptc op_eq ha hb (nomark _) (by
  intro p B G H v w i3 h1 h2 Q q
  cases h1; cases h2
  refine ⟨rfl, q _ _ G H rfl (.refl i3) ?_⟩
  have : decide (V.bl i = V.bl j) = decide (i = j) := by by_cases h : i = j <;> simp [h]
  rw [this]; exact .bl _)
theorem pt_neB {i j : Bool} (ha : PD X a δ (.bool i)) (hb : PD X b δ (.bool j)) : PTD X (.Compare a [.NotEq] [b] pos) δ (!decide (i = j)) := ptc op_ne ha hb (nomark _) (by
  intro p B G H v w i3 h1 h2 Q q
  cases h1; cases h2
  refine ⟨rfl, q _ _ G H rfl (.refl i3) ?_⟩
  have : decide (V.bl i = V.bl j) = decide (i = j) := by by_cases h : i = j <;> simp [h]
  rw [this]; exact .bl _)

theorem pt_isN {c : Bool} (ha : PD X a δ x) (hb : PD X b δ .none) (hc : c = (match x with | .none => true | _ => false) := by rfl) : PTD X (.Compare a [.Is] [b] pos) δ c := ptc op_isN ha hb (nomark _) (by
  intro p B G H v w i3 h1 h2 Q q
  cases h2
  refine ⟨rfl, q _ _ G H rfl (.refl i3) ?_⟩
  subst hc
  cases h1 <;> exact .bl _)
theorem pt_notN {c : Bool} (ha : PD X a δ x) (hb : PD X b δ .none) (hc : c = (match x with | .none => false | _ => true) := by rfl) : PTD X (.Compare a [.IsNot] [b] pos) δ c := ptc op_notN ha hb (nomark _) (by
  intro p B G H v w i3 h1 h2 Q q
  cases h2
  refine ⟨rfl, q _ _ G H rfl (.refl i3) ?_⟩
  subst hc
  cases h1 <;> exact .bl _)
theorem pt_eqD (hu : X.A.units + 64 < cLine) (ha : PD X a δ x) (hb : PD X b δ y) (hx : SeqAt.shaped x = true) (hy : SeqAt.shaped y = true) : PTD X (.Compare a [.Eq] [b] pos) δ (PyData.eqv x y) := ptc (op_eqD hu) ha hb (nomark _) (by
  intro p B G H v w i3 h1 h2 Q q
  exact ⟨_, _, dz_dp _ _ (nds hx) (dp_ex i3.gh _ _ h1), dz_dp _ _ (nds hy) (dp_ex i3.gh _ _ h2), hx, hy, q _ _ G H rfl (.refl i3) (.bl _)⟩)
theorem pt_neD (hu : X.A.units + 64 < cLine) (ha : PD X a δ x) (hb : PD X b δ y) (hx : SeqAt.shaped x = true) (hy : SeqAt.shaped y = true) : PTD X (.Compare a [.NotEq] [b] pos) δ (!PyData.eqv x y) := ptc (op_neD hu) ha hb (nomark _) (by
  intro p B G H v w i3 h1 h2 Q q
  exact ⟨_, _, dz_dp _ _ (nds hx) (dp_ex i3.gh _ _ h1), dz_dp _ _ (nds hy) (dp_ex i3.gh _ _ h2), hx, hy, q _ _ G H rfl (.refl i3) (.bl _)⟩)
end
end Dv

set_option linter.all false
set_option maxRecDepth 100000
set_option maxHeartbeats 2000000
namespace Dv
open PySem PySem.Spec PyProof.Rows L2
/-! ### statements -/
structure Out where
  nx : De → Prop := fun _ => False
  rt : Dt → Prop := fun _ => False
  bk : De → Prop := fun _ => False
  ct : De → Prop := fun _ => False
  ro : List Dt → Prop := fun _ => False
/-- what is wanted, from (B, G) on -/
structure Post (K : Fg) (p : Option Addr) (B G : Hp) (D : Ends) (o : Out) : Prop where
  nx : ∀ δ σ G' H', o.nx δ → Step B G G' → I3 p B G' H' → EnvD K p B G' H' σ δ → D.nx σ H'
  rt : ∀ d v G' H', o.rt d → Step B G G' → I3 p B G' H' → Dz K G' v d → D.rt v H'
  bk : ∀ δ σ G' H', o.bk δ → Step B G G' → I3 p B G' H' → EnvD K p B G' H' σ δ → D.bk σ H'
  ct : ∀ δ σ G' H', o.ct δ → Step B G G' → I3 p B G' H' → EnvD K p B G' H' σ δ → D.ct σ H'
  ro : ∀ ds l xs G' H', o.ro ds → Step B G G' → I3 p B G' H' → B l = none → G' l = none → p ≠ some l → H' l = some (.lst xs) → DzAll K G' xs ds → D.rt (.ref l) H'
def rS (K : Fg) (δ : De) (o : Out) : TS := fun D σ H => ∃ p B G, I3 p B G H ∧ EnvD K p B G H σ δ ∧ Post K p B G D o
def SD (X : Cx) (st : Stmt) (δ : De) (o : Out) : Prop := PS X st (rS X.K δ o)
def SsD (X : Cx) (st : List Stmt) (δ : De) (o : Out) : Prop := PSs X st (rS X.K δ o)
theorem Post.step {K : Fg} {p : Option Addr} {B G G' : Hp} {D : Ends} {o : Out} (h : Post K p B G D o) (s : Step B G G') : Post K p B G' D o :=
  ⟨fun δ σ G2 H2 a b => h.nx δ σ G2 H2 a (s.trans b), fun d v G2 H2 a b => h.rt d v G2 H2 a (s.trans b), fun δ σ G2 H2 a b => h.bk δ σ G2 H2 a (s.trans b), fun δ σ G2 H2 a b => h.ct δ σ G2 H2 a (s.trans b), fun ds l xs G2 H2 a b => h.ro ds l xs G2 H2 a (s.trans b)⟩
theorem Nxt.stepB {p : Option Addr} {B G H G' H' : Hp} (i : I3 p B G H) (n : Nxt p G H G' H') : Step B G G' := n.st.le fun a h => by
  cases q : B a with
  | none => exact absurd q h
  | some o => exact nn (i.bh a o q)
section
variable {X : Cx} {st : Stmt} {sts tss : List Stmt} {a b c e : Expr} {es : List Expr} {δ δ' : De} {o : Out} {d : Dt} {ds : List Dt} {pos p : Pos} {R : Dt → Prop}
theorem SD.mono {o1 : Out} (h : SD X st δ o1) (h1 : ∀ x, o1.nx x → o.nx x) (h2 : ∀ x, o1.rt x → o.rt x) (h3 : ∀ x, o1.bk x → o.bk x) (h4 : ∀ x, o1.ct x → o.ct x) (h5 : ∀ x, o1.ro x → o.ro x) : SD X st δ o := PS.imp h fun D σ H ⟨p, B, G, i3, en, q⟩ =>
  ⟨p, B, G, i3, en, fun δ σ G2 H2 a => q.nx δ σ G2 H2 (h1 _ a), fun d v G2 H2 a => q.rt d v G2 H2 (h2 _ a), fun δ σ G2 H2 a => q.bk δ σ G2 H2 (h3 _ a), fun δ σ G2 H2 a => q.ct δ σ G2 H2 (h4 _ a), fun ds l xs G2 H2 a => q.ro ds l xs G2 H2 (h5 _ a)⟩
theorem ss_nil (h : o.nx δ) : SsD X [] δ o := PSs.imp pss_nil fun D σ H ⟨p, B, G, i3, en, q⟩ => q.nx δ σ G H h (.refl _ _) i3 en
/-- a statement, then the rest from whatever it may leave -/
theorem ss_seq {N : De → Prop} (h : SD X st δ { o with nx := N }) (k : ∀ δ', N δ' → SsD X sts δ' o) : SsD X (st :: sts) δ o := by
  have hk : PSs X sts (fun D σ H => ∃ δ', N δ' ∧ rS X.K δ' o D σ H) := ⟨fun pins s σ H D I ⟨δ', n, q⟩ => (k δ' n).run pins s σ H D I q⟩
  exact PSs.imp (pss_cons h hk) fun D σ H ⟨p, B, G, i3, en, q⟩ => ⟨p, B, G, i3, en, fun δ1 σ1 G1 H1 a s i en1 => ⟨δ1, a, p, B, G1, i, en1, q.step s⟩, q.rt, q.bk, q.ct, q.ro⟩
theorem ss_to (h : SD X st δ { o with nx := fun x => x = δ' }) (k : SsD X sts δ' o) : SsD X (st :: sts) δ o := ss_seq h fun _ e => e ▸ k
/-- a statement that does not go on -/
theorem ss_end (h : SD X st δ { o with nx := fun _ => False }) : SsD X (st :: sts) δ o := ss_seq h fun _ z => z.elim
theorem sd_ret (h : XD X e δ R) (hR : ∀ d, R d → o.rt d) : SD X (.Return (some e) pos) δ o := PS.imp (ps_ret h) fun D σ H ⟨p, B, G, i3, en, q⟩ => ⟨p, B, G, i3, en, fun v d G' H' r n hv => q.rt d v G' H' (hR d r) (n.stepB i3) (i3.nxt n) hv⟩
theorem s_ret (h : PD X e δ d) (hR : o.rt d) : SsD X (.Return (some e) pos :: sts) δ o := ss_end (sd_ret h fun x e => e ▸ hR)
/-- x = e -/
theorem sd_set (i : Nat) {x : Str} {N : De → Prop} {pos' : Pos} (hN : X.N.Nodup) (he : XD X e δ R) (hR : ∀ d, R d → N (δ.set i (.d d))) (hi : X.N[i]? = some x := by rfl) (hx : Loc X.env.scope x := by first | exact Or.inl rfl | exact Or.inr rfl)
    (hs : swapsWith e (some (.Name x pos')) pos.line X.env = pure false := by rfl) (hf : X.fn x = true ∨ X.env.scope.names.lookup x = some .local := by first | exact .inl rfl | exact .inr rfl | assumption) : SD X (.Assign [.Name x pos'] e pos) δ { o with nx := N } :=
  PS.imp (ps_set hN hi hx he hs hf) fun D σ H ⟨p, B, G, i3, en, q⟩ => ⟨p, B, G, i3, en, fun v d G' H' r n hv => q.nx _ _ G' H' (hR d r) (n.stepB i3) (i3.nxt n) ((en.nxt n).set hv)⟩
theorem s_set (i : Nat) {x : Str} {pos' : Pos} (hN : X.N.Nodup) (he : PD X e δ d) (k : SsD X sts (δ.set i (.d d)) o) (hi : X.N[i]? = some x := by rfl) (hx : Loc X.env.scope x := by first | exact Or.inl rfl | exact Or.inr rfl)
    (hs : swapsWith e (some (.Name x pos')) pos.line X.env = pure false := by rfl) (hf : X.fn x = true ∨ X.env.scope.names.lookup x = some .local := by first | exact .inl rfl | exact .inr rfl | assumption) : SsD X (.Assign [.Name x pos'] e pos :: sts) δ o :=
  ss_to (sd_set i hN he (fun x e => by rw [e]) hi hx hs hf) k
/-- a, b, .. = e -/
theorem sd_asg {tg : Expr} {js : List Nat} {N : De → Prop} (he : XD X e δ R) (F : Dt → De) (hg : ∀ d, R d → TgD X tg js d δ (F d)) (hR : ∀ d, R d → N (F d)) (hs : swapsWithSole [tg] e pos.line X.env = pure false := by rfl) (hw : swappedStores [tg] e X.env = pure none := by rfl)
    (h1 : (assignEach [tg] X.env).map (·.2) = [assign tg X.env] := by rfl) : SD X (.Assign [tg] e pos) δ { o with nx := N } := by
  have pg : PG X tg (fun v σ H Q => ∃ d, R d ∧ rG X.K js d δ (F d) v σ H Q) := ⟨fun pins s σ H v u Q I r ⟨d, a, q⟩ => (hg d a).run pins s σ H v u Q I r q⟩
  exact PS.imp (ps_asg he pg hs hw h1) fun D σ H ⟨p, B, G, i3, en, q⟩ => ⟨p, B, G, i3, en, fun v d G' H' r n hv => ⟨d, r, p, B, G', i3.nxt n, en.nxt n, hv, fun σ' en' _ => q.nx _ _ G' H' (hR d r) (n.stepB i3) (i3.nxt n) en'⟩⟩
theorem s_asg {tg : Expr} {js : List Nat} (he : PD X e δ d) (hg : TgD X tg js d δ δ') (k : SsD X sts δ' o) (hs : swapsWithSole [tg] e pos.line X.env = pure false := by rfl) (hw : swappedStores [tg] e X.env = pure none := by rfl)
    (h1 : (assignEach [tg] X.env).map (·.2) = [assign tg X.env] := by rfl) : SsD X (.Assign [tg] e pos :: sts) δ o :=
  ss_to (sd_asg he (fun _ => δ') (fun x e => by rw [e]; exact hg) (fun _ _ => rfl) hs hw h1) k
/-- an expression alone -/
theorem sd_expr {N : De → Prop} (he : XD X e δ R) (hR : ∀ d, R d → N δ) (hs : swapsWith e none pos.line X.env = pure false := by rfl) : SD X (.Expr e pos) δ { o with nx := N } :=
  PS.imp (ps_expr he hs) fun D σ H ⟨p, B, G, i3, en, q⟩ => ⟨p, B, G, i3, en, fun v d G' H' r n hv => q.nx _ _ G' H' (hR d r) (n.stepB i3) (i3.nxt n) (en.nxt n)⟩
theorem s_expr (he : PD X e δ d) (k : SsD X sts δ o) (hs : swapsWith e none pos.line X.env = pure false := by rfl) : SsD X (.Expr e pos :: sts) δ o := ss_to (sd_expr he (fun _ _ => rfl) hs) k
/-- if -/
theorem sd_if {S : Bool → Prop} (hc : XT X c δ S) (h1 : S true → SsD X sts δ o) (h2 : S false → SsD X tss δ o) : SD X (.If c sts tss pos) δ o := by
  have z1 : PSs X sts (fun D σ H => S true ∧ rS X.K δ o D σ H) := ⟨fun pins s σ H D I h => (h1 h.1).run pins s σ H D I h.2⟩
  have z2 : PSs X tss (fun D σ H => S false ∧ rS X.K δ o D σ H) := ⟨fun pins s σ H D I h => (h2 h.1).run pins s σ H D I h.2⟩
  exact PS.imp (ps_if hc z1 z2) fun D σ H ⟨p, B, G, i3, en, q⟩ => ⟨p, B, G, i3, en, fun k G' H' r n => by
    cases k with
    | true => exact iteT ⟨r, p, B, G', i3.nxt n, en.nxt n, q.step (n.stepB i3)⟩
    | false => exact iteF ⟨r, p, B, G', i3.nxt n, en.nxt n, q.step (n.stepB i3)⟩⟩
/-- if c: .. that ends; then the rest -/
theorem s_if {k : Bool} (hc : PTD X c δ k) (h1 : k = true → SsD X sts δ { o with nx := fun _ => False }) (h2 : k = false → SsD X tss δ o) : SsD X (.If c sts [] pos :: tss) δ o :=
  ss_seq (N := fun x => k = false ∧ x = δ) (sd_if hc (fun h => PSs.imp (h1 h.symm) fun D σ H ⟨p, B, G, i3, en, q⟩ => ⟨p, B, G, i3, en, fun _ _ _ _ z => z.elim, q.rt, q.bk, q.ct, q.ro⟩) fun h => ss_nil ⟨h.symm, rfl⟩) fun x ⟨h, e⟩ => e ▸ h2 h
/-- a test known to be false -/
theorem s_if0 (hc : PTD X c δ false) (h2 : SsD X tss δ o) : SsD X (.If c sts [] pos :: tss) δ o := s_if hc (fun h => Bool.noConfusion h) fun _ => h2
/-- for -/
theorem sd_for {tg iter : Expr} {js : List Nat} {S : List Dt → Prop} {N : De → Prop} (hp : PassesOwn (model X.prog X.w) X.A X.env X.xe) (hc : X.calm = true) (hi : XI X tg iter δ S) (Iv : List Dt → Nat → De → Prop) (h0 : ∀ ds, S ds → Iv ds 0 δ)
    (F : Dt → De → De) (hg : ∀ ds (i : Nat) d δ', S ds → ds[i]? = some d → Iv ds i δ' → TgD X tg js d δ' (F d δ'))
    (hb : ∀ ds (i : Nat) d δ', S ds → ds[i]? = some d → Iv ds i δ' → SsD X sts (F d δ') { nx := Iv ds (i + 1), rt := o.rt, ro := o.ro, bk := N, ct := Iv ds (i + 1) })
    (hd : ∀ ds δ', S ds → Iv ds ds.length δ' → N δ') (hs : ∀ x, foldedSetIterable iter X.env x = pure x := by intro _; rfl) : SD X (.For tg iter sts [] pos) δ { o with nx := N } := by
  have pg : PG X tg (fun v σ H Q => ∃ ds, ∃ (i : Nat), ∃ d δ', S ds ∧ ds[i]? = some d ∧ Iv ds i δ' ∧ rG X.K js d δ' (F d δ') v σ H Q) := ⟨fun pins s σ H v u Q I r ⟨ds, i, d, δ', a, b, c, q⟩ => (hg ds i d δ' a b c).run pins s σ H v u Q I r q⟩
  have pb : PSs X sts (fun D σ H => ∃ ds, ∃ (i : Nat), ∃ d δ', S ds ∧ ds[i]? = some d ∧ Iv ds i δ' ∧ rS X.K (F d δ') { nx := Iv ds (i + 1), rt := o.rt, ro := o.ro, bk := N, ct := Iv ds (i + 1) } D σ H) := ⟨fun pins s σ H D I ⟨ds, i, d, δ', a, b, c, q⟩ => (hb ds i d δ' a b c).run pins s σ H D I q⟩
  refine PS.imp (ps_for hp hc hi pg pb (hs := hs)) fun D σ H ⟨p, B, G, i3, en, q⟩ => ⟨p, B, G, i3, en, fun J ds G1 H1 s n yl => ?_⟩
  have st1 := n.stepB i3
  refine ⟨fun i m σ' H' => m = ds.length - i ∧ i ≤ ds.length ∧ ∃ G' δ', Step B G1 G' ∧ I3 p B G' H' ∧ EnvD X.K p B G' H' σ' δ' ∧ Iv ds i δ', ⟨_, rfl, Nat.zero_le _, G1, δ, .refl _ _, i3.nxt n, en.nxt n, h0 ds s⟩, ?_⟩
  rintro i m σ' H' ⟨em, hle, G', δ', st', i3', en', iv⟩
  by_cases hlt : i < ds.length
  · obtain ⟨go, yd⟩ := (yl p B G' H' st'.1 i3' i).1 hlt
    refine .inr ⟨go, fun σ2 H2 => ∃ G2 δ2, Step B G1 G2 ∧ I3 p B G2 H2 ∧ EnvD X.K p B G2 H2 σ2 δ2 ∧ Iv ds (i + 1) δ2, fun σ2 H2 ⟨G2, δ2, a1, a2, a3, a4⟩ => ⟨_, by omega, rfl, by omega, G2, δ2, a1, a2, a3, a4⟩, fun x H2 hy => ?_⟩
    obtain ⟨G2, d, e2, n2, hx⟩ := yd x H2 hy
    refine ⟨ds, i, d, δ', s, e2, iv, p, B, G2, i3'.nxt n2, en'.nxt n2, hx, fun σ2 en2 _ => ⟨ds, i, d, δ', s, e2, iv, p, B, G2, i3'.nxt n2, en2, ?_⟩⟩
    have st2 := st'.trans (n2.stepB i3')
    exact ⟨fun δ3 σ3 G3 H3 a b c e => ⟨G3, δ3, st2.trans b, c, e, a⟩, fun d3 v3 G3 H3 a b => q.rt d3 v3 G3 H3 a ((st1.trans st2).trans b), fun δ3 σ3 G3 H3 a b => q.nx δ3 σ3 G3 H3 a ((st1.trans st2).trans b), fun δ3 σ3 G3 H3 a b c e => ⟨G3, δ3, st2.trans b, c, e, a⟩, fun ds3 l3 xs3 G3 H3 a b => q.ro ds3 l3 xs3 G3 H3 a ((st1.trans st2).trans b)⟩
  · have e : i = ds.length := by omega
    subst e
    exact .inl ⟨(yl p B G' H' st'.1 i3' _).2 rfl, q.nx δ' σ' G' H' (hd ds δ' s iv) (st1.trans st') i3' en'⟩
/-- while -/
theorem sd_while {N : De → Prop} (hp : PassesOwn (model X.prog X.w) X.A X.env X.xe) (Iv : Nat → De → Prop) (m0 : Nat) (h0 : Iv m0 δ) (T : Nat → De → Bool → Prop) (hc : ∀ m δ', Iv m δ' → XT X c δ' (T m δ'))
    (hb : ∀ m δ', Iv m δ' → T m δ' true → SsD X sts δ' { nx := fun δ2 => ∃ m', m' < m ∧ Iv m' δ2, rt := o.rt, ro := o.ro, bk := N, ct := fun δ2 => ∃ m', m' < m ∧ Iv m' δ2 })
    (hd : ∀ m δ', Iv m δ' → T m δ' false → N δ') : SD X (.While c sts [] pos) δ { o with nx := N } := by
  have pc : PT X c (fun σ H Q => ∃ m δ', Iv m δ' ∧ rT X.K δ' (T m δ') σ H Q) := ⟨fun pins s σ H Q I ⟨m, δ', a, q⟩ => (hc m δ' a).run pins s σ H Q I q⟩
  have pb : PSs X sts (fun D σ H => ∃ m δ', Iv m δ' ∧ T m δ' true ∧ rS X.K δ' { nx := fun δ2 => ∃ m', m' < m ∧ Iv m' δ2, rt := o.rt, ro := o.ro, bk := N, ct := fun δ2 => ∃ m', m' < m ∧ Iv m' δ2 } D σ H) := ⟨fun pins s σ H D I ⟨m, δ', a, b, q⟩ => (hb m δ' a b).run pins s σ H D I q⟩
  refine PS.imp (ps_while hp pc pb) fun D σ H ⟨p, B, G, i3, en, q⟩ => ⟨fun m σ' H' => ∃ G' δ', Step B G G' ∧ I3 p B G' H' ∧ EnvD X.K p B G' H' σ' δ' ∧ Iv m δ', ⟨m0, G, δ, .refl _ _, i3, en, h0⟩, ?_⟩
  rintro m σ' H' ⟨G', δ', st', i3', en', iv⟩
  refine ⟨m, δ', iv, p, B, G', i3', en', fun k G2 H2 t n2 => ?_⟩
  have st2 := st'.trans (n2.stepB i3')
  cases k with
  | true => exact iteT ⟨fun σ3 H3 => ∃ m', m' < m ∧ ∃ G3 δ3, Step B G G3 ∧ I3 p B G3 H3 ∧ EnvD X.K p B G3 H3 σ3 δ3 ∧ Iv m' δ3, fun σ3 H3 h => h, m, δ', iv, t, p, B, G2, i3'.nxt n2, en'.nxt n2,
      fun δ3 σ3 G3 H3 ⟨m', a1, a2⟩ b c e => ⟨m', a1, G3, δ3, st2.trans b, c, e, a2⟩, fun d3 v3 G3 H3 a b => q.rt d3 v3 G3 H3 a (st2.trans b), fun δ3 σ3 G3 H3 a b => q.nx δ3 σ3 G3 H3 a (st2.trans b), fun δ3 σ3 G3 H3 ⟨m', a1, a2⟩ b c e => ⟨m', a1, G3, δ3, st2.trans b, c, e, a2⟩, fun ds3 l3 xs3 G3 H3 a b => q.ro ds3 l3 xs3 G3 H3 a (st2.trans b)⟩
  | false => exact iteF (q.nx δ' σ' G2 H2 (hd m δ' iv t) st2 (i3'.nxt n2) (en'.nxt n2))
/-- an if at the end -/
theorem s_when {k : Bool} (hc : PTD X c δ k) (h1 : k = true → SsD X sts δ o) (h2 : k = false → SsD X tss δ o) : SsD X [.If c sts tss pos] δ o :=
  ss_seq (N := o.nx) (sd_if hc (fun h => h1 h.symm) fun h => h2 h.symm) fun _ h => ss_nil h
end
end Dv

set_option linter.all false
set_option maxRecDepth 100000
set_option maxHeartbeats 2000000
namespace Dv
open PySem PySem.Spec PyProof.Rows L2
/-! ### promises by data: R: the arguments' data, the answer's -/
def spD (K : Fg) (R : List Dt → Dt → Prop) : Sp := fun vs H Q _ => ∃ G ds d, Ex G H ∧ DzAll K G vs ds ∧ R ds d ∧ ∀ v G' H', Step H G G' → Ex H H' → Ex G' H' → Dz K G' v d → Q v H'
/-- the answer is a new list, data of nobody's yet -/
def spO (K : Fg) (R : List Dt → List Dt → Prop) : Sp := fun vs H Q _ => ∃ G ds es, Ex G H ∧ DzAll K G vs ds ∧ R ds es ∧ ∀ l xs G' H', Step H G G' → Ex H H' → Ex G' H' → H l = none → G' l = none → H' l = some (.lst xs) → DzAll K G' xs es → Q (.ref l) H'
/-- with a pot as the first argument; S: what the answer may be -/
def spP (K : Fg) (R : List Dt → (Dt → Prop) → Prop) : Sp := fun vs H Q _ => ∃ B G q ws ds S, I3 (some q) B G H ∧ vs = V.ref q :: ws ∧ DzAll K G ws ds ∧ R ds S ∧ ∀ v d G' H', S d → Step B G G' → I3 (some q) B G' H' → Dz K G' v d → Q v H'
def stD (N : List Str) (es : List En) : De := es ++ List.replicate (N.length - es.length) .no
theorem env_start {K : Fg} {p : Option Addr} {B G H : Hp} {N : List Str} {vs : List V} {es : List En} (hl : vs.length = es.length) (h : ∀ (i : Nat) e, es[i]? = some e → ∃ v, vs[i]? = some v ∧ Slot K p B G H e (some v)) (no : ∀ e ∈ es, ∀ o a, ¬ Foot e o a) : EnvD K p B G H (L2.start N vs) (stD N es) := by
  have el : (L2.start N vs).length = (stD N es).length := by
    unfold L2.start stD
    simp only [List.length_append, List.length_map, List.length_replicate, hl]
  have at1 : ∀ (i : Nat) e, (stD N es)[i]? = some e → i < es.length ∧ es[i]? = some e ∨ e = .no := fun i e q => by
    unfold stD at q
    by_cases hi : i < es.length
    · rw [List.getElem?_append_left hi] at q; exact .inl ⟨hi, q⟩
    · rw [List.getElem?_append_right (by omega), List.getElem?_replicate] at q
      split at q
      · cases q; exact .inr rfl
      · cases q
  refine ⟨el, fun i e q => ?_, fun i j e f oi oj a _ q1 _ _ _ m1 => ?_⟩
  · rcases at1 i e q with ⟨hi, q'⟩ | rfl
    · obtain ⟨v, hv, s⟩ := h i e q'
      refine ⟨some v, ?_, s⟩
      unfold L2.start
      rw [List.getElem?_append_left (by rw [List.length_map, hl]; exact hi), List.getElem?_map, hv]; rfl
    · have hi : i < (L2.start N vs).length := by rw [el]; exact (List.getElem?_eq_some_iff.mp q).1
      exact ⟨_, List.getElem?_eq_getElem hi, trivial⟩
  · rcases at1 i e q1 with ⟨hi, q'⟩ | rfl
    · exact absurd m1 (no e (List.mem_of_getElem? q') _ _)
    · exact (foot_no m1).elim
theorem env_data {K : Fg} {p : Option Addr} {B G H : Hp} {N : List Str} {vs : List V} {ds : List Dt} (h : DzAll K G vs ds) : EnvD K p B G H (L2.start N vs) (stD N (ds.map .d)) :=
  env_start (by rw [List.length_map]; exact dpAll_length h) (fun i e q => by
    rw [List.getElem?_map] at q
    cases z : ds[i]? with
    | none => rw [z] at q; cases q
    | some d =>
      rw [z] at q
      cases q
      obtain ⟨v, a, b⟩ := dpAll_get h z
      exact ⟨v, a, v, rfl, b⟩) fun e he => by
    obtain ⟨d, _, rfl⟩ := List.mem_map.mp he
    exact fun o a => foot_d
theorem env_pot {K : Fg} {q : Addr} {B G H : Hp} {N : List Str} {vs : List V} {ds : List Dt} (h : DzAll K G vs ds) : EnvD K (some q) B G H (L2.start N (V.ref q :: vs)) (stD N (.pot :: ds.map .d)) :=
  env_start (by rw [List.length_cons, List.length_cons, List.length_map, dpAll_length h]) (fun i e z => by
    cases i with
    | zero => simp at z; subst z; exact ⟨_, rfl, q, rfl, rfl⟩
    | succ i =>
      rw [List.getElem?_cons_succ, List.getElem?_map] at z
      cases y : ds[i]? with
      | none => rw [y] at z; cases z
      | some d =>
        rw [y] at z
        cases z
        obtain ⟨v, a, b⟩ := dpAll_get h y
        exact ⟨v, by rw [List.getElem?_cons_succ]; exact a, v, rfl, b⟩) fun e he => by
    rcases List.mem_cons.mp he with rfl | he
    · exact fun o a => foot_pot
    · obtain ⟨d, _, rfl⟩ := List.mem_map.mp he
      exact fun o a => foot_d
/-- a def of the text, by what it does with data; k: its level -/
structure Cal (P : Program) (w : World) (K : Fg) (mg : Str → Option Value) (base : Heap) (k : Nat) (x : Str) (ps : List Str) (st : Stmt) (sp : Sp) : Prop where
  ex : ∃ f fd, FnG P w K mg base k f fd ps sp ∧ mg x = some (.ref f) ∧ PySem.W.keepIn K (.ref f) = true ∧ Binds K fd ps [] ∧ Fun K x x st f fd
section
variable {P : Program} {w : World} {K : Fg} {mg : Str → Option Value} {base : Heap} {x : Str} {st : Stmt} {f : Addr} {fd : FuncData} {N ps : List Str} {k : Nat} {R : List Dt → Dt → Prop}
theorem fn_data (F : Fun K x x st f fd) (S : FnScope N ps (defScope st)) (len : ∀ ds d, R ds d → ds.length = ps.length)
    (body : ∀ (cdv : Value) (A : Around) (outer : List Env) (s : Shared) (H : Hp) (E : XK), Room k (xc P w K mg base N x st f cdv A outer s H E).A → (xc P w K mg base N x st f cdv A outer s H E).A.guards = some [] → (xc P w K mg base N x st f cdv A outer s H E).A.units + 64 < cLine →
      ∀ ds d, R ds d → SsD (xc P w K mg base N x st f cdv A outer s H E) (defBody st) (stD N (ds.map .d)) { nx := fun _ => d = .none, rt := fun y => y = d }) : FnG P w K mg base (k + 1) f fd ps (spD K R) := by
  refine fnG_of F S (fun vs H Q E ⟨G, ds, d, _, h, r, _⟩ => by rw [dpAll_length h]; exact len ds d r) fun cdv A outer s H vs Q E hr hg ⟨G, ds, d, eg, h, r, q⟩ => ?_
  refine ⟨_, body cdv A outer s H E hr hg hr.units ds d r, none, H, G, ⟨Ex.refl H, eg, fun _ z => nomatch z⟩, env_data h, ?_, ?_, ?_, ?_, ?_⟩
  · intro δ σ G' H' e s' i en
    subst e
    exact q .non G' H' s' i.bh i.gh .non
  · intro d' v G' H' e s' i hv
    subst e
    exact q v G' H' s' i.bh i.gh hv
  · intro _ _ _ _ z; exact z.elim
  · intro _ _ _ _ z; exact z.elim
  · intro _ _ _ _ _ z; exact z.elim
/-- an own list as the answer -/
theorem fn_own {R : List Dt → List Dt → Prop} (F : Fun K x x st f fd) (S : FnScope N ps (defScope st)) (len : ∀ ds d, R ds d → ds.length = ps.length)
    (body : ∀ (cdv : Value) (A : Around) (outer : List Env) (s : Shared) (H : Hp) (E : XK), Room k (xc P w K mg base N x st f cdv A outer s H E).A → (xc P w K mg base N x st f cdv A outer s H E).A.guards = some [] → (xc P w K mg base N x st f cdv A outer s H E).A.units + 64 < cLine →
      ∀ ds es, R ds es → SsD (xc P w K mg base N x st f cdv A outer s H E) (defBody st) (stD N (ds.map .d)) { ro := fun y => y = es }) : FnG P w K mg base (k + 1) f fd ps (spO K R) := by
  refine fnG_of F S (fun vs H Q E ⟨G, ds, d, _, h, r, _⟩ => by rw [dpAll_length h]; exact len ds d r) fun cdv A outer s H vs Q E hr hg ⟨G, ds, es, eg, h, r, q⟩ => ?_
  refine ⟨_, body cdv A outer s H E hr hg hr.units ds es r, none, H, G, ⟨Ex.refl H, eg, fun _ z => nomatch z⟩, env_data h, ?_, ?_, ?_, ?_, ?_⟩
  · intro _ _ _ _ z; exact z.elim
  · intro _ _ _ _ z; exact z.elim
  · intro _ _ _ _ z; exact z.elim
  · intro _ _ _ _ z; exact z.elim
  · intro ds' l xs G' H' e s' i h1 h2 _ h3 h4
    subst e
    exact q l xs G' H' s' i.bh i.gh h1 h2 h3 h4
theorem fn_pot {R : List Dt → (Dt → Prop) → Prop} (F : Fun K x x st f fd) (S : FnScope N ps (defScope st)) (len : ∀ ds T, R ds T → ds.length + 1 = ps.length)
    (body : ∀ (cdv : Value) (A : Around) (outer : List Env) (s : Shared) (H : Hp) (E : XK), Room k (xc P w K mg base N x st f cdv A outer s H E).A → (xc P w K mg base N x st f cdv A outer s H E).A.guards = some [] → (xc P w K mg base N x st f cdv A outer s H E).A.units + 64 < cLine →
      ∀ ds T, R ds T → SsD (xc P w K mg base N x st f cdv A outer s H E) (defBody st) (stD N (.pot :: ds.map .d)) { nx := fun _ => T .none, rt := T }) : FnG P w K mg base (k + 1) f fd ps (spP K R) := by
  refine fnG_of F S (fun vs H Q E ⟨B, G, q, ws, ds, T, _, e, h, r, _⟩ => by rw [e, List.length_cons, dpAll_length h]; exact len ds T r) fun cdv A outer s H vs Q E hr hg ⟨B, G, q, ws, ds, T, i, e, h, r, qq⟩ => ?_
  subst e
  refine ⟨_, body cdv A outer s H E hr hg hr.units ds T r, some q, B, G, i, env_pot h, ?_, ?_, ?_, ?_, ?_⟩
  · intro δ σ G' H' t s' i' en
    exact qq .non .none G' H' t s' i' .non
  · intro d' v G' H' t s' i' hv
    exact qq v d' G' H' t s' i' hv
  · intro _ _ _ _ z; exact z.elim
  · intro _ _ _ _ z; exact z.elim
  · intro _ _ _ _ _ z; exact z.elim
end
section
variable {X : Cx} {k : Nat} {x : Str} {ps ks : List Str} {st : Stmt} {R : List Dt → Dt → Prop} {δ : De} {e : Expr} {es : List Expr} {ds : List Dt} {d : Dt} {p pos : Pos} {kws : List Keyword} {S : List Dt → Prop} {U : Dt → Prop}
theorem sp_use {K : Fg} {p : Option Addr} {B G H : Hp} {vs : List V} {Q : VK} (i3 : I3 p B G H) (hv : DzAll K G vs ds) (hR : R ds d) (q : ∀ v G' H', Nxt p G H G' H' → Dz K G' v d → Q v H') : spD K R vs H Q E0 :=
  ⟨G, ds, d, i3.gh, hv, hR, fun v G' H' s e g hd => q v G' H' ⟨s, fun a o h => e a o (del_le h).1, g, fun z hz => by
    obtain ⟨_, _, a, b, h3, h4⟩ := i3.pot z hz
    exact ⟨a, b, e _ _ h3, h4⟩⟩ hd⟩
theorem xd_call (C : Cal X.prog X.w X.K X.mg X.base k x ps st (spD X.K R)) (ha : XA X (e :: es) δ S) (hR : ∀ ds, S ds → ∃ d, R ds d ∧ U d) (hr : Room k X.A := by first | assumption | (refine Room.mono (by assumption) ?_; decide)) (hgd : X.A.guards = some [] := by assumption) (hg : Gl X x := by rfl)
    (hpl : starEach es X.env = es.map fun e => (false, eval e X.env) := by rfl) (hdb : (x == ("__debug__" : Str)) = false := by decide) : XD X (.Call (.Name x p) (e :: es) [] pos) δ U := by
  obtain ⟨f, fd, G, hm, hk, hb, _⟩ := C.ex
  exact PE.imp (pe_g G hr hgd hg hm hk hb ha.pa hdb (by rw [hpl]; exact ha.pl) (back_plain hpl)) fun σ H Q ⟨p, B, G, i3, en, q⟩ => ⟨p, B, G, i3, en, fun vs ds G' H' s n hv => by
    obtain ⟨d, h1, h2⟩ := hR ds s
    exact sp_use (i3.nxt n) hv h1 fun v G2 H2 n2 hd => q v d G2 H2 h2 (n.trans n2) hd⟩
theorem pd_call (C : Cal X.prog X.w X.K X.mg X.base k x ps st (spD X.K R)) (ha : PAD X (e :: es) δ ds) (hR : R ds d) (hr : Room k X.A := by first | assumption | (refine Room.mono (by assumption) ?_; decide)) (hgd : X.A.guards = some [] := by assumption) (hg : Gl X x := by rfl)
    (hpl : starEach es X.env = es.map fun e => (false, eval e X.env) := by rfl) (hdb : (x == ("__debug__" : Str)) = false := by decide) : PD X (.Call (.Name x p) (e :: es) [] pos) δ d :=
  xd_call C ha (fun y h => ⟨d, by rw [h]; exact hR, rfl⟩) hr hgd hg hpl hdb
theorem pd_call0 (C : Cal X.prog X.w X.K X.mg X.base k x ps st (spD X.K R)) (hR : R [] d) (hr : Room k X.A := by first | assumption | (refine Room.mono (by assumption) ?_; decide)) (hgd : X.A.guards = some [] := by assumption) (hg : Gl X x := by rfl)
    (hdb : (x == ("__debug__" : Str)) = false := by decide) : PD X (.Call (.Name x p) [] [] pos) δ d := by
  obtain ⟨f, fd, G, hm, hk, hb, _⟩ := C.ex
  exact PE.imp (pe_g0 G hr hgd hg hm hk hb hdb) fun σ H Q ⟨p, B, G, i3, en, q⟩ => sp_use i3 .nil hR fun v G2 H2 n2 hd => q v d G2 H2 rfl n2 hd
/-- a new list taken as data -/
theorem spO_data {K : Fg} {R : List Dt → List Dt → Prop} : ∀ vs H Q E, spD K (fun ds d => ∃ es, R ds es ∧ d = .list es) vs H Q E → spO K R vs H Q E := fun vs H Q E ⟨G, ds, d, e, h, ⟨es, r, ed⟩, q⟩ =>
  ⟨G, ds, es, e, h, r, fun l xs G' H' s e2 g hl gl hl' ha => by
    subst ed
    refine q (.ref l) (upd G' l (.lst xs)) H' ⟨s.1.mut (e.free hl), fun a h1 h2 => ?_⟩ e2 (fun a o ho => ?_) (.lst (.inl (.inl upd_same)) (dpAll_ex (Ex.new gl) _ _ ha))
    · have : a ≠ l := fun w => h1 (w ▸ hl)
      rw [upd_ne this]; exact s.2 a h1 h2
    · by_cases w : a = l
      · subst w; rw [upd_same] at ho; cases ho; exact hl'
      · rw [upd_ne w] at ho; exact g a o ho⟩
theorem FnG.imp {P : Program} {w : World} {K : Fg} {mg : Str → Option Value} {base : Heap} {k : Nat} {f : Addr} {fd : FuncData} {ps : List Str} {sp sp' : Sp} (F : FnG P w K mg base k f fd ps sp) (h : ∀ vs H Q E, sp' vs H Q E → sp vs H Q E) : FnG P w K mg base k f fd ps sp' :=
  ⟨fun vs H Q E z => F.len vs H Q E (h _ _ _ _ z), fun A outer s H args us vs Q E a b c d e z => F.run A outer s H args us vs Q E a b c d e (h _ _ _ _ z)⟩
theorem Cal.data {P : Program} {w : World} {K : Fg} {mg : Str → Option Value} {base : Heap} {k : Nat} {x : Str} {ps : List Str} {st : Stmt} {R : List Dt → List Dt → Prop} (C : Cal P w K mg base k x ps st (spO K R)) : Cal P w K mg base k x ps st (spD K fun ds d => ∃ es, R ds es ∧ d = .list es) := by
  obtain ⟨f, fd, G, r⟩ := C.ex
  exact ⟨f, fd, G.imp spO_data, r⟩
/-- a call with a pot as the first argument -/
theorem xd_pot {R : List Dt → (Dt → Prop) → Prop} (C : Cal X.prog X.w X.K X.mg X.base k x ps st (spP X.K R)) (i : Nat) {y : Str} {yp : Pos} (ha : XA X es δ S) (hR : ∀ ds, S ds → R ds U) (hs : δ[i]? = some .pot := by rfl) (hN : X.N[i]? = some y := by rfl)
    (hv : Vis X.env.scope y := by first | exact Or.inl rfl | exact Or.inr (Or.inl rfl) | exact Or.inr (Or.inr rfl)) (hr : Room k X.A := by first | assumption | (refine Room.mono (by assumption) ?_; decide)) (hgd : X.A.guards = some [] := by assumption) (hg : Gl X x := by rfl)
    (hp1 : starEach (.Name y yp :: es) X.env = (false, eval (.Name y yp) X.env) :: starEach es X.env := by rfl) (hdb : (x == ("__debug__" : Str)) = false := by decide) (hd : (y == ("__debug__" : Str)) = false := by decide) (hcd : (y == ("__classdict__" : Str)) = false := by decide) : XD X (.Call (.Name x p) (.Name y yp :: es) [] pos) δ U := by
  obtain ⟨f, fd, G, hm, hk, hb, _⟩ := C.ex
  refine PE.imp (pe_g G hr hgd hg hm hk hb (pa_cons (pe_var hN hv hd hcd) ha.pa hp1) hdb hp1 (back_plain ha.pl)) fun σ H Q ⟨p, B, G, i3, en, q⟩ => ?_
  obtain ⟨o, h1, z, rfl, rfl⟩ := en.slot i _ hs
  refine ⟨_, h1, some z, B, G, i3, en, fun vs ds G' H' s n hv => ?_⟩
  have i3' := i3.nxt n
  refine ⟨del (some z) H', G', z, vs, ds, U, ⟨fun a o h => (del_le h).1, i3'.gh, fun y hy => ?_⟩, rfl, hv, hR ds s, fun v d G2 H2 u st2 i2 hd => q v d G2 H2 u (n.trans ⟨⟨st2.1, fun a h1 h2 => ?_⟩, i2.bh, i2.gh, fun y hy => (i2.pot y hy).2.2⟩) hd⟩
  · cases hy
    obtain ⟨_, h2, h3⟩ := i3'.pot z rfl
    refine ⟨?_, h2, h3⟩
    unfold del; rw [if_pos rfl]
  · by_cases za : z = a
    · subst za; exact (i2.pot z rfl).2.1
    · exact st2.2 a (by rw [del_ne (fun w => za (Option.some.inj w))]; exact h1) h2
end
end Dv
namespace Dv
open PySem PySem.Spec PyProof.Rows L2
/-! ### calls by keywords alone: ix: where each parameter stands among them -/
def pick {α : Type} (ix : List Nat) (l : List α) : List α := ix.filterMap fun i => l[i]?
theorem pick_cons {α : Type} (i : Nat) (ix : List Nat) (l : List α) : pick (i :: ix) l = (match l[i]? with | some a => a :: pick ix l | none => pick ix l) := by
  unfold pick
  rw [List.filterMap_cons]
  cases l[i]? <;> rfl
theorem pick_vals {vs : List V} {us : List Value} (r : Vals vs us) : ∀ ix : List Nat, Vals (pick ix vs) (pick ix us)
  | [] => .nil
  | i :: ix => by
    rw [pick_cons, pick_cons]
    cases e : vs[i]? with
    | none => rw [r.none_of e]; exact pick_vals r ix
    | some v =>
      obtain ⟨u, e2, rv⟩ := r.get e
      rw [e2]
      exact .cons rv (pick_vals r ix)
theorem pick_dz {K : Fg} {G : Hp} {vs : List V} {ds : List Dt} (r : DzAll K G vs ds) : ∀ ix : List Nat, DzAll K G (pick ix vs) (pick ix ds)
  | [] => .nil
  | i :: ix => by
    rw [pick_cons, pick_cons]
    cases e : vs[i]? with
    | none =>
      have : ds[i]? = none := List.getElem?_eq_none (by rw [← dpAll_length r]; exact List.getElem?_eq_none_iff.mp e)
      rw [this]; exact pick_dz r ix
    | some v =>
      obtain ⟨d, e2, rv⟩ := dpAll_get' r e
      rw [e2]
      exact .cons rv (pick_dz r ix)
structure XK (X : Cx) (kws : List Keyword) (δ : De) (S : List Dt → Prop) : Prop where
  pk : PK X kws (rA X.K δ S)
theorem PK.imp {X : Cx} {e : List Keyword} {t t' : TA} (h : PK X e t) (k : ∀ σ H Q, t' σ H Q → t σ H Q) : PK X e t' := ⟨fun pos pins s σ H Q I q => h.run pos pins s σ H Q I (k σ H Q q)⟩
abbrev KD (X : Cx) (kws : List Keyword) (δ : De) (ds : List Dt) : Prop := XK X kws δ (fun x => x = ds)
section
variable {X : Cx} {k : Nat} {x : Str} {ps ks : List Str} {ix : List Nat} {st : Stmt} {R : List Dt → Dt → Prop} {δ : De} {e : Expr} {ds : List Dt} {d : Dt} {p pos kpos : Pos} {kws : List Keyword} {nm : Option Str}
theorem k_n : KD X [] δ [] := ⟨PK.imp pk_nil fun σ H Q ⟨p, B, G, i3, en, q⟩ => q [] [] G H rfl (.refl i3) .nil⟩
theorem k_c (ha : PD X e δ d) (hr : KD X kws δ ds) : KD X (⟨nm, e, kpos⟩ :: kws) δ (d :: ds) := ⟨PK.imp (pk_cons ha hr.pk) fun σ H Q ⟨p, B, G, i3, en, q⟩ => ⟨p, B, G, i3, en, fun v d1 G1 H1 r1 n1 h1 => ⟨p, B, G1, i3.nxt n1, en.nxt n1, fun vs ds2 G2 H2 r2 n2 h2 =>
  q (v :: vs) (d1 :: ds2) G2 H2 (by rw [r1, r2]) (n1.trans n2) (.cons (dp_ex n2.st.1 _ _ h1) h2)⟩⟩⟩
theorem pd_callK (ix : List Nat) (C : Cal X.prog X.w X.K X.mg X.base k x ps st (spD X.K R)) (ha : KD X kws δ ds) (hR : R (pick ix ds) d)
    (hb : ∀ (kV doc pm : Value) (an : Option Addr) (cdv ct : Value) (ws : List Value), ws.length = ks.length → bindArgs (PySem.W.fnOf x x (defArgs st) (defBody st) (defScope st) .none kV doc pm an cdv ct) ⟨[], ks.zip ws⟩ = pure (ps.zip (pick ix ws)))
    (hl : ds.length = ks.length := by rfl) (hall : (backToKw pos (keywordEach kws X.env)).all (·.1.isSome) = true := by rfl) (hks : (backToKw pos (keywordEach kws X.env)).filterMap (·.1) = ks := by rfl) (hpl : ((backTo pos (starEach [] X.env)).any (·.1) || (backToKw pos (keywordEach kws X.env)).any (·.1.isNone)) = false := by rfl)
    (hr : Room k X.A := by first | assumption | (refine Room.mono (by assumption) ?_; decide)) (hgd : X.A.guards = some [] := by assumption) (hg : Gl X x := by rfl) (hdb : (x == ("__debug__" : Str)) = false := by decide) : PD X (.Call (.Name x p) [] kws pos) δ d := by
  obtain ⟨f, fd, F, hm, hk, _, fn⟩ := C.ex
  obtain ⟨oc, od, kV, doc, pm, an, cdv, ct, osl, rfl, lk, hcd⟩ := fn.ex
  refine ⟨fun pins s σ H Q I ⟨p, B, G, i3, en, q⟩ => ?_⟩
  refine wpAny_Call_Name_kw (ld_glob I hg hm ?_ hdb)
  refine PySem.W.callWith_KW0 (h₀ := X.base) I.ok.mod.kin hk hall (thn (ha.pk.run pos pins s σ H (fun vs H1 => ∃ G1, Nxt p G H G1 H1 ∧ DzAll X.K G1 vs ds) I ⟨p, B, G, i3, en, fun vs ds' G1 H1 r n hv => ⟨G1, n, r ▸ hv⟩⟩) fun ws s1 ⟨zs, H1, I1, rz, G1, n, hv⟩ => ⟨I1.kIn, ?_⟩) hpl
  rw [hks]
  have hlw : ws.length = ks.length := by rw [← rz.length, dpAll_length hv]; exact hl
  have hsp : spD X.K R (pick ix zs) H1 Q E0 := sp_use (i3.nxt n) (pick_dz hv ix) hR fun v G2 H2 n2 hd => q v d G2 H2 rfl (n.trans n2) hd
  refine wpAny_call (codeAny_mono (F.run X.A X.stack s1 H1 ⟨[], ks.zip ws⟩ (pick ix ws) (pick ix zs) Q E0 hr hgd I1.env0 (.of_eq (hb kV doc pm an cdv ct ws hlw)) (pick_vals rz ix) hsp) fun r s' hq => ?_)
  have z := fnG_end I1 hq
  cases r with
  | error e => exact z
  | ok fl => cases fl <;> first | exact z | exact False.elim z
end
end Dv
namespace Dv
open PySem PySem.Spec PyProof.Rows L2
section
variable {X : Cx} {a b c : Expr} {δ : De} {i j k : Int} {pos : Pos}
/-- a <= b <= c -/
theorem pd_chain (ha : PD X a δ (.int i)) (hb : PD X b δ (.int j)) (hc : PD X c δ (.int k)) (hlm : lastMarks [CmpOp.LtE, CmpOp.LtE] [b, c] = false := by rfl) : PD X (.Compare a [.LtE, .LtE] [b, c] pos) δ (.bool (decide (i ≤ j) && decide (j ≤ k))) :=
  PE.imp (pe_chain op_le op_le ha hb hc (hm := hlm)) fun σ H Q ⟨p, B, G, i3, en, q⟩ => ⟨p, B, G, i3, en, fun v d G1 H1 r1 n1 h1 => ⟨p, B, G1, i3.nxt n1, en.nxt n1, fun w d2 G2 H2 r2 n2 h2 => by
    subst r1; subst r2
    cases h1; cases h2
    refine ⟨i, j, rfl, rfl, _, rfl, ?_⟩
    have n12 := n1.trans n2
    by_cases h : i ≤ j
    · rw [decide_eq_true h]
      refine iteT ⟨p, B, G2, i3.nxt n12, en.nxt n12, fun w' d3 G3 H3 r3 n3 h3 => ?_⟩
      subst r3
      cases h3
      exact ⟨j, k, rfl, rfl, q _ _ G3 H3 (by rw [decide_eq_true h]; rfl) (n12.trans n3) (.bl _)⟩
    · rw [decide_eq_false h]
      exact iteF (q _ _ G2 H2 (by rw [decide_eq_false h]; rfl) n12 (.bl _))⟩⟩
/-- a constant tuple of texts of the module -/
theorem dz_ktup {K : Fg} {a : Addr} {o : Obj} {its : Array Value} {n : Nat} {ss : List Str} (h : K.lookup a = some o) (hc : o.cls = .type "tuple") (hd : o.data = .seq its n) (hz : its.size ≤ sizeLine) (hv : Vals (ss.map V.str) its.toList) (G : Hp) : Dz K G (.ref a) (.tuple (ss.map PyData.str)) := by
  refine .tup (.inr ⟨o, its, n, h, hc, hd, hz, hv⟩) ?_
  clear hv
  induction ss with
  | nil => exact .nil
  | cons s r ih => exact .cons (.str s) ih
end
end Dv

set_option linter.all false
set_option maxRecDepth 100000
set_option maxHeartbeats 2000000
namespace Dv
open PySem PySem.Spec PyProof.Rows L2
/-! ### lists of the def's own -/
section
variable {X : Cx} {sts : List Stmt} {a b c e : Expr} {δ δ' : De} {o : Out} {d : Dt} {ds : List Dt} {pos p : Pos} {R : Dt → Prop}
theorem s_new (i : Nat) {x : Str} {pos' p2 : Pos} (hN : X.N.Nodup) (k : SsD X sts (δ.set i (.own [])) o) (hi : X.N[i]? = some x := by rfl) (hx : Loc X.env.scope x := by first | exact Or.inl rfl | exact Or.inr rfl)
    (hs : swapsWith (.List [] p2) (some (.Name x pos')) pos.line X.env = pure false := by rfl) (hf : X.fn x = true ∨ X.env.scope.names.lookup x = some .local := by first | exact .inl rfl | exact .inr rfl | assumption) : SsD X (.Assign [.Name x pos'] (.List [] p2) pos :: sts) δ o :=
  ss_to (PS.imp (ps_set hN hi hx (pe_lst pa_nil) hs hf) fun D σ H ⟨p, B, G, i3, en, q⟩ => ⟨Nat.zero_le _, fun l hl => by
    have n := Nxt.newH i3 (.lst []) hl
    have bl : B l = none := i3.bh.free hl
    have pl : p ≠ some l := fun z => by
      obtain ⟨_, _, _, _, h3, _⟩ := i3.pot l z
      rw [hl] at h3; cases h3
    exact q.nx _ _ G _ rfl (.refl _ _) (i3.nxt n) (en.putOwn i3 n hl (i3.gh.free hl) pl upd_same .nil i)⟩) k
theorem s_app (i : Nat) {x : Str} {apos cpos np : Pos} (hs : δ[i]? = some (.own ds)) (he : PD X e δ d) (k : SsD X sts (δ.set i (.own (ds ++ [d]))) o) (hz : ds.length < 100000) (hN : X.N[i]? = some x := by rfl)
    (hv : Vis X.env.scope x := by first | exact Or.inl rfl | exact Or.inr (Or.inl rfl) | exact Or.inr (Or.inr rfl)) (hd : (x == ("__debug__" : Str)) = false := by decide) (hcd : (x == ("__classdict__" : Str)) = false := by decide)
    (hbase : attributeBase (.Name x np) "append" X.env (eval (.Name x np) X.env) = eval (.Name x np) X.env := by rfl)
    (hfew : ((backTo cpos (starEach [e] X.env)).all (fun x => !x.1) && (backToKw cpos (keywordEach [] X.env)).all (fun x => x.1.isSome) && decide (([e] : List Expr).length + ([] : List Keyword).length + (if ([] : List Keyword).isEmpty then 0 else 1) < 30)) = true := by rfl)
    (hline : (apos.endLine == cpos.line) = true := by rfl) (hst : starEach [e] X.env = [(false, eval e X.env)] := by rfl) (hsw : swapsWith (.Call (.Attribute (.Name x np) "append" apos) [e] [] cpos) none pos.line X.env = pure false := by rfl) :
    SsD X (.Expr (.Call (.Attribute (.Name x np) "append" apos) [e] [] cpos) pos :: sts) δ o :=
  ss_to (PS.imp (ps_expr (pe_bm PySem.F.plainAttrs_list PySem.F.slot_list_append PySem.F.type_list_append mt_append (pe_var hN hv hd hcd) (pa_cons he pa_nil (by rw [hst]; rfl)) hbase hfew hline hst rfl) hsw) fun D σ H ⟨p, B, G, i3, en, q⟩ => by
    obtain ⟨o', h1, l, xs, rfl, h2, h3, h4, h5, h6⟩ := en.slot i _ hs
    refine ⟨_, h1, .inl ⟨rfl, xs, .inl (.inl h5)⟩, p, B, G, i3, en, fun v d' G' H' r n hv' => ?_⟩
    subst r
    have en' := en.nxt n
    have i3' := i3.nxt n
    have g' : G' l = none := n.st.2 l (nn h5) h3
    have h5' : H' l = some (.lst xs) := n.ex _ _ (by rw [del_ne h4]; exact h5)
    refine ⟨l, xs, v, rfl, rfl, h5', by rw [dpAll_length h6]; exact Nat.lt_of_lt_of_le hz (by decide), q.nx _ σ G' _ rfl (n.stepB i3) ⟨i3'.bh.mut h2, i3'.gh.mut g', fun z hz' => ?_⟩ (en'.app hs h1 (dpAll_append (dpAll_ex n.st.1 _ _ h6) (.cons hv' .nil)))⟩
    obtain ⟨a1, a2, a3, a4, a5, a6⟩ := i3'.pot z hz'
    have : z ≠ l := fun w => h4 (by rw [hz', w])
    exact ⟨a1, a2, a3, a4, by rw [upd_ne this]; exact a5, a6⟩) k
theorem s_retNew (i : Nat) {x : Str} {np : Pos} (hs : δ[i]? = some (.own ds)) (hR : o.ro ds) (hN : X.N[i]? = some x := by rfl) (hv : Vis X.env.scope x := by first | exact Or.inl rfl | exact Or.inr (Or.inl rfl) | exact Or.inr (Or.inr rfl)) (hd : (x == ("__debug__" : Str)) = false := by decide)
    (hcd : (x == ("__classdict__" : Str)) = false := by decide) : SsD X (.Return (some (.Name x np)) pos :: sts) δ o :=
  ss_end (PS.imp (ps_ret (pe_var hN hv hd hcd)) fun D σ H ⟨p, B, G, i3, en, q⟩ => by
    obtain ⟨o', h1, l, xs, rfl, h2, h3, h4, h5, h6⟩ := en.slot i _ hs
    exact ⟨_, h1, q.ro _ l xs G H hR (.refl _ _) i3 h2 h3 h4 h5 h6⟩)
/-- x = f(..), f's answer a new list: the def's own from here on -/
theorem s_own {k : Nat} {y : Str} {ps : List Str} {st : Stmt} {R : List Dt → List Dt → Prop} {es : List Expr} {ds' : List Dt} {p2 p3 : Pos} (i : Nat) {x : Str} {pos' : Pos} (hN : X.N.Nodup) (C : Cal X.prog X.w X.K X.mg X.base k y ps st (spO X.K R)) (ha : PAD X (e :: es) δ ds') (hR : R ds' ds) (go : SsD X sts (δ.set i (.own ds)) o)
    (hr : Room k X.A := by first | assumption | (refine Room.mono (by assumption) ?_; decide)) (hgd : X.A.guards = some [] := by assumption) (hg : Gl X y := by rfl) (hpl : starEach es X.env = es.map fun e => (false, eval e X.env) := by rfl) (hdb : (y == ("__debug__" : Str)) = false := by decide)
    (hi : X.N[i]? = some x := by rfl) (hx : Loc X.env.scope x := by first | exact Or.inl rfl | exact Or.inr rfl) (hs : swapsWith (.Call (.Name y p2) (e :: es) [] p3) (some (.Name x pos')) pos.line X.env = pure false := by rfl)
    (hf : X.fn x = true ∨ X.env.scope.names.lookup x = some .local := by first | exact .inl rfl | exact .inr rfl | assumption) : SsD X (.Assign [.Name x pos'] (.Call (.Name y p2) (e :: es) [] p3) pos :: sts) δ o := by
  obtain ⟨f, fd, F, hm, hk, hb, _⟩ := C.ex
  refine ss_to (PS.imp (ps_set hN hi hx (pe_g F hr hgd hg hm hk hb ha.pa hdb (by rw [hpl]; exact ha.pl) (back_plain hpl)) hs hf) fun D σ H ⟨p, B, G, i3, en, q⟩ => ⟨p, B, G, i3, en, fun vs dd G1 H1 r n hv => ?_⟩) go
  subst r
  have i31 := i3.nxt n
  refine ⟨G1, _, ds, i31.gh, hv, hR, fun l xs G2 H2 st2 e2 g2 hl gl hl2 ha2 => ?_⟩
  have n2 : Nxt p G1 H1 G2 H2 := ⟨st2, fun a o h => e2 a o (del_le h).1, g2, fun z hz => by
    obtain ⟨_, _, a, b, h3, h4⟩ := i31.pot z hz
    exact ⟨a, b, e2 _ _ h3, h4⟩⟩
  have pl : p ≠ some l := fun z => by
    obtain ⟨_, _, _, _, h3, _⟩ := i31.pot l z
    rw [hl] at h3; cases h3
  exact q.nx _ _ G2 H2 rfl ((n.trans n2).stepB i3) (i3.nxt (n.trans n2)) ((en.nxt n).putOwn i31 n2 hl gl pl hl2 ha2 i)
theorem s_retOwn (i : Nat) {x : Str} {np : Pos} (hs : δ[i]? = some (.own ds)) (hR : o.rt (.list ds)) (hN : X.N[i]? = some x := by rfl) (hv : Vis X.env.scope x := by first | exact Or.inl rfl | exact Or.inr (Or.inl rfl) | exact Or.inr (Or.inr rfl)) (hd : (x == ("__debug__" : Str)) = false := by decide)
    (hcd : (x == ("__classdict__" : Str)) = false := by decide) : SsD X (.Return (some (.Name x np)) pos :: sts) δ o :=
  ss_end (PS.imp (ps_ret (pe_var hN hv hd hcd)) fun D σ H ⟨p, B, G, i3, en, q⟩ => by
    obtain ⟨o', h1, l, xs, rfl, h2, h3, h4, h5, h6⟩ := en.slot i _ hs
    refine ⟨_, h1, q.rt _ _ (upd G l (.lst xs)) H hR ⟨Ex.new h3, fun y h7 h8 => ?_⟩ ⟨i3.bh, fun y u hu => ?_, fun z hz => ?_⟩ (.lst (.inl (.inl upd_same)) (dpAll_ex (Ex.new h3) _ _ h6))⟩
    · have : y ≠ l := fun w => h7 (w ▸ h2)
      rw [upd_ne this]; exact h8
    · by_cases w : y = l
      · subst w; rw [upd_same] at hu; cases hu; exact h5
      · rw [upd_ne w] at hu; exact i3.gh y u hu
    · obtain ⟨a1, a2, a3⟩ := i3.pot z hz
      have : z ≠ l := fun w => h4 (by rw [hz, w])
      exact ⟨a1, by rw [upd_ne this]; exact a2, a3⟩)
end
/-! ### a comprehension of plain elements -/
section
variable {X : Cx} {elt tg iter test : Expr} {scope : Scope} {own : List (Str × Nat)} {pos : Pos} {δ : De} {α : Type}
theorem take_succ' {β : Type} {xs : List β} {i : Nat} {x : β} (h : xs[i]? = some x) : xs.take (i + 1) = xs.take i ++ [x] := by
  rw [List.take_add_one, h]; rfl
theorem lc_map {xs : List α} {enc F : α → Dt} (hi : ID X tg iter δ (xs.map enc)) (ok : BlkOk X.N X.env.scope scope own) (hl : xs.length ≤ 100000) (δt : Dt → De)
    (hg : ∀ s H C cl fp (i : Nat) x, xs[i]? = some x → TgD (bX X scope s H C cl fp) tg (own.map (·.2)) (enc x) (wipeD δ (own.map (·.2))) (δt (enc x)))
    (he : ∀ s H C cl fp (i : Nat) x, xs[i]? = some x → PD (bX X scope s H C cl fp) elt (δt (enc x)) (F x)) : Lc X elt tg iter [] scope δ (fun d => d = .list (xs.map F)) := by
  have get : ∀ (i : Nat) d, (xs.map enc)[i]? = some d → ∃ x, xs[i]? = some x ∧ d = enc x := fun i d h => by
    rw [List.getElem?_map] at h
    cases e : xs[i]? with
    | none => rw [e] at h; cases h
    | some x => rw [e] at h; cases h; exact ⟨x, rfl, rfl⟩
  refine lc_of hi ok (fun ds e => by rw [e, List.length_map]; exact hl) (fun _ i out => out = (xs.take i).map F) (fun _ _ => rfl) (fun ds out e h => ?_) δt (fun _ _ _ b => b = true) (fun s H C cl fp ds i d e h => ?_) (fun s H C cl fp ds i d e h => PTs.imp pts_nil fun σ H Q ⟨p, B, G, i3, en, q⟩ => q true G H rfl (.refl i3)) (fun _ _ _ _ _ _ h => by cases h) (fun s H C cl fp ds i d e h _ => ?_)
  · rw [h, e, List.length_map, List.take_length]
  · subst e
    obtain ⟨x, hx, rfl⟩ := get i d h
    exact hg s H C cl fp i x hx
  · subst e
    obtain ⟨x, hx, rfl⟩ := get i d h
    refine XD.mono (he s H C cl fp i x hx) fun y ey out eo => ?_
    rw [ey, eo, take_succ' hx, List.map_append]; rfl
theorem pd_map {xs : List α} {enc F : α → Dt} (hc : X.calm = true) (hN : X.N.Nodup) (hi : ID X tg iter δ (xs.map enc)) (ok : BlkOk X.N X.env.scope scope own) (hl : xs.length ≤ 100000) (δt : Dt → De)
    (hg : ∀ s H C cl fp (i : Nat) x, xs[i]? = some x → TgD (bX X scope s H C cl fp) tg (own.map (·.2)) (enc x) (wipeD δ (own.map (·.2))) (δt (enc x)))
    (he : ∀ s H C cl fp (i : Nat) x, xs[i]? = some x → PD (bX X scope s H C cl fp) elt (δt (enc x)) (F x)) (hs : ∀ x, foldedSetIterable iter X.env x = pure x := by intro _; rfl) : PD X (.ListComp elt [⟨tg, iter, [], 0⟩] scope pos) δ (.list (xs.map F)) :=
  (lc_map hi ok hl δt hg he).xd hN hc hs
/-- with a test -/
theorem lc_mapIf {xs : List α} {enc F : α → Dt} {c : α → Bool} (hi : ID X tg iter δ (xs.map enc)) (ok : BlkOk X.N X.env.scope scope own) (hl : xs.length ≤ 100000) (δt : Dt → De)
    (hg : ∀ s H C cl fp (i : Nat) x, xs[i]? = some x → TgD (bX X scope s H C cl fp) tg (own.map (·.2)) (enc x) (wipeD δ (own.map (·.2))) (δt (enc x)))
    (ht : ∀ s H C cl fp (i : Nat) x, xs[i]? = some x → PTD (bX X scope s H C cl fp) test (δt (enc x)) (c x))
    (he : ∀ s H C cl fp (i : Nat) x, xs[i]? = some x → c x = true → PD (bX X scope s H C cl fp) elt (δt (enc x)) (F x)) : Lc X elt tg iter [test] scope δ (fun d => d = .list ((xs.filter c).map F)) := by
  have get : ∀ (i : Nat) d, (xs.map enc)[i]? = some d → ∃ x, xs[i]? = some x ∧ d = enc x := fun i d h => by
    rw [List.getElem?_map] at h
    cases e : xs[i]? with
    | none => rw [e] at h; cases h
    | some x => rw [e] at h; cases h; exact ⟨x, rfl, rfl⟩
  refine lc_of hi ok (fun ds e => by rw [e, List.length_map]; exact hl) (fun _ i out => out = ((xs.take i).filter c).map F) (fun _ _ => rfl) (fun ds out e h => ?_) δt (fun _ i d b => ∃ x, xs[i]? = some x ∧ d = enc x ∧ b = c x) (fun s H C cl fp ds i d e h => ?_) (fun s H C cl fp ds i d e h => ?_) (fun ds i d out e h ⟨x, hx, ed, eb⟩ eo => ?_) (fun s H C cl fp ds i d e h ⟨x, hx, ed, eb⟩ => ?_)
  · rw [h, e, List.length_map, List.take_length]
  · subst e
    obtain ⟨x, hx, rfl⟩ := get i d h
    exact hg s H C cl fp i x hx
  · subst e
    obtain ⟨x, hx, rfl⟩ := get i d h
    exact PTs.imp (pts_one (ht s H C cl fp i x hx)) fun σ H Q ⟨p, B, G, i3, en, q⟩ => ⟨p, B, G, i3, en, fun b G' H' e n => q b G' H' ⟨x, hx, rfl, e⟩ n⟩
  · rw [eo, take_succ' hx, List.filter_append, List.map_append, List.filter_cons, if_neg (by rw [← eb]; decide)]
    show _ = _ ++ ([] : List Dt)
    rw [List.append_nil]
  · subst ed
    refine XD.mono (he s H C cl fp i x hx eb.symm) fun y ey out eo => ?_
    rw [ey, eo, take_succ' hx, List.filter_append, List.map_append, List.filter_cons, if_pos eb.symm]; rfl
end
section
variable {X : Cx} {elt tg iter : Expr} {ifs : List Expr} {scope : Scope} {pos spos : Pos} {δ : De} {R : Dt → Prop} {o : Out} {N : De → Prop} {sts : List Stmt} {d : Dt}
/-- y = [..] on one line -/
theorem sd_lc (i : Nat) {y : Str} {py : Pos} (hN : X.N.Nodup) (h : Lc X elt tg iter ifs scope δ R) (hR : ∀ d, R d → N (δ.set i (.d d))) (hy : X.N[i]? = some y := by rfl) (hyl : X.env.scope.names.lookup y = some .local := by rfl)
    (hsw : swapsWith (.ListComp elt [⟨tg, iter, ifs, 0⟩] scope pos) (some (.Name y py)) spos.line X.env = pure true := by exact sw_true rfl rfl rfl (by decide +kernel)) (hc : X.calm = true := by rfl) (hs : ∀ x, foldedSetIterable iter X.env x = pure x := by intro _; rfl) :
    SD X (.Assign [.Name y py] (.ListComp elt [⟨tg, iter, ifs, 0⟩] scope pos) spos) δ { o with nx := N } := by
  obtain ⟨own, wi, g, tt, te, a1, a2, a3, a4, a5, a6⟩ := h.ex
  exact PS.imp (ps_setLc hc hN hy hyl hsw a1 a2 a3 a4 a5 hs) fun D σ H ⟨p, B, G, i3, en, q⟩ => a6 σ H _ ⟨p, B, G, i3, en, fun v d G' H' r n hv => q.nx _ _ G' H' (hR d r) (n.stepB i3) (i3.nxt n) ((en.nxt n).set hv)⟩
theorem s_lc (i : Nat) {y : Str} {py : Pos} (hN : X.N.Nodup) (h : Lc X elt tg iter ifs scope δ (fun x => x = d)) (k : SsD X sts (δ.set i (.d d)) o) (hy : X.N[i]? = some y := by rfl) (hyl : X.env.scope.names.lookup y = some .local := by rfl)
    (hsw : swapsWith (.ListComp elt [⟨tg, iter, ifs, 0⟩] scope pos) (some (.Name y py)) spos.line X.env = pure true := by exact sw_true rfl rfl rfl (by decide +kernel)) (hc : X.calm = true := by rfl) (hs : ∀ x, foldedSetIterable iter X.env x = pure x := by intro _; rfl) :
    SsD X (.Assign [.Name y py] (.ListComp elt [⟨tg, iter, ifs, 0⟩] scope pos) spos :: sts) δ o := ss_to (sd_lc i hN h (fun x e => by rw [e]) hy hyl hsw hc hs) k
end
end Dv

set_option linter.all false
set_option maxRecDepth 100000
set_option maxHeartbeats 4000000
namespace Dv
open PySem PySem.Spec PyProof.Rows L2
/-! ### enumerate of a tuple -/
theorem newEnumT (l : Addr) (items : Array Value) (n : Nat) (dct : Option Addr) (sl : Array (Option Value)) :
    Meets (Builtin.«enumerate.__new__» ⟨[.type "enumerate", .ref l], []⟩) (fun _ R s => s.heap.get? l = some { cls := .type "tuple", dict := dct, data := .seq items n, slots := sl } ∧
      R (.ok (.ret (.ref (s.heap.push { cls := .type "tuple_iterator", data := .fields #[.ref l, .int 0 0] }).objs.size)))
        { s with heap := (s.heap.push { cls := .type "tuple_iterator", data := .fields #[.ref l, .int 0 0] }).push { cls := .type "enumerate", data := .fields #[.none, .bool false, .ref s.heap.objs.size, rawInt 0, .none, .none] } }) :=
  .of_wp fun prog w A R s h => by
    obtain ⟨hp, g, d, tk, os⟩ := s
    obtain ⟨hl, h⟩ := h
    have hsub := sub_enumerate
    have hT : Heap.IsTuple (Shared.heap ⟨hp, g, d, tk, os⟩) l items := ⟨_, hl, rfl, n, rfl⟩
    wp_walk using AutoSeq1.wpAny_loadPart' hl
    refine wpAny_stack_any fun st => wpAny_pure ?_
    split
    · rename_i c _ _ _ _ _
      cases (c == Value.type "enumerate")
      · wp_walk using AutoSeq1.wpAny_loadPart' hl, wpAny_pyIter_tuple hT
        exact ⟨_, rfl, h⟩
      · wp_walk using AutoSeq1.wpAny_loadPart' hl, wpAny_pyIter_tuple hT
        exact ⟨_, rfl, h⟩
    · wp_walk using AutoSeq1.wpAny_loadPart' hl, wpAny_pyIter_tuple hT
      exact ⟨_, rfl, h⟩
theorem callEnumT {prog : Program} {w : World} {A : Around} {E : Value → Shared → Prop} {s : Shared} {l : Addr} {items : Array Value} {Q : Value → Shared → Prop} (hL : s.heap.IsTuple l items)
    (h : ∀ h', IsEnum h' (s.heap.objs.size + 1) s.heap.objs.size 0 .none → h'.IsTupleIter s.heap.objs.size l 0 → (∀ b o, s.heap.get? b = some o → h'.get? b = some o) → Q (.ref (s.heap.objs.size + 1)) { s with heap := h' }) :
    wpAny (model prog w) A (call (.type "enumerate") [.ref l]) Q E s := by
  obtain ⟨⟨c, dct, dt, sl⟩, hl, hc, n, hd⟩ := hL
  obtain rfl : c = .type "tuple" := hc
  obtain rfl : dt = .seq items n := hd
  refine callType_new F.called_enumerate (by decide) (F.typeCall_enumerate_1 _) (F.newCall_enumerate_1 _) (fun obj => F.args_object_init_2 obj _) F.entry_enumerate_new (newEnumT l items n dct sl) ⟨hl, ?_⟩
  have hz : (s.heap.push { cls := .type "tuple_iterator", data := .fields #[.ref l, .int 0 0] }).objs.size = s.heap.objs.size + 1 := Heap.size_push ..
  show _ ∧ _
  rw [hz]
  have he : IsEnum ((s.heap.push { cls := .type "tuple_iterator", data := .fields #[.ref l, .int 0 0] }).push { cls := .type "enumerate", data := .fields #[.none, .bool false, .ref s.heap.objs.size, rawInt 0, .none, .none] }) (s.heap.objs.size + 1) s.heap.objs.size 0 .none := by
    have q := Heap.get?_push_size (s.heap.push { cls := .type "tuple_iterator", data := .fields #[.ref l, .int 0 0] }) (o := { cls := .type "enumerate", data := .fields #[.none, .bool false, .ref s.heap.objs.size, rawInt 0, .none, .none] }) rfl
    rw [hz] at q
    exact q
  exact ⟨⟨_, he, rfl⟩, h _ he ⟨_, Heap.get?_push_of_some _ (Heap.get?_push_size _ rfl), rfl, rfl⟩ fun b o x => Heap.get?_push_of_some _ (Heap.get?_push_of_some _ x)⟩
def IteT (K : Fg) (a : Addr) : It :=
  ⟨fun i H => ∃ (xs : List V) (x : V), SqT K H a xs ∧ xs[i]? = some x, fun i H v H' => ∃ T x, v = .ref T ∧ H T = none ∧ H' = upd H T (.tup [.int (i : Nat), x]) ∧ ∀ xs, SqT K H a xs → xs[i]? = some x, fun i H => ∃ xs : List V, SqT K H a xs ∧ xs.length ≤ i⟩
theorem turnEnumT {P : Program} {w : World} {K : Fg} {elts : List Expr} {kk : Nat} {tpos : Pos} (a e it : Addr) :
    Turn P w K (.Tuple elts kk tpos) (IteT K a) [e, it] e (fun i h => (∃ old, IsEnum h e it ((i : Nat) : Int) old) ∧ h.IsTupleIter it a i ∧ e ≠ it ∧ a ≠ it ∧ e ≠ a) where
  mem := List.mem_cons_self
  obj := fun i h st b hb => by
    obtain ⟨⟨old, he⟩, ⟨o, ho, hc, hd⟩, _⟩ := st
    rcases List.mem_cons.mp hb with z | z
    · rw [z]; exact ⟨_, he, fun v q => nomatch q⟩
    · rw [List.mem_singleton.mp z]; exact ⟨o, ho, fun v q => by rw [hd] at q; cases q⟩
  keep := fun i h h' st k => by
    obtain ⟨⟨old, he⟩, hi, hne⟩ := st
    exact ⟨⟨old, k e List.mem_cons_self _ he⟩, hi.at fun o q => k it (List.mem_cons_of_mem _ (List.mem_singleton.mpr rfl)) o q, hne⟩
  item := by
    intro X hP hw hK hc i pins s σ H E I hf st hg
    subst hP hw hK
    obtain ⟨⟨old, he⟩, hit, hne, hna, hea⟩ := st
    obtain ⟨xs, x, hq, hx⟩ := hg
    obtain ⟨its, rv, p, hz⟩ := I.tuple hq
    obtain ⟨u, hu, ru⟩ := rv.get hx
    have hel : e < s.heap.objs.size := Heap.lt_size he
    have hil : it < s.heap.objs.size := by obtain ⟨_, q, _⟩ := hit; exact Heap.lt_size q
    have hT : s.heap.IsTuple a its.toArray := p
    have hlt : i < its.toArray.size := by
      rw [List.size_toArray]; exact (List.getElem?_eq_some_iff.mp hu).1
    refine wpAny_pyNext_enum_itemD (Draws.tuple (A := X.A.in1) (I.ok.hd hc) it a hna its.toArray) he ⟨hit, hT⟩ hlt hne (by
      intro z
      rcases List.mem_cons.mp z with z | z
      · exact hne z
      · exact hea (List.mem_singleton.mp z)) fun y h' tk hy ho hst hTup hsz hk => ?_
    have ey : y = u := by
      have q : its.toArray[i]? = some y := hy
      rw [show its.toArray[i]? = its[i]? by simp, hu] at q
      exact (Option.some.inj q).symm
    subst ey
    refine ⟨_, rfl, wpAny_letOwnedTupleGo_enum (s := { s with heap := h', toks := tk + 1 }) ho fun h'' he' sb => ?_⟩
    have hT2 : h''.get? s.heap.objs.size = some { cls := .type "tuple", data := .seq #[.int i tk, y] } := (sb.2 _ (Nat.ne_of_gt hel)).trans hTup
    have new : ObjOk X.prog X.w (upd H s.heap.objs.size (.tup [.int (i : Nat), x])) h'' s.heap.objs.size (.tup [.int (i : Nat), x]) :=
      ⟨by show 2 ≤ sizeLine; decide, [.int i tk, y], .cons ⟨_, rfl⟩ (.cons ru .nil), ⟨_, hT2, rfl, _, rfl⟩⟩
    have I1 : Inv X pins σ (upd H s.heap.objs.size (.tup [.int (i : Nat), x])) { s with heap := h'', toks := tk + 1 } :=
      I.turnedNew (ch := [e, it]) (fun b ob hb q => (sb.2 b (fun z => hb (by simp [z]))).trans (hk b ob (fun z => hb (by simp [z])) (fun z => hb (by simp [z])) q)) hf (Nat.le_refl _) new
    refine ⟨.ref s.heap.objs.size, _, I1, rfl, ⟨_, x, rfl, I.hok.fresh (Nat.le_refl _), rfl, fun ys hy => by rw [I.tuple_inj hy hq]; exact hx⟩, ⟨⟨y, ?_⟩, hst.1.at fun o q => (sb.2 it (Ne.symm hne)).trans q, hne, hna, hea⟩, fun b hb => ?_⟩
    · have e1 : ((i + 1 : Nat) : Int) = (i : Int) + 1 := by omega
      rw [e1]; exact he'
    · have hb' : b < s.heap.objs.size := by
        rcases List.mem_cons.mp hb with z | z
        · rw [z]; exact hel
        · rw [List.mem_singleton.mp z]; exact hil
      rw [upd_ne (Nat.ne_of_lt hb')]
      exact (hf b hb).1
  done := by
    intro X hP hw hK hc i pins s σ H E I hf st hg
    subst hP hw hK
    obtain ⟨⟨old, he⟩, hit, hne, hna, hea⟩ := st
    obtain ⟨xs, hq, hx⟩ := hg
    obtain ⟨its, rv, p, hz⟩ := I.tuple hq
    have hT : s.heap.IsTuple a its.toArray := p
    obtain ⟨f0, f1, f2, f3, f4, f5⟩ := hf it (List.mem_cons_of_mem _ (List.mem_singleton.mpr rfl))
    have hl := rv.length
    have D : Draws X.prog X.w X.A.in1 it [it, a] i (fun _ _ => True) (fun j h => j = i ∧ h.IsTupleIter it a j ∧ h.IsTuple a its.toArray) :=
      { live := fun _ _ st => let ⟨o, ho, _⟩ := st.2.1; ⟨o, ho⟩
        frame := fun _ _ _ st k => ⟨st.1, st.2.1.at fun o e => k it (by simp) o e, st.2.2.at fun o e => k a (by simp) o e⟩
        item := fun j s Q E hj st _ => absurd st.1 (Nat.ne_of_lt hj)
        done := fun s Q E st hE => wpAny_nextOf_tuple_end (I.ok.hd hc) st.2.1 st.2.2 (by simp; omega) hE }
    exact wpAny_pyNext_enum_endD D he ⟨rfl, hit, hT⟩ fun h' eb => ⟨rfl, I.turned (t' := s.toks) (fun b o hb q => eb b o hb q) f0 f1 f3 f4 f5⟩
  self := fun A i s Q E st h => by
    obtain ⟨⟨_, he⟩, _⟩ := st
    exact wpAny_pyIter_enum he h
theorem pi_enumT {X : Cx} {e : Expr} {ta : TA} {p pos tpos : Pos} {elts : List Expr} {kk : Nat} (hg : Gl X "enumerate") (hm : X.mg "enumerate" = none) (ha : PA X [e] ta) (hs : starEach [e] X.env = [(false, eval e X.env)] := by rfl) :
    PI X (.Tuple elts kk tpos) (.Call (.Name "enumerate" p) [e] [] pos) (fun σ H R => ta σ H fun vs H1 => ∃ a xs, vs = [.ref a] ∧ SqT X.K H1 a xs ∧ R (IteT X.K a) H1) := by
  refine ⟨fun pins s σ H R I h => ?_⟩
  refine Call_ (ld_blt I hg hm boot_enumerate (PyProof.Rows.callWith_type1 (thn (ha.run pos pins s σ H _ I h) fun us s1 ⟨vs, H1, I1, r1, q1⟩ => ?_) hs rfl))
  obtain ⟨a, xs, ex, hq, q⟩ := q1
  subst ex
  obtain ⟨u, rfl, ru⟩ := r1.one
  cases ru
  obtain ⟨its, rv, p', hz⟩ := I1.tuple hq
  have hTa : s1.heap.IsTuple a its.toArray := p'
  have hal : a < s1.heap.objs.size := by obtain ⟨_, z, _⟩ := hTa; exact Heap.lt_size z
  refine callEnumT hTa fun h' he hit hk => wpAny_pyIter_enum he ?_
  have I2 : Inv X pins σ H1 { s1 with heap := h' } := I1.kept (t' := s1.toks) hk
  refine ⟨s1.heap.objs.size + 1, [s1.heap.objs.size + 1, s1.heap.objs.size], _, _, H1, rfl, I2, turnEnumT a (s1.heap.objs.size + 1) s1.heap.objs.size, ⟨⟨.none, he⟩, hit, Nat.succ_ne_self _, Nat.ne_of_lt hal, Nat.ne_of_gt (Nat.lt_succ_of_lt hal)⟩, fun b hb => ?_, q⟩
  have hle : s1.heap.objs.size ≤ b := by
    rcases List.mem_cons.mp hb with z | z
    · rw [z]; exact Nat.le_succ _
    · rw [List.mem_singleton.mp z]; exact Nat.le_refl _
  exact I1.fpOk hle (I1.hok.fresh hle)
theorem yld_enumT {K : Fg} {G : Hp} {a : Addr} {xs : List V} {ds : List Dt} (hs : SqT K G a xs) (ha : DzAll K G xs ds) : Yld K (IteT K a) G (enD ds) := by
  intro p B G1 H1 e i3 i
  rw [enD_length]
  have h1 : SqT K H1 a xs := ex_t (e.trans i3.gh) hs
  refine ⟨fun hi => ?_, fun hi => ⟨xs, h1, by rw [dpAll_length ha]; omega⟩⟩
  obtain ⟨v, hv, hd⟩ := dpAll_get (i := i) (d := ds[i]) ha (List.getElem?_eq_getElem hi)
  refine ⟨⟨xs, v, h1, hv⟩, fun x H2 ⟨T, z, e1, hT, e2, hx⟩ => ?_⟩
  subst e1; subst e2
  have := hx xs h1
  rw [hv] at this
  cases this
  exact ⟨_, _, enD_get (List.getElem?_eq_getElem hi), .new i3 _ hT, .tup (.inl (.inl upd_same)) (.cons (.int _) (.cons (dp_ex (e.trans (Ex.new (i3.gh.free hT))) _ _ hd) .nil))⟩
theorem i_enumT {X : Cx} {e : Expr} {δ : De} {ds : List Dt} {p pos tpos : Pos} {elts : List Expr} {kk : Nat} (h : PAD X [e] δ [.tuple ds]) (hm : X.mg "enumerate" = none) (hg : Gl X "enumerate" := by rfl) : ID X (.Tuple elts kk tpos) (.Call (.Name "enumerate" p) [e] [] pos) δ (enD ds) :=
  PI.imp (pi_enumT hg hm h.pa h.pl) fun σ H Q ⟨p, B, G, i3, en, q⟩ => ⟨p, B, G, i3, en, fun v d G' H' r n hv => by
    subst r
    obtain ⟨v, rfl, h1⟩ := one_of hv
    cases h1 with
    | tup hs ha => exact ⟨_, _, rfl, ex_t n.gh hs, q _ _ G' H' rfl n (yld_enumT hs ha)⟩⟩
end Dv

set_option linter.all false
set_option maxRecDepth 100000
set_option maxHeartbeats 2000000
namespace Dv
open PySem PySem.Spec PyProof.Rows L2
section
variable {X : Cx} {sts : List Stmt} {a b c e : Expr} {δ δ' : De} {o : Out} {d d1 d2 d3 : Dt} {ds : List Dt} {pos p : Pos} {S : List Dt → Prop} {N : De → Prop}
/-- a, b = x, y and a, b, c = x, y, z with plain local names -/
theorem sd_par (i j : Nat) {x y : Str} {px py pt : Pos} {kt k2 pt2} (hN : X.N.Nodup) (hij : i ≠ j) (ha : XA X [a, b] δ S) (hS : ∀ ds, S ds → ∃ d1 d2, ds = [d1, d2] ∧ N ((δ.set i (.d d1)).set j (.d d2))) (hc : X.calm = true := by rfl) (hi : X.N[i]? = some x := by rfl) (hj : X.N[j]? = some y := by rfl) (hx : X.env.scope.names.lookup x = some .local := by rfl) (hy : X.env.scope.names.lookup y = some .local := by rfl)
    (hw : swappedStores [.Tuple [.Name x px, .Name y py] kt pt] (.Tuple [a, b] k2 pt2) X.env = pure (some [x, y]) := by rfl) (hs : swapsWithSole [.Tuple [.Name x px, .Name y py] kt pt] (.Tuple [a, b] k2 pt2) pos.line X.env = pure false := by rfl) :
    SD X (.Assign [.Tuple [.Name x px, .Name y py] kt pt] (.Tuple [a, b] k2 pt2) pos) δ { o with nx := N } :=
  PS.imp (ps_par hc hN hi hj hij hx hy ha.pa hw hs) fun D σ H ⟨p, B, G, i3, en, q⟩ => ⟨p, B, G, i3, en, fun vs ds G' H' r n hv => by
    obtain ⟨d1, d2, e, hn⟩ := hS ds r
    subst e
    obtain ⟨v, w, rfl, h1, h2⟩ := two_of hv
    exact ⟨v, w, rfl, q.nx _ _ G' H' hn (n.stepB i3) (i3.nxt n) (((en.nxt n).set h1).set h2)⟩⟩
theorem s_par (i j : Nat) {x y : Str} {px py pt : Pos} {kt k2 pt2} (hN : X.N.Nodup) (hij : i ≠ j) (ha : PAD X [a, b] δ [d1, d2]) (k : SsD X sts ((δ.set i (.d d1)).set j (.d d2)) o) (hc : X.calm = true := by rfl) (hi : X.N[i]? = some x := by rfl) (hj : X.N[j]? = some y := by rfl) (hx : X.env.scope.names.lookup x = some .local := by rfl) (hy : X.env.scope.names.lookup y = some .local := by rfl)
    (hw : swappedStores [.Tuple [.Name x px, .Name y py] kt pt] (.Tuple [a, b] k2 pt2) X.env = pure (some [x, y]) := by rfl) (hs : swapsWithSole [.Tuple [.Name x px, .Name y py] kt pt] (.Tuple [a, b] k2 pt2) pos.line X.env = pure false := by rfl) :
    SsD X (.Assign [.Tuple [.Name x px, .Name y py] kt pt] (.Tuple [a, b] k2 pt2) pos :: sts) δ o :=
  ss_to (sd_par i j hN hij ha (fun ds e => ⟨d1, d2, e, rfl⟩) hc hi hj hx hy hw hs) k
theorem three_of {K : Fg} {G : Hp} {vs : List V} (h : DzAll K G vs [d1, d2, d3]) : ∃ v w u, vs = [v, w, u] ∧ Dz K G v d1 ∧ Dz K G w d2 ∧ Dz K G u d3 := by
  cases h with
  | cons a b => obtain ⟨w, u, e, f, g⟩ := two_of b; exact ⟨_, w, u, by rw [e], a, f, g⟩
theorem sd_par3 (i j l : Nat) {x y z : Str} {px py pz pt : Pos} {kt k2 pt2} (hN : X.N.Nodup) (hij : i ≠ j) (hil : i ≠ l) (hjl : j ≠ l) (ha : XA X [a, b, c] δ S) (hS : ∀ ds, S ds → ∃ d1 d2 d3, ds = [d1, d2, d3] ∧ N (((δ.set i (.d d1)).set j (.d d2)).set l (.d d3))) (hc : X.calm = true := by rfl) (hi : X.N[i]? = some x := by rfl) (hj : X.N[j]? = some y := by rfl) (hl : X.N[l]? = some z := by rfl)
    (hx : X.env.scope.names.lookup x = some .local := by rfl) (hy : X.env.scope.names.lookup y = some .local := by rfl) (hz : X.env.scope.names.lookup z = some .local := by rfl)
    (hw : swappedStores [.Tuple [.Name x px, .Name y py, .Name z pz] kt pt] (.Tuple [a, b, c] k2 pt2) X.env = pure (some [x, y, z]) := by rfl) (hs : swapsWithSole [.Tuple [.Name x px, .Name y py, .Name z pz] kt pt] (.Tuple [a, b, c] k2 pt2) pos.line X.env = pure false := by rfl) :
    SD X (.Assign [.Tuple [.Name x px, .Name y py, .Name z pz] kt pt] (.Tuple [a, b, c] k2 pt2) pos) δ { o with nx := N } :=
  PS.imp (ps_par3 hc hN hi hj hl hij hil hjl hx hy hz ha.pa hw hs) fun D σ H ⟨p, B, G, i3, en, q⟩ => ⟨p, B, G, i3, en, fun vs ds G' H' r n hv => by
    obtain ⟨d1, d2, d3, e, hn⟩ := hS ds r
    subst e
    obtain ⟨v, w, u, rfl, h1, h2, h3⟩ := three_of hv
    exact ⟨v, w, u, rfl, q.nx _ _ G' H' hn (n.stepB i3) (i3.nxt n) ((((en.nxt n).set h1).set h2).set h3)⟩⟩
/-- two equal texts -/
theorem pt_neR {s : Str} (ha : PD X a δ (.str s)) (hb : PD X b δ (.str s)) : PTD X (.Compare a [.NotEq] [b] pos) δ false := by
  have h := pt_neS (pos := pos) ha hb
  rw [decide_eq_true rfl] at h
  exact h
theorem pd_eqR {s : Str} (ha : PD X a δ (.str s)) (hb : PD X b δ (.str s)) : PD X (.Compare a [.Eq] [b] pos) δ (.bool true) := by
  have h := pd_eqS (pos := pos) ha hb
  rw [decide_eq_true rfl] at h
  exact h
theorem pt_neIs {i : Int} (ha : PD X a δ (.int i)) (hb : PD X b δ (.int i)) : PTD X (.Compare a [.NotEq] [b] pos) δ false := by
  have h := pt_neI (pos := pos) ha hb
  rw [decide_eq_true rfl] at h
  exact h
theorem pt_neBs {i : Bool} (ha : PD X a δ (.bool i)) (hb : PD X b δ (.bool i)) : PTD X (.Compare a [.NotEq] [b] pos) δ false := by
  have h := pt_neB (pos := pos) ha hb
  rw [decide_eq_true rfl] at h
  exact h
theorem pt_neSame (hu : X.A.units + 64 < cLine) (ha : PD X a δ d) (hb : PD X b δ d) (hx : SeqAt.shaped d = true) : PTD X (.Compare a [.NotEq] [b] pos) δ false := by
  have h := pt_neD (pos := pos) hu ha hb hx hx
  unfold SeqAt.shaped at hx
  rw [Bool.and_eq_true] at hx
  rw [SeqAt.eqv_refl d hx.1] at h
  exact h
end
theorem shaped_ints (ns : List Int) : SeqAt.shaped (.list (ns.map PyData.int)) = true := by
  have h : PyData.canLayAll0 (ns.map PyData.int) = true ∧ PyData.depthAll (ns.map PyData.int) = 0 := by
    induction ns with
    | nil => exact ⟨by simp [PyData.canLayAll0], by simp [PyData.depthAll]⟩
    | cons n r ih => exact ⟨by simp [PyData.canLayAll0, PyData.canLay0, ih.1], by simp [PyData.depthAll, PyData.depth, ih.2]⟩
  unfold SeqAt.shaped
  simp only [PyData.canLay0, PyData.depth, h.1, h.2]
  decide
theorem at_map {α : Type} {xs : List α} {F : α → Dt} {i : Nat} {x : α} (h : xs[i]? = some x) : atI (xs.map F) ((i : Nat) : Int) = some (F x) := atI_nat (by rw [List.getElem?_map, h]; rfl)
theorem cut_lo {α : Type} {xs : List α} {F : α → Dt} {k : Nat} : cutD (xs.map F) (some ((k : Nat) : Int)) none = (xs.drop k).map F := by
  unfold cutD
  rw [HT.sIx_nat, HT.sIx_none, ← List.map_drop, ← List.map_take, List.length_map]
  by_cases h : k ≤ xs.length
  · rw [Nat.min_eq_left h, List.take_of_length_le (by rw [List.length_drop]; exact Nat.le_refl _)]
  · rw [Nat.min_eq_right (by omega), List.drop_of_length_le (Nat.le_refl _), List.drop_of_length_le (by omega), List.take_nil]
theorem cut_hi {α : Type} {xs : List α} {F : α → Dt} {k : Nat} : cutD (xs.map F) none (some ((k : Nat) : Int)) = (xs.take k).map F := by
  unfold cutD
  rw [HT.sIx_nat, HT.sIx_none, List.drop_zero, ← List.map_take, List.length_map, Nat.sub_zero]
  by_cases h : k ≤ xs.length
  · rw [Nat.min_eq_left h]
  · rw [Nat.min_eq_right (by omega), List.take_of_length_le (Nat.le_refl _), List.take_of_length_le (by omega)]
end Dv

set_option linter.all false
set_option maxRecDepth 100000
set_option maxHeartbeats 2000000
namespace Dv
open PySem PySem.Spec PyProof.Rows L2
/-! ### the pot -/
theorem Nxt.mut {q : Addr} {B G H : Hp} (i : I3 (some q) B G H) {a b : Int} (h : potOk a b) : Nxt (some q) G H G (upd H q (.lst [.int a, .int b])) := by
  obtain ⟨h1, h2, x, y, h3, _⟩ := i.pot q rfl
  refine ⟨Step.refl _ _, fun c u hu => ?_, fun c u hu => ?_, fun z hz => ?_⟩
  · obtain ⟨e1, e2⟩ := del_le hu
    have : c ≠ q := fun w => e2 (by rw [w])
    rw [upd_ne this]; exact e1
  · have : c ≠ q := fun w => by subst w; rw [h2] at hu; cases hu
    rw [upd_ne this]; exact i.gh c u hu
  · cases hz
    exact ⟨a, b, upd_same, h⟩
section
variable {X : Cx} {sts : List Stmt} {a b c e : Expr} {δ δ' : De} {o : Out} {d : Dt} {ds : List Dt} {pos p kp sp zp pt yp : Pos} {R : Dt → Prop} {N : De → Prop}
theorem xd_potAt (i : Nat) {y : Str} {k : Int} {j} (hk : k = 0 ∨ k = 1) (hs : δ[i]? = some .pot := by rfl) (hN : X.N[i]? = some y := by rfl) (hv : Vis X.env.scope y := by first | exact Or.inl rfl | exact Or.inr (Or.inl rfl) | exact Or.inr (Or.inr rfl)) (hd : (y == ("__debug__" : Str)) = false := by decide) (hcd : (y == ("__classdict__" : Str)) = false := by decide) :
    XD X (.Subscript (.Name y yp) (.Constant (.int k) j kp) pos) δ (fun d => ∃ n : Int, d = .int n ∧ 0 ≤ n ∧ (k = 1 → n ≤ 2147483588)) :=
  PE.imp (pe_ix ix_list (pe_var hN hv hd hcd) pe_int (fun _ _ => rfl)) fun σ H Q ⟨p, B, G, i3, en, q⟩ => by
    obtain ⟨o', h1, z, rfl, rfl⟩ := en.slot i _ hs
    obtain ⟨h2, h3, x, w, h4, h5, h6, h7⟩ := i3.pot z rfl
    refine ⟨_, h1, z, [.int x, .int w], k, .int (if k = 0 then x else w), rfl, rfl, .inl (.inl h4), ?_, q _ (.int (if k = 0 then x else w)) G H ⟨_, rfl, ?_, ?_⟩ (.refl i3) (.int _)⟩
    · rcases hk with rfl | rfl <;> rfl
    · split <;> omega
    · intro e; subst e; simpa using h7
theorem sd_potSet (i : Nat) {y : Str} {j} (he : XD X e δ fun d => ∃ n : Int, d = .int n ∧ 0 ≤ n ∧ n ≤ 2147483588) (hs : δ[i]? = some .pot := by rfl) (hN : X.N[i]? = some y := by rfl) (hv : Vis X.env.scope y := by first | exact Or.inl rfl | exact Or.inr (Or.inl rfl) | exact Or.inr (Or.inr rfl)) (hd : (y == ("__debug__" : Str)) = false := by decide) (hcd : (y == ("__classdict__" : Str)) = false := by decide)
    (h2 : swapsWithSole [.Subscript (.Name y yp) (.Constant (.int 1) j kp) sp] e pos.line X.env = pure false := by rfl) (hw : swappedStores [.Subscript (.Name y yp) (.Constant (.int 1) j kp) sp] e X.env = pure none := by rfl)
    (h1 : (assignEach [.Subscript (.Name y yp) (.Constant (.int 1) j kp) sp] X.env).map (·.2) = [assign (.Subscript (.Name y yp) (.Constant (.int 1) j kp) sp) X.env] := by rfl) : SD X (.Assign [.Subscript (.Name y yp) (.Constant (.int 1) j kp) sp] e pos) δ { o with nx := fun x => x = δ } :=
  PS.imp (ps_asg he (pg_sub (pe_var hN hv hd hcd) pe_int set_list) h2 hw h1) fun D σ H ⟨p, B, G, i3, en, q⟩ => ⟨p, B, G, i3, en, fun v d G' H' ⟨n, r, n0, n1⟩ nx hv' => by
    subst r
    cases hv'
    obtain ⟨o', h1, z, rfl, rfl⟩ := (en.nxt nx).slot i _ hs
    have i3' := i3.nxt nx
    obtain ⟨h2, h3, x, w, h4, h5, h6, h7⟩ := i3'.pot z rfl
    have m := Nxt.mut (a := x) (b := n) i3' ⟨h5, n0, n1⟩
    have mm := nx.trans m
    exact ⟨_, h1, z, _, 1, 1, rfl, rfl, h4, rfl, q.nx _ σ G' _ rfl (mm.stepB i3) (i3.nxt mm) (en.nxt mm)⟩⟩
theorem sd_potDiv (i l : Nat) {y x : Str} {j kt} {S : Int → Prop} (hX : X.N.Nodup) (he : XD X e δ fun d => ∃ u w : Int, d = .tuple [.int u, .int w] ∧ 0 ≤ u ∧ S w) (hR : ∀ w, S w → N (δ.set l (.d (.int w)))) (hc : X.calm = true := by rfl) (hs : δ[i]? = some .pot := by rfl) (hN : X.N[i]? = some y := by rfl) (hl : X.N[l]? = some x := by rfl) (hv : Vis X.env.scope y := by first | exact Or.inl rfl | exact Or.inr (Or.inl rfl) | exact Or.inr (Or.inr rfl)) (hd : (y == ("__debug__" : Str)) = false := by decide) (hcd : (y == ("__classdict__" : Str)) = false := by decide)
    (hx : Loc X.env.scope x := by first | exact Or.inl rfl | exact Or.inr rfl) (hf : X.fn x = true ∨ X.env.scope.names.lookup x = some .local := by first | exact .inl rfl | exact .inr rfl | assumption)
    (h2 : swapsWithSole [.Tuple [.Subscript (.Name y yp) (.Constant (.int 0) j kp) sp, .Name x zp] kt pt] e pos.line X.env = pure false := by rfl) (hw : swappedStores [.Tuple [.Subscript (.Name y yp) (.Constant (.int 0) j kp) sp, .Name x zp] kt pt] e X.env = pure none := by rfl)
    (h1 : (assignEach [.Tuple [.Subscript (.Name y yp) (.Constant (.int 0) j kp) sp, .Name x zp] kt pt] X.env).map (·.2) = [assign (.Tuple [.Subscript (.Name y yp) (.Constant (.int 0) j kp) sp, .Name x zp] kt pt) X.env] := by rfl)
    (h3 : (assignEach [.Subscript (.Name y yp) (.Constant (.int 0) j kp) sp, .Name x zp] X.env).map (·.2) = assign (.Subscript (.Name y yp) (.Constant (.int 0) j kp) sp) X.env :: (assignEach [.Name x zp] X.env).map (·.2) := by rfl)
    (h4 : (assignEach [.Name x zp] X.env).map (·.2) = assign (.Name x zp) X.env :: (assignEach [] X.env).map (·.2) := by rfl)
    (h5 : (assignEach [.Subscript (.Name y yp) (.Constant (.int 0) j kp) sp, .Name x zp] X.env).length = 2 := by rfl) (h6 : (assignEach [.Subscript (.Name y yp) (.Constant (.int 0) j kp) sp, .Name x zp] X.env).findIdx? (·.1) = none := by rfl) :
    SD X (.Assign [.Tuple [.Subscript (.Name y yp) (.Constant (.int 0) j kp) sp, .Name x zp] kt pt] e pos) δ { o with nx := N } :=
  PS.imp (ps_asg he (pg_tup hc (pgs_cons (pg_sub (pe_var hN hv hd hcd) pe_int set_list) (pgs_cons (pg_name hX hl hx hf) pgs_nil h4) h3) h5 h6) h2 hw h1) fun D σ H ⟨p, B, G, i3, en, q⟩ => ⟨p, B, G, i3, en, fun v d G' H' ⟨u, w, r, u0, sw⟩ nx hv' => by
    subst r
    obtain ⟨o', h1, z, rfl, rfl⟩ := (en.nxt nx).slot i _ hs
    have i3' := i3.nxt nx
    obtain ⟨h2, h3, x', w', h4, h5, h6, h7⟩ := i3'.pot z rfl
    have m := Nxt.mut (a := u) (b := w') i3' ⟨u0, h6, h7⟩
    have mm := nx.trans m
    cases hv' with
    | tup hq ha =>
      obtain ⟨v1, v2, rfl, e1, e2⟩ := two_of ha
      cases e1; cases e2
      refine ⟨_, [.int u, .int w], rfl, ex_t i3'.gh hq, rfl, .int u, [.int w], rfl, _, h1, z, _, 0, 0, rfl, rfl, h4, rfl, .int w, [], rfl, rfl, ?_⟩
      exact q.nx _ _ G' _ (hR w sw) (mm.stepB i3) (i3.nxt mm) ((en.nxt mm).set (.int w))⟩
theorem xd_divmod {S : Int → Int → Prop} (hm : X.mg "divmod" = none) (ha : XA X [a, b] δ fun ds => ∃ i j : Int, ds = [.int i, .int j] ∧ CDiv i j ∧ S i j) (hg : Gl X "divmod" := by rfl) (hpl : starEach [b] X.env = [(false, eval b X.env)] := by rfl) :
    XD X (.Call (.Name "divmod" p) [a, b] [] pos) δ fun d => ∃ i j : Int, d = .tuple [.int (i / j), .int (i % j)] ∧ S i j :=
  xd_cb call_divmod hg hm (by decide +kernel) ha (fun ds' ⟨i, j, e, hc, s⟩ p B G H vs i3 hv Q q => by
    subst e
    obtain ⟨v, w, rfl, h1, h2⟩ := two_of hv
    cases h1; cases h2
    exact ⟨i, j, rfl, hc, fun z hz => q (.ref z) _ _ _ ⟨i, j, rfl, s⟩ (.new i3 _ hz) (.tup (.inl (.inl upd_same)) (.cons (.int _) (.cons (.int _) .nil)))⟩) (hpl := hpl)
/-- ints in bounds -/
def IntP (S : Int → Prop) (d : Dt) : Prop := ∃ i, d = .int i ∧ S i
theorem xi_of {S : Int → Prop} {i : Int} (h : PD X a δ (.int i)) (hs : S i) : XD X a δ (IntP S) := h.mono fun d e => ⟨i, e, hs⟩
theorem xi_imp {S T : Int → Prop} (h : XD X a δ (IntP S)) (k : ∀ i, S i → T i) : XD X a δ (IntP T) := h.mono fun d ⟨i, e, s⟩ => ⟨i, e, k i s⟩
theorem xi_add {S T U : Int → Prop} (ha : XD X a δ (IntP S)) (hb : XD X b δ (IntP T)) (h : ∀ i j, S i → T j → U (i + j)) : XD X (.BinOp a .Add b pos) δ (IntP U) := xd_op op_add ha hb fun x y ⟨i, e1, s⟩ ⟨j, e2, t⟩ => by subst e1; subst e2; (refine rd_i ?_; exact ⟨_, rfl, h i j s t⟩)
theorem xi_sub {S T U : Int → Prop} (ha : XD X a δ (IntP S)) (hb : XD X b δ (IntP T)) (h : ∀ i j, S i → T j → U (i - j)) : XD X (.BinOp a .Sub b pos) δ (IntP U) := xd_op op_sub ha hb fun x y ⟨i, e1, s⟩ ⟨j, e2, t⟩ => by subst e1; subst e2; (refine rd_i ?_; exact ⟨_, rfl, h i j s t⟩)
theorem xi_mul {S T U : Int → Prop} (ha : XD X a δ (IntP S)) (hb : XD X b δ (IntP T)) (h : ∀ i j, S i → T j → CMul i j ∧ U (i * j)) : XD X (.BinOp a .Mult b pos) δ (IntP U) := xd_op op_mul ha hb fun x y ⟨i, e1, s⟩ ⟨j, e2, t⟩ => by subst e1; subst e2; (refine rd_c ?_ ?_; exact (h i j s t).1; exact ⟨_, rfl, (h i j s t).2⟩)
theorem xi_mod {S T U : Int → Prop} (ha : XD X a δ (IntP S)) (hb : XD X b δ (IntP T)) (h : ∀ i j, S i → T j → 0 < j ∧ U (i % j)) : XD X (.BinOp a .Mod b pos) δ (IntP U) := xd_op op_mod ha hb fun x y ⟨i, e1, s⟩ ⟨j, e2, t⟩ => by subst e1; subst e2; (refine rd_c ?_ ?_; exact (h i j s t).1; exact ⟨_, rfl, (h i j s t).2⟩)
theorem xi_fdiv {S T U : Int → Prop} (ha : XD X a δ (IntP S)) (hb : XD X b δ (IntP T)) (h : ∀ i j, S i → T j → CDiv i j ∧ U (i / j)) : XD X (.BinOp a .FloorDiv b pos) δ (IntP U) := xd_op op_fdiv ha hb fun x y ⟨i, e1, s⟩ ⟨j, e2, t⟩ => by subst e1; subst e2; (refine rd_c ?_ ?_; exact (h i j s t).1; exact ⟨_, rfl, (h i j s t).2⟩)
theorem xi_int {S : Int → Prop} (hm : X.mg "int" = none) (ha : XD X e δ (IntP S)) (hg : Gl X "int" := by rfl) (hs : starEach [e] X.env = (false, eval e X.env) :: starEach [] X.env := by rfl) : XD X (.Call (.Name "int" p) [e] [] pos) δ (IntP S) :=
  xd_int hm (xa_cons ha xa_nil (fun d ds ⟨i, e, s⟩ h => ⟨i, by rw [e, h], s⟩) hs) hg
theorem xt_gt {S T : Int → Prop} (ha : XD X a δ (IntP S)) (hb : XD X b δ (IntP T)) : XT X (.Compare a [.Gt] [b] pos) δ (fun _ => True) := xt_cmp op_gt ha hb (nomark _) fun x y ⟨i, e1, s⟩ ⟨j, e2, t⟩ => by subst e1; subst e2; (refine rd_b ?_; exact ⟨_, rfl, trivial⟩)
/-- some[i] -/
theorem xd_ixLP {S : Int → Prop} {T : Dt → Prop} (ha : PD X a δ (.list ds)) (hb : XD X b δ (IntP S)) (h : ∀ i, S i → ∃ d, atI ds i = some d ∧ T d) (hs : PlainIx b := by exact fun _ _ => rfl) : XD X (.Subscript a b pos) δ T := xd_ix ix_list ha hb hs fun x y e1 ⟨i, e2, s⟩ => by subst e1; subst e2; exact rd_ixL (h i s)
/-- an argument list: a known element, then the rest -/
theorem xa_pc {es : List Expr} {S : List Dt → Prop} (ha : PD X e δ d) (hr : XA X es δ S) (hs : starEach (e :: es) X.env = (false, eval e X.env) :: starEach es X.env := by rfl) : XA X (e :: es) δ (fun x => ∃ y, x = d :: y ∧ S y) := xa_cons ha hr (fun d' ds e1 h => ⟨ds, by rw [e1], h⟩) hs
theorem xa_xc {es : List Expr} {S : List Dt → Prop} {R : Dt → Prop} (ha : XD X e δ R) (hr : XA X es δ S) (hs : starEach (e :: es) X.env = (false, eval e X.env) :: starEach es X.env := by rfl) : XA X (e :: es) δ (fun x => ∃ d y, x = d :: y ∧ R d ∧ S y) := xa_cons ha hr (fun d' ds e1 h => ⟨d', ds, rfl, e1, h⟩) hs
theorem xi_max2 {S T U : Int → Prop} (hm : X.mg "max" = none) (ha : XD X a δ (IntP S)) (hb : XD X b δ (IntP T)) (h : ∀ i j, S i → T j → U (max i j)) (hc : X.calm = true := by rfl) (hg : Gl X "max" := by rfl) (hpl : starEach [b] X.env = [(false, eval b X.env)] := by rfl) (hs : starEach [a, b] X.env = (false, eval a X.env) :: starEach [b] X.env := by rfl) (hs2 : starEach [b] X.env = (false, eval b X.env) :: starEach [] X.env := by rfl) : XD X (.Call (.Name "max" p) [a, b] [] pos) δ (IntP U) :=
  xd_cb (call_max2 hc) hg hm (by decide +kernel) (xa_xc ha (xa_xc hb xa_nil hs2) hs) (fun ds' ⟨d1, y, e1, ⟨i, ei, si⟩, d2, y2, e2, ⟨j, ej, sj⟩, e3⟩ p B G H vs i3 hv Q q => by
    subst e3; subst e2; subst e1; subst ei; subst ej
    obtain ⟨v, w, rfl, h1, h2⟩ := two_of hv
    cases h1; cases h2
    refine ⟨i, j, rfl, q _ _ G H ⟨_, rfl, h i j si sj⟩ (.refl i3) ?_⟩
    have : (if j > i then j else i) = max i j := by omega
    rw [this]; exact .int _) (hpl := hpl)
end
end Dv

set_option linter.all false
set_option maxRecDepth 100000
set_option maxHeartbeats 2000000
namespace Dv
open PySem PySem.Spec PyProof.Rows L2
section
variable {X : Cx} {sts : List Stmt} {a b c e : Expr} {es fs : List Expr} {δ δ' : De} {o : Out} {d : Dt} {ds : List Dt} {pos p lp : Pos} {R : Dt → Prop} {N : De → Prop}
/-- return [..], a list of nobody's yet -/
theorem s_retLst (h : PAD X es δ ds) (hR : o.ro ds) (hl : ds.length ≤ 100000 := by first | decide | simp) : SsD X (.Return (some (.List es lp)) pos :: sts) δ o :=
  ss_end (PS.imp (ps_ret (pe_lst h.pa)) fun D σ H ⟨p, B, G, i3, en, q⟩ => ⟨p, B, G, i3, en, fun vs ds' G' H' r n h' => by
    subst r
    refine ⟨by rw [dpAll_length h']; exact Nat.le_trans hl (by decide), fun l hl => ?_⟩
    have i3' := i3.nxt n
    have n2 := n.trans (Nxt.newH i3' (.lst vs) hl)
    have pl : p ≠ some l := fun z => by
      obtain ⟨_, _, _, _, h3, _⟩ := i3'.pot l z
      rw [hl] at h3; cases h3
    exact q.ro _ l vs G' _ hR (n2.stepB i3) (i3.nxt n2) (i3'.bh.free hl) (i3'.gh.free hl) pl upd_same h'⟩)
/-- f(g(..)): g's answer, a new list of two numbers, is f's pot -/
theorem xd_potNew {k k2 : Nat} {x y : Str} {ps ps2 : List Str} {st st2 : Stmt} {R : List Dt → (Dt → Prop) → Prop} {R2 : List Dt → List Dt → Prop} {U : Dt → Prop} {u w : Int} {p2 p3 : Pos} (C : Cal X.prog X.w X.K X.mg X.base k x ps st (spP X.K R)) (D : Cal X.prog X.w X.K X.mg X.base k2 y ps2 st2 (spO X.K R2))
    (ha : PAD X (e :: es) δ ds) (hR : R [] U) (hR2 : R2 ds [.int u, .int w]) (hp : potOk u w) (hr : Room k X.A := by first | assumption | (refine Room.mono (by assumption) ?_; decide)) (hr2 : Room k2 X.A := by first | assumption | (refine Room.mono (by assumption) ?_; decide)) (hgd : X.A.guards = some [] := by assumption) (hg : Gl X x := by rfl) (hg2 : Gl X y := by rfl)
    (hpl : starEach es X.env = es.map fun e => (false, eval e X.env) := by rfl) (hs1 : starEach [.Call (.Name y p2) (e :: es) [] p3] X.env = (false, eval (.Call (.Name y p2) (e :: es) [] p3) X.env) :: starEach [] X.env := by rfl)
    (hdb : (x == ("__debug__" : Str)) = false := by decide) (hdb2 : (y == ("__debug__" : Str)) = false := by decide) : XD X (.Call (.Name x p) [.Call (.Name y p2) (e :: es) [] p3] [] pos) δ U := by
  obtain ⟨f, fd, F, hm, hk, hb, _⟩ := C.ex
  obtain ⟨f2, fd2, F2, hm2, hk2, hb2, _⟩ := D.ex
  refine PE.imp (pe_g F hr hgd hg hm hk hb (pa_cons (pe_g F2 hr2 hgd hg2 hm2 hk2 hb2 ha.pa hdb2 (by rw [hpl]; exact ha.pl) (back_plain hpl)) pa_nil hs1) hdb hs1 (back_plain (es := []) rfl)) fun σ H Q ⟨p, B, G, i3, en, q⟩ => ⟨p, B, G, i3, en, fun vs dd G1 H1 r n hv => ?_⟩
  subst r
  have i31 := i3.nxt n
  refine ⟨G1, _, _, i31.gh, hv, hR2, fun l xs G2 H2 s2 e2 g2 hl gl hl2 ha2 => ?_⟩
  have ex : xs = [V.int u, V.int w] := dpAll_ints (ns := [u, w]) ha2
  subst ex
  have nl : ∀ {a : Addr}, H1 a ≠ none → a ≠ l := fun h z => h (z ▸ hl)
  refine ⟨del (some l) H2, G2, l, [], [], U, ⟨fun a o h => (del_le h).1, g2, fun z hz => ?_⟩, rfl, .nil, hR, fun v d G3 H3 hu s3 i33 hd => q v d G3 H3 hu ⟨⟨(n.st.1.trans s2.1).trans s3.1, fun a h1 h2 => ?_⟩, fun a o h => ?_, i33.gh, fun z hz => ?_⟩ hd⟩
  · cases hz
    refine ⟨?_, gl, u, w, hl2, hp⟩
    unfold del; rw [if_pos rfl]
  · have h3 := n.dom a h1
    have h4 := nl h3
    refine s3.2 a ?_ (s2.2 a h3 (n.st.2 a h1 h2))
    rw [del_ne (fun z => h4 (Option.some.inj z).symm)]
    cases h5 : H1 a with
    | none => exact absurd h5 h3
    | some o => exact nn (e2 a o h5)
  · have h3 := n.ex a o h
    have h4 := nl (nn h3)
    exact i33.bh a o (by rw [del_ne (fun z => h4 (Option.some.inj z).symm)]; exact e2 a o h3)
  · obtain ⟨a, b, h3, h4⟩ := n.pot z hz
    have h5 := nl (nn h3)
    exact ⟨a, b, i33.bh z _ (by rw [del_ne (fun z => h5 (Option.some.inj z).symm)]; exact e2 z _ h3), h4⟩
end
/-! ### the law's call -/
theorem law_callG {P : Program} {w : World} {K : Fg} {mg mb : Str → Option Value} {k : Nat} {fa a : Addr} {fd : FuncData} {x : Str} {sp : Sp} {s₁ : Shared} {vs : List Value} {ns : List Int}
    (KX : K.In s₁.heap) (hns : s₁.heap.Ns mainGlobals mg) (hb : s₁.heap.Ns builtinsNs mb) (hbb : ∀ x : Str, x ≠ "__name__" → mb x = bootBuiltins x) (hlim : s₁.heap.NoLimit) (hg : s₁.gens = #[])
    (ha : s₁.heap.get? a = some { cls := .type "list", data := .seq vs.toArray }) (hi : IntsAre vs ns) (hl : ns.length ≤ sizeLine) (hr : Room k callerA)
    (F : ∀ base : Heap, K.In base → base.Ns mainGlobals mg → FnG P w K mg base k fa fd [x] sp) (hbind : ∀ (s : Shared) (u : Value), BindsTo s fd ⟨[u], []⟩ [(x, u)])
    (hsp : ∀ H : Hp, Only H → SqX K H a (ns.map V.int) → sp [.ref a] H (fun v _ => v = .bl true) E0) :
    codeAny (model P w) callerA (.call (.ref fa) ⟨[.ref a], []⟩) (fun r s' => r = .ok (.ret (.bool true)) ∧ OldK s₁.heap s'.heap ∧ s'.os = s₁.os ∧ AllBare s'.gens) s₁ := by
  have rv := vals_ints hi
  have lenV := hi.length
  have main : ∀ H : Hp, Only H → SqX K H a (ns.map V.int) → HOk P w H s₁.heap → (∀ b, H b ≠ none → b = a ∧ K.lookup a = none) →
      codeAny (model P w) callerA (.call (.ref fa) ⟨[.ref a], []⟩) (fun r s' => r = .ok (.ret (.bool true)) ∧ OldK s₁.heap s'.heap ∧ s'.os = s₁.os ∧ AllBare s'.gens) s₁ := by
    intro H hO hS hok hA
    have seen : ∀ {b : Addr} {o : Obj}, s₁.heap.get? b = some o → H b = none → (hidT s₁.heap H).get? b = some o := fun e n => hidT_get e n
    have free : ∀ {b : Addr} {o : Obj} {es : Array DictEntry} {ep : Nat}, s₁.heap.get? b = some o → o.data = .dict es ep → H b = none := fun {b o es ep} e d => by
      cases q : H b with
      | none => rfl
      | some u =>
        obtain ⟨z, _⟩ := hA b (nn q)
        subst z
        rw [ha] at e; cases e
        exact nomatch (show Data.seq vs.toArray _ = Data.dict es ep from d)
    have nsT : ∀ {b : Addr} {m : Str → Option Value}, s₁.heap.Ns b m → (hidT s₁.heap H).Ns b m := fun {b m} ⟨o, es, ep, e, d, r⟩ => ⟨o, es, ep, seen e (free e d), d, r⟩
    have hKb : K.In (hidT s₁.heap H) := fun b o e => seen (KX b o e) (by
      cases q : H b with
      | none => rfl
      | some u =>
        obtain ⟨z, z2⟩ := hA b (nn q)
        subst z
        rw [z2] at e; cases e)
    have hM : Mod K mg (hidT s₁.heap H) := ⟨hKb, nsT hns, ⟨mb, nsT hb, hbb⟩, let ⟨mc, h1, h2⟩ := hlim; ⟨mc, nsT h1, h2⟩⟩
    have e0 : Env0 P w K mg (hidT s₁.heap H) callerA [] s₁ H := ⟨rfl, hM, fun b o e => of_hidT e, Nat.le_of_eq (hidT_size _ _), trivial, fun b hb => absurd (show b ∈ ([] : List Addr) from hb) (by simp), hok, .of_eq hg⟩
    refine codeAny_mono ((F _ hKb (nsT hns)).run callerA [] s₁ H ⟨[.ref a], []⟩ [.ref a] [.ref a] _ _ hr rfl e0 (hbind s₁ (.ref a)) (.cons rfl .nil) (hsp H hO hS)) fun r s' h => ?_
    cases r with
    | error e => exact False.elim h
    | ok fl =>
      cases fl with
      | next => exact False.elim h
      | brk => exact False.elim h
      | cont => exact False.elim h
      | ret u =>
        obtain ⟨v, H', os, bare, un, hok', r', q⟩ := h
        have q' : v = .bl true := q
        subst q'
        obtain rfl : u = Value.bool true := r'
        refine ⟨rfl, OldK.of_keep fun b o e => ?_, os, bare⟩
        cases q : H b with
        | none => exact un.keep b o e q (by intro z; exact absurd (show b ∈ ([] : List Addr) from z) (by simp)) (by simp)
        | some u =>
          rcases hO b with z | ⟨ob, xs, z⟩
          · rw [q] at z; cases z
          · have z2 := un.frzs b ob _ z
            obtain ⟨e1, _⟩ := hok b _ z
            obtain ⟨e2, _⟩ := hok' b _ z2
            rw [e] at e1; cases e1
            exact e2
  cases hk : K.lookup a with
  | some o =>
    have e := KX a o hk
    rw [ha] at e
    cases e
    exact main (fun _ => none) (fun _ => .inl rfl) (.inr ⟨vs, _, hk, by rw [lenV]; exact hl, rv⟩) (fun b u z => nomatch (show (none : Option HO) = some u from z)) (fun b z => absurd rfl z)
  | none =>
    refine main (fun b => if b = a then some (.frz { cls := .type "list", data := .seq vs.toArray } (.lst (ns.map V.int))) else none) (fun b => ?_) (.inl (.inr ⟨{ cls := .type "list", data := .seq vs.toArray }, if_pos rfl⟩)) (fun b u z => ?_) (fun b z => ⟨?_, hk⟩)
    · by_cases hb : b = a
      · exact .inr ⟨_, _, if_pos hb⟩
      · exact .inl (if_neg hb)
    · by_cases hb : b = a
      · have z' := (if_pos hb).symm.trans z
        cases z'
        subst hb
        exact ⟨ha, by rw [List.length_map]; exact hl, vs, _, rv, ha⟩
      · have z' := (if_neg hb).symm.trans z
        cases z'
    · by_cases hb : b = a
      · exact hb
      · exact absurd (if_neg hb) z
/-- the promise of a law: every list of at most so many numbers is answered by True -/
def rLaw (n : Nat) (ds : List Dt) (d : Dt) : Prop := ∃ ns : List Int, ns.length ≤ n ∧ ds = [.list (ns.map PyData.int)] ∧ d = .bool true
theorem walkG {l : PySem.W.OpenLaw} {n k : Nat} {q : Program} {loose : List Str} {XP : (Str → Option Value) → Heap → Prop} {YP : World → Heap → Prop} {d : DefRec} {K : Params → PySem.W.Frag} {x : Str}
    (hn : l.most = some n) (hn2 : n ≤ sizeLine) (hdf : d.params.defaults = []) (hr : Room k callerA)
    (hY : ∀ (w : World) (h : Heap), YP w h → (K w.params).In h)
    (F : ∀ (w : World) (mg : Str → Option Value) (fa : Addr) (h : Heap), (K w.params).In h → h.Ns mainGlobals mg → mg d.name = some (.ref fa) →
      ∃ fd : FuncData, (∀ (s : Shared) (u : Value), BindsTo s fd ⟨[u], []⟩ [(x, u)]) ∧
        ∀ base : Heap, (K w.params).In base → base.Ns mainGlobals mg → FnG l.prog w (K w.params) mg base k fa fd [x] (spD (K w.params) (rLaw n))) :
    PySem.W.WalkO q loose XP YP l.row.toRowW d [] (fun f vs => PySem.call f vs) := by
  refine Att.attach_call hn hdf fun w s₀ s₁ mg mb fa o pm cd doc a vs ns G Y ho hd hcd hmg hobj hints hlen hg => ?_
  have KX := hY w _ Y
  obtain ⟨fd, hb, hF⟩ := F w mg fa _ KX G.T.g hmg
  refine law_callG KX G.T.g G.T.b G.T.builtins G.T.nolimit hg hobj hints (Nat.le_trans hlen hn2) hr hF hb fun H hO hS => ?_
  exact ⟨H, [.list (ns.map PyData.int)], .bool true, Ex.refl H, .cons (.lst hS (dpAll_of_ints ns)) .nil, ⟨ns, hlen, rfl, rfl⟩, fun v G' H' _ _ _ hv => by cases hv; rfl⟩
end Dv
namespace Dv
open PySem PySem.Spec PyProof.Rows L2
/-! ### what the top has written -/
structure Df (K : Fg) (x : Str) (st : Stmt) : Prop where
  ex : ∃ f fd, PySem.W.nsIn K mainGlobals x = some (some (.ref f)) ∧ PySem.W.keepIn K (.ref f) = true ∧ Fun K x x st f fd
theorem df_mk {K : Fg} {x : Str} {st : Stmt} {f : Addr} {od an : Option Addr} {sl : Array (Option Value)} {oc kV dc pm cd ct : Value} (a : PySem.W.nsIn K mainGlobals x = some (some (.ref f)))
    (l : K.lookup f = some ⟨oc, od, .func (PySem.W.fnOf x x (defArgs st) (defBody st) (defScope st) .none kV dc pm an cd ct), sl⟩) (c : PySem.W.codeIn K cd x = true) (k : PySem.W.keepIn K (.ref f) = true) : Df K x st := ⟨f, _, a, k, fun_mk (st := st) l c k⟩
theorem Df.cal {P : Program} {w : World} {K : Fg} {mg : Str → Option Value} {base h : Heap} {k : Nat} {x : Str} {ps : List Str} {st : Stmt} {sp : Sp} (D : Df K x st) (X : K.In h) (G : h.Ns mainGlobals mg)
    (hb : ∀ (kV doc pm : Value) (an : Option Addr) (cdv ct : Value) (us : List Value), us.length = ps.length → bindArgs (PySem.W.fnOf x x (defArgs st) (defBody st) (defScope st) .none kV doc pm an cdv ct) ⟨us, []⟩ = pure (ps.zip us))
    (F : ∀ f fd, Fun K x x st f fd → FnG P w K mg base k f fd ps sp) : Cal P w K mg base k x ps st sp := by
  obtain ⟨f, fd, a, hk, fn⟩ := D.ex
  exact ⟨f, fd, F f fd fn, PySem.W.mg_of X G a, hk, fn.binds hb, fn⟩
theorem Df.law {P : Program} {w : World} {K : Fg} {mg : Str → Option Value} {h : Heap} {k : Nat} {x y : Str} {st : Stmt} {sp : Sp} {fa : Addr} (D : Df K x st) (X : K.In h) (G : h.Ns mainGlobals mg) (hfa : mg x = some (.ref fa))
    (hb : ∀ (kV doc pm : Value) (an : Option Addr) (cdv ct : Value) (us : List Value), us.length = [y].length → bindArgs (PySem.W.fnOf x x (defArgs st) (defBody st) (defScope st) .none kV doc pm an cdv ct) ⟨us, []⟩ = pure ([y].zip us))
    (F : ∀ base f fd, K.In base → base.Ns mainGlobals mg → Fun K x x st f fd → FnG P w K mg base k f fd [y] sp) :
    ∃ fd : FuncData, (∀ (s : Shared) (u : Value), BindsTo s fd ⟨[u], []⟩ [(y, u)]) ∧ ∀ base : Heap, K.In base → base.Ns mainGlobals mg → FnG P w K mg base k fa fd [y] sp := by
  obtain ⟨f, fd, a, hk, fn⟩ := D.ex
  have e := hfa.symm.trans (PySem.W.mg_of X G a)
  cases e
  obtain ⟨oc, od, kV, doc, pm, an, cdv, ct, osl, e2, e3⟩ := id fn.ex
  exact ⟨fd, fun s u => by subst e2; exact .of_eq (hb kV doc pm an cdv ct [u] rfl), fun base hx hn => F base fa fd hx hn fn⟩
end Dv

set_option linter.all false
set_option maxRecDepth 100000
set_option maxHeartbeats 2000000
namespace Dv
open PySem PySem.Spec PyProof.Rows L2
section
variable {X : Cx} {sts : List Stmt} {a b c e : Expr} {es fs : List Expr} {δ δ' : De} {o : Out} {d : Dt} {ds : List Dt} {pos p p2 lp q : Pos} {R : Dt → Prop} {N : De → Prop}
theorem pd_minL {ns : List Int} {m : Int} (hc : X.calm = true) (hm : X.mg "min" = none) (ha : PAD X [e] δ [.list (ns.map PyData.int)]) (h1 : m ∈ ns) (h2 : ∀ y ∈ ns, m ≤ y) (hg : Gl X "min" := by rfl) : PD X (.Call (.Name "min" p) [e] [] pos) δ (.int m) :=
  xd_cb (cr_min hc) hg hm (by decide +kernel) ha fun ds' e p B G H vs i3 hv Q q => by
    subst e
    obtain ⟨v, rfl, h⟩ := one_of hv
    cases h with
    | lst hs ha =>
      have e := dpAll_ints ha
      subst e
      refine ⟨_, ns, rfl, exl i3.gh hs, List.length_pos_of_mem h1, fun k k1 k2 => q _ _ G H rfl (.refl i3) ?_⟩
      have : k = m := Int.le_antisymm (k2 m h1) (h2 k k1)
      rw [this]; exact .int _
theorem pd_listRg {i j : Int} {p3 p4 : Pos} (hl : X.mg "list" = none) (hm : X.mg "range" = none) (ha : PD X a δ (.int i)) (hb : PD X b δ (.int j)) (ok : RgOk i j) (hc : X.calm = true := by rfl) (hg : Gl X "list" := by rfl) (hg2 : Gl X "range" := by rfl)
    (hs : starEach [a, b] X.env = (false, eval a X.env) :: starEach [b] X.env := by rfl) (hs2 : starEach [b] X.env = (false, eval b X.env) :: starEach [] X.env := by rfl) (hs3 : starEach [.Call (.Name "range" p3) [a, b] [] p4] X.env = (false, eval (.Call (.Name "range" p3) [a, b] [] p4) X.env) :: starEach [] X.env := by rfl) :
    PD X (.Call (.Name "list" p) [.Call (.Name "range" p3) [a, b] [] p4] [] pos) δ (.list (rngD i (j - i).toNat)) :=
  PE.imp (pe_listRg hc hg hl (prg_2 hg2 hm ha hb hs hs2 (by rw [hs2]; rfl)) hs3) fun σ H Q ⟨p, B, G, i3, en, q⟩ => two (U1 := fun x => x = .int i) (U2 := fun x => x = .int j) i3 en fun v w d1 d2 G' H' r1 r2 n i' h1 h2 => by
    subst r1; subst r2
    cases h1; cases h2
    refine ⟨i, j, rfl, rfl, ok, fun l hl => q _ _ _ _ rfl (n.trans (.new i' _ hl)) (.lst (.inl (.inl upd_same)) ?_)⟩
    have e1 : rgV i j = ((List.range (j - i).toNat).map fun k : Nat => i + (k : Int)).map V.int := by unfold rgV; rw [List.map_map]; rfl
    have e2 : rngD i (j - i).toNat = ((List.range (j - i).toNat).map fun k : Nat => i + (k : Int)).map PyData.int := by unfold rngD; rw [List.map_map]; rfl
    rw [e1, e2]
    exact dpAll_of_ints _
def tLenSetT (K : Fg) (ta : TE) : TE := fun σ H Q => ta σ H fun x H1 => ∃ (l : Addr) (ns : List Int), x = .ref l ∧ SqT K H1 l (ns.map V.int) ∧ ns.Nodup ∧ ns.length ≤ 1000 ∧ Q (.int (ns.length : Nat)) H1
theorem pe_lenSetT {ta : TE} (hg : Gl X "len") (hm : X.mg "len" = none) (hg2 : Gl X "set") (hm2 : X.mg "set" = none) (ha : PE X a ta) (hc : X.calm = true := by rfl)
    (na : starEach [a] X.env = (false, eval a X.env) :: starEach [] X.env := by rfl) : PE X (.Call (.Name "len" p) [.Call (.Name "set" p2) [a] [] q] [] pos) (tLenSetT X.K ta) := by
  refine ⟨fun pins s σ H Q I h => Call_ (ld_blt I hg hm PySem.boot_len (callWith_builtin1 (args_cons (Call_ (ld_blt I hg2 hm2 boot_set (callWith_type1 (args_cons (thn (ha.run pins s σ H _ I h) fun v s1 ⟨x, H1, I1, r1, q1⟩ => args_nil ?_) na) na rfl))) rfl) rfl rfl))⟩
  obtain ⟨l, ns, rfl, hq, hnd, hl, q1⟩ := q1
  cases r1
  obtain ⟨its, r, pl, hz⟩ := I1.tuple hq
  have hi : IntsAre its.toArray.toList ns := by
    have z : ∀ {ns : List Int} {us : List Value}, Vals (ns.map V.int) us → IntsAre us ns := fun {ns} => by
      induction ns with
      | nil => intro us h; cases h; exact .nil
      | cons n t ih =>
        intro us h
        cases h with
        | cons h1 h2 => obtain ⟨k, rfl⟩ := h1; exact .cons n k (ih h2)
    simpa using z r
  refine call_set_tupI ns (I1.ok.hd hc) (show s1.heap.IsTuple l its.toArray from pl) hi (by unfold scanBound; omega) fun h' tk c R1 hcn k => args_nil ?_
  obtain ⟨o, es, ep, t, ho, hex, hdt, g, nd, hm3, hb, hf, hn, _, _⟩ := R1
  have I2 : Inv X pins σ H1 { s1 with heap := h', toks := tk } := I1.kept k
  have pm : (es.toList.map keyOf).Perm ns := (List.perm_ext_iff_of_nodup nd hnd).mpr fun j => by rw [← hm3 j, decide_eq_true_eq]
  have sz : es.size = ns.length := by
    have := pm.length_eq
    rw [List.length_map, Array.length_toList] at this
    exact this
  exact call_len_set ho hex hdt hf (by rw [sz]; omega) ⟨.int ns.length, H1, I2.tok _, ⟨_, by rw [sz]⟩, q1⟩
theorem pd_lenSetT {ns : List Int} (hm : X.mg "len" = none) (hm2 : X.mg "set" = none) (ha : PD X a δ (.tuple (ns.map PyData.int))) (nd : ns.Nodup) (hl : ns.length ≤ 1000) (hc : X.calm = true := by rfl) (hg : Gl X "len" := by rfl) (hg2 : Gl X "set" := by rfl) (na : starEach [a] X.env = (false, eval a X.env) :: starEach [] X.env := by rfl) :
    PD X (.Call (.Name "len" p) [.Call (.Name "set" p2) [a] [] q] [] pos) δ (.int ((ns.length : Nat) : Int)) :=
  PE.imp (pe_lenSetT hg hm hg2 hm2 ha hc na) fun σ H Q ⟨p, B, G, i3, en, q⟩ => ⟨p, B, G, i3, en, fun v d G' H' r n hv => by
    subst r
    cases hv with
    | tup hs ha =>
      have e := dpAll_ints ha
      subst e
      exact ⟨_, ns, rfl, ex_t n.gh hs, nd, hl, q _ _ G' H' rfl n (.int _)⟩⟩
/-! ### new lists of the def's own -/
def rOw (K : Fg) (δ : De) (R : List Dt → Prop) : TE := fun σ H Q => ∃ p B G, I3 p B G H ∧ EnvD K p B G H σ δ ∧ ∀ l xs ds G' H', R ds → Nxt p G H G' H' → H l = none → G' l = none → p ≠ some l → H' l = some (.lst xs) → DzAll K G' xs ds → Q (.ref l) H'
def XO (X : Cx) (e : Expr) (δ : De) (R : List Dt → Prop) : Prop := PE X e (rOw X.K δ R)
theorem pot_ne {p : Option Addr} {B G H : Hp} {l : Addr} (i3 : I3 p B G H) (hl : H l = none) : p ≠ some l := fun z => by
  obtain ⟨_, _, _, _, h3, _⟩ := i3.pot l z
  rw [hl] at h3; cases h3
theorem xo_lst {S : List Dt → Prop} (h : XA X es δ S) (hS : ∀ ds, S ds → ds.length ≤ 100000) : XO X (.List es lp) δ S := PE.imp (pe_lst h.pa) fun σ H Q ⟨p, B, G, i3, en, q⟩ => ⟨p, B, G, i3, en, fun vs ds G' H' r n h' =>
  ⟨by rw [dpAll_length h']; exact Nat.le_trans (hS ds r) (by decide), fun l hl => by
    have i3' := i3.nxt n
    have h0 : H l = none := by
      cases z : H l with
      | none => rfl
      | some w => exact absurd hl (n.dom l (nn z))
    exact q l vs ds G' _ r (n.trans (.newH i3' (.lst vs) hl)) h0 (i3'.gh.free hl) (pot_ne i3' hl) upd_same h'⟩⟩
theorem xo_call {k : Nat} {y : Str} {ps : List Str} {st : Stmt} {R : List Dt → List Dt → Prop} {ds' : List Dt} {p3 : Pos} (C : Cal X.prog X.w X.K X.mg X.base k y ps st (spO X.K R)) (ha : PAD X (e :: es) δ ds') (hR : R ds' ds)
    (hr : Room k X.A := by first | assumption | (refine Room.mono (by assumption) ?_; decide)) (hgd : X.A.guards = some [] := by assumption) (hg : Gl X y := by rfl) (hpl : starEach es X.env = es.map fun e => (false, eval e X.env) := by rfl) (hdb : (y == ("__debug__" : Str)) = false := by decide) :
    XO X (.Call (.Name y p2) (e :: es) [] p3) δ (fun x => x = ds) := by
  obtain ⟨f, fd, F, hm, hk, hb, _⟩ := C.ex
  refine PE.imp (pe_g F hr hgd hg hm hk hb ha.pa hdb (by rw [hpl]; exact ha.pl) (back_plain hpl)) fun σ H Q ⟨p, B, G, i3, en, q⟩ => ⟨p, B, G, i3, en, fun vs dd G1 H1 r n hv => ?_⟩
  subst r
  have i31 := i3.nxt n
  refine ⟨G1, _, ds, i31.gh, hv, hR, fun l xs G2 H2 st2 e2 g2 hl gl hl2 ha2 => ?_⟩
  have n2 : Nxt p G1 H1 G2 H2 := ⟨st2, fun a o h => e2 a o (del_le h).1, g2, fun z hz => by
    obtain ⟨_, _, a, b, h3, h4⟩ := i31.pot z hz
    exact ⟨a, b, e2 _ _ h3, h4⟩⟩
  have h0 : H l = none := by
    cases z : H l with
    | none => rfl
    | some w => exact absurd hl (n.dom l (nn z))
  exact q l xs ds G2 H2 rfl (n.trans n2) h0 gl (pot_ne i31 hl) hl2 ha2
theorem sd_own (i : Nat) {x : Str} {S : List Dt → Prop} {pos' : Pos} (hN : X.N.Nodup) (he : XO X e δ S) (hR : ∀ ds, S ds → N (δ.set i (.own ds))) (hi : X.N[i]? = some x := by rfl) (hx : Loc X.env.scope x := by first | exact Or.inl rfl | exact Or.inr rfl)
    (hs : swapsWith e (some (.Name x pos')) pos.line X.env = pure false := by rfl) (hf : X.fn x = true ∨ X.env.scope.names.lookup x = some .local := by first | exact .inl rfl | exact .inr rfl | assumption) : SD X (.Assign [.Name x pos'] e pos) δ { o with nx := N } :=
  PS.imp (ps_set hN hi hx he hs hf) fun D σ H ⟨p, B, G, i3, en, q⟩ => ⟨p, B, G, i3, en, fun l xs ds G' H' r n h0 g pl hl ha => q.nx _ _ G' H' (hR ds r) (n.stepB i3) (i3.nxt n) (en.putOwn i3 n h0 g pl hl ha i)⟩
/-- x, y = a, b where b is a new list of the def's own -/
theorem sd_parO (i j : Nat) {x y : Str} {S : List Dt → Prop} {px py pt : Pos} {kt k2 pt2} (hN : X.N.Nodup) (hij : i ≠ j) (ha : XD X a δ R) (hb : XO X b δ S) (hS : ∀ d ds, R d → S ds → N ((δ.set i (.d d)).set j (.own ds))) (hc : X.calm = true := by rfl) (hi : X.N[i]? = some x := by rfl) (hj : X.N[j]? = some y := by rfl) (hx : X.env.scope.names.lookup x = some .local := by rfl) (hy : X.env.scope.names.lookup y = some .local := by rfl)
    (hw : swappedStores [.Tuple [.Name x px, .Name y py] kt pt] (.Tuple [a, b] k2 pt2) X.env = pure (some [x, y]) := by rfl) (hs : swapsWithSole [.Tuple [.Name x px, .Name y py] kt pt] (.Tuple [a, b] k2 pt2) pos.line X.env = pure false := by rfl)
    (h1 : starEach [a, b] X.env = (false, eval a X.env) :: starEach [b] X.env := by rfl) (h2 : starEach [b] X.env = (false, eval b X.env) :: starEach [] X.env := by rfl) :
    SD X (.Assign [.Tuple [.Name x px, .Name y py] kt pt] (.Tuple [a, b] k2 pt2) pos) δ { o with nx := N } :=
  PS.imp (ps_par hc hN hi hj hij hx hy (pa_cons ha (pa_cons hb pa_nil h2) h1) hw hs) fun D σ H ⟨p, B, G, i3, en, q⟩ => ⟨p, B, G, i3, en, fun v d G1 H1 r1 n1 hv => ⟨p, B, G1, i3.nxt n1, en.nxt n1, fun l xs ds G' H' r n h0 g pl hl ha => by
    refine ⟨v, .ref l, rfl, q.nx _ _ G' H' (hS d ds r1 r) ((n1.trans n).stepB i3) (i3.nxt (n1.trans n)) ?_⟩
    have e1 := (en.nxt n1).set (i := i) hv
    exact e1.putOwn (i3.nxt n1) n h0 g pl hl ha j⟩⟩
/-- an element of an own list -/
theorem pd_ownAt (i : Nat) {x : Str} {k : Int} {np : Pos} (hs : δ[i]? = some (.own ds) := by rfl) (hk : PD X b δ (.int k)) (h : atI ds k = some d) (hN : X.N[i]? = some x := by rfl) (hv : Vis X.env.scope x := by first | exact Or.inl rfl | exact Or.inr (Or.inl rfl) | exact Or.inr (Or.inr rfl)) (hd : (x == ("__debug__" : Str)) = false := by decide)
    (hcd : (x == ("__classdict__" : Str)) = false := by decide) (hp : PlainIx b := by exact fun _ _ => rfl) : PD X (.Subscript (.Name x np) b pos) δ d :=
  PE.imp (pe_ix ix_list (pe_var hN hv hd hcd) hk hp) fun σ H Q ⟨p, B, G, i3, en, q⟩ => by
    obtain ⟨o', h1, l, xs, rfl, h2, h3, h4, h5, h6⟩ := en.slot i _ hs
    refine ⟨_, h1, p, B, G, i3, en, fun v dd G' H' r n hv' => ?_⟩
    subst r
    cases hv'
    have h5' : H' l = some (.lst xs) := n.ex _ _ (by rw [del_ne h4]; exact h5)
    obtain ⟨w, e1, e2⟩ := atI_all h6 h
    exact ⟨l, xs, k, w, rfl, rfl, .inl (.inl h5'), e1, q w d G' H' rfl n (dp_ex n.st.1 _ _ e2)⟩
/-- an own list becomes data for good -/
theorem frz_ok {K : Fg} {p : Option Addr} {B G H : Hp} {σ : L2.St} {i : Nat} (i3 : I3 p B G H) (en : EnvD K p B G H σ δ) (hs : δ[i]? = some (.own ds)) : ∃ G', Step B G G' ∧ I3 p B G' H ∧ EnvD K p B G' H σ (δ.set i (.d (.list ds))) := by
  obtain ⟨o', h1, l, xs, rfl, h2, h3, h4, h5, h6⟩ := en.slot i _ hs
  have gx : Ex G (upd G l (.lst xs)) := Ex.new h3
  refine ⟨upd G l (.lst xs), ⟨gx, fun y h7 h8 => ?_⟩, ⟨i3.bh, fun y u hu => ?_, fun z hz => ?_⟩, ?_⟩
  · have : y ≠ l := fun w => h7 (w ▸ h2)
    rw [upd_ne this]; exact h8
  · by_cases w : y = l
    · subst w; rw [upd_same] at hu; cases hu; exact h5
    · rw [upd_ne w] at hu; exact i3.gh y u hu
  · obtain ⟨a1, a2, a3⟩ := i3.pot z hz
    have : z ≠ l := fun w => h4 (by rw [hz, w])
    exact ⟨a1, by rw [upd_ne this]; exact a2, a3⟩
  · have hil : i < δ.length := (List.getElem?_eq_some_iff.mp hs).1
    refine ⟨by rw [List.length_set]; exact en.len, fun j f q => ?_, fun j k f g oj ok a hjk q1 q2 r1 r2 f1 f2 => ?_⟩
    · by_cases hj : i = j
      · subst hj
        rw [List.getElem?_set_self hil] at q
        cases q
        exact ⟨_, h1, .ref l, rfl, .lst (.inl (.inl upd_same)) (dpAll_ex gx _ _ h6)⟩
      · rw [List.getElem?_set_ne hj] at q
        obtain ⟨o2, b1, b2⟩ := en.slot j f q
        refine ⟨o2, b1, ?_⟩
        have away : ∀ a, Foot f o2 a → a ≠ l := fun a fa w => by
          subst w
          exact en.apart i j (.own ds) f _ o2 a hj hs q h1 b1 (.inl ⟨trivial, rfl⟩) fa
        cases f with
        | no => trivial
        | d y => obtain ⟨v, e1, e2⟩ := b2; exact ⟨v, e1, dp_ex gx _ _ e2⟩
        | pot => exact b2
        | rng lo hi => exact b2
        | own es =>
          obtain ⟨l2, ys, c1, c2, c3, c4, c5, c6⟩ := b2
          exact ⟨l2, ys, c1, c2, by rw [upd_ne (away l2 (.inl ⟨trivial, c1⟩))]; exact c3, c4, c5, dpAll_ex gx _ _ c6⟩
        | own2 as dss =>
          obtain ⟨l2, c1, ⟨c2, c3, c4⟩, c5, c6, c7, c8⟩ := b2
          refine ⟨l2, c1, ⟨c2, by rw [upd_ne (away l2 (.inl ⟨trivial, c1⟩))]; exact c3, c4⟩, c5, c6, c7, fun n a es k1 k2 => ?_⟩
          obtain ⟨⟨m1, m2, m3⟩, xs, m4, m5⟩ := c8 n a es k1 k2
          exact ⟨⟨m1, by rw [upd_ne (away a (.inr (List.mem_of_getElem? k1)))]; exact m2, m3⟩, xs, m4, dpAll_ex gx _ _ m5⟩
    · have nj : i ≠ j := fun w => by subst w; rw [List.getElem?_set_self hil] at q1; cases q1; exact foot_d f1
      have nk : i ≠ k := fun w => by subst w; rw [List.getElem?_set_self hil] at q2; cases q2; exact foot_d f2
      rw [List.getElem?_set_ne nj] at q1
      rw [List.getElem?_set_ne nk] at q2
      exact en.apart j k f g oj ok a hjk q1 q2 r1 r2 f1 f2
theorem ss_frz (i : Nat) (hs : δ[i]? = some (.own ds)) (k : SsD X sts (δ.set i (.d (.list ds))) o) : SsD X sts δ o := PSs.imp k fun D σ H ⟨p, B, G, i3, en, q⟩ => by
  obtain ⟨G', s, i', e'⟩ := frz_ok i3 en hs
  exact ⟨p, B, G', i', e', q.step s⟩
/-- a test that reads an own list as data -/
theorem xt_frz (i : Nat) {R : Bool → Prop} (hs : δ[i]? = some (.own ds)) (k : XT X c (δ.set i (.d (.list ds))) R) : XT X c δ R := PT.imp k fun σ H Q ⟨p, B, G, i3, en, q⟩ => by
  obtain ⟨G', s, i', e'⟩ := frz_ok i3 en hs
  exact ⟨p, B, G', i', e', fun u G2 H2 r n => q u G H2 r ⟨.refl _ _, n.ex, fun a w h => n.gh a w (n.st.1 a w (s.1 a w h)), n.pot⟩⟩
/-- x.append(e), e drawn -/
theorem sd_app (i : Nat) {x : Str} {apos cpos np : Pos} (hs : δ[i]? = some (.own ds)) (he : XD X e δ R) (hR : ∀ d, R d → N (δ.set i (.own (ds ++ [d])))) (hz : ds.length < 100000) (hN : X.N[i]? = some x := by rfl)
    (hv : Vis X.env.scope x := by first | exact Or.inl rfl | exact Or.inr (Or.inl rfl) | exact Or.inr (Or.inr rfl)) (hd : (x == ("__debug__" : Str)) = false := by decide) (hcd : (x == ("__classdict__" : Str)) = false := by decide)
    (hbase : attributeBase (.Name x np) "append" X.env (eval (.Name x np) X.env) = eval (.Name x np) X.env := by rfl)
    (hfew : ((backTo cpos (starEach [e] X.env)).all (fun x => !x.1) && (backToKw cpos (keywordEach [] X.env)).all (fun x => x.1.isSome) && decide (([e] : List Expr).length + ([] : List Keyword).length + (if ([] : List Keyword).isEmpty then 0 else 1) < 30)) = true := by rfl)
    (hline : (apos.endLine == cpos.line) = true := by rfl) (hst : starEach [e] X.env = [(false, eval e X.env)] := by rfl) (hsw : swapsWith (.Call (.Attribute (.Name x np) "append" apos) [e] [] cpos) none pos.line X.env = pure false := by rfl) :
    SD X (.Expr (.Call (.Attribute (.Name x np) "append" apos) [e] [] cpos) pos) δ { o with nx := N } := by
  refine PS.imp (ps_expr (pe_bm PySem.F.plainAttrs_list PySem.F.slot_list_append PySem.F.type_list_append mt_append (pe_var hN hv hd hcd) (pa_cons he pa_nil (by rw [hst]; rfl)) hbase hfew hline hst rfl) hsw) fun D σ H ⟨p, B, G, i3, en, q⟩ => ?_
  obtain ⟨o', h1, l, xs, rfl, h2, h3, h4, h5, h6⟩ := en.slot i _ hs
  refine ⟨_, h1, .inl ⟨rfl, xs, .inl (.inl h5)⟩, p, B, G, i3, en, fun v d' G' H' r n hv' => ?_⟩
  have en' := en.nxt n
  have i3' := i3.nxt n
  have g' : G' l = none := n.st.2 l (nn h5) h3
  have h5' : H' l = some (.lst xs) := n.ex _ _ (by rw [del_ne h4]; exact h5)
  refine ⟨l, xs, v, rfl, rfl, h5', by rw [dpAll_length h6]; exact Nat.lt_of_lt_of_le hz (by decide), q.nx _ σ G' _ (hR d' r) (n.stepB i3) ⟨i3'.bh.mut h2, i3'.gh.mut g', fun z hz' => ?_⟩ (en'.app hs h1 (dpAll_append (dpAll_ex n.st.1 _ _ h6) (.cons hv' .nil)))⟩
  obtain ⟨a1, a2, a3, a4, a5, a6⟩ := i3'.pot z hz'
  have : z ≠ l := fun w => h4 (by rw [hz', w])
  exact ⟨a1, a2, a3, a4, by rw [upd_ne this]; exact a5, a6⟩
theorem pd_neg {i : Int} (ha : PD X a δ (.int i)) : PD X (.UnaryOp .USub a pos) δ (.int (-i)) := PE.imp (pe_un un_neg ha) fun σ H Q ⟨p, B, G, i3, en, q⟩ => ⟨p, B, G, i3, en, fun v d G' H' r n hv => by
  subst r
  cases hv
  exact ⟨i, rfl, q _ _ G' H' rfl n (.int _)⟩⟩
end
end Dv

set_option linter.all false
set_option maxRecDepth 100000
set_option maxHeartbeats 4000000
namespace Dv
open PySem PySem.Spec PyProof.Rows L2
/-! ### lists of the def's own in a list of the def's own -/
theorem dzAll_of_get {K : Fg} {G : Hp} : ∀ {xs : List V} {ds : List Dt}, xs.length = ds.length → (∀ (i : Nat) x d, xs[i]? = some x → ds[i]? = some d → Dz K G x d) → DzAll K G xs ds
  | [], [], _, _ => .nil
  | x :: xs, d :: ds, hl, h => .cons (h 0 x d rfl rfl) (dzAll_of_get (by simpa using hl) fun i y e h1 h2 => h (i + 1) y e (by simpa using h1) (by simpa using h2))
  | [], _ :: _, hl, _ => by simp at hl
  | _ :: _, [], hl, _ => by simp at hl
section
variable {X : Cx} {sts : List Stmt} {a b c e : Expr} {es fs : List Expr} {δ δ' : De} {o : Out} {d : Dt} {ds : List Dt} {dss : List (List Dt)} {as : List Addr} {pos p p2 lp lp2 q : Pos} {R : Dt → Prop} {N : De → Prop} {k : Int}
theorem back_none {p : Option Addr} {G H G' H' : Hp} {l : Addr} (n : Nxt p G H G' H') (h : H' l = none) : H l = none := by
  cases z : H l with
  | none => rfl
  | some w => exact absurd h (n.dom l (nn z))
/-- x = [[e, ..]] -/
theorem sd_new2 (i : Nat) {x : Str} {pos' : Pos} (hX : X.N.Nodup) (he : PAD X es δ ds) (hR : ∀ a, N (δ.set i (.own2 [a] [ds]))) (hz : ds.length ≤ 100000 := by first | decide | simp) (hi : X.N[i]? = some x := by rfl) (hx : Loc X.env.scope x := by first | exact Or.inl rfl | exact Or.inr rfl)
    (hs : swapsWith (.List [.List es lp2] lp) (some (.Name x pos')) pos.line X.env = pure false := by rfl) (hf : X.fn x = true ∨ X.env.scope.names.lookup x = some .local := by first | exact .inl rfl | exact .inr rfl | assumption)
    (h1 : starEach [.List es lp2] X.env = (false, eval (.List es lp2) X.env) :: starEach [] X.env := by rfl) : SD X (.Assign [.Name x pos'] (.List [.List es lp2] lp) pos) δ { o with nx := N } :=
  PS.imp (ps_set hX hi hx (pe_lst (pa_cons (pe_lst he.pa) pa_nil h1)) hs hf) fun D σ H ⟨p, B, G, i3, en, q⟩ => ⟨p, B, G, i3, en, fun vs dd G1 H1 r n hv => ⟨by rw [dpAll_length hv, r]; exact Nat.le_trans hz (by decide), fun a ha => ⟨by show 1 ≤ sizeLine; decide, fun l hl => by
    subst r
    have i31 := i3.nxt n
    have n2 := Nxt.newH i31 (.lst vs) ha
    have i32 := i31.nxt n2
    have n3 := Nxt.newH i32 (.lst [V.ref a]) hl
    have n12 := n.trans n2
    have n13 := n12.trans n3
    have a0 : H a = none := back_none n ha
    have l1 : H1 l = none := back_none n2 hl
    have l0 : H l = none := back_none n12 hl
    have al : a ≠ l := fun z => by subst z; rw [upd_same] at hl; cases hl
    refine q.nx _ _ G1 _ (hR a) (n13.stepB i3) (i3.nxt n13) (en.putNew n13 (en := .own2 [a] [dd]) ⟨l, rfl, ⟨i3.bh.free l0, i31.gh.free l1, pot_ne i3 l0⟩, upd_same, ?_, rfl, fun i x ds' k1 k2 => ?_⟩ fun x fx => ?_)
    · exact List.nodup_cons.mpr ⟨by simpa using fun z => al z.symm, List.nodup_cons.mpr ⟨by simp, List.nodup_nil⟩⟩
    · cases i with
      | zero =>
        simp at k1 k2
        subst k1; subst k2
        exact ⟨⟨i3.bh.free a0, i31.gh.free ha, pot_ne i3 a0⟩, vs, by rw [upd_ne al]; exact upd_same, hv⟩
      | succ i => simp at k1
    · rcases fx with ⟨_, z⟩ | z
      · cases z; exact l0
      · rcases List.mem_singleton.mp z with rfl; exact a0⟩⟩⟩
/-- x.append([]) -/
theorem sd_appNew (i : Nat) {x : Str} {apos cpos np : Pos} (hs : δ[i]? = some (.own2 as dss)) (hR : ∀ a, N (δ.set i (.own2 (as ++ [a]) (dss ++ [[]])))) (hz : as.length < 100000) (hN : X.N[i]? = some x := by rfl)
    (hv : Vis X.env.scope x := by first | exact Or.inl rfl | exact Or.inr (Or.inl rfl) | exact Or.inr (Or.inr rfl)) (hd : (x == ("__debug__" : Str)) = false := by decide) (hcd : (x == ("__classdict__" : Str)) = false := by decide)
    (hbase : attributeBase (.Name x np) "append" X.env (eval (.Name x np) X.env) = eval (.Name x np) X.env := by rfl)
    (hfew : ((backTo cpos (starEach [.List [] lp] X.env)).all (fun x => !x.1) && (backToKw cpos (keywordEach [] X.env)).all (fun x => x.1.isSome) && decide (([.List [] lp] : List Expr).length + ([] : List Keyword).length + (if ([] : List Keyword).isEmpty then 0 else 1) < 30)) = true := by rfl)
    (hline : (apos.endLine == cpos.line) = true := by rfl) (hst : starEach [.List [] lp] X.env = [(false, eval (.List [] lp) X.env)] := by rfl) (hsw : swapsWith (.Call (.Attribute (.Name x np) "append" apos) [.List [] lp] [] cpos) none pos.line X.env = pure false := by rfl) :
    SD X (.Expr (.Call (.Attribute (.Name x np) "append" apos) [.List [] lp] [] cpos) pos) δ { o with nx := N } := by
  refine PS.imp (ps_expr (pe_bm PySem.F.plainAttrs_list PySem.F.slot_list_append PySem.F.type_list_append mt_append (pe_var hN hv hd hcd) (pa_cons (pe_lst pa_nil) pa_nil (by rw [hst]; rfl)) hbase hfew hline hst rfl) hsw) fun D σ H ⟨p, B, G, i3, en, q⟩ => ?_
  obtain ⟨o', h1, l, rfl, ⟨f1, f2, f3⟩, h5, nd, ln, rows⟩ := en.slot i _ hs
  refine ⟨_, h1, .inl ⟨rfl, _, .inl (.inl h5)⟩, Nat.zero_le _, fun a ha => ?_⟩
  have n := Nxt.newH i3 (.lst []) ha
  have i3' := i3.nxt n
  have en' := en.nxt n
  have la : l ≠ a := fun z => by subst z; rw [ha] at h5; cases h5
  have h5' : upd H a (.lst []) l = some (.lst (as.map V.ref)) := by rw [upd_ne la]; exact h5
  have anew : a ∉ l :: as := fun z => by
    rcases List.mem_cons.mp z with z | z
    · exact la z.symm
    · obtain ⟨_, xs, hx⟩ := foot_of (K := X.K) (H := H) (e := .own2 as dss) (o := some (.ref l)) (a := a) ⟨l, rfl, ⟨f1, f2, f3⟩, h5, nd, ln, rows⟩ (.inr z)
      rw [ha] at hx; cases hx
  refine ⟨l, _, _, rfl, rfl, h5', by rw [List.length_map]; exact Nat.lt_of_lt_of_le hz (by decide), q.nx _ σ G _ (hR a) (n.stepB i3) ⟨i3'.bh.mut f1, i3'.gh.mut f2, fun z hz' => ?_⟩ (en'.write2 (e' := .own2 (as ++ [a]) (dss ++ [[]])) hs h1 (fun y ny _ => upd_ne fun z => ny (.inl ⟨trivial, by rw [z]⟩)) ⟨l, rfl, ⟨f1, f2, f3⟩, ?_, ?_, ?_, fun j y ds k1 k2 => ?_⟩ fun y fy => ?_)⟩
  · obtain ⟨a1, a2, a3, a4, a5, a6⟩ := i3'.pot z hz'
    have : z ≠ l := fun w => f3 (by rw [hz', w])
    exact ⟨a1, a2, a3, a4, by rw [upd_ne this]; exact a5, a6⟩
  · rw [upd_same, List.map_append]; rfl
  · rw [← List.cons_append]
    exact List.nodup_append.mpr ⟨nd, List.nodup_cons.mpr ⟨by simp, List.nodup_nil⟩, fun x hx y hy z => by
      rcases List.mem_singleton.mp hy with rfl
      exact anew (z ▸ hx)⟩
  · rw [List.length_append, List.length_append, ln]; rfl
  · by_cases hj : j < as.length
    · rw [List.getElem?_append_left hj] at k1
      rw [List.getElem?_append_left (by rw [← ln]; exact hj)] at k2
      obtain ⟨m1, xs, m2, m3⟩ := rows j y ds k1 k2
      have ya : y ≠ a := fun z => anew (List.mem_cons_of_mem _ (z ▸ List.mem_of_getElem? k1))
      have yl : y ≠ l := fun z => (List.nodup_cons.mp nd).1 (z ▸ List.mem_of_getElem? k1)
      exact ⟨m1, xs, by rw [upd_ne yl, upd_ne ya]; exact m2, m3⟩
    · have hj2 : j = as.length := by
        have := (List.getElem?_eq_some_iff.mp k1).1
        rw [List.length_append] at this
        simp at this
        omega
      subst hj2
      rw [List.getElem?_concat_length] at k1
      rw [ln, List.getElem?_concat_length] at k2
      cases k1; cases k2
      exact ⟨⟨i3.bh.free ha, i3.gh.free ha, pot_ne i3 ha⟩, [], by rw [upd_ne (Ne.symm la)]; exact upd_same, .nil⟩
  · rcases fy with ⟨_, z⟩ | z
    · exact .inl (.inl ⟨trivial, z⟩)
    · rcases List.mem_append.mp z with z | z
      · exact .inl (.inr z)
      · rcases List.mem_singleton.mp z with rfl
        refine .inr fun j f oj hj q1 r1 fb => ?_
        obtain ⟨o2, e1, e2⟩ := en.slot j f q1
        rw [r1] at e1
        cases e1
        obtain ⟨_, xs, hx⟩ := foot_of e2 fb
        rw [ha] at hx; cases hx
/-- one row of the own lists is written -/
theorem EnvD.row {K : Fg} {p : Option Addr} {B G H : Hp} {σ : L2.St} (h : EnvD K p B G H σ δ) {i j : Nat} {l y : Addr} {ys : List V} {es : List Dt} (hs : δ[i]? = some (.own2 as dss)) (h1 : σ[i]? = some (some (.ref l))) (hy : as[j]? = some y) (ha : DzAll K G ys es) : EnvD K p B G (upd H y (.lst ys)) σ (δ.set i (.own2 as (dss.set j es))) := by
  obtain ⟨o, q1, l2, q2, fr, h5, nd, ln, rows⟩ := h.slot i _ hs
  rw [h1] at q1
  cases q1
  cases q2
  have yl : l ≠ y := fun z => (List.nodup_cons.mp nd).1 (z ▸ List.mem_of_getElem? hy)
  have hj : j < dss.length := by rw [← ln]; exact (List.getElem?_eq_some_iff.mp hy).1
  refine h.write hs h1 (fun a na => upd_ne fun z => na (.inr (z ▸ List.mem_of_getElem? hy))) (e' := .own2 as (dss.set j es)) ⟨l, rfl, fr, by rw [upd_ne yl]; exact h5, nd, by rw [List.length_set]; exact ln, fun n a ds k1 k2 => ?_⟩ fun a fa => fa
  by_cases hn : n = j
  · subst hn
    rw [hy] at k1
    cases k1
    rw [List.getElem?_set_self hj] at k2
    cases k2
    obtain ⟨m1, _⟩ := rows n y dss[n] hy (List.getElem?_eq_getElem hj)
    exact ⟨m1, ys, upd_same, ha⟩
  · rw [List.getElem?_set_ne (Ne.symm hn)] at k2
    obtain ⟨m1, xs, m2, m3⟩ := rows n a ds k1 k2
    have : a ≠ y := fun z => by
      subst z
      have nda := (List.nodup_cons.mp nd).2
      exact hn ((List.getElem?_inj (by exact (List.getElem?_eq_some_iff.mp k1).1) nda).mp (k1.trans hy.symm))
    exact ⟨m1, xs, by rw [upd_ne this]; exact m2, m3⟩
/-- x[k].append(e) -/
theorem sd_appRow (i j : Nat) {x : Str} {apos cpos np sp : Pos} (hs : δ[i]? = some (.own2 as dss)) (hk : PD X b δ (.int k)) (hj : ∀ α (ys : List α), ys.length = dss.length → ∃ y, atI ys k = some y ∧ ys[j]? = some y) (hds : dss[j]? = some ds) (he : PD X e δ d) (hR : N (δ.set i (.own2 as (dss.set j (ds ++ [d]))))) (hz : ds.length < 100000) (hN : X.N[i]? = some x := by rfl)
    (hv : Vis X.env.scope x := by first | exact Or.inl rfl | exact Or.inr (Or.inl rfl) | exact Or.inr (Or.inr rfl)) (hd : (x == ("__debug__" : Str)) = false := by decide) (hcd : (x == ("__classdict__" : Str)) = false := by decide) (hp : PlainIx b := by exact fun _ _ => rfl)
    (hbase : attributeBase (.Subscript (.Name x np) b sp) "append" X.env (eval (.Subscript (.Name x np) b sp) X.env) = eval (.Subscript (.Name x np) b sp) X.env := by rfl)
    (hfew : ((backTo cpos (starEach [e] X.env)).all (fun x => !x.1) && (backToKw cpos (keywordEach [] X.env)).all (fun x => x.1.isSome) && decide (([e] : List Expr).length + ([] : List Keyword).length + (if ([] : List Keyword).isEmpty then 0 else 1) < 30)) = true := by rfl)
    (hline : (apos.endLine == cpos.line) = true := by rfl) (hst : starEach [e] X.env = [(false, eval e X.env)] := by rfl) (hsw : swapsWith (.Call (.Attribute (.Subscript (.Name x np) b sp) "append" apos) [e] [] cpos) none pos.line X.env = pure false := by rfl) :
    SD X (.Expr (.Call (.Attribute (.Subscript (.Name x np) b sp) "append" apos) [e] [] cpos) pos) δ { o with nx := N } := by
  refine PS.imp (ps_expr (pe_bm PySem.F.plainAttrs_list PySem.F.slot_list_append PySem.F.type_list_append mt_append (pe_ix ix_list (pe_var hN hv hd hcd) hk hp) (pa_cons he pa_nil (by rw [hst]; rfl)) hbase hfew hline hst rfl) hsw) fun D σ H ⟨p, B, G, i3, en, q⟩ => ?_
  obtain ⟨o', h1, l, rfl, ⟨f1, f2, f3⟩, h5, nd, ln, rows⟩ := en.slot i _ hs
  refine ⟨_, h1, p, B, G, i3, en, fun w dk G1 H1 r1 n1 hw => ?_⟩
  subst r1
  cases hw
  have h51 : H1 l = some (.lst (as.map V.ref)) := n1.ex _ _ (by rw [del_ne f3]; exact h5)
  obtain ⟨yv, y1, y2⟩ := hj V (as.map V.ref) (by rw [List.length_map]; exact ln)
  rw [List.getElem?_map] at y2
  cases hy : as[j]? with
  | none => rw [hy] at y2; cases y2
  | some y =>
    rw [hy] at y2
    cases y2
    obtain ⟨⟨m1, m2, m3⟩, xs, m4, m5⟩ := rows j y ds hy hds
    have m41 : H1 y = some (.lst xs) := n1.ex _ _ (by rw [del_ne m3]; exact m4)
    have i31 := i3.nxt n1
    refine ⟨l, _, k, .ref y, rfl, rfl, .inl (.inl h51), y1, .inl ⟨rfl, xs, .inl (.inl m41)⟩, p, B, G1, i31, en.nxt n1, fun v d' G' H' r n2 hv' => ?_⟩
    subst r
    have n := n1.trans n2
    have i3' := i3.nxt n
    have en' := en.nxt n
    have g' : G' y = none := n.st.2 y (nn m4) m2
    have h5' : H' y = some (.lst xs) := n.ex _ _ (by rw [del_ne m3]; exact m4)
    refine ⟨y, xs, v, rfl, rfl, h5', by rw [dpAll_length m5]; exact Nat.lt_of_lt_of_le hz (by decide), q.nx _ σ G' _ hR (n.stepB i3) ⟨i3'.bh.mut m1, i3'.gh.mut g', fun z hz' => ?_⟩ (en'.row hs h1 hy (dpAll_append (dpAll_ex n.st.1 _ _ m5) (.cons hv' .nil)))⟩
    obtain ⟨a1, a2, a3, a4, a5, a6⟩ := i3'.pot z hz'
    have : z ≠ y := fun w => m3 (by rw [hz', w])
    exact ⟨a1, a2, a3, a4, by rw [upd_ne this]; exact a5, a6⟩
/-- all of it becomes data for good -/
theorem frz2_ok {K : Fg} {p : Option Addr} {B G H : Hp} {σ : L2.St} {i : Nat} (i3 : I3 p B G H) (en : EnvD K p B G H σ δ) (hs : δ[i]? = some (.own2 as dss)) : ∃ G', Step B G G' ∧ I3 p B G' H ∧ EnvD K p B G' H σ (δ.set i (.d (.list (dss.map PyData.list)))) := by
  obtain ⟨o', h1, l, rfl, ⟨f1, f2, f3⟩, h5, nd, ln, rows⟩ := en.slot i _ hs
  have mine : ∀ a, a ∈ l :: as → Fr p B G a ∧ ∃ xs, H a = some (.lst xs) := fun a ha => foot_of (K := K) (H := H) (e := .own2 as dss) (o := some (.ref l)) ⟨l, rfl, ⟨f1, f2, f3⟩, h5, nd, ln, rows⟩ (by
    rcases List.mem_cons.mp ha with z | z
    · exact .inl ⟨trivial, by rw [z]⟩
    · exact .inr z)
  let G' : Hp := fun a => if a ∈ l :: as then H a else G a
  have gin : ∀ a, a ∈ l :: as → G' a = H a := fun a ha => if_pos ha
  have gout : ∀ a, a ∉ l :: as → G' a = G a := fun a ha => if_neg ha
  have gx : Ex G G' := fun a u ha => by
    by_cases z : a ∈ l :: as
    · rw [(mine a z).1.2.1] at ha; cases ha
    · rw [gout a z]; exact ha
  refine ⟨G', ⟨gx, fun y h7 h8 => ?_⟩, ⟨i3.bh, fun y u hu => ?_, fun z hz => ?_⟩, ?_⟩
  · by_cases z : y ∈ l :: as
    · exact absurd (mine y z).1.1 h7
    · rw [gout y z]; exact h8
  · by_cases z : y ∈ l :: as
    · rw [gin y z] at hu; exact hu
    · rw [gout y z] at hu; exact i3.gh y u hu
  · obtain ⟨a1, a2, a3⟩ := i3.pot z hz
    have : z ∉ l :: as := fun w => (mine z w).1.2.2 hz
    exact ⟨a1, by rw [gout z this]; exact a2, a3⟩
  · have hil : i < δ.length := (List.getElem?_eq_some_iff.mp hs).1
    have whole : Dz K G' (.ref l) (.list (dss.map PyData.list)) := .lst (xs := as.map V.ref) (.inl (.inl (by rw [gin l List.mem_cons_self]; exact h5))) (dzAll_of_get (by rw [List.length_map, List.length_map]; exact ln) fun n x dd k1 k2 => by
      rw [List.getElem?_map] at k1 k2
      cases z1 : as[n]? with
      | none => rw [z1] at k1; cases k1
      | some y =>
        cases z2 : dss[n]? with
        | none => rw [z2] at k2; cases k2
        | some es =>
          rw [z1] at k1; rw [z2] at k2
          cases k1; cases k2
          obtain ⟨_, xs, m4, m5⟩ := rows n y es z1 z2
          exact .lst (.inl (.inl (by rw [gin y (List.mem_cons_of_mem _ (List.mem_of_getElem? z1))]; exact m4))) (dpAll_ex gx _ _ m5))
    refine ⟨by rw [List.length_set]; exact en.len, fun j f q => ?_, fun j k f g oj ok a hjk q1 q2 r1 r2 f1 f2 => ?_⟩
    · by_cases hj : i = j
      · subst hj
        rw [List.getElem?_set_self hil] at q
        cases q
        exact ⟨_, h1, .ref l, rfl, whole⟩
      · rw [List.getElem?_set_ne hj] at q
        obtain ⟨o2, b1, b2⟩ := en.slot j f q
        refine ⟨o2, b1, ?_⟩
        have away : ∀ a, Foot f o2 a → a ∉ l :: as := fun a fa w => en.apart i j (.own2 as dss) f _ o2 a hj hs q h1 b1 (by
          rcases List.mem_cons.mp w with z | z
          · exact .inl ⟨trivial, by rw [z]⟩
          · exact .inr z) fa
        cases f with
        | no => trivial
        | d y => obtain ⟨v, e1, e2⟩ := b2; exact ⟨v, e1, dp_ex gx _ _ e2⟩
        | pot => exact b2
        | rng lo hi => exact b2
        | own es =>
          obtain ⟨l2, ys, c1, c2, c3, c4, c5, c6⟩ := b2
          exact ⟨l2, ys, c1, c2, by rw [gout l2 (away l2 (.inl ⟨trivial, c1⟩))]; exact c3, c4, c5, dpAll_ex gx _ _ c6⟩
        | own2 as2 dss2 =>
          obtain ⟨l2, c1, ⟨c2, c3, c4⟩, c5, c6, c7, c8⟩ := b2
          refine ⟨l2, c1, ⟨c2, by rw [gout l2 (away l2 (.inl ⟨trivial, c1⟩))]; exact c3, c4⟩, c5, c6, c7, fun n a es k1 k2 => ?_⟩
          obtain ⟨⟨m1, m2, m3⟩, xs, m4, m5⟩ := c8 n a es k1 k2
          exact ⟨⟨m1, by rw [gout a (away a (.inr (List.mem_of_getElem? k1)))]; exact m2, m3⟩, xs, m4, dpAll_ex gx _ _ m5⟩
    · have nj : i ≠ j := fun w => by subst w; rw [List.getElem?_set_self hil] at q1; cases q1; exact foot_d f1
      have nk : i ≠ k := fun w => by subst w; rw [List.getElem?_set_self hil] at q2; cases q2; exact foot_d f2
      rw [List.getElem?_set_ne nj] at q1
      rw [List.getElem?_set_ne nk] at q2
      exact en.apart j k f g oj ok a hjk q1 q2 r1 r2 f1 f2
theorem ss_frz2 (i : Nat) (hs : δ[i]? = some (.own2 as dss)) (k : SsD X sts (δ.set i (.d (.list (dss.map PyData.list)))) o) : SsD X sts δ o := PSs.imp k fun D σ H ⟨p, B, G, i3, en, q⟩ => by
  obtain ⟨G', s, i', e'⟩ := frz2_ok i3 en hs
  exact ⟨p, B, G', i', e', q.step s⟩
end
end Dv

set_option linter.all false
set_option maxRecDepth 100000
set_option maxHeartbeats 4000000
namespace Dv
open PySem PySem.Spec PyProof.Rows L2
/-! ### a comprehension of new lists -/
def rOw2 (K : Fg) (δ : De) (R : List (List Dt) → Prop) : TE := fun σ H Q => ∃ p B G, I3 p B G H ∧ EnvD K p B G H σ δ ∧ ∀ l as dss G' H', R dss → Nxt p G H G' H' → (∀ a ∈ l :: as, H a = none) → Slot K p B G' H' (.own2 as dss) (some (.ref l)) → Q (.ref l) H'
def XO2 (X : Cx) (e : Expr) (δ : De) (R : List (List Dt) → Prop) : Prop := PE X e (rOw2 X.K δ R)
structure Lc2 (X : Cx) (elt tg iter : Expr) (scope : Scope) (δ : De) (R : List (List Dt) → Prop) : Prop where
  ex : ∃ (own : List (Str × Nat)) (wi : TI) (g : TG) (tt : TT) (te : TE), PI X tg iter wi ∧ BlkOk X.N X.env.scope scope own ∧ (∀ s H C cl fp, PG (bX X scope s H C cl fp) tg g) ∧ (∀ s H C cl fp, PTs (bX X scope s H C cl fp) [] tt) ∧ (∀ s H C cl fp, PE (bX X scope s H C cl fp) elt te) ∧
    ∀ σ H Q, rOw2 X.K δ R σ H Q → tLc wi g tt te (own.map (·.2)) σ H Q
section
variable {X : Cx} {elt tg iter : Expr} {scope : Scope} {own : List (Str × Nat)} {pos : Pos} {δ : De} {es : List Dt}
/-- behind i turns -/
structure Mk2 (K : Fg) (p : Option Addr) (B G1 H1 : Hp) (Dl : Addr) (F : Nat → List Dt) (i : Nat) (G' H' : Hp) (as : List Addr) : Prop where
  nx : Nxt p G1 H1 G' H'
  gd : G' Dl = none
  hd : H' Dl = some (.lst (as.map V.ref))
  ln : as.length = i
  new : ∀ a ∈ as, H1 a = none
  nd : (Dl :: as).Nodup
  rows : ∀ (j : Nat) a, as[j]? = some a → Fr p B G' a ∧ ∃ xs, H' a = some (.lst xs) ∧ DzAll K G' xs (F j)
theorem lc2_of (hi : ID X tg iter δ es) (ok : BlkOk X.N X.env.scope scope own) (hl : es.length ≤ 100000) (F : Nat → List Dt) (δt : Dt → De)
    (hg : ∀ s H C cl fp (i : Nat) d, es[i]? = some d → TgD (bX X scope s H C cl fp) tg (own.map (·.2)) d (wipeD δ (own.map (·.2))) (δt d))
    (he : ∀ s H C cl fp (i : Nat) d, es[i]? = some d → XO (bX X scope s H C cl fp) elt (δt d) fun y => y = F i) : Lc2 X elt tg iter scope δ (fun dss => dss = (List.range es.length).map F) := by
  have pg : ∀ s H C cl fp, PG (bX X scope s H C cl fp) tg (fun v σ H Q => ∃ (i : Nat), ∃ d, es[i]? = some d ∧ rG X.K (own.map (·.2)) d (wipeD δ (own.map (·.2))) (δt d) v σ H Q) := fun s H C cl fp =>
    ⟨fun pins s1 σ H1 v u Q I r ⟨i, d, b, q⟩ => (hg s H C cl fp i d b).run pins s1 σ H1 v u Q I r q⟩
  have pe : ∀ s H C cl fp, PE (bX X scope s H C cl fp) elt (fun σ H Q => ∃ (i : Nat), ∃ d, es[i]? = some d ∧ rOw X.K (δt d) (fun y => y = F i) σ H Q) := fun s H C cl fp =>
    ⟨fun pins s1 σ H1 Q I ⟨i, d, b, q⟩ => (he s H C cl fp i d b).run pins s1 σ H1 Q I q⟩
  refine ⟨own, _, _, _, _, hi, ok, pg, fun _ _ _ _ _ => pts_nil, pe, fun σ H Q ⟨p, B, G, i3, en, q⟩ => ⟨p, B, G, i3, en, fun J ds G1 H1 s n yl Dl hD => ?_⟩⟩
  rw [show ds = es from s] at yl
  have i31 := i3.nxt n
  have en1 := en.nxt n
  have gD : G1 Dl = none := i31.gh.free hD
  have pD : p ≠ some Dl := pot_ne i31 hD
  refine ⟨fun i m H' => m = es.length - i ∧ i ≤ es.length ∧ ∃ G' as, Mk2 X.K p B G1 H1 Dl F i G' H' as, ⟨_, rfl, Nat.zero_le _, G1, [], .newH i31 _ hD, gD, upd_same, rfl, by simp, List.nodup_cons.mpr ⟨by simp, List.nodup_nil⟩, fun j a k => by simp at k⟩, ?_⟩
  rintro i m H' ⟨em, hle, G', as, M⟩
  have i3' := i31.nxt M.nx
  by_cases hlt : i < es.length
  · obtain ⟨go, yd⟩ := (yl p B G' H' M.nx.st.1 i3' i).1 hlt
    refine .inr ⟨go, fun H'' => ∃ G'' as, Mk2 X.K p B G1 H1 Dl F (i + 1) G'' H'' as, fun H'' k => ⟨_, by omega, rfl, by omega, k⟩, fun x H2 hy => ?_⟩
    obtain ⟨G2, d, e2, n2, hx⟩ := yd x H2 hy
    have n12 := M.nx.trans n2
    have hd2 : H2 Dl = some (.lst (as.map V.ref)) := n2.ex Dl _ (by rw [del_ne pD]; exact M.hd)
    refine ⟨i, d, e2, p, B, G2, i31.nxt n12, (en1.nxt n12).wipes _, hx, fun σ2 en2 ⟨ks', ks⟩ => ⟨?_, iteT (B := ∃ G'' as, Mk2 X.K p B G1 H1 Dl F (i + 1) G'' H2 as) ⟨i, d, e2, p, B, G2, i31.nxt n12, en2, fun l xs dl G4 H4 ry n4 h0 g4 p4 hl4 ha4 => ?_⟩⟩⟩
    · refine wipe_same ?_ ks
      rw [ks', wipe_length]
    · subst ry
      have n14 := n12.trans n4
      have i34 := i31.nxt n14
      have gd4 : G4 Dl = none := n4.st.2 Dl (nn hd2) (n2.st.2 Dl (nn M.hd) M.gd)
      have hd4 : H4 Dl = some (.lst (as.map V.ref)) := n4.ex Dl _ (by rw [del_ne pD]; exact hd2)
      have lD : l ≠ Dl := fun z => by subst z; rw [h0] at hd2; cases hd2
      have l1 : H1 l = none := back_none n12 h0
      have rows4 : ∀ (j : Nat) a, as[j]? = some a → a ≠ l ∧ a ≠ Dl ∧ Fr p B G4 a ∧ ∃ xs, H4 a = some (.lst xs) ∧ DzAll X.K G4 xs (F j) := fun j a k => by
        obtain ⟨⟨m1, m2, m3⟩, xs, m4, m5⟩ := M.rows j a k
        have h2 : H2 a = some (.lst xs) := n2.ex a _ (by rw [del_ne m3]; exact m4)
        have h4 : H4 a = some (.lst xs) := n4.ex a _ (by rw [del_ne m3]; exact h2)
        exact ⟨(fun z => by subst z; rw [h0] at h2; cases h2), fun z => (List.nodup_cons.mp M.nd).1 (z ▸ List.mem_of_getElem? k), ⟨m1, n4.st.2 a (nn h2) (n2.st.2 a (nn m4) m2), m3⟩, xs, h4, dpAll_ex (n2.st.1.trans n4.st.1) _ _ m5⟩
      refine ⟨as.map V.ref, hd4, ?_, G4, as ++ [l], ⟨⟨n14.st.1, n14.st.2⟩, fun a o h => ?_, n14.gh.mut gd4, fun z hz => ?_⟩, gd4, by rw [upd_same, List.map_append]; rfl, by rw [List.length_append, M.ln]; rfl, fun a ha => ?_, ?_, fun j a k => ?_⟩
      · rw [List.length_map, M.ln]
        exact Nat.lt_of_le_of_lt (Nat.le_trans hle hl) (by decide)
      · have : a ≠ Dl := ne_of_none (del_le h).1 hD
        rw [upd_ne this]; exact n14.ex a o h
      · have : z ≠ Dl := fun w => pD (by rw [hz, w])
        rw [upd_ne this]; exact n14.pot z hz
      · rcases List.mem_append.mp ha with z | z
        · exact M.new a z
        · rw [List.mem_singleton.mp z]; exact l1
      · rw [← List.cons_append]
        refine List.nodup_append.mpr ⟨M.nd, List.nodup_cons.mpr ⟨by simp, List.nodup_nil⟩, fun x hx y hy z => ?_⟩
        rw [List.mem_singleton.mp hy] at z
        rcases List.mem_cons.mp hx with w | w
        · exact lD (by rw [← z, w])
        · obtain ⟨j, hj, ej⟩ := List.getElem_of_mem w
          exact (rows4 j x (by rw [← ej]; exact List.getElem?_eq_getElem hj)).1 z
      · by_cases hj : j < as.length
        · rw [List.getElem?_append_left hj] at k
          obtain ⟨_, k2, k3, xs', k4, k5⟩ := rows4 j a k
          exact ⟨k3, xs', by rw [upd_ne k2]; exact k4, k5⟩
        · have hj2 : j = as.length := by
            have := (List.getElem?_eq_some_iff.mp k).1
            rw [List.length_append] at this
            simp at this
            omega
          subst hj2
          rw [List.getElem?_concat_length] at k
          cases k
          rw [M.ln]
          exact ⟨⟨i31.bh.free l1, g4, p4⟩, xs, by rw [upd_ne lD]; exact hl4, ha4⟩
  · have e : i = es.length := by omega
    subst e
    have n' := n.trans M.nx
    refine .inl ⟨(yl p B G' H' M.nx.st.1 i3' _).2 rfl, q Dl as _ G' H' rfl n' (fun a ha => ?_) ⟨Dl, rfl, ⟨i31.bh.free hD, M.gd, pD⟩, M.hd, M.nd, by rw [List.length_map, List.length_range]; exact M.ln, fun j a ds k1 k2 => ?_⟩⟩
    · refine back_none n ?_
      rcases List.mem_cons.mp ha with z | z
      · rw [z]; exact hD
      · exact M.new a z
    · rw [List.getElem?_map] at k2
      have hj : j < es.length := by rw [← M.ln]; exact (List.getElem?_eq_some_iff.mp k1).1
      rw [List.getElem?_range hj] at k2
      cases k2
      exact M.rows j a k1
theorem Lc2.xo {R : List (List Dt) → Prop} (h : Lc2 X elt tg iter scope δ R) (hN : X.N.Nodup) (hc : X.calm = true := by rfl) (hs : ∀ x, foldedSetIterable iter X.env x = pure x := by intro _; rfl) : XO2 X (.ListComp elt [⟨tg, iter, [], 0⟩] scope pos) δ R := by
  obtain ⟨own, wi, g, tt, te, a1, a2, a3, a4, a5, a6⟩ := h.ex
  exact PE.imp (pe_lc hc hN a1 a2 a3 a4 a5 hs) a6
theorem put2 {K : Fg} {p : Option Addr} {B G H G' H' : Hp} {σ : L2.St} {l : Addr} {as : List Addr} {dss : List (List Dt)} (en : EnvD K p B G H σ δ) (n : Nxt p G H G' H') (h0 : ∀ a ∈ l :: as, H a = none) (s : Slot K p B G' H' (.own2 as dss) (some (.ref l))) (i : Nat) : EnvD K p B G' H' (σ.set i (some (.ref l))) (δ.set i (.own2 as dss)) :=
  en.putNew n s fun a fa => by
    rcases fa with ⟨_, z⟩ | z
    · cases z; exact h0 _ List.mem_cons_self
    · exact h0 a (List.mem_cons_of_mem _ z)
/-- y = [[..] for ..] on one line -/
theorem sd_lc2 (i : Nat) {y : Str} {py spos : Pos} {R : List (List Dt) → Prop} {o : Out} {N : De → Prop} (hN : X.N.Nodup) (h : Lc2 X elt tg iter scope δ R) (hR : ∀ as dss, R dss → N (δ.set i (.own2 as dss))) (hy : X.N[i]? = some y := by rfl) (hyl : X.env.scope.names.lookup y = some .local := by rfl)
    (hsw : swapsWith (.ListComp elt [⟨tg, iter, [], 0⟩] scope pos) (some (.Name y py)) spos.line X.env = pure true := by exact sw_true rfl rfl rfl (by decide +kernel)) (hc : X.calm = true := by rfl) (hs : ∀ x, foldedSetIterable iter X.env x = pure x := by intro _; rfl) :
    SD X (.Assign [.Name y py] (.ListComp elt [⟨tg, iter, [], 0⟩] scope pos) spos) δ { o with nx := N } := by
  obtain ⟨own, wi, g, tt, te, a1, a2, a3, a4, a5, a6⟩ := h.ex
  exact PS.imp (ps_setLc hc hN hy hyl hsw a1 a2 a3 a4 a5 hs) fun D σ H ⟨p, B, G, i3, en, q⟩ => a6 σ H _ ⟨p, B, G, i3, en, fun l as dss G' H' r n h0 s => q.nx _ _ G' H' (hR as dss r) (n.stepB i3) (i3.nxt n) (put2 en n h0 s i)⟩
end
section
variable {X : Cx} {sts : List Stmt} {a b c e e1 e2 e3 : Expr} {δ : De} {o : Out} {d : Dt} {ds : List Dt} {dss : List (List Dt)} {as : List Addr} {pos p sp np : Pos} {R S : Dt → Prop} {N : De → Prop} {k j : Int}
/-- x[a][b] -/
theorem pd_own2At (i m : Nat) {x : Str} (hs : δ[i]? = some (.own2 as dss) := by rfl) (ha : PD X a δ (.int k)) (hb : PD X b δ (.int j)) (hk : ∀ α (ys : List α), ys.length = dss.length → ∃ y, atI ys k = some y ∧ ys[m]? = some y) (hm : dss[m]? = some ds) (h : atI ds j = some d) (hN : X.N[i]? = some x := by rfl) (hv : Vis X.env.scope x := by first | exact Or.inl rfl | exact Or.inr (Or.inl rfl) | exact Or.inr (Or.inr rfl)) (hd : (x == ("__debug__" : Str)) = false := by decide)
    (hcd : (x == ("__classdict__" : Str)) = false := by decide) (hp : PlainIx a := by exact fun _ _ => rfl) (hp2 : PlainIx b := by exact fun _ _ => rfl) : PD X (.Subscript (.Subscript (.Name x np) a sp) b pos) δ d :=
  PE.imp (pe_ix ix_list (pe_ix ix_list (pe_var hN hv hd hcd) ha hp) hb hp2) fun σ H Q ⟨p, B, G, i3, en, q⟩ => by
    obtain ⟨o', h1, l, rfl, ⟨f1, f2, f3⟩, h5, nd, ln, rows⟩ := en.slot i _ hs
    refine ⟨_, h1, p, B, G, i3, en, fun v dd G1 H1 r1 n1 hv1 => ?_⟩
    subst r1
    cases hv1
    obtain ⟨yv, y1, y2⟩ := hk V (as.map V.ref) (by rw [List.length_map]; exact ln)
    rw [List.getElem?_map] at y2
    cases hy : as[m]? with
    | none => rw [hy] at y2; cases y2
    | some y =>
      rw [hy] at y2
      cases y2
      obtain ⟨⟨m1, m2, m3⟩, xs, m4, m5⟩ := rows m y ds hy hm
      have h51 : H1 l = some (.lst (as.map V.ref)) := n1.ex _ _ (by rw [del_ne f3]; exact h5)
      refine ⟨l, _, k, .ref y, rfl, rfl, .inl (.inl h51), y1, p, B, G1, i3.nxt n1, en.nxt n1, fun w d2 G2 H2 r2 n2 hv2 => ?_⟩
      subst r2
      cases hv2
      have n := n1.trans n2
      have h42 : H2 y = some (.lst xs) := n.ex _ _ (by rw [del_ne m3]; exact m4)
      obtain ⟨u, u1, u2⟩ := atI_all m5 h
      exact ⟨y, xs, j, u, rfl, rfl, .inl (.inl h42), u1, q u d G2 H2 rfl n (dp_ex n.st.1 _ _ u2)⟩
end
end Dv

set_option linter.all false
set_option maxRecDepth 100000
set_option maxHeartbeats 4000000
namespace Dv
open PySem PySem.Spec PyProof.Rows L2
/-! ### targets that write into rows -/
def rGX (K : Fg) (d : Dt) (δ δ' : De) : TG := fun v σ H Q => ∃ p B G, I3 p B G H ∧ EnvD K p B G H σ δ ∧ Dz K G v d ∧ ∀ σ' G' H', Step B G G' → I3 p B G' H' → EnvD K p B G' H' σ' δ' → Q σ' H'
def rGXs (K : Fg) (ds : List Dt) (δ δ' : De) : TGs := fun vs σ H Q => ∃ p B G, I3 p B G H ∧ EnvD K p B G H σ δ ∧ DzAll K G vs ds ∧ ∀ σ' G' H', Step B G G' → I3 p B G' H' → EnvD K p B G' H' σ' δ' → Q σ' H'
def TgX (X : Cx) (tg : Expr) (d : Dt) (δ δ' : De) : Prop := PG X tg (rGX X.K d δ δ')
def TgsX (X : Cx) (tg : List Expr) (ds : List Dt) (δ δ' : De) : Prop := PGs X tg (rGXs X.K ds δ δ')
section
variable {X : Cx} {sts : List Stmt} {a b c e : Expr} {δ δ' δ1 δ2 : De} {o : Out} {d : Dt} {ds es : List Dt} {dss : List (List Dt)} {as : List Addr} {pos p sp np : Pos} {k j : Int}
theorem tx_name (i : Nat) {x : Str} (hN : X.N.Nodup) (hi : X.N[i]? = some x := by rfl) (hx : Loc X.env.scope x := by first | exact Or.inl rfl | exact Or.inr rfl) (hf : X.fn x = true ∨ X.env.scope.names.lookup x = some .local := by first | exact .inl rfl | exact .inr rfl | assumption) : TgX X (.Name x pos) d δ (δ.set i (.d d)) :=
  PG.imp (pg_name hN hi hx hf) fun v σ H Q ⟨p, B, G, i3, en, hv, q⟩ => q _ G H (.refl _ _) i3 (en.set hv)
/-- x[a][b] = v -/
theorem tx_row (i m jj : Nat) {x : Str} (hs : δ[i]? = some (.own2 as dss)) (ha : PD X a δ (.int k)) (hb : PD X b δ (.int j)) (hk : ∀ α (ys : List α), ys.length = dss.length → ∃ y, atI ys k = some y ∧ ys[m]? = some y) (hm : dss[m]? = some ds) (hj : ixN ds.length j = some jj) (hN : X.N[i]? = some x := by rfl) (hv : Vis X.env.scope x := by first | exact Or.inl rfl | exact Or.inr (Or.inl rfl) | exact Or.inr (Or.inr rfl)) (hd : (x == ("__debug__" : Str)) = false := by decide)
    (hcd : (x == ("__classdict__" : Str)) = false := by decide) (hp : PlainIx a := by exact fun _ _ => rfl)
    (hasg : ∀ v, assign (.Subscript (.Subscript (.Name x np) a sp) b pos) X.env v = (do
      let ov ← holding [v] (eval (.Subscript (.Name x np) a sp) X.env)
      let iv ← holding [v, ov] (eval b X.env)
      standAt pos
      holding [v, ov, iv] (setItem ov iv v)
      release [v, ov, iv] []) := by intro _; rfl) : TgX X (.Subscript (.Subscript (.Name x np) a sp) b pos) d δ (δ.set i (.own2 as (dss.set m (ds.set jj d)))) :=
  PG.imp (pg_sub (pe_ix ix_list (pe_var hN hv hd hcd) ha hp) hb set_list hasg) fun v σ H Q ⟨p, B, G, i3, en, hv', q⟩ => by
    obtain ⟨o', h1, l, rfl, ⟨f1, f2, f3⟩, h5, nd, ln, rows⟩ := en.slot i _ hs
    refine ⟨_, h1, p, B, G, i3, en, fun u dd G1 H1 r1 n1 hv1 => ?_⟩
    subst r1
    cases hv1
    obtain ⟨yv, y1, y2⟩ := hk V (as.map V.ref) (by rw [List.length_map]; exact ln)
    rw [List.getElem?_map] at y2
    cases hy : as[m]? with
    | none => rw [hy] at y2; cases y2
    | some y =>
      rw [hy] at y2
      cases y2
      obtain ⟨⟨m1, m2, m3⟩, xs, m4, m5⟩ := rows m y ds hy hm
      have h51 : H1 l = some (.lst (as.map V.ref)) := n1.ex _ _ (by rw [del_ne f3]; exact h5)
      refine ⟨l, _, k, .ref y, rfl, rfl, .inl (.inl h51), y1, p, B, G1, i3.nxt n1, en.nxt n1, fun w d2 G2 H2 r2 n2 hv2 => ?_⟩
      subst r2
      cases hv2
      have n := n1.trans n2
      have i32 := i3.nxt n
      have h42 : H2 y = some (.lst xs) := n.ex _ _ (by rw [del_ne m3]; exact m4)
      have g2 : G2 y = none := n.st.2 y (nn m4) m2
      have m52 := dpAll_ex n.st.1 _ _ m5
      have hset : DzAll X.K G2 (xs.set jj v) (ds.set jj d) := dzAll_of_get (by rw [List.length_set, List.length_set]; exact dpAll_length m5) fun t x' d' k1 k2 => by
        by_cases ht : jj = t
        · subst ht
          have hl : jj < xs.length := by have := (List.getElem?_eq_some_iff.mp k1).1; rwa [List.length_set] at this
          have hl2 : jj < ds.length := by have := (List.getElem?_eq_some_iff.mp k2).1; rwa [List.length_set] at this
          rw [List.getElem?_set_self hl] at k1
          rw [List.getElem?_set_self hl2] at k2
          cases k1; cases k2
          exact dp_ex n.st.1 _ _ hv'
        · rw [List.getElem?_set_ne ht] at k1 k2
          obtain ⟨d3, e1, e2⟩ := dpAll_get' m52 k1
          rw [e1] at k2
          cases k2
          exact e2
      refine ⟨y, xs, j, jj, rfl, rfl, h42, by rw [dpAll_length m5]; exact hj, q σ G2 _ (n.stepB i3) ⟨i32.bh.mut m1, i32.gh.mut g2, fun z hz => ?_⟩ ((en.nxt n).row hs h1 hy hset)⟩
      obtain ⟨a1, a2, a3, a4, a5, a6⟩ := i32.pot z hz
      have : z ≠ y := fun w => m3 (by rw [hz, w])
      exact ⟨a1, a2, a3, a4, by rw [upd_ne this]; exact a5, a6⟩
theorem txs_nil : TgsX X [] [] δ δ := PGs.imp pgs_nil fun v σ H Q ⟨p, B, G, i3, en, hv, q⟩ => by
  cases hv
  exact ⟨rfl, q σ G H (.refl _ _) i3 en⟩
theorem txs_cons {e : Expr} {es : List Expr} (h1 : TgX X e d δ δ1) (h2 : TgsX X es ds δ1 δ2) (hs : (assignEach (e :: es) X.env).map (·.2) = assign e X.env :: (assignEach es X.env).map (·.2) := by rfl) : TgsX X (e :: es) (d :: ds) δ δ2 :=
  PGs.imp (pgs_cons h1 h2 hs) fun v σ H Q ⟨p, B, G, i3, en, hv, q⟩ => by
    cases hv with
    | cons a b => exact ⟨_, _, rfl, p, B, G, i3, en, a, fun σ1 G1 H1 s1 i1 en1 => ⟨p, B, G1, i1, en1, dpAll_ex s1.1 _ _ b, fun σ2 G2 H2 s2 i2 en2 => q σ2 G2 H2 (s1.trans s2) i2 en2⟩⟩
theorem tx_tup {es : List Expr} {k : Nat} (hc : X.calm = true) (h : TgsX X es ds δ δ1) (hn : (assignEach es X.env).length = ds.length := by rfl) (hst : (assignEach es X.env).findIdx? (·.1) = none := by rfl) : TgX X (.Tuple es k pos) (.tuple ds) δ δ1 :=
  PG.imp (pg_tup hc h hn hst) fun v σ H Q ⟨p, B, G, i3, en, hv, q⟩ => by
    cases hv with
    | tup hs ha => exact ⟨_, _, rfl, ex_t i3.gh hs, dpAll_length ha, p, B, G, i3, en, ha, q⟩
theorem s_asgX {tg : Expr} (he : PD X e δ d) (hg : TgX X tg d δ δ') (k : SsD X sts δ' o) (hs : swapsWithSole [tg] e pos.line X.env = pure false := by rfl) (hw : swappedStores [tg] e X.env = pure none := by rfl)
    (h1 : (assignEach [tg] X.env).map (·.2) = [assign tg X.env] := by rfl) : SsD X (.Assign [tg] e pos :: sts) δ o :=
  ss_to (PS.imp (ps_asg he hg hs hw h1) fun D σ H ⟨p, B, G, i3, en, q⟩ => ⟨p, B, G, i3, en, fun v d' G' H' r n hv => by
    subst r
    exact ⟨p, B, G', i3.nxt n, en.nxt n, hv, fun σ2 G2 H2 s2 i2 en2 => q.nx _ _ G2 H2 rfl ((n.stepB i3).trans s2) i2 en2⟩⟩) k
/-- list(e), [n] * k as new lists -/
theorem xo_listOf {v : Dt} (hm : X.mg "list" = none) (he : PD X e δ v) (hv : v = .list ds ∨ v = .tuple ds) (hg : Gl X "list" := by rfl) (hs : starEach [e] X.env = (false, eval e X.env) :: starEach [] X.env := by rfl) : XO X (.Call (.Name "list" p) [e] [] pos) δ (fun x => x = ds) :=
  PE.imp (pe_callTy call_list_of hg hm (by decide +kernel) (pa_cons he pa_nil hs) (by decide) (by decide) hs (back_plain (es := []) rfl)) fun σ H Q ⟨p, B, G, i3, en, q⟩ => ⟨p, B, G, i3, en, fun u dd G' H' r n hu => by
    subst r
    have i3' := i3.nxt n
    have fin : ∀ {xs : List V}, DzAll X.K G' xs ds → ∀ l, H' l = none → Q (.ref l) (upd H' l (.lst xs)) := fun {xs} ha l hl => q l xs ds G' _ rfl (n.trans (.newH i3' _ hl)) (back_none n hl) (i3'.gh.free hl) (pot_ne i3' hl) upd_same ha
    rcases hv with e1 | e1 <;> subst e1
    · cases hu with
      | lst hs ha => exact ⟨_, _, rfl, .inl (exl i3'.gh hs), fin ha⟩
    · cases hu with
      | tup hs ha => exact ⟨_, _, rfl, .inr (ex_t i3'.gh hs), fin ha⟩⟩
/-- [e] * k, a new list -/
theorem xo_rep {lp : Pos} {es : List Expr} (ha : PAD X es δ ds) (hb : PD X b δ (.int k)) (k0 : 0 ≤ k) (k1 : k ≤ 1000) (hl : ds.length ≤ 10) : XO X (.BinOp (.List es lp) .Mult b pos) δ (fun x => x = (List.replicate k.toNat ds).flatten) :=
  PE.imp (pe_op op_rep (pe_lst ha.pa) hb) fun σ H Q ⟨p, B, G, i3, en, q⟩ => ⟨p, B, G, i3, en, fun vs dd G1 H1 r1 n1 hv => ⟨by rw [dpAll_length hv, r1]; exact Nat.le_trans hl (by decide), fun l0 hl0 => by
    subst r1
    have i31 := i3.nxt n1
    have n2 := Nxt.new i31 (.lst vs) hl0
    have i32 := i31.nxt n2
    have n12 := n1.trans n2
    refine ⟨p, B, _, i3.nxt n12, en.nxt n12, fun w d2 G3 H3 r2 n3 hw => ?_⟩
    subst r2
    cases hw
    have n13 := n12.trans n3
    have i33 := i3.nxt n13
    have h3 : H3 l0 = some (.lst vs) := i33.gh l0 _ (n3.st.1 l0 _ upd_same)
    refine ⟨l0, k, vs, rfl, rfl, h3, by omega, by omega, ?_, fun l hl => q l _ _ G3 _ rfl (n13.trans (.newH i33 _ hl)) (back_none n13 hl) (i33.gh.free hl) (pot_ne i33 hl) upd_same ?_⟩
    · rw [dpAll_length hv]
      have h1 : dd.length * k.toNat ≤ 10 * 1000 := Nat.mul_le_mul hl (by omega)
      exact Nat.le_trans h1 (by decide)
    · have hv3 := dpAll_ex (n2.st.1.trans n3.st.1) _ _ hv
      clear h3
      induction k.toNat with
      | zero => exact .nil
      | succ m ih => rw [List.replicate_succ, List.replicate_succ, List.flatten_cons, List.flatten_cons]; exact dpAll_append hv3 ih⟩⟩
end
end Dv

set_option linter.all false
set_option maxRecDepth 100000
set_option maxHeartbeats 4000000
namespace Dv
open PySem PySem.Spec PyProof.Rows L2 RZ
/-! ### zip of two lists, of two tuples -/
def zipD (ds es : List Dt) : List Dt := (ds.zip es).map fun q => .tuple [q.1, q.2]
theorem zipD_length {ds es : List Dt} : (zipD ds es).length = min ds.length es.length := by unfold zipD; rw [List.length_map, List.length_zip]
theorem zipD_get {ds es : List Dt} {i : Nat} {d e : Dt} (h1 : ds[i]? = some d) (h2 : es[i]? = some e) : (zipD ds es)[i]? = some (.tuple [d, e]) := by
  unfold zipD
  rw [List.getElem?_map, List.getElem?_zip_eq_some (z := (d, e)) |>.mpr ⟨h1, h2⟩]; rfl
theorem yld_zipL {K : Fg} {G : Hp} {a b : Addr} {xs ys : List V} {ds es : List Dt} (hs : SqX K G a xs) (ha : DzAll K G xs ds) (hs2 : SqX K G b ys) (hb : DzAll K G ys es) : Yld K (Itz K a b) G (zipD ds es) := by
  intro p B G1 H1 e i3 i
  rw [zipD_length]
  have h1 : SqL K H1 a xs := exl (e.trans i3.gh) hs
  have h2 : SqL K H1 b ys := exl (e.trans i3.gh) hs2
  refine ⟨fun hi => ?_, fun hi => ⟨xs, ys, h1, h2, by rw [dpAll_length ha, dpAll_length hb]; omega⟩⟩
  have l1 : i < ds.length := by omega
  have l2 : i < es.length := by omega
  obtain ⟨v, hv, hd⟩ := dpAll_get (i := i) (d := ds[i]) ha (List.getElem?_eq_getElem l1)
  obtain ⟨u, hu, he⟩ := dpAll_get (i := i) (d := es[i]) hb (List.getElem?_eq_getElem l2)
  refine ⟨⟨xs, ys, v, u, h1, h2, hv, hu⟩, fun x H2 hx => ?_⟩
  obtain ⟨T, z1, z2, e1, hT, e2, k1, k2⟩ := hx
  subst e1; subst e2
  have q1 := k1 xs h1
  have q2 := k2 ys h2
  rw [hv] at q1
  rw [hu] at q2
  cases q1; cases q2
  have ex := e.trans (Ex.new (o := .tup [v, u]) (i3.gh.free hT))
  exact ⟨_, _, zipD_get (List.getElem?_eq_getElem l1) (List.getElem?_eq_getElem l2), .new i3 _ hT, .tup (.inl (.inl upd_same)) (.cons (dp_ex ex _ _ hd) (.cons (dp_ex ex _ _ he) .nil))⟩
theorem yld_zipT {K : Fg} {G : Hp} {a b : Addr} {xs ys : List V} {ds es : List Dt} (hs : SqT K G a xs) (ha : DzAll K G xs ds) (hs2 : SqT K G b ys) (hb : DzAll K G ys es) : Yld K (ItzT K a b) G (zipD ds es) := by
  intro p B G1 H1 e i3 i
  rw [zipD_length]
  have h1 : SqT K H1 a xs := ex_t (e.trans i3.gh) hs
  have h2 : SqT K H1 b ys := ex_t (e.trans i3.gh) hs2
  refine ⟨fun hi => ?_, fun hi => ⟨xs, ys, h1, h2, by rw [dpAll_length ha, dpAll_length hb]; omega⟩⟩
  have l1 : i < ds.length := by omega
  have l2 : i < es.length := by omega
  obtain ⟨v, hv, hd⟩ := dpAll_get (i := i) (d := ds[i]) ha (List.getElem?_eq_getElem l1)
  obtain ⟨u, hu, he⟩ := dpAll_get (i := i) (d := es[i]) hb (List.getElem?_eq_getElem l2)
  refine ⟨⟨xs, ys, v, u, h1, h2, hv, hu⟩, fun x H2 hx => ?_⟩
  obtain ⟨T, z1, z2, e1, hT, e2, k1, k2⟩ := hx
  subst e1; subst e2
  have q1 := k1 xs h1
  have q2 := k2 ys h2
  rw [hv] at q1
  rw [hu] at q2
  cases q1; cases q2
  have ex := e.trans (Ex.new (o := .tup [v, u]) (i3.gh.free hT))
  exact ⟨_, _, zipD_get (List.getElem?_eq_getElem l1) (List.getElem?_eq_getElem l2), .new i3 _ hT, .tup (.inl (.inl upd_same)) (.cons (dp_ex ex _ _ hd) (.cons (dp_ex ex _ _ he) .nil))⟩
section
variable {X : Cx} {a b : Expr} {δ : De} {ds es : List Dt} {p pos tpos : Pos}
theorem i_zipL {elts : List Expr} {kk : Nat} (h : PAD X [a, b] δ [.list ds, .list es]) (hm : X.mg "zip" = none) (hg : Gl X "zip" := by rfl) (hs2 : starEach [b] X.env = [(false, eval b X.env)] := by rfl) : ID X (.Tuple elts kk tpos) (.Call (.Name "zip" p) [a, b] [] pos) δ (zipD ds es) :=
  PI.imp (pi_zipA hg hm h.pa (by rw [hs2]; exact h.he) (by rw [hs2]; rfl)) fun σ H Q ⟨p, B, G, i3, en, q⟩ => ⟨p, B, G, i3, en, fun v d G' H' r n hv => by
    subst r
    obtain ⟨x, y, rfl, h1, h2⟩ := two_of hv
    cases h1 with
    | lst hs ha => cases h2 with
      | lst hs2 ha2 => exact ⟨_, _, _, _, rfl, .inl ⟨exl n.gh hs, exl n.gh hs2, q _ _ G' H' rfl n (yld_zipL hs ha hs2 ha2)⟩⟩⟩
theorem i_zipT {elts : List Expr} {kk : Nat} (h : PAD X [a, b] δ [.tuple ds, .tuple es]) (hm : X.mg "zip" = none) (hg : Gl X "zip" := by rfl) (hs2 : starEach [b] X.env = [(false, eval b X.env)] := by rfl) : ID X (.Tuple elts kk tpos) (.Call (.Name "zip" p) [a, b] [] pos) δ (zipD ds es) :=
  PI.imp (pi_zipA hg hm h.pa (by rw [hs2]; exact h.he) (by rw [hs2]; rfl)) fun σ H Q ⟨p, B, G, i3, en, q⟩ => ⟨p, B, G, i3, en, fun v d G' H' r n hv => by
    subst r
    obtain ⟨x, y, rfl, h1, h2⟩ := two_of hv
    cases h1 with
    | tup hs ha => cases h2 with
      | tup hs2 ha2 => exact ⟨_, _, _, _, rfl, .inr ⟨ex_t n.gh hs, ex_t n.gh hs2, q _ _ G' H' rfl n (yld_zipT hs ha hs2 ha2)⟩⟩⟩
end
end Dv

set_option linter.all false
set_option maxRecDepth 100000
set_option maxHeartbeats 2000000
/-! Ew: the same judgements in the form "what must hold of the answer", one rule a construct; the goal goes on where evaluation goes on. -/
namespace Dv
open PySem PySem.Spec PyProof.Rows L2
/-! ### places by relations, so that they are found by unification -/
inductive SetR : De → Nat → En → De → Prop
  | z {a l e} : SetR (a :: l) 0 e (e :: l)
  | s {a l n e l'} : SetR l n e l' → SetR (a :: l) (n + 1) e (a :: l')
theorem SetR.eq {δ δ' : De} {i : Nat} {e : En} (h : SetR δ i e δ') : δ.set i e = δ' := by
  induction h with
  | z => rfl
  | s _ ih => rw [List.set_cons_succ, ih]
inductive Nx : List Str → Str → Nat → Prop
  | z {x N} : Nx (x :: N) x 0
  | s {y N x i} : Nx N x i → Nx (y :: N) x (i + 1)
theorem Nx.eq {N : List Str} {x : Str} {i : Nat} (h : Nx N x i) : N[i]? = some x := by
  induction h with
  | z => rfl
  | s _ ih => rw [List.getElem?_cons_succ]; exact ih
/-! ### generic forms -/
section
variable {X : Cx} {a b c e : Expr} {es : List Expr} {δ : De} {pos : Pos} {R U1 U2 : Dt → Prop} {d x y : Dt} {ds : List Dt} {S : Bool → Prop}
theorem pe_many {ι : Sort _} {G : ι → Prop} {t : ι → TE} (h : ∀ i, G i → PE X e (t i)) : PE X e (fun σ H Q => ∃ i, G i ∧ t i σ H Q) := ⟨fun pins s σ H Q I ⟨i, g, q⟩ => (h i g).run pins s σ H Q I q⟩
theorem pa_many {ι : Sort _} {G : ι → Prop} {t : ι → TA} (h : ∀ i, G i → PA X es (t i)) : PA X es (fun σ H Q => ∃ i, G i ∧ t i σ H Q) := ⟨fun pos pins s σ H Q I ⟨i, g, q⟩ => (h i g).run pos pins s σ H Q I q⟩
theorem pt_many {ι : Sort _} {G : ι → Prop} {t : ι → TT} (h : ∀ i, G i → PT X e (t i)) : PT X e (fun σ H Q => ∃ i, G i ∧ t i σ H Q) := ⟨fun pins s σ H Q I ⟨i, g, q⟩ => (h i g).run pins s σ H Q I q⟩
theorem pw_many {ι : Sort _} {G : ι → Prop} {t : ι → TT} (h : ∀ i, G i → PW X e (t i)) : PW X e (fun σ H Q => ∃ i, G i ∧ t i σ H Q) := ⟨fun w pins s σ H Q I ⟨i, g, q⟩ => (h i g).run w pins s σ H Q I q⟩
theorem pss_many {ι : Sort _} {G : ι → Prop} {t : ι → TS} {sts : List Stmt} (h : ∀ i, G i → PSs X sts (t i)) : PSs X sts (fun D σ H => ∃ i, G i ∧ t i D σ H) := ⟨fun pins s σ H D I ⟨i, g, q⟩ => (h i g).run pins s σ H D I q⟩
theorem c_of (h : PD X e δ d) (k : R d) : XD X e δ R := h.mono fun x ex => by rw [ex]; exact k
theorem c_var {i : Nat} {x : Str} (hN : Nx X.N x i) (hs : δ[i]? = some (.d d)) (k : R d) (hv : Vis X.env.scope x := by first | exact Or.inl rfl | exact Or.inr (Or.inl rfl) | exact Or.inr (Or.inr rfl)) (hd : (x == ("__debug__" : Str)) = false := by decide)
    (hcd : (x == ("__classdict__" : Str)) = false := by decide) : XD X (.Name x pos) δ R := c_of (pd_v i hs hN.eq hv hd hcd) k
theorem c_int {i : Int} {j} (k : R (.int i)) : XD X (.Constant (.int i) j pos) δ R := c_of pd_int k
theorem c_bl {i : Bool} {j} (k : R (.bool i)) : XD X (.Constant (.bool i) j pos) δ R := c_of pd_bl k
theorem c_str {i : Str} {j} (k : R (.str i)) : XD X (.Constant (.str i) j pos) δ R := c_of pd_str k
theorem c_non {j} (k : R .none) : XD X (.Constant .none j pos) δ R := c_of pd_non k
theorem c_neg (h : XD X a δ fun x => ∃ i : Int, x = .int i ∧ R (.int (-i))) : XD X (.UnaryOp .USub a pos) δ R :=
  PE.imp (pe_un un_neg h) fun σ H Q ⟨p, B, G, i3, en, q⟩ => ⟨p, B, G, i3, en, fun v d G' H' ⟨i, r, k⟩ n hv => by subst r; cases hv; exact ⟨i, rfl, q _ _ G' H' k n (.int _)⟩⟩
/-- two places -/
def BinP (X : Cx) (op : Operator) (x y : Dt) (R : Dt → Prop) : Prop := ∃ r, OpR X (binaryOp op) r ∧ RD X.K r x y R
def CmpP (X : Cx) (op : CmpOp) (x y : Dt) (S : Bool → Prop) : Prop := ∃ r, OpR X (compareOp op) r ∧ RD X.K r x y fun d => ∃ c, d = .bool c ∧ S c
def IxP (X : Cx) (x y : Dt) (R : Dt → Prop) : Prop := ∃ r, IxR X r ∧ RD X.K r x y R
theorem two_c {T : Dt → Dt → Prop} {K : Fg} {p : Option Addr} {B G H : Hp} {σ : L2.St} {Q : V → V → Hp → Prop} {XB : (Dt → Prop) → Prop} (i3 : I3 p B G H) (en : EnvD K p B G H σ δ)
    (k : ∀ v w d1 d2 G' H', T d1 d2 → Nxt p G H G' H' → I3 p B G' H' → Dz K G' v d1 → Dz K G' w d2 → Q v w H') : rX K δ (fun x => XB (T x)) σ H fun v H1 => (fun σ H Q => ∃ U : Dt → Prop, XB U ∧ rX K δ U σ H Q) σ H1 fun w H2 => Q v w H2 :=
  ⟨p, B, G, i3, en, fun v d1 G1 H1 r1 n1 h1 => ⟨T d1, r1, p, B, G1, i3.nxt n1, en.nxt n1, fun w d2 G2 H2 r2 n2 h2 => k v w d1 d2 G2 H2 r2 (n1.trans n2) (i3.nxt (n1.trans n2)) (dp_ex n2.st.1 _ _ h1) h2⟩⟩
theorem pe_later : PE X b (fun σ H Q => ∃ U : Dt → Prop, XD X b δ U ∧ rX X.K δ U σ H Q) := pe_many fun U h => h
theorem c_bin {op : Operator} (h : XD X a δ fun x => XD X b δ fun y => BinP X op x y R) : XD X (.BinOp a op b pos) δ R :=
  PE.imp (pe_op (r := fun v w H Q => ∃ r, OpR X (binaryOp op) r ∧ r v w H Q) (fun pins s σ H x y v u Q I rx ry ⟨r, ho, q⟩ => ho pins s σ H x y v u Q I rx ry q) h (pe_later (δ := δ))) fun σ H Q ⟨p, B, G, i3, en, q⟩ =>
    two_c i3 en fun v w d1 d2 G' H' ⟨r, ho, hr⟩ n i' h1 h2 => ⟨r, ho, hr p B G' H' v w i' h1 h2 Q fun u d G2 H2 rr n2 hu => q u d G2 H2 rr (n.trans n2) hu⟩
theorem c_cmpV {op : CmpOp} (hm : behindInMarks op b = false) (h : XD X a δ fun x => XD X b δ fun y => CmpP X op x y fun c => R (.bool c)) : XD X (.Compare a [op] [b] pos) δ R :=
  PE.imp (pe_cmpR (r := fun v w H Q => ∃ r, OpR X (compareOp op) r ∧ r v w H Q) (fun pins s σ H x y v u Q I rx ry ⟨r, ho, q⟩ => ho pins s σ H x y v u Q I rx ry q) h (pe_later (δ := δ)) hm) fun σ H Q ⟨p, B, G, i3, en, q⟩ =>
    two_c i3 en fun v w d1 d2 G' H' ⟨r, ho, hr⟩ n i' h1 h2 => ⟨r, ho, hr p B G' H' v w i' h1 h2 Q fun u d G2 H2 ⟨c, e, rr⟩ n2 hu => by subst e; exact q u _ G2 H2 rr (n.trans n2) hu⟩
theorem c_cmp {op : CmpOp} (hm : behindInMarks op b = false) (h : XD X a δ fun x => XD X b δ fun y => CmpP X op x y S) : XT X (.Compare a [op] [b] pos) δ S :=
  PT.imp (pt_cmpR (r := fun v w H Q => ∃ r, OpR X (compareOp op) r ∧ r v w H Q) (fun pins s σ H x y v u Q I rx ry ⟨r, ho, q⟩ => ho pins s σ H x y v u Q I rx ry q) h (pe_later (δ := δ)) hm) fun σ H Q ⟨p, B, G, i3, en, q⟩ =>
    two_c i3 en fun v w d1 d2 G' H' ⟨r, ho, hr⟩ n i' h1 h2 => ⟨r, ho, hr p B G' H' v w i' h1 h2 _ fun u d G2 H2 ⟨c, e, rr⟩ n2 hu => by subst e; cases hu; exact ⟨c, rfl, q c G2 H2 rr (n.trans n2)⟩⟩
theorem c_ix (h : XD X a δ fun x => XD X b δ fun y => IxP X x y R) (hs : PlainIx b := by exact fun _ _ => rfl) : XD X (.Subscript a b pos) δ R :=
  PE.imp (pe_ix (r := fun v w H Q => ∃ r, IxR X r ∧ r v w H Q) (fun a b pins s σ H x y v u Q I rx ry ⟨r, ho, q⟩ => ho a b pins s σ H x y v u Q I rx ry q) h (pe_later (δ := δ)) hs) fun σ H Q ⟨p, B, G, i3, en, q⟩ =>
    two_c i3 en fun v w d1 d2 G' H' ⟨r, ho, hr⟩ n i' h1 h2 => ⟨r, ho, hr p B G' H' v w i' h1 h2 Q fun u d G2 H2 rr n2 hu => q u d G2 H2 rr (n.trans n2) hu⟩
/-! what the operators give -/
variable {i j : Int}
theorem bp_add (k : R (.int (i + j))) : BinP X .Add (.int i) (.int j) R := ⟨_, op_add, rd_i k⟩
theorem bp_sub (k : R (.int (i - j))) : BinP X .Sub (.int i) (.int j) R := ⟨_, op_sub, rd_i k⟩
theorem bp_mul (hc : CMul i j) (k : R (.int (i * j))) : BinP X .Mult (.int i) (.int j) R := ⟨_, op_mul, by refine rd_c ?_ ?_; exact hc; exact k⟩
theorem bp_mod (hc : 0 < j) (k : R (.int (i % j))) : BinP X .Mod (.int i) (.int j) R := ⟨_, op_mod, by refine rd_c ?_ ?_; exact hc; exact k⟩
theorem bp_fdiv (hc : CDiv i j) (k : R (.int (i / j))) : BinP X .FloorDiv (.int i) (.int j) R := ⟨_, op_fdiv, by refine rd_c ?_ ?_; exact hc; exact k⟩
theorem bp_pow (hc : CPow i j) (k : R (.int (i ^ j.toNat))) : BinP X .Pow (.int i) (.int j) R := ⟨_, op_pow, by refine rd_c ?_ ?_; exact hc; exact k⟩
theorem bp_cat {es fs : List Dt} (hl : es.length + fs.length ≤ 100000) (k : R (.list (es ++ fs))) : BinP X .Add (.list es) (.list fs) R := ⟨_, op_catR, by
  intro p B G H v w i3 h1 h2 Q q
  cases h1 with
  | lst hs ha => cases h2 with
    | lst hs2 ha2 =>
      exact ⟨_, _, _, _, rfl, rfl, ex_x i3.gh hs, ex_x i3.gh hs2, by rw [dpAll_length ha, dpAll_length ha2]; exact Nat.le_trans hl (by decide), fun l hl => q _ _ _ _ k (.new i3 _ hl) (.lst (.inl (.inl upd_same)) (dpAll_ex (Ex.new (i3.gh.free hl)) _ _ (dpAll_append ha ha2)))⟩⟩
theorem rd_bS {g : Int → Int → Bool} (k : S (g i j)) {K : Fg} : RD K (rI0 fun i j => .bl (g i j)) (.int i) (.int j) (fun d => ∃ c, d = .bool c ∧ S c) := rd_b ⟨_, rfl, k⟩
theorem cp_lt (k : S (decide (i < j))) : CmpP X .Lt (.int i) (.int j) S := ⟨_, op_lt, rd_bS k⟩
theorem cp_le (k : S (decide (i ≤ j))) : CmpP X .LtE (.int i) (.int j) S := ⟨_, op_le, rd_bS k⟩
theorem cp_gt (k : S (decide (j < i))) : CmpP X .Gt (.int i) (.int j) S := ⟨_, op_gt, rd_bS k⟩
theorem cp_ge (k : S (decide (j ≤ i))) : CmpP X .GtE (.int i) (.int j) S := ⟨_, op_ge, rd_bS k⟩
theorem cp_eqI (k : S (decide (i = j))) : CmpP X .Eq (.int i) (.int j) S := ⟨_, op_eq, by
  intro p B G H v w i3 h1 h2 Q q
  cases h1; cases h2
  refine ⟨rfl, q _ _ G H ⟨_, rfl, k⟩ (.refl i3) ?_⟩
  have : decide (V.int i = V.int j) = decide (i = j) := by rw [dec_int]; rfl
  rw [this]; exact .bl _⟩
theorem cp_neI (k : S (!decide (i = j))) : CmpP X .NotEq (.int i) (.int j) S := ⟨_, op_ne, by
  intro p B G H v w i3 h1 h2 Q q
  cases h1; cases h2
  refine ⟨rfl, q _ _ G H ⟨_, rfl, k⟩ (.refl i3) ?_⟩
  have : decide (V.int i = V.int j) = decide (i = j) := by rw [dec_int]; rfl
  rw [this]; exact .bl _⟩
theorem cp_eqS {i j : Str} (k : S (decide (i = j))) : CmpP X .Eq (.str i) (.str j) S := ⟨_, op_eq, by
  intro p B G H v w i3 h1 h2 Q q
  cases h1; cases h2
  refine ⟨rfl, q _ _ G H ⟨_, rfl, k⟩ (.refl i3) ?_⟩
  have : decide (V.str i = V.str j) = decide (i = j) := by by_cases h : i = j <;> simp [h]
  rw [this]; exact .bl _⟩
theorem cp_neS {i j : Str} (k : S (!decide (i = j))) : CmpP X .NotEq (.str i) (.str j) S := ⟨_, op_ne, by
  intro p B G H v w i3 h1 h2 Q q
  cases h1; cases h2
  refine ⟨rfl, q _ _ G H ⟨_, rfl, k⟩ (.refl i3) ?_⟩
  have : decide (V.str i = V.str j) = decide (i = j) := by by_cases h : i = j <;> simp [h]
  rw [this]; exact .bl _⟩
theorem cp_eqB {i j : Bool} (k : S (decide (i = j))) : CmpP X .Eq (.bool i) (.bool j) S := ⟨_, op_eq, by
  intro p B G H v w i3 h1 h2 Q q
  cases h1; cases h2
  refine ⟨rfl, q _ _ G H ⟨_, rfl, k⟩ (.refl i3) ?_⟩
  have : decide (V.bl i = V.bl j) = decide (i = j) := by by_cases h : i = j <;> simp [h]
  rw [this]; exact .bl _⟩
theorem cp_neB {i j : Bool} (k : S (!decide (i = j))) : CmpP X .NotEq (.bool i) (.bool j) S := ⟨_, op_ne, by
  intro p B G H v w i3 h1 h2 Q q
  cases h1; cases h2
  refine ⟨rfl, q _ _ G H ⟨_, rfl, k⟩ (.refl i3) ?_⟩
  have : decide (V.bl i = V.bl j) = decide (i = j) := by by_cases h : i = j <;> simp [h]
  rw [this]; exact .bl _⟩
/-- texts that are the same / data that are the same -/
theorem cp_neSs {i : Str} (k : S false) : CmpP X .NotEq (.str i) (.str i) S := cp_neS (by rw [decide_eq_true rfl]; exact k)
theorem cp_eqSs {i : Str} (k : S true) : CmpP X .Eq (.str i) (.str i) S := cp_eqS (by rw [decide_eq_true rfl]; exact k)
theorem cp_eqD (hu : X.A.units + 64 < cLine) (hx : SeqAt.shaped x = true) (hy : SeqAt.shaped y = true) (k : S (PyData.eqv x y)) : CmpP X .Eq x y S := ⟨_, op_eqD hu, by
  intro p B G H v w i3 h1 h2 Q q
  exact ⟨_, _, dz_dp _ _ (nds hx) (dp_ex i3.gh _ _ h1), dz_dp _ _ (nds hy) (dp_ex i3.gh _ _ h2), hx, hy, q _ _ G H ⟨_, rfl, k⟩ (.refl i3) (.bl _)⟩⟩
theorem cp_neD (hu : X.A.units + 64 < cLine) (hx : SeqAt.shaped x = true) (hy : SeqAt.shaped y = true) (k : S (!PyData.eqv x y)) : CmpP X .NotEq x y S := ⟨_, op_neD hu, by
  intro p B G H v w i3 h1 h2 Q q
  exact ⟨_, _, dz_dp _ _ (nds hx) (dp_ex i3.gh _ _ h1), dz_dp _ _ (nds hy) (dp_ex i3.gh _ _ h2), hx, hy, q _ _ G H ⟨_, rfl, k⟩ (.refl i3) (.bl _)⟩⟩
theorem cp_isN (k : S (match x with | .none => true | _ => false)) : CmpP X .Is x .none S := ⟨_, op_isN, by
  intro p B G H v w i3 h1 h2 Q q
  cases h2
  refine ⟨rfl, q _ _ G H ⟨_, rfl, k⟩ (.refl i3) ?_⟩
  cases h1 <;> exact .bl _⟩
theorem cp_notN (k : S (match x with | .none => false | _ => true)) : CmpP X .IsNot x .none S := ⟨_, op_notN, by
  intro p B G H v w i3 h1 h2 Q q
  cases h2
  refine ⟨rfl, q _ _ G H ⟨_, rfl, k⟩ (.refl i3) ?_⟩
  cases h1 <;> exact .bl _⟩
theorem cp_inS {ss : List Str} {z : Str} (k : S (ss.any fun y => y == z)) : CmpP X .In (.str z) (.tuple (ss.map PyData.str)) S := ⟨_, op_in_seq, by
  intro p B G H v w i3 h1 h2 Q q
  cases h1
  cases h2 with
  | tup hs ha =>
    have e := dz_strs ha
    subst e
    refine ⟨_, _, rfl, .inr (ex_t i3.gh hs), rfl, ?_, q _ _ G H ⟨_, rfl, k⟩ (.refl i3) ?_⟩
    · rw [List.all_map]; exact List.all_eq_true.mpr fun _ _ => rfl
    · have : inV (V.str z) (ss.map V.str) = ss.any fun y => y == z := by unfold inV; rw [List.any_map]; rfl
      rw [this]; exact .bl _⟩
theorem ip_tup (h : atI ds i = some d) (k : R d) : IxP X (.tuple ds) (.int i) R := ⟨_, ix_tup, rd_ixT ⟨d, h, k⟩⟩
theorem ip_list (h : atI ds i = some d) (k : R d) : IxP X (.list ds) (.int i) R := ⟨_, ix_list, rd_ixL ⟨d, h, k⟩⟩
/-! ### tests -/
theorem c_val (h : XD X e δ fun d => ∃ c, d = .bool c ∧ S c) (he : ∀ whole, isTrue e X.env whole = (do let v ← whole; standAt e.pos; holding [v] (truthy v)) := by intro _; rfl) : XT X e δ S := xt_val h he
theorem c_not (h : XT X e δ fun c => S (!c)) : XT X (.UnaryOp .Not e pos) δ S := xt_not h
theorem c_notV (h : XD X e δ fun d => ∃ c, d = .bool c ∧ R (.bool (!c))) : XD X (.UnaryOp .Not e pos) δ R := PE.imp (pe_not h) fun σ H Q ⟨p, B, G, i3, en, q⟩ => ⟨p, B, G, i3, en, fun v d G' H' ⟨c, r, k⟩ n h => by
    subst r; cases h; exact ⟨c, rfl, q _ _ G' H' k n (.bl _)⟩⟩
theorem pw_later : PW X b (fun σ H Q => ∃ U : Bool → Prop, XW X b δ U ∧ rT X.K δ U σ H Q) := pw_many fun U h => h
theorem pt_later : PT X b (fun σ H Q => ∃ U : Bool → Prop, XT X b δ U ∧ rT X.K δ U σ H Q) := pt_many fun U h => h
theorem w_a1 (h : XT X a δ S) : XW X (.BoolOp .And [a] pos) δ S := pw_and1 h
theorem w_o1 (h : XT X a δ S) : XW X (.BoolOp .Or [a] pos) δ S := pw_or1 h
theorem w_a {rest : List Expr} (h : XT X a δ fun c => (c = true → XW X (.BoolOp .And (b :: rest) pos) δ S) ∧ (c = false → S false)) : XW X (.BoolOp .And (a :: b :: rest) pos) δ S :=
  PW.imp (pw_and h (pw_later (δ := δ))) fun σ H Q ⟨p, B, G, i3, en, q⟩ => ⟨p, B, G, i3, en, fun c G' H' ⟨h1, h2⟩ n => by
    cases c with
    | true => exact iteT ⟨S, h1 rfl, p, B, G', i3.nxt n, en.nxt n, fun c2 G2 H2 r2 n2 => q c2 G2 H2 r2 (n.trans n2)⟩
    | false => exact iteF (q false G' H' (h2 rfl) n)⟩
theorem w_o {rest : List Expr} (h : XT X a δ fun c => (c = false → XW X (.BoolOp .Or (b :: rest) pos) δ S) ∧ (c = true → S true)) : XW X (.BoolOp .Or (a :: b :: rest) pos) δ S :=
  PW.imp (pw_or h (pw_later (δ := δ))) fun σ H Q ⟨p, B, G, i3, en, q⟩ => ⟨p, B, G, i3, en, fun c G' H' ⟨h1, h2⟩ n => by
    cases c with
    | false => exact iteF ⟨S, h1 rfl, p, B, G', i3.nxt n, en.nxt n, fun c2 G2 H2 r2 n2 => q c2 G2 H2 r2 (n.trans n2)⟩
    | true => exact iteT (q true G' H' (h2 rfl) n)⟩
theorem c_w {op} (h : XW X (.BoolOp op es pos) δ S) : XT X (.BoolOp op es pos) δ S := L2.PW.pt h
/-! and, or as values -/
theorem v_1 {op} (h : XD X a δ R) : XD X (.BoolOp op [a] pos) δ R := pe_one h
theorem v_a {rest : List Expr} (h : XD X a δ fun d => ∃ c, d = .bool c ∧ (c = true → XD X (.BoolOp .And (b :: rest) pos) δ R) ∧ (c = false → R (.bool false))) : XD X (.BoolOp .And (a :: b :: rest) pos) δ R :=
  PE.imp (pe_and h (pe_later (δ := δ))) fun σ H Q ⟨p, B, G, i3, en, q⟩ => ⟨p, B, G, i3, en, fun v d G' H' ⟨c, e, h1, h2⟩ n hv => by
    subst e; cases hv
    refine ⟨c, rfl, ?_⟩
    cases c with
    | true => exact iteT ⟨R, h1 rfl, p, B, G', i3.nxt n, en.nxt n, fun v2 d2 G2 H2 r2 n2 k2 => q v2 d2 G2 H2 r2 (n.trans n2) k2⟩
    | false => exact iteF (q _ _ G' H' (h2 rfl) n (.bl _))⟩
theorem v_o {rest : List Expr} (h : XD X a δ fun d => ∃ c, d = .bool c ∧ (c = false → XD X (.BoolOp .Or (b :: rest) pos) δ R) ∧ (c = true → R (.bool true))) : XD X (.BoolOp .Or (a :: b :: rest) pos) δ R :=
  PE.imp (pe_or h (pe_later (δ := δ))) fun σ H Q ⟨p, B, G, i3, en, q⟩ => ⟨p, B, G, i3, en, fun v d G' H' ⟨c, e, h1, h2⟩ n hv => by
    subst e; cases hv
    refine ⟨c, rfl, ?_⟩
    cases c with
    | false => exact iteF ⟨R, h1 rfl, p, B, G', i3.nxt n, en.nxt n, fun v2 d2 G2 H2 r2 n2 k2 => q v2 d2 G2 H2 r2 (n.trans n2) k2⟩
    | true => exact iteT (q _ _ G' H' (h2 rfl) n (.bl _))⟩
theorem c_if (h : XT X c δ fun k => (k = true → XD X a δ R) ∧ (k = false → XD X b δ R)) : XD X (.IfExp c a b pos) δ R :=
  PE.imp (pe_ifExp h (pe_later (b := a) (δ := δ)) (pe_later (b := b) (δ := δ))) fun σ H Q ⟨p, B, G, i3, en, q⟩ => ⟨p, B, G, i3, en, fun k G' H' ⟨h1, h2⟩ n => by
    cases k with
    | true => exact iteT ⟨R, h1 rfl, p, B, G', i3.nxt n, en.nxt n, fun v d G2 H2 r2 n2 k2 => q v d G2 H2 r2 (n.trans n2) k2⟩
    | false => exact iteF ⟨R, h2 rfl, p, B, G', i3.nxt n, en.nxt n, fun v d G2 H2 r2 n2 k2 => q v d G2 H2 r2 (n.trans n2) k2⟩⟩
/-! ### lists of expressions -/
variable {T : List Dt → Prop}
theorem a_n (k : T []) : XA X [] δ T := xa_nil.mono fun ds e => by rw [e]; exact k
theorem a_c (h : XD X e δ fun d => XA X es δ fun ds => T (d :: ds)) (hs : starEach (e :: es) X.env = (false, eval e X.env) :: starEach es X.env := by rfl) (hp : starEach (e :: es) X.env = (e :: es).map fun e => (false, eval e X.env) := by rfl) : XA X (e :: es) δ T :=
  ⟨PA.imp (pa_cons h (pa_many (G := fun U : List Dt → Prop => XA X es δ U) (t := fun U => rA X.K δ U) fun U h => h.pa) hs) fun σ H Q ⟨p, B, G, i3, en, q⟩ => ⟨p, B, G, i3, en, fun v d G1 H1 r1 n1 h1 => ⟨fun ds => T (d :: ds), r1, p, B, G1, i3.nxt n1, en.nxt n1, fun vs ds G2 H2 r2 n2 h2 =>
    q (v :: vs) (d :: ds) G2 H2 r2 (n1.trans n2) (.cons (dp_ex n2.st.1 _ _ h1) h2)⟩⟩, hp⟩
theorem c_tup {k} (h : XA X es δ fun ds => ds.length ≤ 100000 ∧ R (.tuple ds)) : XD X (.Tuple es k pos) δ R := PE.imp (pe_tup h.pa) fun σ H Q ⟨p, B, G, i3, en, q⟩ => ⟨p, B, G, i3, en, fun vs ds G' H' ⟨hl, r⟩ n h' =>
  ⟨by rw [dpAll_length h']; exact Nat.le_trans hl (by decide), fun a ha => q (.ref a) _ _ _ r (n.trans (.new (i3.nxt n) (.tup vs) ha)) (.tup (.inl (.inl upd_same)) (dpAll_ex (Ex.new ((i3.nxt n).gh.free ha)) _ _ h'))⟩⟩
theorem c_lst (h : XA X es δ fun ds => ds.length ≤ 100000 ∧ R (.list ds)) : XD X (.List es pos) δ R := PE.imp (pe_lst h.pa) fun σ H Q ⟨p, B, G, i3, en, q⟩ => ⟨p, B, G, i3, en, fun vs ds G' H' ⟨hl, r⟩ n h' =>
  ⟨by rw [dpAll_length h']; exact Nat.le_trans hl (by decide), fun a ha => q (.ref a) _ _ _ r (n.trans (.new (i3.nxt n) (.lst vs) ha)) (.lst (.inl (.inl upd_same)) (dpAll_ex (Ex.new ((i3.nxt n).gh.free ha)) _ _ h'))⟩⟩
end
end Dv

set_option linter.all false
set_option maxRecDepth 100000
set_option maxHeartbeats 2000000
namespace Dv
open PySem PySem.Spec PyProof.Rows L2
/-! ### comprehensions: what is made is a new list -/
structure LcO (X : Cx) (elt tg iter : Expr) (ifs : List Expr) (scope : Scope) (δ : De) (R : List Dt → Prop) : Prop where
  ex : ∃ (own : List (Str × Nat)) (wi : TI) (g : TG) (tt : TT) (te : TE), PI X tg iter wi ∧ BlkOk X.N X.env.scope scope own ∧ (∀ s H C cl fp, PG (bX X scope s H C cl fp) tg g) ∧ (∀ s H C cl fp, PTs (bX X scope s H C cl fp) ifs tt) ∧ (∀ s H C cl fp, PE (bX X scope s H C cl fp) elt te) ∧
    ∀ σ H Q, rOw X.K δ R σ H Q → tLc wi g tt te (own.map (·.2)) σ H Q
/-- one turn: the target is set (δ2), the tests say T, the element is y -/
structure TurnC (X : Cx) (elt tg : Expr) (ifs : List Expr) (scope : Scope) (δ δ2 : De) (js : List Nat) (d : Dt) (T : Bool → Prop) (Y : Dt → Prop) : Prop where
  g : ∀ s H C cl fp, TgD (bX X scope s H C cl fp) tg js d (wipeD δ js) δ2
  t : ∀ s H C cl fp, XPs (bX X scope s H C cl fp) ifs δ2 T
  e : T true → ∀ s H C cl fp, XD (bX X scope s H C cl fp) elt δ2 Y
section
variable {X : Cx} {elt tg iter e : Expr} {ifs : List Expr} {scope : Scope} {own : List (Str × Nat)} {pos : Pos} {δ : De} {R : List Dt → Prop} {U : Dt → Prop}
theorem lco_of (own : List (Str × Nat)) (ok : BlkOk X.N X.env.scope scope own) (hi : XI X tg iter δ fun ds => ds.length ≤ 100000 ∧ ∃ Iv : Nat → List Dt → Prop, Iv 0 [] ∧
      (∀ (i : Nat) d out, ds[i]? = some d → Iv i out → ∃ δ2 T, TurnC X elt tg ifs scope δ δ2 (own.map (·.2)) d T (fun y => Iv (i + 1) (out ++ [y])) ∧ (T false → Iv (i + 1) out)) ∧ ∀ out, Iv ds.length out → R out) : LcO X elt tg iter ifs scope δ R := by
  have pg : ∀ s H C cl fp, PG (bX X scope s H C cl fp) tg (fun v σ H Q => ∃ d δ2 T Y, TurnC X elt tg ifs scope δ δ2 (own.map (·.2)) d T Y ∧ rG X.K (own.map (·.2)) d (wipeD δ (own.map (·.2))) δ2 v σ H Q) := fun s H C cl fp =>
    ⟨fun pins s1 σ H1 v u Q I r ⟨d, δ2, T, Y, t, q⟩ => (t.g s H C cl fp).run pins s1 σ H1 v u Q I r q⟩
  have pt : ∀ s H C cl fp, PTs (bX X scope s H C cl fp) ifs (fun σ H Q => ∃ d δ2 T Y, TurnC X elt tg ifs scope δ δ2 (own.map (·.2)) d T Y ∧ rT X.K δ2 T σ H Q) := fun s H C cl fp =>
    ⟨fun pins s1 σ H1 Q I ⟨d, δ2, T, Y, t, q⟩ => (t.t s H C cl fp).run pins s1 σ H1 Q I q⟩
  have pe : ∀ s H C cl fp, PE (bX X scope s H C cl fp) elt (fun σ H Q => ∃ d δ2 T Y, TurnC X elt tg ifs scope δ δ2 (own.map (·.2)) d T Y ∧ T true ∧ rX X.K δ2 Y σ H Q) := fun s H C cl fp =>
    ⟨fun pins s1 σ H1 Q I ⟨d, δ2, T, Y, t, c, q⟩ => (t.e c s H C cl fp).run pins s1 σ H1 Q I q⟩
  refine ⟨own, _, _, _, _, hi, ok, pg, pt, pe, fun σ H Q ⟨p, B, G, i3, en, q⟩ => ⟨p, B, G, i3, en, fun J ds G1 H1 ⟨hS, Iv, h0, turn, hR⟩ n yl Dl hD => ?_⟩⟩
  have i31 := i3.nxt n
  have en1 := en.nxt n
  have gD : G1 Dl = none := i31.gh.free hD
  have pD : p ≠ some Dl := fun z => by
    obtain ⟨_, _, _, _, h3, _⟩ := i31.pot Dl z
    rw [hD] at h3; cases h3
  refine ⟨fun i m H' => m = ds.length - i ∧ i ≤ ds.length ∧ Makes X.K p G1 H1 Dl (Iv i) i H', ⟨_, rfl, Nat.zero_le _, ⟨G1, [], [], .newH i31 _ hD, gD, upd_same, .nil, h0, Nat.le_refl _⟩⟩, ?_⟩
  rintro i m H' ⟨em, hle, ⟨G', acc, os, n', gd, hd, ha, iv, hl⟩⟩
  have i3' := i31.nxt n'
  by_cases hlt : i < ds.length
  · obtain ⟨go, yd⟩ := (yl p B G' H' n'.st.1 i3' i).1 hlt
    refine .inr ⟨go, fun H'' => Makes X.K p G1 H1 Dl (Iv (i + 1)) (i + 1) H'', fun H'' k => ⟨_, by omega, rfl, by omega, k⟩, fun x H2 hy => ?_⟩
    obtain ⟨G2, d, e2, n2, hx⟩ := yd x H2 hy
    have n12 := n'.trans n2
    have gd2 : G2 Dl = none := n2.st.2 Dl (nn hd) gd
    have hd2 : H2 Dl = some (.lst acc) := n2.ex Dl _ (by rw [del_ne pD]; exact hd)
    obtain ⟨δ2, T, tc, hf⟩ := turn i d os e2 iv
    refine ⟨d, δ2, T, _, tc, p, B, G2, i31.nxt n12, (en1.nxt n12).wipes _, hx, fun σ2 en2 ⟨ks', ks⟩ => ⟨?_, d, δ2, T, _, tc, p, B, G2, i31.nxt n12, en2, fun c G3 H3 hc3 n3 => ?_⟩⟩
    · refine wipe_same ?_ ks
      rw [ks', wipe_length]
    · have n13 := n12.trans n3
      have gd3 : G3 Dl = none := n3.st.2 Dl (nn hd2) gd2
      have hd3 : H3 Dl = some (.lst acc) := n3.ex Dl _ (by rw [del_ne pD]; exact hd2)
      have ha3 := dpAll_ex (n2.st.1.trans n3.st.1) _ _ ha
      cases c with
      | false => exact iteF ⟨G3, acc, os, n13, gd3, hd3, ha3, hf hc3, by omega⟩
      | true =>
        refine iteT ⟨d, δ2, T, _, tc, hc3, p, B, G3, i31.nxt n13, en2.nxt n3, fun y dy G4 H4 ry n4 hy4 => ?_⟩
        have n14 := n13.trans n4
        have gd4 : G4 Dl = none := n4.st.2 Dl (nn hd3) gd3
        have hd4 : H4 Dl = some (.lst acc) := n4.ex Dl _ (by rw [del_ne pD]; exact hd3)
        have ha4 := dpAll_ex n4.st.1 _ _ ha3
        refine ⟨acc, hd4, ?_, ⟨G4, acc ++ [y], os ++ [dy], ⟨⟨n14.st.1, n14.st.2⟩, fun a o h => ?_, n14.gh.mut gd4, fun z hz => ?_⟩, gd4, upd_same, dpAll_append ha4 (.cons hy4 .nil), ry, by rw [List.length_append, List.length_singleton]; omega⟩⟩
        · rw [dpAll_length ha4]
          exact Nat.lt_of_le_of_lt (Nat.le_trans hl (Nat.le_trans hle hS)) (by decide)
        · have : a ≠ Dl := ne_of_none (del_le h).1 hD
          rw [upd_ne this]; exact n14.ex a o h
        · have : z ≠ Dl := fun w => pD (by rw [hz, w])
          rw [upd_ne this]; exact n14.pot z hz
  · have e : i = ds.length := by omega
    subst e
    exact .inl ⟨(yl p B G' H' n'.st.1 i3' _).2 rfl, q Dl acc os G' H' (hR os iv) (n.trans n') (back_none n hD) gd pD hd ha⟩
theorem LcO.xo (h : LcO X elt tg iter ifs scope δ R) (hN : X.N.Nodup) (hc : X.calm = true := by rfl) (hs : ∀ x, foldedSetIterable iter X.env x = pure x := by intro _; rfl) : XO X (.ListComp elt [⟨tg, iter, ifs, 0⟩] scope pos) δ R := by
  obtain ⟨own, wi, g, tt, te, a1, a2, a3, a4, a5, a6⟩ := h.ex
  exact PE.imp (pe_lc hc hN a1 a2 a3 a4 a5 hs) a6
/-- a new list is data -/
theorem own_data {K : Fg} {p : Option Addr} {B G H G' H' : Hp} {l : Addr} {xs : List V} {ds : List Dt} (i3 : I3 p B G H) (n : Nxt p G H G' H') (h0 : H l = none) (g : G' l = none) (pl : p ≠ some l) (hl : H' l = some (.lst xs)) (ha : DzAll K G' xs ds) : Nxt p G H (upd G' l (.lst xs)) H' ∧ Dz K (upd G' l (.lst xs)) (.ref l) (.list ds) :=
  ⟨⟨⟨n.st.1.mut (i3.gh.free h0), fun a h1 h2 => by
    have : a ≠ l := fun z => h1 (z ▸ h0)
    rw [upd_ne this]; exact n.st.2 a h1 h2⟩, n.ex, fun a o ho => by
    by_cases z : a = l
    · subst z; rw [upd_same] at ho; cases ho; exact hl
    · rw [upd_ne z] at ho; exact n.gh a o ho, n.pot⟩, .lst (.inl (.inl upd_same)) (dpAll_ex (Ex.new g) _ _ ha)⟩
theorem c_o (h : XO X e δ fun ds => U (.list ds)) : XD X e δ U := PE.imp h fun σ H Q ⟨p, B, G, i3, en, q⟩ => ⟨p, B, G, i3, en, fun l xs ds G' H' r n h0 g pl hl ha => by
  obtain ⟨n2, hd⟩ := own_data i3 n h0 g pl hl ha
  exact q _ _ _ _ r n2 hd⟩
theorem XO.mono {S : List Dt → Prop} (h : XO X e δ S) (k : ∀ ds, S ds → R ds) : XO X e δ R := PE.imp h fun σ H Q ⟨p, B, G, i3, en, q⟩ => ⟨p, B, G, i3, en, fun l xs ds G' H' r => q l xs ds G' H' (k ds r)⟩
theorem ps_n : XPs X [] δ (fun c => c = true) := PTs.imp pts_nil fun σ H Q ⟨p, B, G, i3, en, q⟩ => q true G H rfl (.refl i3)
theorem ps_1 {t : Expr} {S : Bool → Prop} (h : XT X t δ S) : XPs X [t] δ S := PTs.imp (pts_one h) fun σ H Q ⟨p, B, G, i3, en, q⟩ => ⟨p, B, G, i3, en, fun b G' H' e n => q b G' H' e n⟩
/-- each element by its own: Rel -/
theorem lco_map (own : List (Str × Nat)) (ok : BlkOk X.N X.env.scope scope own) (hi : XI X tg iter δ fun ds => ds.length ≤ 100000 ∧ ∃ Rel : Nat → Dt → Dt → Prop,
      (∀ (i : Nat) d, ds[i]? = some d → ∃ δ2, (∀ s H C cl fp, TgD (bX X scope s H C cl fp) tg (own.map (·.2)) d (wipeD δ (own.map (·.2))) δ2) ∧ ∀ s H C cl fp, XD (bX X scope s H C cl fp) elt δ2 (Rel i d)) ∧
      ∀ out, out.length = ds.length → (∀ (i : Nat) d y, ds[i]? = some d → out[i]? = some y → Rel i d y) → R out) : LcO X elt tg iter [] scope δ R :=
  lco_of own ok (PI.imp hi fun σ H Q ⟨p, B, G, i3, en, q⟩ => ⟨p, B, G, i3, en, fun J ds G' H' ⟨hl, Rel, turn, fin⟩ => q J ds G' H' ⟨hl, fun i out => out.length = i ∧ ∀ (k : Nat) d y, ds[k]? = some d → out[k]? = some y → Rel k d y, ⟨rfl, fun k d y _ h => by simp at h⟩, fun i d out hd ⟨l1, iv⟩ => by
    obtain ⟨δ2, t1, t2⟩ := turn i d hd
    refine ⟨δ2, _, ⟨t1, fun _ _ _ _ _ => ps_n, fun _ s H C cl fp => (t2 s H C cl fp).mono fun y hy => ⟨by rw [List.length_append, l1]; rfl, fun k d' y' h1 h2 => ?_⟩⟩, fun z => Bool.noConfusion z⟩
    by_cases hk : k < out.length
    · rw [List.getElem?_append_left hk] at h2; exact iv k d' y' h1 h2
    · have : k = out.length := by
        have := (List.getElem?_eq_some_iff.mp h2).1
        rw [List.length_append, List.length_singleton] at this
        omega
      subst this
      rw [List.getElem?_concat_length] at h2
      cases h2
      rw [l1] at h1 ⊢
      rw [hd] at h1
      cases h1
      exact hy, fun out ⟨l1, iv⟩ => fin out l1 iv⟩⟩)
/-- a map of known data -/
theorem lco_fun {α : Type} (own : List (Str × Nat)) (ok : BlkOk X.N X.env.scope scope own) (hi : XI X tg iter δ fun ds => ∃ (xs : List α) (enc F : α → Dt), ds = xs.map enc ∧ xs.length ≤ 100000 ∧
      (∀ (i : Nat) x, xs[i]? = some x → ∃ δ2, (∀ s H C cl fp, TgD (bX X scope s H C cl fp) tg (own.map (·.2)) (enc x) (wipeD δ (own.map (·.2))) δ2) ∧ ∀ s H C cl fp, XD (bX X scope s H C cl fp) elt δ2 fun y => y = F x) ∧ R (xs.map F)) : LcO X elt tg iter [] scope δ R :=
  lco_map own ok (PI.imp hi fun σ H Q ⟨p, B, G, i3, en, q⟩ => ⟨p, B, G, i3, en, fun J ds G' H' ⟨xs, enc, F, e, hl, turn, fin⟩ => q J ds G' H' ⟨by rw [e, List.length_map]; exact hl, fun i _ y => ∃ x, xs[i]? = some x ∧ y = F x, fun i d hd => by
    subst e
    rw [List.getElem?_map] at hd
    cases z : xs[i]? with
    | none => rw [z] at hd; cases hd
    | some x =>
      rw [z] at hd; cases hd
      obtain ⟨δ2, t1, t2⟩ := turn i x z
      exact ⟨δ2, t1, fun s H C cl fp => (t2 s H C cl fp).mono fun y hy => ⟨x, z, hy⟩⟩, fun out hlen h => by
    subst e
    rw [List.length_map] at hlen
    have : out = xs.map F := by
      refine List.ext_getElem? fun i => ?_
      by_cases hi : i < xs.length
      · have h2 := h i (enc xs[i]) out[i] (by rw [List.getElem?_map, List.getElem?_eq_getElem hi]; rfl) (List.getElem?_eq_getElem (by omega))
        obtain ⟨x, hx, ey⟩ := h2
        rw [List.getElem?_map, hx, List.getElem?_eq_getElem (by omega), ey]; rfl
      · rw [List.getElem?_eq_none (by omega), List.getElem?_eq_none (by rw [List.length_map]; omega)]
    rw [this]; exact fin⟩⟩)
/-- with a test -/
theorem lco_filter {α : Type} {test : Expr} (own : List (Str × Nat)) (ok : BlkOk X.N X.env.scope scope own) (hi : XI X tg iter δ fun ds => ∃ (xs : List α) (enc F : α → Dt) (c : α → Bool), ds = xs.map enc ∧ xs.length ≤ 100000 ∧
      (∀ (i : Nat) x, xs[i]? = some x → ∃ δ2, (∀ s H C cl fp, TgD (bX X scope s H C cl fp) tg (own.map (·.2)) (enc x) (wipeD δ (own.map (·.2))) δ2) ∧ (∀ s H C cl fp, XT (bX X scope s H C cl fp) test δ2 fun b => b = c x) ∧ (c x = true → ∀ s H C cl fp, XD (bX X scope s H C cl fp) elt δ2 fun y => y = F x)) ∧ R ((xs.filter c).map F)) : LcO X elt tg iter [test] scope δ R :=
  lco_of own ok (PI.imp hi fun σ H Q ⟨p, B, G, i3, en, q⟩ => ⟨p, B, G, i3, en, fun J ds G' H' ⟨xs, enc, F, c, e, hl, turn, fin⟩ => q J ds G' H' ⟨by rw [e, List.length_map]; exact hl, fun i out => out = ((xs.take i).filter c).map F, rfl, fun i d out hd iv => by
    subst e
    rw [List.getElem?_map] at hd
    cases z : xs[i]? with
    | none => rw [z] at hd; cases hd
    | some x =>
      rw [z] at hd; cases hd
      obtain ⟨δ2, t1, t2, t3⟩ := turn i x z
      refine ⟨δ2, fun b => b = c x, ⟨t1, fun s H C cl fp => ps_1 (t2 s H C cl fp), fun hc s H C cl fp => (t3 hc.symm s H C cl fp).mono fun y hy => ?_⟩, fun hc => ?_⟩
      · show _ = ((xs.take (i + 1)).filter c).map F
        rw [hy, iv, take_succ' z, List.filter_append, List.map_append, List.filter_cons, if_pos hc.symm]; rfl
      · show _ = ((xs.take (i + 1)).filter c).map F
        rw [iv, take_succ' z, List.filter_append, List.map_append, List.filter_cons, if_neg (by rw [← hc]; decide)]
        show _ = _ ++ ([] : List Dt)
        rw [List.append_nil], fun out iv => by
      subst e
      rw [iv, List.length_map, List.take_length]; exact fin⟩⟩)
end
/-! ### targets -/
section
variable {X : Cx} {pos : Pos} {δ δ1 δ2 : De} {d : Dt} {ds : List Dt} {js ks : List Nat}
theorem g_name {i : Nat} {x : Str} (hN : X.N.Nodup) (hi : Nx X.N x i) (hs : SetR δ i (.d d) δ1) (hx : Loc X.env.scope x := by first | exact Or.inl rfl | exact Or.inr rfl) (hf : X.fn x = true ∨ X.env.scope.names.lookup x = some .local := by first | exact .inl rfl | exact .inr rfl | assumption) : TgD X (.Name x pos) [i] d δ δ1 :=
  hs.eq ▸ tg_name i hN hi.eq hx hf
theorem g_tup {es : List Expr} {k : Nat} (h : TgsD X es js ds δ δ1) (hc : X.calm = true := by rfl) (hn : (assignEach es X.env).length = ds.length := by rfl) (hst : (assignEach es X.env).findIdx? (·.1) = none := by rfl) : TgD X (.Tuple es k pos) js (.tuple ds) δ δ1 := tg_tup hc h hn hst
theorem gs_c {e : Expr} {es : List Expr} {ls : List Nat} (h1 : TgD X e js d δ δ1) (h2 : TgsD X es ks ds δ1 δ2) (hl : js ++ ks = ls := by rfl) (hs : (assignEach (e :: es) X.env).map (·.2) = assign e X.env :: (assignEach es X.env).map (·.2) := by rfl) : TgsD X (e :: es) ls (d :: ds) δ δ2 := hl ▸ tgs_cons h1 h2 hs
end
/-! ### what is walked -/
section
variable {X : Cx} {tg e a b : Expr} {es : List Expr} {δ : De} {ds : List Dt} {p pos tpos : Pos} {S : List Dt → Prop} {R : Dt → Prop}
def seqD (d : Dt) (S : List Dt → Prop) : Prop := ∃ ds, (d = .list ds ∨ d = .tuple ds) ∧ S ds
theorem seq_l (h : S ds) : seqD (.list ds) S := ⟨ds, .inl rfl, h⟩
theorem seq_t (h : S ds) : seqD (.tuple ds) S := ⟨ds, .inr rfl, h⟩
theorem pi_seq {l : Expr} {tl : TE} (hl : PE X l tl) : PI X tg l (fun σ H R => tl σ H fun v H1 => (∃ a, v = .ref a ∧ (∃ xs, SqL X.K H1 a xs) ∧ R (Itl X.K a) H1) ∨ (∃ a, v = .ref a ∧ (∃ xs, SqT X.K H1 a xs) ∧ R (Itt X.K a) H1)) := by
  refine ⟨fun pins s σ H R I h => ?_⟩
  refine thn (hl.run pins s σ H _ I h) fun v s1 ⟨x, H1, I1, r1, q1⟩ => ?_
  rcases q1 with ⟨a, e, ⟨xs, hq⟩, q⟩ | ⟨a, e, ⟨xs, hq⟩, q⟩
  · subst e
    cases r1
    obtain ⟨its, rv, p, hz⟩ := I1.list hq
    refine wpAny_pyIter_list p.isList ?_
    refine ⟨s1.heap.objs.size, [s1.heap.objs.size], _, _, H1, rfl, I1.kept (t' := s1.toks) fun b o e => Heap.get?_push_of_some _ e, turn_list a _, ⟨_, Heap.get?_push_size _ rfl, rfl, rfl⟩, fun b hb => ?_, q⟩
    have e : b = s1.heap.objs.size := by simpa using hb
    subst e
    exact I1.fpOk (Nat.le_refl _) (I1.hok.fresh (Nat.le_refl _))
  · subst e
    cases r1
    obtain ⟨its, rv, p, hz⟩ := I1.tuple hq
    refine wpAny_pyIter_tuple (show s1.heap.IsTuple a its.toArray from p) ?_
    refine ⟨s1.heap.objs.size, [s1.heap.objs.size], _, _, H1, rfl, I1.kept (t' := s1.toks) fun b o e => Heap.get?_push_of_some _ e, turn_tuple a _, ⟨_, Heap.get?_push_size _ rfl, rfl, rfl⟩, fun b hb => ?_, q⟩
    have e : b = s1.heap.objs.size := by simpa using hb
    subst e
    exact I1.fpOk (Nat.le_refl _) (I1.hok.fresh (Nat.le_refl _))
theorem i_seq (h : XD X e δ fun d => seqD d S) : XI X tg e δ S := PI.imp (pi_seq h) fun σ H Q ⟨p, B, G, i3, en, q⟩ => ⟨p, B, G, i3, en, fun v d G' H' ⟨ds, e1, s⟩ n hv => by
  rcases e1 with e1 | e1
  · subst e1
    cases hv with
    | lst hs ha => exact .inl ⟨_, rfl, ⟨_, exl n.gh hs⟩, q _ ds G' H' s n (yld_list hs ha)⟩
  · subst e1
    cases hv with
    | tup hs ha => exact .inr ⟨_, rfl, ⟨_, ex_t n.gh hs⟩, q _ ds G' H' s n (yld_tup hs ha)⟩⟩
end
end Dv

set_option linter.all false
set_option maxRecDepth 100000
set_option maxHeartbeats 2000000
namespace Dv
open PySem PySem.Spec PyProof.Rows L2
/-! ### built-in names that the module does not write -/
def bnames : List Str := ["isinstance", "int", "bool", "tuple", "list", "str", "len", "all", "any", "max", "min", "abs", "sorted", "repr", "range", "enumerate", "divmod", "set", "sum", "zip", "dict", "ValueError", "ArithmeticError", "LookupError", "range"]
def Free (mg : Str → Option Value) : Prop := ∀ x : Str, bnames.contains x = true → mg x = none
section
variable {X : Cx} {a b c e : Expr} {es : List Expr} {δ : De} {p pos : Pos} {R : Dt → Prop} {d x y : Dt} {ds fs : List Dt} {i j : Int}
def CallP (X : Cx) (f : Value) (ds : List Dt) (R : Dt → Prop) : Prop := ∃ r, CallR X f r ∧ RC X.K r ds R
theorem c_fn {id : String} {x : Str} (F : Free X.mg) (hv : bootBuiltins x = some (.builtin id)) (h : XA X (e :: es) δ fun ds => CallP X (.builtin id) ds R) (hb : bnames.contains x = true := by decide +kernel) (hg : Gl X x := by rfl) (hpl : starEach es X.env = es.map fun e => (false, eval e X.env) := by rfl) (hn : x ≠ "__name__" := by decide) (hdb : (x == ("__debug__" : Str)) = false := by decide) : XD X (.Call (.Name x p) (e :: es) [] pos) δ R :=
  xd_cb (r := fun vs H Q => ∃ r, CallR X (.builtin id) r ∧ r vs H Q) (fun pins s σ H vs us Q I rv ⟨r, hc, q⟩ => hc pins s σ H vs us Q I rv q) hg (F x hb) hv h (fun ds ⟨r, hc, hr⟩ p B G H vs i3 hv Q q => ⟨r, hc, hr p B G H vs i3 hv Q q⟩) hpl hn hdb
theorem c_ty {T : String} {x : Str} (F : Free X.mg) (hv : bootBuiltins x = some (.type T)) (h : XA X (e :: es) δ fun ds => CallP X (.type T) ds R) (hb : bnames.contains x = true := by decide +kernel) (hg : Gl X x := by rfl) (hpl : starEach es X.env = es.map fun e => (false, eval e X.env) := by rfl) (hn : x ≠ "__name__" := by decide) (hdb : (x == ("__debug__" : Str)) = false := by decide) : XD X (.Call (.Name x p) (e :: es) [] pos) δ R :=
  xd_ct (r := fun vs H Q => ∃ r, CallR X (.type T) r ∧ r vs H Q) (fun pins s σ H vs us Q I rv ⟨r, hc, q⟩ => hc pins s σ H vs us Q I rv q) hg (F x hb) hv h (fun ds ⟨r, hc, hr⟩ p B G H vs i3 hv Q q => ⟨r, hc, hr p B G H vs i3 hv Q q⟩) hpl hn hdb
theorem c_len (h : XD X e δ fun d => CallP X (.builtin "len") [d] R) (F : Free X.mg := by assumption) (hg : Gl X "len" := by rfl) (h1 : starEach [e] X.env = (false, eval e X.env) :: starEach [] X.env := by rfl) (h2 : starEach [e] X.env = [e].map fun e => (false, eval e X.env) := by rfl) : XD X (.Call (.Name "len" p) [e] [] pos) δ R :=
  c_fn F PySem.boot_len (a_c (h.mono fun d k => a_n k) h1 h2) (hg := hg)
theorem c_fn1 {id : String} {x : Str} (hv : bootBuiltins x = some (.builtin id)) (h : XD X e δ fun d => CallP X (.builtin id) [d] R) (F : Free X.mg := by assumption) (hb : bnames.contains x = true := by decide +kernel) (hg : Gl X x := by rfl) (hn : x ≠ "__name__" := by decide) (hdb : (x == ("__debug__" : Str)) = false := by decide) (h1 : starEach [e] X.env = (false, eval e X.env) :: starEach [] X.env := by rfl) (h2 : starEach [e] X.env = [e].map fun e => (false, eval e X.env) := by rfl) : XD X (.Call (.Name x p) [e] [] pos) δ R :=
  c_fn F hv (a_c (h.mono fun d k => a_n k) h1 h2) hb hg rfl hn hdb
theorem c_ty1 {T : String} {x : Str} (hv : bootBuiltins x = some (.type T)) (h : XD X e δ fun d => CallP X (.type T) [d] R) (F : Free X.mg := by assumption) (hb : bnames.contains x = true := by decide +kernel) (hg : Gl X x := by rfl) (hn : x ≠ "__name__" := by decide) (hdb : (x == ("__debug__" : Str)) = false := by decide) (h1 : starEach [e] X.env = (false, eval e X.env) :: starEach [] X.env := by rfl) (h2 : starEach [e] X.env = [e].map fun e => (false, eval e X.env) := by rfl) : XD X (.Call (.Name x p) [e] [] pos) δ R :=
  c_ty F hv (a_c (h.mono fun d k => a_n k) h1 h2) hb hg rfl hn hdb
theorem c_fn2 {id : String} {x : Str} (hv : bootBuiltins x = some (.builtin id)) (h : XD X a δ fun d => XD X b δ fun d2 => CallP X (.builtin id) [d, d2] R) (F : Free X.mg := by assumption) (hb : bnames.contains x = true := by decide +kernel) (hg : Gl X x := by rfl) (hn : x ≠ "__name__" := by decide) (hdb : (x == ("__debug__" : Str)) = false := by decide) (h1 : starEach [a, b] X.env = (false, eval a X.env) :: starEach [b] X.env := by rfl) (h2 : starEach [a, b] X.env = [a, b].map fun e => (false, eval e X.env) := by rfl) (h3 : starEach [b] X.env = (false, eval b X.env) :: starEach [] X.env := by rfl) (h4 : starEach [b] X.env = [b].map fun e => (false, eval e X.env) := by rfl) : XD X (.Call (.Name x p) [a, b] [] pos) δ R :=
  c_fn F hv (a_c (h.mono fun d k => a_c (k.mono fun d2 k2 => a_n k2) h3 h4) h1 h2) hb hg (by rw [h4]) hn hdb
theorem c_repr (h : XD X e δ fun d => CallP X (.builtin "repr") [d] R) (F : Free X.mg := by assumption) (hg : Gl X "repr" := by rfl) (h1 : starEach [e] X.env = (false, eval e X.env) :: starEach [] X.env := by rfl) (h2 : starEach [e] X.env = [e].map fun e => (false, eval e X.env) := by rfl) : XD X (.Call (.Name "repr" p) [e] [] pos) δ R := c_fn1 (by decide +kernel) h (hg := hg) (h1 := h1) (h2 := h2)
theorem c_max (h : XD X e δ fun d => CallP X (.builtin "max") [d] R) (F : Free X.mg := by assumption) (hg : Gl X "max" := by rfl) (h1 : starEach [e] X.env = (false, eval e X.env) :: starEach [] X.env := by rfl) (h2 : starEach [e] X.env = [e].map fun e => (false, eval e X.env) := by rfl) : XD X (.Call (.Name "max" p) [e] [] pos) δ R := c_fn1 (by decide +kernel) h (hg := hg) (h1 := h1) (h2 := h2)
theorem c_min (h : XD X e δ fun d => CallP X (.builtin "min") [d] R) (F : Free X.mg := by assumption) (hg : Gl X "min" := by rfl) (h1 : starEach [e] X.env = (false, eval e X.env) :: starEach [] X.env := by rfl) (h2 : starEach [e] X.env = [e].map fun e => (false, eval e X.env) := by rfl) : XD X (.Call (.Name "min" p) [e] [] pos) δ R := c_fn1 (by decide +kernel) h (hg := hg) (h1 := h1) (h2 := h2)
theorem c_all (h : XD X e δ fun d => CallP X (.builtin "all") [d] R) (F : Free X.mg := by assumption) (hg : Gl X "all" := by rfl) (h1 : starEach [e] X.env = (false, eval e X.env) :: starEach [] X.env := by rfl) (h2 : starEach [e] X.env = [e].map fun e => (false, eval e X.env) := by rfl) : XD X (.Call (.Name "all" p) [e] [] pos) δ R := c_fn1 (by decide +kernel) h (hg := hg) (h1 := h1) (h2 := h2)
theorem c_any (h : XD X e δ fun d => CallP X (.builtin "any") [d] R) (F : Free X.mg := by assumption) (hg : Gl X "any" := by rfl) (h1 : starEach [e] X.env = (false, eval e X.env) :: starEach [] X.env := by rfl) (h2 : starEach [e] X.env = [e].map fun e => (false, eval e X.env) := by rfl) : XD X (.Call (.Name "any" p) [e] [] pos) δ R := c_fn1 (by decide +kernel) h (hg := hg) (h1 := h1) (h2 := h2)
theorem c_sum (h : XD X e δ fun d => CallP X (.builtin "sum") [d] R) (F : Free X.mg := by assumption) (hg : Gl X "sum" := by rfl) (h1 : starEach [e] X.env = (false, eval e X.env) :: starEach [] X.env := by rfl) (h2 : starEach [e] X.env = [e].map fun e => (false, eval e X.env) := by rfl) : XD X (.Call (.Name "sum" p) [e] [] pos) δ R := c_fn1 (by decide +kernel) h (hg := hg) (h1 := h1) (h2 := h2)
theorem c_sorted (h : XD X e δ fun d => CallP X (.builtin "sorted") [d] R) (F : Free X.mg := by assumption) (hg : Gl X "sorted" := by rfl) (h1 : starEach [e] X.env = (false, eval e X.env) :: starEach [] X.env := by rfl) (h2 : starEach [e] X.env = [e].map fun e => (false, eval e X.env) := by rfl) : XD X (.Call (.Name "sorted" p) [e] [] pos) δ R := c_fn1 (by decide +kernel) h (hg := hg) (h1 := h1) (h2 := h2)
theorem c_abs (h : XD X e δ fun d => CallP X (.builtin "abs") [d] R) (F : Free X.mg := by assumption) (hg : Gl X "abs" := by rfl) (h1 : starEach [e] X.env = (false, eval e X.env) :: starEach [] X.env := by rfl) (h2 : starEach [e] X.env = [e].map fun e => (false, eval e X.env) := by rfl) : XD X (.Call (.Name "abs" p) [e] [] pos) δ R := c_fn1 (by decide +kernel) h (hg := hg) (h1 := h1) (h2 := h2)
theorem c_tuple (h : XD X e δ fun d => CallP X (.type "tuple") [d] R) (F : Free X.mg := by assumption) (hg : Gl X "tuple" := by rfl) (h1 : starEach [e] X.env = (false, eval e X.env) :: starEach [] X.env := by rfl) (h2 : starEach [e] X.env = [e].map fun e => (false, eval e X.env) := by rfl) : XD X (.Call (.Name "tuple" p) [e] [] pos) δ R := c_ty1 (by decide +kernel) h (hg := hg) (h1 := h1) (h2 := h2)
theorem c_list (h : XD X e δ fun d => CallP X (.type "list") [d] R) (F : Free X.mg := by assumption) (hg : Gl X "list" := by rfl) (h1 : starEach [e] X.env = (false, eval e X.env) :: starEach [] X.env := by rfl) (h2 : starEach [e] X.env = [e].map fun e => (false, eval e X.env) := by rfl) : XD X (.Call (.Name "list" p) [e] [] pos) δ R := c_ty1 (by decide +kernel) h (hg := hg) (h1 := h1) (h2 := h2)
theorem c_intc (h : XD X e δ fun d => CallP X (.type "int") [d] R) (F : Free X.mg := by assumption) (hg : Gl X "int" := by rfl) (h1 : starEach [e] X.env = (false, eval e X.env) :: starEach [] X.env := by rfl) (h2 : starEach [e] X.env = [e].map fun e => (false, eval e X.env) := by rfl) : XD X (.Call (.Name "int" p) [e] [] pos) δ R := c_ty1 (by decide +kernel) h (hg := hg) (h1 := h1) (h2 := h2)
theorem c_max2 (h : XD X a δ fun d => XD X b δ fun d2 => CallP X (.builtin "max") [d, d2] R) (F : Free X.mg := by assumption) (hg : Gl X "max" := by rfl) (h1 : starEach [a, b] X.env = (false, eval a X.env) :: starEach [b] X.env := by rfl) (h2 : starEach [a, b] X.env = [a, b].map fun e => (false, eval e X.env) := by rfl) (h3 : starEach [b] X.env = (false, eval b X.env) :: starEach [] X.env := by rfl) (h4 : starEach [b] X.env = [b].map fun e => (false, eval e X.env) := by rfl) : XD X (.Call (.Name "max" p) [a, b] [] pos) δ R := c_fn2 (by decide +kernel) h (hg := hg) (h1 := h1) (h2 := h2) (h3 := h3) (h4 := h4)
theorem c_min2 (h : XD X a δ fun d => XD X b δ fun d2 => CallP X (.builtin "min") [d, d2] R) (F : Free X.mg := by assumption) (hg : Gl X "min" := by rfl) (h1 : starEach [a, b] X.env = (false, eval a X.env) :: starEach [b] X.env := by rfl) (h2 : starEach [a, b] X.env = [a, b].map fun e => (false, eval e X.env) := by rfl) (h3 : starEach [b] X.env = (false, eval b X.env) :: starEach [] X.env := by rfl) (h4 : starEach [b] X.env = [b].map fun e => (false, eval e X.env) := by rfl) : XD X (.Call (.Name "min" p) [a, b] [] pos) δ R := c_fn2 (by decide +kernel) h (hg := hg) (h1 := h1) (h2 := h2) (h3 := h3) (h4 := h4)
theorem c_divmod (h : XD X a δ fun d => XD X b δ fun d2 => CallP X (.builtin "divmod") [d, d2] R) (F : Free X.mg := by assumption) (hg : Gl X "divmod" := by rfl) (h1 : starEach [a, b] X.env = (false, eval a X.env) :: starEach [b] X.env := by rfl) (h2 : starEach [a, b] X.env = [a, b].map fun e => (false, eval e X.env) := by rfl) (h3 : starEach [b] X.env = (false, eval b X.env) :: starEach [] X.env := by rfl) (h4 : starEach [b] X.env = [b].map fun e => (false, eval e X.env) := by rfl) : XD X (.Call (.Name "divmod" p) [a, b] [] pos) δ R := c_fn2 (by decide +kernel) h (hg := hg) (h1 := h1) (h2 := h2) (h3 := h3) (h4 := h4)
/-! what they answer -/
theorem f_lenL (k : R (.int (ds.length : Int))) : CallP X (.builtin "len") [.list ds] R := ⟨_, call_len_seq, fun p B G H vs i3 hv Q q => by
    obtain ⟨v, rfl, h⟩ := one_of hv
    cases h with
    | lst hs ha => exact ⟨_, _, rfl, .inl (exl i3.gh hs), q _ _ G H (by rw [dpAll_length ha]; exact k) (.refl i3) (.int _)⟩⟩
theorem f_lenT (k : R (.int (ds.length : Int))) : CallP X (.builtin "len") [.tuple ds] R := ⟨_, call_len_seq, fun p B G H vs i3 hv Q q => by
    obtain ⟨v, rfl, h⟩ := one_of hv
    cases h with
    | tup hs ha => exact ⟨_, _, rfl, .inr (ex_t i3.gh hs), q _ _ G H (by rw [dpAll_length ha]; exact k) (.refl i3) (.int _)⟩⟩
theorem f_abs (k : R (.int (if i < 0 then -i else i))) : CallP X (.builtin "abs") [.int i] R := ⟨_, call_abs, fun p B G H vs i3 hv Q q => by
    obtain ⟨v, rfl, h⟩ := one_of hv
    cases h
    exact ⟨i, rfl, q _ _ G H k (.refl i3) (.int _)⟩⟩
theorem f_max2 (k : R (.int (max i j))) (hc : X.calm = true := by rfl) : CallP X (.builtin "max") [.int i, .int j] R := ⟨_, call_max2 hc, fun p B G H vs i3 hv Q q => by
    obtain ⟨v, w, rfl, h1, h2⟩ := two_of hv
    cases h1; cases h2
    refine ⟨i, j, rfl, q _ _ G H k (.refl i3) ?_⟩
    have : (if j > i then j else i) = max i j := by omega
    rw [this]; exact .int _⟩
theorem f_min2 (k : R (.int (min i j))) (hc : X.calm = true := by rfl) : CallP X (.builtin "min") [.int i, .int j] R := ⟨_, call_min2 hc, fun p B G H vs i3 hv Q q => by
    obtain ⟨v, w, rfl, h1, h2⟩ := two_of hv
    cases h1; cases h2
    refine ⟨i, j, rfl, q _ _ G H k (.refl i3) ?_⟩
    have : (if j < i then j else i) = min i j := by omega
    rw [this]; exact .int _⟩
theorem f_int (k : R (.int i)) : CallP X (.type "int") [.int i] R := ⟨_, call_int1, fun p B G H vs i3 hv Q q => by
    obtain ⟨v, rfl, h⟩ := one_of hv
    cases h
    exact .inl ⟨i, rfl, q _ _ G H k (.refl i3) (.int _)⟩⟩
theorem f_intB {c : Bool} (k : R (.int (if c then 1 else 0))) : CallP X (.type "int") [.bool c] R := ⟨_, call_int1, fun p B G H vs i3 hv Q q => by
    obtain ⟨v, rfl, h⟩ := one_of hv
    cases h
    exact .inr ⟨c, rfl, q _ _ G H k (.refl i3) (.int _)⟩⟩
theorem f_max {ns : List Int} {m : Int} (h1 : m ∈ ns) (h2 : ∀ y ∈ ns, y ≤ m) (k : R (.int m)) (hc : X.calm = true := by rfl) : CallP X (.builtin "max") [.list (ns.map PyData.int)] R := ⟨_, cr_max hc, fun p B G H vs i3 hv Q q => by
    obtain ⟨v, rfl, h⟩ := one_of hv
    cases h with
    | lst hs ha =>
      have e := dpAll_ints ha
      subst e
      refine ⟨_, ns, rfl, exl i3.gh hs, List.length_pos_of_mem h1, fun k' k1 k2 => q _ _ G H k (.refl i3) ?_⟩
      have : k' = m := Int.le_antisymm (h2 k' k1) (k2 m h1)
      rw [this]; exact .int _⟩
theorem f_min {ns : List Int} {m : Int} (h1 : m ∈ ns) (h2 : ∀ y ∈ ns, m ≤ y) (k : R (.int m)) (hc : X.calm = true := by rfl) : CallP X (.builtin "min") [.list (ns.map PyData.int)] R := ⟨_, cr_min hc, fun p B G H vs i3 hv Q q => by
    obtain ⟨v, rfl, h⟩ := one_of hv
    cases h with
    | lst hs ha =>
      have e := dpAll_ints ha
      subst e
      refine ⟨_, ns, rfl, exl i3.gh hs, List.length_pos_of_mem h1, fun k' k1 k2 => q _ _ G H k (.refl i3) ?_⟩
      have : k' = m := Int.le_antisymm (k2 m h1) (h2 k' k1)
      rw [this]; exact .int _⟩
theorem f_sum {ns : List Int} (k : R (.int ns.sum)) (hc : X.calm = true := by rfl) : CallP X (.builtin "sum") [.list (ns.map PyData.int)] R := ⟨_, cr_sum hc, fun p B G H vs i3 hv Q q => by
    obtain ⟨v, rfl, h⟩ := one_of hv
    cases h with
    | lst hs ha =>
      have e := dpAll_ints ha
      subst e
      exact ⟨_, ns, rfl, exl i3.gh hs, q _ _ G H k (.refl i3) (.int _)⟩⟩
theorem f_any {bs : List Bool} (k : R (.bool (bs.any _root_.id))) (hc : X.calm = true := by rfl) : CallP X (.builtin "any") [.list (bs.map PyData.bool)] R := ⟨_, cr_any hc, fun p B G H vs i3 hv Q q => by
    obtain ⟨v, rfl, h⟩ := one_of hv
    cases h with
    | lst hs ha =>
      have e := dpAll_bools ha
      subst e
      exact ⟨_, bs, rfl, exl i3.gh hs, q _ _ G H k (.refl i3) (.bl _)⟩⟩
theorem f_all {bs : List Bool} (k : R (.bool (bs.all _root_.id))) (hc : X.calm = true := by rfl) : CallP X (.builtin "all") [.list (bs.map PyData.bool)] R := ⟨_, cr_all hc, fun p B G H vs i3 hv Q q => by
    obtain ⟨v, rfl, h⟩ := one_of hv
    cases h with
    | lst hs ha =>
      have e := dpAll_bools ha
      subst e
      exact ⟨_, bs, rfl, exl i3.gh hs, q _ _ G H k (.refl i3) (.bl _)⟩⟩
/-- all of a list of which it is known that all, or that not all, are true -/
theorem f_allT (h : ∀ d ∈ ds, d = .bool true) (k : R (.bool true)) (hc : X.calm = true := by rfl) : CallP X (.builtin "all") [.list ds] R := by
  have e : ds = (List.replicate ds.length true).map PyData.bool := by
    refine List.ext_getElem (by simp) fun i h1 h2 => ?_
    rw [List.getElem_map, List.getElem_replicate]; exact h _ (List.getElem_mem h1)
  rw [e]
  refine f_all ?_ hc
  have : (List.replicate ds.length true).all _root_.id = true := by simp
  rw [this]; exact k
theorem f_sorted {ns ms : List Int} (hp : ms.Perm ns) (hw : ms.Pairwise (· ≤ ·)) (k : R (.list (ms.map PyData.int))) : CallP X (.builtin "sorted") [.list (ns.map PyData.int)] R := ⟨_, cr_sortA, fun p B G H vs i3 hv Q q => by
    obtain ⟨v, rfl, h⟩ := one_of hv
    cases h with
    | lst hs ha =>
      have e := dpAll_ints ha
      subst e
      refine ⟨_, ns, rfl, exl i3.gh hs, fun ks l k1 k2 hl => ?_⟩
      have : ks = ms := List.Perm.eq_of_pairwise (fun a b _ _ h1 h2 => Int.le_antisymm h1 h2) k2 hw (k1.trans hp.symm)
      subst this
      exact q _ _ _ _ k (.new i3 _ hl) (.lst (.inl (.inl upd_same)) (dpAll_of_ints ks))⟩
theorem f_tupL (k : R (.tuple ds)) : CallP X (.type "tuple") [.list ds] R := ⟨_, call_tuple_of, fun p B G H vs i3 hv Q q => by
    obtain ⟨v, rfl, h⟩ := one_of hv
    cases h with
    | lst hs ha => exact ⟨_, _, rfl, .inl ⟨exl i3.gh hs, fun l hl => q _ _ _ _ k (.new i3 _ hl) (.tup (.inl (.inl upd_same)) (dpAll_ex (Ex.new (i3.gh.free hl)) _ _ ha))⟩⟩⟩
theorem f_tupT (k : R (.tuple ds)) : CallP X (.type "tuple") [.tuple ds] R := ⟨_, call_tuple_of, fun p B G H vs i3 hv Q q => by
    obtain ⟨v, rfl, h⟩ := one_of hv
    cases h with
    | tup hs ha => exact ⟨_, _, rfl, .inr ⟨ex_t i3.gh hs, q _ _ _ _ k (.refl i3) (.tup hs ha)⟩⟩⟩
theorem f_listL (k : R (.list ds)) : CallP X (.type "list") [.list ds] R := ⟨_, call_list_of, fun p B G H vs i3 hv Q q => by
    obtain ⟨v, rfl, h⟩ := one_of hv
    cases h with
    | lst hs ha => exact ⟨_, _, rfl, .inl (exl i3.gh hs), fun l hl => q _ _ _ _ k (.new i3 _ hl) (.lst (.inl (.inl upd_same)) (dpAll_ex (Ex.new (i3.gh.free hl)) _ _ ha))⟩⟩
theorem f_listT (k : R (.list ds)) : CallP X (.type "list") [.tuple ds] R := ⟨_, call_list_of, fun p B G H vs i3 hv Q q => by
    obtain ⟨v, rfl, h⟩ := one_of hv
    cases h with
    | tup hs ha => exact ⟨_, _, rfl, .inr (ex_t i3.gh hs), fun l hl => q _ _ _ _ k (.new i3 _ hl) (.lst (.inl (.inl upd_same)) (dpAll_ex (Ex.new (i3.gh.free hl)) _ _ ha))⟩⟩
theorem f_repr (hgd : X.A.guards = some []) (hu : X.A.units + 64 < cLine) (ok : OkD d 390000 40) (k : R (.str d.shown)) : CallP X (.builtin "repr") [d] R := ⟨_, cr_repr hgd hu, fun p B G H vs i3 hv Q q => by
    obtain ⟨v, rfl, h⟩ := one_of hv
    exact ⟨v, _, rfl, dp_ex i3.gh _ _ h, ok, q _ _ G H k (.refl i3) (.str _)⟩⟩
theorem f_divmod (hc : CDiv i j) (k : R (.tuple [.int (i / j), .int (i % j)])) : CallP X (.builtin "divmod") [.int i, .int j] R := ⟨_, call_divmod, fun p B G H vs i3 hv Q q => by
    obtain ⟨v, w, rfl, h1, h2⟩ := two_of hv
    cases h1; cases h2
    exact ⟨i, j, rfl, hc, fun z hz => q (.ref z) _ _ _ k (.new i3 _ hz) (.tup (.inl (.inl upd_same)) (.cons (.int _) (.cons (.int _) .nil)))⟩⟩
/-- tuples put together -/
theorem bp_catT (hl : ds.length + fs.length ≤ 100000) (k : R (.tuple (ds ++ fs))) : BinP X .Add (.tuple ds) (.tuple fs) R := ⟨_, op_catA, by
  intro p B G H v w i3 h1 h2 Q q
  have f1 := h1
  have f2 := h2
  cases h1 with
  | tup hs ha => cases h2 with
    | tup hs2 ha2 =>
      refine ⟨_, _, _, _, rfl, rfl, ex_t i3.gh hs, ex_t i3.gh hs2, by rw [dpAll_length ha, dpAll_length ha2]; exact Nat.le_trans hl (by decide), fun z => ?_, fun z1 z2 => ?_, fun z1 z2 l hl => q _ _ _ _ k (.new i3 _ hl) (.tup (.inl (.inl upd_same)) (dpAll_ex (Ex.new (i3.gh.free hl)) _ _ (dpAll_append ha ha2)))⟩
      · subst z
        have : ds = [] := by cases ha; rfl
        subst this
        exact q _ _ _ _ k (.refl i3) f2
      · subst z2
        have : fs = [] := by cases ha2; rfl
        subst this
        rw [List.append_nil] at k
        exact q _ _ _ _ k (.refl i3) f1⟩
theorem rd_eqTrue {K : Fg} {R : Dt → Prop} {d : Dt} {b : Bool} (h : d = .bool b) (k : R (.bool b)) : R d := h ▸ k
/-! slices -/
def SlP (X : Cx) (x : Dt) (lo hi : Option Int) (R : Dt → Prop) : Prop := ∃ r, SlR X r ∧ ∀ p B G H v, I3 p B G H → Dz X.K G v x → ∀ Q : VK, (∀ u d G' H', R d → Nxt p G H G' H' → Dz X.K G' u d → Q u H') → r v lo hi H Q
def XOp (X : Cx) (e : Option Expr) (δ : De) (S : Option Int → Prop) : Prop := PO X e (fun σ H Q => ∃ p B G, I3 p B G H ∧ EnvD X.K p B G H σ δ ∧ ∀ o G' H', S o → Nxt p G H G' H' → Q o H')
theorem o_n {S : Option Int → Prop} (k : S none) : XOp X none δ S := PO.imp po_none fun σ H Q ⟨p, B, G, i3, en, q⟩ => q _ G H k (.refl i3)
theorem o_s {S : Option Int → Prop} (h : XD X e δ fun d => ∃ i : Int, d = .int i ∧ S (some i)) : XOp X (some e) δ S := PO.imp (po_some h) fun σ H Q ⟨p, B, G, i3, en, q⟩ => ⟨p, B, G, i3, en, fun v d G' H' ⟨i, r, k⟩ n hv => by subst r; cases hv; exact ⟨i, rfl, q _ G' H' k n⟩⟩
theorem po_many {ι : Sort _} {G : ι → Prop} {t : ι → TO} {eo : Option Expr} (h : ∀ i, G i → PO X eo (t i)) : PO X eo (fun σ H Q => ∃ i, G i ∧ t i σ H Q) := ⟨fun pins s σ H Q I ⟨i, g, q⟩ => (h i g).run pins s σ H Q I q⟩
theorem po_later {eo : Option Expr} : PO X eo (fun σ H Q => ∃ U : Option Int → Prop, XOp X eo δ U ∧ ∃ p B G, I3 p B G H ∧ EnvD X.K p B G H σ δ ∧ ∀ o G' H', U o → Nxt p G H G' H' → Q o H') := po_many fun U h => h
theorem c_slice {lo hi : Option Expr} {p2 : Pos} (h : XD X e δ fun x => XOp X lo δ fun l => XOp X hi δ fun u => SlP X x l u R) : XD X (.Subscript e (.Slice lo hi none p2) pos) δ R :=
  PE.imp (pe_slice (r := fun v lo hi H Q => ∃ r, SlR X r ∧ r v lo hi H Q) (fun pins s σ H x v vl vu lo hi sl Q I rx hs pl pu ⟨r, ho, q⟩ => ho pins s σ H x v vl vu lo hi sl Q I rx hs pl pu q) h (po_later (δ := δ)) (po_later (δ := δ))) fun σ H Q ⟨p, B, G, i3, en, q⟩ =>
    ⟨p, B, G, i3, en, fun v d G1 H1 r1 n1 hv => ⟨_, r1, p, B, G1, i3.nxt n1, en.nxt n1, fun l G2 H2 r2 n2 => ⟨_, r2, p, B, G2, i3.nxt (n1.trans n2), en.nxt (n1.trans n2), fun u G3 H3 ⟨r, ho, k⟩ n3 => by
      have n := (n1.trans n2).trans n3
      exact ⟨r, ho, k p B G3 H3 v (i3.nxt n) (dp_ex (n2.st.1.trans n3.st.1) _ _ hv) _ fun u d G4 H4 rr n4 hu => q u d G4 H4 rr (n.trans n4) hu⟩⟩⟩⟩
theorem sl_l {lo hi : Option Int} (k : R (.list (cutD ds lo hi))) : SlP X (.list ds) lo hi R := ⟨_, sl_list, fun p B G H v i3 hv Q q => by
    cases hv with
    | lst hs ha => exact ⟨_, _, rfl, exl i3.gh hs, fun l hl => q _ _ _ _ k (.new i3 _ hl) (.lst (.inl (.inl upd_same)) (dpAll_ex (Ex.new (i3.gh.free hl)) _ _ (dz_cut ha)))⟩⟩
theorem cutD_all {lo hi : Option Int} (h : HT.sIx ds.length 0 lo = 0 ∧ HT.sIx ds.length ds.length hi = ds.length) : cutD ds lo hi = ds := by
  unfold cutD; rw [h.1, h.2, List.drop_zero, Nat.sub_zero, List.take_length]
theorem sl_t {lo hi : Option Int} (k : R (.tuple (cutD ds lo hi))) : SlP X (.tuple ds) lo hi R := ⟨_, sl_tupA, fun p B G H v i3 hv Q q => by
    have f1 := hv
    cases hv with
    | tup hs ha =>
      refine ⟨_, _, rfl, ex_t i3.gh hs, fun z => ?_, fun z l hl => q _ _ _ _ k (.new i3 _ hl) (.tup (.inl (.inl upd_same)) (dpAll_ex (Ex.new (i3.gh.free hl)) _ _ (dz_cut ha)))⟩
      rw [dpAll_length ha] at z
      rw [cutD_all z] at k
      exact q _ _ _ _ k (.refl i3) f1⟩
end
end Dv

set_option linter.all false
set_option maxRecDepth 100000
set_option maxHeartbeats 2000000
namespace Dv
open PySem PySem.Spec PyProof.Rows L2 RZ
/-! ### sources -/
section
variable {X : Cx} {tg e a b : Expr} {es : List Expr} {δ : De} {ds fs : List Dt} {p pos tpos : Pos} {S : List Dt → Prop} {R : Dt → Prop}
theorem i_range1 (h : XD X e δ fun d => ∃ j : Int, d = .int j ∧ (-(2 ^ 62) ≤ j ∧ j < 2 ^ 62) ∧ S (rngD 0 j.toNat)) (F : Free X.mg := by assumption) (hg : Gl X "range" := by rfl) (h1 : starEach [e] X.env = (false, eval e X.env) :: starEach [] X.env := by rfl) (h2 : starEach [e] X.env = [e].map fun e => (false, eval e X.env) := by rfl) : XI X tg (.Call (.Name "range" p) [e] [] pos) δ S :=
  have ha := a_c (es := []) (T := fun ds => ∃ j : Int, ds = [.int j] ∧ (-(2 ^ 62) ≤ j ∧ j < 2 ^ 62) ∧ S (rngD 0 j.toNat)) (h.mono fun d ⟨j, e1, hj, k⟩ => a_n ⟨j, by rw [e1], hj, k⟩) h1 h2
  PI.imp (pi_range1 hg (F "range" (by decide +kernel)) ha.pa (by rw [h2]; rfl)) fun σ H Q ⟨p, B, G, i3, en, q⟩ => ⟨p, B, G, i3, en, fun v d G' H' ⟨j, r, hj, k⟩ n hv => by
    subst r
    cases hv with
    | cons h1 h2 => cases h2; cases h1; exact ⟨j, rfl, hj.1, hj.2, q _ _ G' H' k n yld_rng⟩⟩
theorem i_range2 (h : XD X a δ fun d => XD X b δ fun d2 => ∃ i j : Int, d = .int i ∧ d2 = .int j ∧ (-(2 ^ 62) ≤ i ∧ i < 2 ^ 62 ∧ -(2 ^ 62) ≤ j ∧ j < 2 ^ 62) ∧ S (rngD i (j - i).toNat)) (F : Free X.mg := by assumption) (hg : Gl X "range" := by rfl) (h1 : starEach [a, b] X.env = (false, eval a X.env) :: starEach [b] X.env := by rfl) (h2 : starEach [a, b] X.env = [a, b].map fun e => (false, eval e X.env) := by rfl) (h3 : starEach [b] X.env = (false, eval b X.env) :: starEach [] X.env := by rfl) (h4 : starEach [b] X.env = [b].map fun e => (false, eval e X.env) := by rfl) : XI X tg (.Call (.Name "range" p) [a, b] [] pos) δ S :=
  have ha := a_c (es := [b]) (T := fun ds => ∃ i j : Int, ds = [.int i, .int j] ∧ (-(2 ^ 62) ≤ i ∧ i < 2 ^ 62 ∧ -(2 ^ 62) ≤ j ∧ j < 2 ^ 62) ∧ S (rngD i (j - i).toNat)) (h.mono fun d k => a_c (k.mono fun d2 ⟨i, j, e1, e2, hj, k⟩ => a_n ⟨i, j, by rw [e1, e2], hj, k⟩) h3 h4) h1 h2
  PI.imp (pi_range2 hg (F "range" (by decide +kernel)) ha.pa (by rw [h2]; rfl) (by rw [h4]; rfl)) fun σ H Q ⟨p, B, G, i3, en, q⟩ => ⟨p, B, G, i3, en, fun v d G' H' ⟨i, j, r, hj, k⟩ n hv => by
    subst r
    cases hv with
    | cons h1 h2 => cases h2 with
      | cons h2 h3 => cases h3; cases h1; cases h2; exact ⟨i, j, rfl, hj, q _ _ G' H' k n yld_rng⟩⟩
/-- enumerate: of a list (L) or of a tuple (T) -/
theorem i_enumL {elts : List Expr} {kk : Nat} (h : XD X e δ fun d => ∃ ds, d = .list ds ∧ S (enD ds)) (F : Free X.mg := by assumption) (hg : Gl X "enumerate" := by rfl) (h1 : starEach [e] X.env = (false, eval e X.env) :: starEach [] X.env := by rfl) (h2 : starEach [e] X.env = [e].map fun e => (false, eval e X.env) := by rfl) : XI X (.Tuple elts kk tpos) (.Call (.Name "enumerate" p) [e] [] pos) δ S :=
  have ha := a_c (es := []) (T := fun ds => ∃ es, ds = [.list es] ∧ S (enD es)) (h.mono fun d ⟨j, e1, k⟩ => a_n ⟨j, by rw [e1], k⟩) h1 h2
  PI.imp (pi_enum hg (F "enumerate" (by decide +kernel)) ha.pa (by rw [h2]; rfl)) fun σ H Q ⟨p, B, G, i3, en, q⟩ => ⟨p, B, G, i3, en, fun v d G' H' ⟨es, r, k⟩ n hv => by
    subst r
    cases hv with
    | cons h1 h2 => cases h2; cases h1 with
      | lst hs ha => exact ⟨_, _, rfl, exl n.gh hs, q _ _ G' H' k n (yld_enum hs ha)⟩⟩
theorem i_enumTup {elts : List Expr} {kk : Nat} (h : XD X e δ fun d => ∃ ds, d = .tuple ds ∧ S (enD ds)) (F : Free X.mg := by assumption) (hg : Gl X "enumerate" := by rfl) (h1 : starEach [e] X.env = (false, eval e X.env) :: starEach [] X.env := by rfl) (h2 : starEach [e] X.env = [e].map fun e => (false, eval e X.env) := by rfl) : XI X (.Tuple elts kk tpos) (.Call (.Name "enumerate" p) [e] [] pos) δ S :=
  have ha := a_c (es := []) (T := fun ds => ∃ es, ds = [.tuple es] ∧ S (enD es)) (h.mono fun d ⟨j, e1, k⟩ => a_n ⟨j, by rw [e1], k⟩) h1 h2
  PI.imp (pi_enumT hg (F "enumerate" (by decide +kernel)) ha.pa (by rw [h2]; rfl)) fun σ H Q ⟨p, B, G, i3, en, q⟩ => ⟨p, B, G, i3, en, fun v d G' H' ⟨es, r, k⟩ n hv => by
    subst r
    obtain ⟨v, rfl, h1⟩ := one_of hv
    cases h1 with
    | tup hs ha => exact ⟨_, _, rfl, ex_t n.gh hs, q _ _ G' H' k n (yld_enumT hs ha)⟩⟩
theorem i_zip {elts : List Expr} {kk : Nat} (h : XD X a δ fun d => XD X b δ fun d2 => ∃ ds fs, ((d = .list ds ∧ d2 = .list fs) ∨ (d = .tuple ds ∧ d2 = .tuple fs)) ∧ S (zipD ds fs)) (F : Free X.mg := by assumption) (hg : Gl X "zip" := by rfl) (h1 : starEach [a, b] X.env = (false, eval a X.env) :: starEach [b] X.env := by rfl) (h2 : starEach [a, b] X.env = [a, b].map fun e => (false, eval e X.env) := by rfl) (h3 : starEach [b] X.env = (false, eval b X.env) :: starEach [] X.env := by rfl) (h4 : starEach [b] X.env = [b].map fun e => (false, eval e X.env) := by rfl) : XI X (.Tuple elts kk tpos) (.Call (.Name "zip" p) [a, b] [] pos) δ S :=
  have ha := a_c (es := [b]) (T := fun es => ∃ ds fs, (es = [.list ds, .list fs] ∨ es = [.tuple ds, .tuple fs]) ∧ S (zipD ds fs)) (h.mono fun d k => a_c (k.mono fun d2 ⟨ds, fs, e1, k⟩ => a_n ⟨ds, fs, by rcases e1 with ⟨e1, e2⟩ | ⟨e1, e2⟩ <;> rw [e1, e2] <;> simp, k⟩) h3 h4) h1 h2
  PI.imp (RZ.pi_zipA hg (F "zip" (by decide +kernel)) ha.pa h1 (back_plain (by rw [h4]))) fun σ H Q ⟨p, B, G, i3, en, q⟩ => ⟨p, B, G, i3, en, fun v d G' H' ⟨ds, fs, r, k⟩ n hv => by
    rcases r with r | r
    · subst r
      obtain ⟨x, y, rfl, h1, h2⟩ := two_of hv
      cases h1 with
      | lst hs ha => cases h2 with
        | lst hs2 ha2 => exact ⟨_, _, _, _, rfl, .inl ⟨exl n.gh hs, exl n.gh hs2, q _ _ G' H' k n (yld_zipL hs ha hs2 ha2)⟩⟩
    · subst r
      obtain ⟨x, y, rfl, h1, h2⟩ := two_of hv
      cases h1 with
      | tup hs ha => cases h2 with
        | tup hs2 ha2 => exact ⟨_, _, _, _, rfl, .inr ⟨ex_t n.gh hs, ex_t n.gh hs2, q _ _ G' H' k n (yld_zipT hs ha hs2 ha2)⟩⟩⟩
end
/-! ### calls of defs -/
section
variable {X : Cx} {k : Nat} {x : Str} {ps ks : List Str} {st : Stmt} {δ : De} {e : Expr} {es : List Expr} {ds : List Dt} {d : Dt} {p pos : Pos} {kws : List Keyword} {S : List Dt → Prop} {U : Dt → Prop}
theorem c_call {R : List Dt → Dt → Prop} (C : Cal X.prog X.w X.K X.mg X.base k x ps st (spD X.K R)) (ha : XA X (e :: es) δ fun ds => ∃ d, R ds d ∧ U d) (hr : Room k X.A := by first | assumption | (refine Room.mono (by assumption) ?_; decide)) (hgd : X.A.guards = some [] := by assumption) (hg : Gl X x := by rfl)
    (hpl : starEach es X.env = es.map fun e => (false, eval e X.env) := by rfl) (hdb : (x == ("__debug__" : Str)) = false := by decide) : XD X (.Call (.Name x p) (e :: es) [] pos) δ U := xd_call C ha (fun ds h => h) hr hgd hg hpl hdb
theorem c_pot {R : List Dt → (Dt → Prop) → Prop} (C : Cal X.prog X.w X.K X.mg X.base k x ps st (spP X.K R)) {i : Nat} {y : Str} {yp : Pos} (hN : Nx X.N y i) (hs : δ[i]? = some .pot) (ha : XA X es δ fun ds => ∃ T : Dt → Prop, R ds T ∧ ∀ d, T d → U d)
    (hv : Vis X.env.scope y := by first | exact Or.inl rfl | exact Or.inr (Or.inl rfl) | exact Or.inr (Or.inr rfl)) (hr : Room k X.A := by first | assumption | (refine Room.mono (by assumption) ?_; decide)) (hgd : X.A.guards = some [] := by assumption) (hg : Gl X x := by rfl)
    (hp1 : starEach (.Name y yp :: es) X.env = (false, eval (.Name y yp) X.env) :: starEach es X.env := by rfl) (hdb : (x == ("__debug__" : Str)) = false := by decide) (hd : (y == ("__debug__" : Str)) = false := by decide) (hcd : (y == ("__classdict__" : Str)) = false := by decide) : XD X (.Call (.Name x p) (.Name y yp :: es) [] pos) δ U := by
  obtain ⟨f, fd, G, hm, hk, hb, _⟩ := C.ex
  refine PE.imp (pe_g G hr hgd hg hm hk hb (pa_cons (pe_var hN.eq hv hd hcd) ha.pa hp1) hdb hp1 (back_plain ha.pl)) fun σ H Q ⟨p, B, G, i3, en, q⟩ => ?_
  obtain ⟨o, h1, z, rfl, rfl⟩ := en.slot i _ hs
  refine ⟨_, h1, some z, B, G, i3, en, fun vs ds G' H' ⟨T, hT, hU⟩ n hv => ?_⟩
  have i3' := i3.nxt n
  refine ⟨del (some z) H', G', z, vs, ds, T, ⟨fun a o h => (del_le h).1, i3'.gh, fun y hy => ?_⟩, rfl, hv, hT, fun v d G2 H2 u st2 i2 hd => q v d G2 H2 (hU d u) (n.trans ⟨⟨st2.1, fun a h1 h2 => ?_⟩, i2.bh, i2.gh, fun y hy => (i2.pot y hy).2.2⟩) hd⟩
  · cases hy
    obtain ⟨_, h2, h3⟩ := i3'.pot z rfl
    refine ⟨?_, h2, h3⟩
    unfold del; rw [if_pos rfl]
  · by_cases za : z = a
    · subst za; exact (i2.pot z rfl).2.1
    · exact st2.2 a (by rw [del_ne (fun w => za (Option.some.inj w))]; exact h1) h2
/-- f(..), the answer a new list of nobody's -/
theorem o_call {R : List Dt → List Dt → Prop} {T : List Dt → Prop} (C : Cal X.prog X.w X.K X.mg X.base k x ps st (spO X.K R)) (ha : XA X (e :: es) δ fun ds => ∃ fs, R ds fs ∧ T fs)
    (hr : Room k X.A := by first | assumption | (refine Room.mono (by assumption) ?_; decide)) (hgd : X.A.guards = some [] := by assumption) (hg : Gl X x := by rfl) (hpl : starEach es X.env = es.map fun e => (false, eval e X.env) := by rfl) (hdb : (x == ("__debug__" : Str)) = false := by decide) :
    XO X (.Call (.Name x p) (e :: es) [] pos) δ T := by
  obtain ⟨f, fd, F, hm, hk, hb, _⟩ := C.ex
  refine PE.imp (pe_g F hr hgd hg hm hk hb ha.pa hdb (by rw [hpl]; exact ha.pl) (back_plain hpl)) fun σ H Q ⟨p, B, G, i3, en, q⟩ => ⟨p, B, G, i3, en, fun vs dd G1 H1 ⟨fs, hR, hT⟩ n hv => ?_⟩
  have i31 := i3.nxt n
  refine ⟨G1, _, fs, i31.gh, hv, hR, fun l xs G2 H2 st2 e2 g2 hl gl hl2 ha2 => ?_⟩
  have n2 : Nxt p G1 H1 G2 H2 := ⟨st2, fun a o h => e2 a o (del_le h).1, g2, fun z hz => by
    obtain ⟨_, _, a, b, h3, h4⟩ := i31.pot z hz
    exact ⟨a, b, e2 _ _ h3, h4⟩⟩
  exact q l xs fs G2 H2 hT (n.trans n2) (back_none n hl) gl (pot_ne i31 hl) hl2 ha2
/-! calls by keywords -/
theorem kw_n (k : S []) : XK X [] δ S := ⟨PK.imp pk_nil fun σ H Q ⟨p, B, G, i3, en, q⟩ => q [] [] G H k (.refl i3) .nil⟩
theorem kw_c {nm : Option Str} {kpos : Pos} (h : XD X e δ fun d => XK X kws δ fun ds => S (d :: ds)) : XK X (⟨nm, e, kpos⟩ :: kws) δ S :=
  have hl : PK X kws (fun σ H Q => ∃ T : List Dt → Prop, XK X kws δ T ∧ rA X.K δ T σ H Q) := ⟨fun pos pins s σ H Q I ⟨T, g, q⟩ => g.pk.run pos pins s σ H Q I q⟩
  ⟨PK.imp (pk_cons h hl) fun σ H Q ⟨p, B, G, i3, en, q⟩ => ⟨p, B, G, i3, en, fun v d1 G1 H1 r1 n1 h1 => ⟨_, r1, p, B, G1, i3.nxt n1, en.nxt n1, fun vs ds2 G2 H2 r2 n2 h2 =>
    q (v :: vs) (d1 :: ds2) G2 H2 r2 (n1.trans n2) (.cons (dp_ex n2.st.1 _ _ h1) h2)⟩⟩⟩
theorem c_callK {R : List Dt → Dt → Prop} (ix : List Nat) (C : Cal X.prog X.w X.K X.mg X.base k x ps st (spD X.K R)) (ha : XK X kws δ fun ds => ds.length = ks.length ∧ ∃ d, R (pick ix ds) d ∧ U d)
    (hb : ∀ (kV doc pm : Value) (an : Option Addr) (cdv ct : Value) (ws : List Value), ws.length = ks.length → bindArgs (PySem.W.fnOf x x (defArgs st) (defBody st) (defScope st) .none kV doc pm an cdv ct) ⟨[], ks.zip ws⟩ = pure (ps.zip (pick ix ws)))
    (hall : (backToKw pos (keywordEach kws X.env)).all (·.1.isSome) = true := by rfl) (hks : (backToKw pos (keywordEach kws X.env)).filterMap (·.1) = ks := by rfl) (hpl : ((backTo pos (starEach [] X.env)).any (·.1) || (backToKw pos (keywordEach kws X.env)).any (·.1.isNone)) = false := by rfl)
    (hr : Room k X.A := by first | assumption | (refine Room.mono (by assumption) ?_; decide)) (hgd : X.A.guards = some [] := by assumption) (hg : Gl X x := by rfl) (hdb : (x == ("__debug__" : Str)) = false := by decide) : XD X (.Call (.Name x p) [] kws pos) δ U := by
  obtain ⟨f, fd, F, hm, hk, _, fn⟩ := C.ex
  obtain ⟨oc, od, kV, doc, pm, an, cdv, ct, osl, rfl, lk, hcd⟩ := fn.ex
  refine ⟨fun pins s σ H Q I ⟨p, B, G, i3, en, q⟩ => ?_⟩
  refine wpAny_Call_Name_kw (ld_glob I hg hm ?_ hdb)
  refine PySem.W.callWith_KW0 (h₀ := X.base) I.ok.mod.kin hk hall (thn (ha.pk.run pos pins s σ H (fun vs H1 => ∃ G1 ds, (ds.length = ks.length ∧ ∃ d, R (pick ix ds) d ∧ U d) ∧ Nxt p G H G1 H1 ∧ DzAll X.K G1 vs ds) I ⟨p, B, G, i3, en, fun vs ds' G1 H1 r n hv => ⟨G1, ds', r, n, hv⟩⟩) fun ws s1 ⟨zs, H1, I1, rz, G1, ds, ⟨hl, d, hR, hU⟩, n, hv⟩ => ⟨I1.kIn, ?_⟩) hpl
  rw [hks]
  have hlw : ws.length = ks.length := by rw [← rz.length, dpAll_length hv]; exact hl
  have hsp : spD X.K R (pick ix zs) H1 Q E0 := sp_use (i3.nxt n) (pick_dz hv ix) hR fun v G2 H2 n2 hd => q v d G2 H2 hU (n.trans n2) hd
  refine wpAny_call (codeAny_mono (F.run X.A X.stack s1 H1 ⟨[], ks.zip ws⟩ (pick ix ws) (pick ix zs) Q E0 hr hgd I1.env0 (.of_eq (hb kV doc pm an cdv ct ws hlw)) (pick_vals rz ix) hsp) fun r s' hq => ?_)
  have z := fnG_end I1 hq
  cases r with
  | error e => exact z
  | ok fl => cases fl <;> first | exact z | exact False.elim z
end
/-! ### new lists -/
section
variable {X : Cx} {a b e : Expr} {es : List Expr} {δ : De} {ds : List Dt} {d : Dt} {p pos : Pos} {S : List Dt → Prop} {U : Dt → Prop}
theorem o_lst (h : XA X es δ fun ds => ds.length ≤ 100000 ∧ S ds) : XO X (.List es pos) δ S := (xo_lst h fun ds k => k.1).mono fun ds k => k.2
theorem o_listOf (h : XD X e δ fun d => seqD d S) (F : Free X.mg := by assumption) (hg : Gl X "list" := by rfl) (hs : starEach [e] X.env = (false, eval e X.env) :: starEach [] X.env := by rfl) : XO X (.Call (.Name "list" p) [e] [] pos) δ S :=
  PE.imp (pe_callTy call_list_of hg (F "list" (by decide +kernel)) (by decide +kernel) (pa_cons h pa_nil hs) (he := hs)) fun σ H Q ⟨p, B, G, i3, en, q⟩ => ⟨p, B, G, i3, en, fun v d G' H' ⟨ds, hd, k⟩ n hv => by
    have i3' := i3.nxt n
    have fin : ∀ (xs : List V), DzAll X.K G' xs ds → ∀ l, H' l = none → Q (.ref l) (upd H' l (.lst xs)) := fun xs ha l hl => q l xs ds G' _ k (n.trans (.newH i3' (.lst xs) hl)) (back_none n hl) (i3'.gh.free hl) (pot_ne i3' hl) upd_same ha
    rcases hd with e1 | e1
    · subst e1
      cases hv with
      | lst hs ha => exact ⟨_, _, rfl, .inl (exl i3'.gh hs), fin _ ha⟩
    · subst e1
      cases hv with
      | tup hs ha => exact ⟨_, _, rfl, .inr (ex_t i3'.gh hs), fin _ ha⟩⟩
/-- an own list is read by an expression that gives no list -/
def flat : Dt → Prop
  | .list _ => False
  | .tuple _ => False
  | .dict _ => False
  | _ => True
theorem flat_any {K : Fg} {G G' : Hp} {v : V} (h : Dz K G v d) (f : flat d) : Dz K G' v d := by
  cases h with
  | non => exact .non
  | bl b => exact .bl b
  | int i => exact .int i
  | str x => exact .str x
  | lst _ _ => exact f.elim
  | tup _ _ => exact f.elim
  | dct _ => exact f.elim
theorem c_frz (i : Nat) (hs : δ[i]? = some (.own ds)) (h : XD X e (δ.set i (.d (.list ds))) fun d => flat d ∧ U d) : XD X e δ U := PE.imp h fun σ H Q ⟨p, B, G, i3, en, q⟩ => by
  obtain ⟨G', s, i', e'⟩ := frz_ok i3 en hs
  exact ⟨p, B, G', i', e', fun u d G2 H2 ⟨f, r⟩ n hd => q u d G H2 r ⟨.refl _ _, n.ex, fun a w h => n.gh a w (n.st.1 a w (s.1 a w h)), n.pot⟩ (flat_any hd f)⟩
theorem c_ownAt {x : Str} {i : Nat} {np : Pos} (hN : Nx X.N x i) (hs : δ[i]? = some (.own ds)) (h : XD X b δ fun y => ∃ k : Int, ∃ d, y = .int k ∧ atI ds k = some d ∧ U d)
    (hv : Vis X.env.scope x := by first | exact Or.inl rfl | exact Or.inr (Or.inl rfl) | exact Or.inr (Or.inr rfl)) (hd : (x == ("__debug__" : Str)) = false := by decide) (hcd : (x == ("__classdict__" : Str)) = false := by decide) (hp : PlainIx b := by exact fun _ _ => rfl) : XD X (.Subscript (.Name x np) b pos) δ U :=
  PE.imp (pe_ix ix_list (pe_var hN.eq hv hd hcd) h hp) fun σ H Q ⟨p, B, G, i3, en, q⟩ => by
    obtain ⟨o', h1, l, xs, rfl, h2, h3, h4, h5, h6⟩ := en.slot i _ hs
    refine ⟨_, h1, p, B, G, i3, en, fun v dd G' H' ⟨k, d, r, hk, hU⟩ n hv' => ?_⟩
    subst r
    cases hv'
    have h5' : H' l = some (.lst xs) := n.ex _ _ (by rw [del_ne h4]; exact h5)
    obtain ⟨w, e1, e2⟩ := atI_all h6 hk
    exact ⟨l, xs, k, w, rfl, rfl, .inl (.inl h5'), e1, q w d G' H' hU n (dp_ex n.st.1 _ _ e2)⟩
theorem c_ownLen {x : Str} {i : Nat} {np : Pos} (hN : Nx X.N x i) (hs : δ[i]? = some (.own ds)) (h : U (.int (ds.length : Int))) (F : Free X.mg := by assumption)
    (hv : Vis X.env.scope x := by first | exact Or.inl rfl | exact Or.inr (Or.inl rfl) | exact Or.inr (Or.inr rfl)) (hd : (x == ("__debug__" : Str)) = false := by decide) (hcd : (x == ("__classdict__" : Str)) = false := by decide) (hg : Gl X "len" := by rfl) (h1 : starEach [.Name x np] X.env = (false, eval (.Name x np) X.env) :: starEach [] X.env := by rfl) : XD X (.Call (.Name "len" p) [.Name x np] [] pos) δ U :=
  PE.imp (pe_callB call_len_seq hg (F "len" (by decide +kernel)) PySem.boot_len (pa_cons (pe_var hN.eq hv hd hcd) pa_nil h1) (he := h1)) fun σ H Q ⟨p, B, G, i3, en, q⟩ => by
    obtain ⟨o', k1, l, xs, rfl, h2, h3, h4, h5, h6⟩ := en.slot i _ hs
    exact ⟨_, k1, l, xs, rfl, .inl (.inl (.inl h5)), q _ _ G H (by rw [dpAll_length h6]; exact h) (.refl i3) (.int _)⟩
end
/-! ### statements -/
section
variable {X : Cx} {sts tss rest : List Stmt} {a b c e : Expr} {es : List Expr} {δ δ1 δ2 : De} {o : Out} {d : Dt} {ds : List Dt} {pos p pos' : Pos} {x : Str} {i : Nat}
theorem s_let {F : Dt → De} (hi : Nx X.N x i) (hF : ∀ d, SetR δ i (.d d) (F d)) (h : XD X e δ fun d => SsD X rest (F d) o) (hN : X.N.Nodup := by assumption) (hx : Loc X.env.scope x := by first | exact Or.inl rfl | exact Or.inr rfl)
    (hs : swapsWith e (some (.Name x pos')) pos.line X.env = pure false := by rfl) (hf : X.fn x = true ∨ X.env.scope.names.lookup x = some .local := by first | exact .inl rfl | exact .inr rfl | assumption) : SsD X (.Assign [.Name x pos'] e pos :: rest) δ o :=
  ss_seq (N := fun δ' => SsD X rest δ' o) (sd_set i hN h (fun d k => by rw [(hF d).eq]; exact k) hi.eq hx hs hf) fun δ' h => h
theorem s_ret' (h : XD X e δ o.rt) : SsD X (.Return (some e) pos :: rest) δ o := ss_end (sd_ret h fun d k => k)
theorem s_do (h : XD X e δ fun _ => SsD X rest δ o) (hs : swapsWith e none pos.line X.env = pure false := by rfl) : SsD X (.Expr e pos :: rest) δ o := ss_seq (N := fun δ' => SsD X rest δ' o) (sd_expr h (fun d k => k) hs) fun δ' h => h
/-- what comes behind -/
abbrev Out.then (o : Out) (X : Cx) (rest : List Stmt) : Out := { o with nx := fun δ' => SsD X rest δ' o }
theorem s_ifs (h : XT X c δ fun k => (k = true → SsD X sts δ (o.then X rest)) ∧ (k = false → SsD X tss δ (o.then X rest))) : SsD X (.If c sts tss pos :: rest) δ o :=
  ss_seq (N := fun δ' => SsD X rest δ' o) (sd_if h (fun k => k.1 rfl) fun k => k.2 rfl) fun δ' h => h
theorem ss_next (h : o.nx δ) : SsD X [] δ o := ss_nil h
/-- a, b = x, y -/
theorem s_two {x y : Str} {i j : Nat} {px py pt : Pos} {kt k2 pt2} {F : Dt → De} {G : Dt → Dt → De} (hi : Nx X.N x i) (hj : Nx X.N y j) (hF : ∀ d, SetR δ i (.d d) (F d)) (hG : ∀ d d2, SetR (F d) j (.d d2) (G d d2)) (h : XD X a δ fun d => XD X b δ fun d2 => SsD X rest (G d d2) o)
    (hij : i ≠ j := by decide) (hN : X.N.Nodup := by assumption) (hc : X.calm = true := by rfl) (hx : X.env.scope.names.lookup x = some .local := by rfl) (hy : X.env.scope.names.lookup y = some .local := by rfl)
    (hw : swappedStores [.Tuple [.Name x px, .Name y py] kt pt] (.Tuple [a, b] k2 pt2) X.env = pure (some [x, y]) := by rfl) (hs : swapsWithSole [.Tuple [.Name x px, .Name y py] kt pt] (.Tuple [a, b] k2 pt2) pos.line X.env = pure false := by rfl)
    (h1 : starEach [a, b] X.env = (false, eval a X.env) :: starEach [b] X.env := by rfl) (h2 : starEach [a, b] X.env = [a, b].map fun e => (false, eval e X.env) := by rfl) (h3 : starEach [b] X.env = (false, eval b X.env) :: starEach [] X.env := by rfl) (h4 : starEach [b] X.env = [b].map fun e => (false, eval e X.env) := by rfl) :
    SsD X (.Assign [.Tuple [.Name x px, .Name y py] kt pt] (.Tuple [a, b] k2 pt2) pos :: rest) δ o :=
  ss_seq (N := fun δ' => SsD X rest δ' o) (sd_par (S := fun ds => ∃ d d2, ds = [d, d2] ∧ SsD X rest (G d d2) o) i j hN hij (a_c (h.mono fun d k => a_c (k.mono fun d2 k2 => a_n ⟨d, d2, rfl, k2⟩) h3 h4) h1 h2) (fun ds ⟨d, d2, e, k⟩ => ⟨d, d2, e, by rw [(hF d).eq, (hG d d2).eq]; exact k⟩) hc hi.eq hj.eq hx hy hw hs) fun δ' h => h
theorem s_three {x y z : Str} {i j l : Nat} {px py pz pt : Pos} {kt k2 pt2} {F : Dt → De} {G : Dt → Dt → De} {L : Dt → Dt → Dt → De} (hi : Nx X.N x i) (hj : Nx X.N y j) (hl : Nx X.N z l) (hF : ∀ d, SetR δ i (.d d) (F d)) (hG : ∀ d d2, SetR (F d) j (.d d2) (G d d2)) (hL : ∀ d d2 d3, SetR (G d d2) l (.d d3) (L d d2 d3)) (h : XD X a δ fun d => XD X b δ fun d2 => XD X c δ fun d3 => SsD X rest (L d d2 d3) o)
    (hij : i ≠ j := by decide) (hil : i ≠ l := by decide) (hjl : j ≠ l := by decide) (hN : X.N.Nodup := by assumption) (hc : X.calm = true := by rfl) (hx : X.env.scope.names.lookup x = some .local := by rfl) (hy : X.env.scope.names.lookup y = some .local := by rfl) (hz : X.env.scope.names.lookup z = some .local := by rfl)
    (hw : swappedStores [.Tuple [.Name x px, .Name y py, .Name z pz] kt pt] (.Tuple [a, b, c] k2 pt2) X.env = pure (some [x, y, z]) := by rfl) (hs : swapsWithSole [.Tuple [.Name x px, .Name y py, .Name z pz] kt pt] (.Tuple [a, b, c] k2 pt2) pos.line X.env = pure false := by rfl)
    (h1 : starEach [a, b, c] X.env = (false, eval a X.env) :: starEach [b, c] X.env := by rfl) (h2 : starEach [a, b, c] X.env = [a, b, c].map fun e => (false, eval e X.env) := by rfl) (h3 : starEach [b, c] X.env = (false, eval b X.env) :: starEach [c] X.env := by rfl) (h4 : starEach [b, c] X.env = [b, c].map fun e => (false, eval e X.env) := by rfl) (h5 : starEach [c] X.env = (false, eval c X.env) :: starEach [] X.env := by rfl) (h6 : starEach [c] X.env = [c].map fun e => (false, eval e X.env) := by rfl) :
    SsD X (.Assign [.Tuple [.Name x px, .Name y py, .Name z pz] kt pt] (.Tuple [a, b, c] k2 pt2) pos :: rest) δ o :=
  ss_seq (N := fun δ' => SsD X rest δ' o) (sd_par3 (S := fun ds => ∃ d d2 d3, ds = [d, d2, d3] ∧ SsD X rest (L d d2 d3) o) i j l hN hij hil hjl (a_c (h.mono fun d k => a_c (k.mono fun d2 k2 => a_c (k2.mono fun d3 k3 => a_n ⟨d, d2, d3, rfl, k3⟩) h5 h6) h3 h4) h1 h2) (fun ds ⟨d, d2, d3, e, k⟩ => ⟨d, d2, d3, e, by rw [(hF d).eq, (hG d d2).eq, (hL d d2 d3).eq]; exact k⟩) hc hi.eq hj.eq hl.eq hx hy hz hw hs) fun δ' h => h
/-- targets that set slots -/
theorem s_unp {tg : Expr} (h : XD X e δ fun d => ∃ δ' js, TgD X tg js d δ δ' ∧ SsD X rest δ' o) (hs : swapsWithSole [tg] e pos.line X.env = pure false := by rfl) (hw : swappedStores [tg] e X.env = pure none := by rfl)
    (h1 : (assignEach [tg] X.env).map (·.2) = [assign tg X.env] := by rfl) : SsD X (.Assign [tg] e pos :: rest) δ o := by
  have pg : PG X tg (fun v σ H Q => ∃ d δ' js, TgD X tg js d δ δ' ∧ SsD X rest δ' o ∧ rG X.K js d δ δ' v σ H Q) := ⟨fun pins s σ H v u Q I r ⟨d, δ', js, a, _, q⟩ => PG.run a pins s σ H v u Q I r q⟩
  refine ss_seq (N := fun δ' => SsD X rest δ' o) ?_ fun δ' h => h
  exact PS.imp (ps_asg h pg hs hw h1) fun D σ H ⟨p, B, G, i3, en, q⟩ => ⟨p, B, G, i3, en, fun v d G' H' ⟨δ', js, t, k⟩ n hv => ⟨d, δ', js, t, k, p, B, G', i3.nxt n, en.nxt n, hv, fun σ' en' _ => q.nx _ _ G' H' k (n.stepB i3) (i3.nxt n) en'⟩⟩
/-- own lists -/
theorem s_newOwn {F : List Dt → De} (hi : Nx X.N x i) (hF : ∀ ds, SetR δ i (.own ds) (F ds)) (h : XO X e δ fun ds => SsD X rest (F ds) o) (hN : X.N.Nodup := by assumption) (hx : Loc X.env.scope x := by first | exact Or.inl rfl | exact Or.inr rfl)
    (hs : swapsWith e (some (.Name x pos')) pos.line X.env = pure false := by rfl) (hf : X.fn x = true ∨ X.env.scope.names.lookup x = some .local := by first | exact .inl rfl | exact .inr rfl | assumption) : SsD X (.Assign [.Name x pos'] e pos :: rest) δ o :=
  ss_seq (N := fun δ' => SsD X rest δ' o) (sd_own i hN h (fun ds k => by rw [(hF ds).eq]; exact k) hi.eq hx hs hf) fun δ' h => h
theorem s_append {apos cpos np : Pos} {F : Dt → De} (hi : Nx X.N x i) (hs : δ[i]? = some (.own ds)) (hF : ∀ d, SetR δ i (.own (ds ++ [d])) (F d)) (hz : ds.length < 100000) (h : XD X e δ fun d => SsD X rest (F d) o)
    (hv : Vis X.env.scope x := by first | exact Or.inl rfl | exact Or.inr (Or.inl rfl) | exact Or.inr (Or.inr rfl)) (hd : (x == ("__debug__" : Str)) = false := by decide) (hcd : (x == ("__classdict__" : Str)) = false := by decide)
    (hbase : attributeBase (.Name x np) "append" X.env (eval (.Name x np) X.env) = eval (.Name x np) X.env := by rfl)
    (hfew : ((backTo cpos (starEach [e] X.env)).all (fun x => !x.1) && (backToKw cpos (keywordEach [] X.env)).all (fun x => x.1.isSome) && decide (([e] : List Expr).length + ([] : List Keyword).length + (if ([] : List Keyword).isEmpty then 0 else 1) < 30)) = true := by rfl)
    (hline : (apos.endLine == cpos.line) = true := by rfl) (hst : starEach [e] X.env = [(false, eval e X.env)] := by rfl) (hsw : swapsWith (.Call (.Attribute (.Name x np) "append" apos) [e] [] cpos) none pos.line X.env = pure false := by rfl) :
    SsD X (.Expr (.Call (.Attribute (.Name x np) "append" apos) [e] [] cpos) pos :: rest) δ o :=
  ss_seq (N := fun δ' => SsD X rest δ' o) (sd_app i hs h (fun d k => by rw [(hF d).eq]; exact k) hz hi.eq hv hd hcd hbase hfew hline hst hsw) fun δ' h => h
theorem s_freeze {δ' : De} (i : Nat) (hs : δ[i]? = some (.own ds)) (hF : SetR δ i (.d (.list ds)) δ') (k : SsD X sts δ' o) : SsD X sts δ o := ss_frz i hs (by rw [hF.eq]; exact k)
theorem s_retO {np : Pos} (hi : Nx X.N x i) (hs : δ[i]? = some (.own ds)) (hR : o.ro ds) (hv : Vis X.env.scope x := by first | exact Or.inl rfl | exact Or.inr (Or.inl rfl) | exact Or.inr (Or.inr rfl)) (hd : (x == ("__debug__" : Str)) = false := by decide)
    (hcd : (x == ("__classdict__" : Str)) = false := by decide) : SsD X (.Return (some (.Name x np)) pos :: rest) δ o := s_retNew i hs hR hi.eq hv hd hcd
theorem s_retL {np : Pos} (hi : Nx X.N x i) (hs : δ[i]? = some (.own ds)) (hR : o.rt (.list ds)) (hv : Vis X.env.scope x := by first | exact Or.inl rfl | exact Or.inr (Or.inl rfl) | exact Or.inr (Or.inr rfl)) (hd : (x == ("__debug__" : Str)) = false := by decide)
    (hcd : (x == ("__classdict__" : Str)) = false := by decide) : SsD X (.Return (some (.Name x np)) pos :: rest) δ o := s_retOwn i hs hR hi.eq hv hd hcd
/-- return of a new list of nobody's -/
theorem s_retE (h : XO X e δ o.ro) : SsD X (.Return (some e) pos :: rest) δ o :=
  ss_end (PS.imp (ps_ret h) fun D σ H ⟨p, B, G, i3, en, q⟩ => ⟨p, B, G, i3, en, fun l xs ds G' H' r n h0 g pl hl ha => q.ro ds l xs G' H' r (n.stepB i3) (i3.nxt n) (i3.bh.free h0) g pl hl ha⟩)
/-- y = [..] on one line -/
theorem s_letC {elt tg iter : Expr} {ifs : List Expr} {scope : Scope} {spos : Pos} {F : Dt → De} (hi : Nx X.N x i) (hF : ∀ d, SetR δ i (.d d) (F d)) (h : LcO X elt tg iter ifs scope δ fun ds => SsD X rest (F (.list ds)) o) (hN : X.N.Nodup := by assumption) (hyl : X.env.scope.names.lookup x = some .local := by rfl)
    (hsw : swapsWith (.ListComp elt [⟨tg, iter, ifs, 0⟩] scope pos) (some (.Name x pos')) spos.line X.env = pure true := by exact sw_true rfl rfl rfl (by decide +kernel)) (hc : X.calm = true := by rfl) (hs : ∀ x, foldedSetIterable iter X.env x = pure x := by intro _; rfl) :
    SsD X (.Assign [.Name x pos'] (.ListComp elt [⟨tg, iter, ifs, 0⟩] scope pos) spos :: rest) δ o := by
  obtain ⟨own, wi, g, tt, te, a1, a2, a3, a4, a5, a6⟩ := h.ex
  refine ss_seq (N := fun δ' => SsD X rest δ' o) ?_ fun δ' h => h
  exact PS.imp (ps_setLc hc hN hi.eq hyl hsw a1 a2 a3 a4 a5 hs) fun D σ H ⟨p, B, G, i3, en, q⟩ => a6 σ H _ ⟨p, B, G, i3, en, fun l xs ds G' H' r n h0 g pl hl ha => by
    obtain ⟨n2, hd⟩ := own_data i3 n h0 g pl hl ha
    exact q.nx _ _ _ H' r (n2.stepB i3) (i3.nxt n2) (by rw [← (hF (.list ds)).eq]; exact (en.nxt n2).set hd)⟩
theorem s_ownC {elt tg iter : Expr} {ifs : List Expr} {scope : Scope} {spos : Pos} {F : List Dt → De} (hi : Nx X.N x i) (hF : ∀ ds, SetR δ i (.own ds) (F ds)) (h : LcO X elt tg iter ifs scope δ fun ds => SsD X rest (F ds) o) (hN : X.N.Nodup := by assumption) (hyl : X.env.scope.names.lookup x = some .local := by rfl)
    (hsw : swapsWith (.ListComp elt [⟨tg, iter, ifs, 0⟩] scope pos) (some (.Name x pos')) spos.line X.env = pure true := by exact sw_true rfl rfl rfl (by decide +kernel)) (hc : X.calm = true := by rfl) (hs : ∀ x, foldedSetIterable iter X.env x = pure x := by intro _; rfl) :
    SsD X (.Assign [.Name x pos'] (.ListComp elt [⟨tg, iter, ifs, 0⟩] scope pos) spos :: rest) δ o := by
  obtain ⟨own, wi, g, tt, te, a1, a2, a3, a4, a5, a6⟩ := h.ex
  refine ss_seq (N := fun δ' => SsD X rest δ' o) ?_ fun δ' h => h
  exact PS.imp (ps_setLc hc hN hi.eq hyl hsw a1 a2 a3 a4 a5 hs) fun D σ H ⟨p, B, G, i3, en, q⟩ => a6 σ H _ ⟨p, B, G, i3, en, fun l xs ds G' H' r n h0 g pl hl ha => by
    exact q.nx _ _ G' H' r (n.stepB i3) (i3.nxt n) (by rw [← (hF ds).eq]; exact en.putOwn i3 n h0 g pl hl ha i)⟩
/-- for: Iv, an invariant over the turns -/
theorem s_for {tg iter : Expr} (h : XI X tg iter δ fun ds => ∃ Iv : Nat → De → Prop, Iv 0 δ ∧
      (∀ (i : Nat) d δ', ds[i]? = some d → Iv i δ' → ∃ δ2 js, TgD X tg js d δ' δ2 ∧ SsD X sts δ2 { nx := Iv (i + 1), rt := o.rt, ro := o.ro, bk := fun δ' => SsD X rest δ' o, ct := Iv (i + 1) }) ∧ ∀ δ', Iv ds.length δ' → SsD X rest δ' o)
    (hp : PassesOwn (model X.prog X.w) X.A X.env X.xe := by exact PassesOwn.never) (hc : X.calm = true := by rfl) (hs : ∀ x, foldedSetIterable iter X.env x = pure x := by intro _; rfl) : SsD X (.For tg iter sts [] pos :: rest) δ o := by
  refine ss_seq (N := fun δ' => SsD X rest δ' o) ?_ fun δ' h => h
  have pg : PG X tg (fun v σ H Q => ∃ d δ' δ2 js, TgD X tg js d δ' δ2 ∧ rG X.K js d δ' δ2 v σ H Q) := ⟨fun pins s σ H v u Q I r ⟨d, δ', δ2, js, a, q⟩ => PG.run a pins s σ H v u Q I r q⟩
  have pb : PSs X sts (fun D σ H => ∃ δ2 o2, SsD X sts δ2 o2 ∧ rS X.K δ2 o2 D σ H) := ⟨fun pins s σ H D I ⟨δ2, o2, a, q⟩ => PSs.run a pins s σ H D I q⟩
  refine PS.imp (ps_for hp hc h pg pb (hs := hs)) fun D σ H ⟨p, B, G, i3, en, q⟩ => ⟨p, B, G, i3, en, fun J ds G1 H1 ⟨Iv, h0, turn, fin⟩ n yl => ?_⟩
  have st1 := n.stepB i3
  refine ⟨fun i m σ' H' => m = ds.length - i ∧ i ≤ ds.length ∧ ∃ G' δ', Step B G1 G' ∧ I3 p B G' H' ∧ EnvD X.K p B G' H' σ' δ' ∧ Iv i δ', ⟨_, rfl, Nat.zero_le _, G1, δ, .refl _ _, i3.nxt n, en.nxt n, h0⟩, ?_⟩
  rintro i m σ' H' ⟨em, hle, G', δ', st', i3', en', iv⟩
  by_cases hlt : i < ds.length
  · obtain ⟨go, yd⟩ := (yl p B G' H' st'.1 i3' i).1 hlt
    refine .inr ⟨go, fun σ2 H2 => ∃ G2 δ2, Step B G1 G2 ∧ I3 p B G2 H2 ∧ EnvD X.K p B G2 H2 σ2 δ2 ∧ Iv (i + 1) δ2, fun σ2 H2 ⟨G2, δ2, a1, a2, a3, a4⟩ => ⟨_, by omega, rfl, by omega, G2, δ2, a1, a2, a3, a4⟩, fun x H2 hy => ?_⟩
    obtain ⟨G2, d, e2, n2, hx⟩ := yd x H2 hy
    obtain ⟨δ2, js, tg2, body⟩ := turn i d δ' e2 iv
    refine ⟨d, δ', δ2, js, tg2, p, B, G2, i3'.nxt n2, en'.nxt n2, hx, fun σ2 en2 _ => ⟨δ2, _, body, p, B, G2, i3'.nxt n2, en2, ?_⟩⟩
    have st2 := st'.trans (n2.stepB i3')
    exact ⟨fun δ3 σ3 G3 H3 a b c e => ⟨G3, δ3, st2.trans b, c, e, a⟩, fun d3 v3 G3 H3 a b => q.rt d3 v3 G3 H3 a ((st1.trans st2).trans b), fun δ3 σ3 G3 H3 a b => q.nx δ3 σ3 G3 H3 a ((st1.trans st2).trans b), fun δ3 σ3 G3 H3 a b c e => ⟨G3, δ3, st2.trans b, c, e, a⟩, fun ds3 l3 xs3 G3 H3 a b => q.ro ds3 l3 xs3 G3 H3 a ((st1.trans st2).trans b)⟩
  · have e : i = ds.length := by omega
    subst e
    exact .inl ⟨(yl p B G' H' st'.1 i3' _).2 rfl, q.nx δ' σ' G' H' (fin δ' iv) (st1.trans st') i3' en'⟩
end
end Dv

set_option linter.all false
set_option maxRecDepth 100000
set_option maxHeartbeats 2000000
namespace Dv
open PySem PySem.Spec PyProof.Rows L2 RZ
/-! ### how a def begins -/
inductive StR : List Str → List En → De → Prop
  | nil : StR [] [] []
  | d {x N e es δ} : StR N es δ → StR (x :: N) (e :: es) (e :: δ)
  | no {x N δ} : StR N [] δ → StR (x :: N) [] (.no :: δ)
theorem stR_len {N : List Str} {es : List En} {δ : De} (h : StR N es δ) : es.length ≤ N.length := by
  induction h with
  | nil => exact Nat.le_refl _
  | d _ ih => simp only [List.length_cons]; omega
  | no _ ih => simp
theorem StR.eq {N : List Str} {es : List En} {δ : De} (h : StR N es δ) : stD N es = δ := by
  induction h with
  | nil => rfl
  | d h ih =>
    unfold stD at ih ⊢
    have := stR_len h
    rw [List.length_cons, List.length_cons, List.cons_append, show ∀ a b : Nat, a + 1 - (b + 1) = a - b by omega, ih]
  | no h ih =>
    unfold stD at ih ⊢
    simp only [List.nil_append, List.length_nil, Nat.sub_zero, List.length_cons] at ih ⊢
    rw [List.replicate_succ, ih]
theorem s_st {X : Cx} {sts : List Stmt} {N : List Str} {es : List En} {δ : De} {o : Out} (h : StR N es δ) (k : SsD X sts δ o) : SsD X sts (stD N es) o := h.eq ▸ k
/-- texts of statements that are the same -/
theorem s_eq {X : Cx} {sts sts' : List Stmt} {δ : De} {o : Out} (h : sts = sts') (k : SsD X sts' δ o) : SsD X sts δ o := h ▸ k
section
variable {X : Cx} {c e : Expr} {δ : De} {p pos : Pos} {R : Dt → Prop} {S : Bool → Prop} {d : Dt} {b : Bool}
/-- isinstance -/
theorem c_isi (T : String) {tn : Str} {p2 : Pos} (h : XD X e δ fun d => ∃ b, kitB (tyD d) T = some b ∧ R (.bool b)) (F : Free X.mg := by assumption) (hb : bnames.contains tn = true := by decide +kernel) (hv : bootBuiltins tn = some (.type T) := by decide +kernel) (hgT : Gl X tn := by rfl) (hg : Gl X "isinstance" := by rfl)
    (hn : tn ≠ "__name__" := by decide) (hd : (tn == ("__debug__" : Str)) = false := by decide) (hs1 : starEach [.Name tn p2] X.env = [(false, eval (.Name tn p2) X.env)] := by rfl) (hs : starEach [e, .Name tn p2] X.env = (false, eval e X.env) :: starEach [.Name tn p2] X.env := by rfl) :
    XD X (.Call (.Name "isinstance" p) [e, .Name tn p2] [] pos) δ R := by
  refine PE.imp (pe_callB call_isi hg (F "isinstance" (by decide +kernel)) (by decide +kernel) (pa_cons h (pa_cons (pe_bltn (v := .ty T) hgT (F tn hb) hv rfl hn hd) pa_nil (by rw [hs1]; rfl)) hs) (he := hs) (hpl := by rw [hs1]; rfl)) fun σ H Q ⟨p, B, G, i3, en, q⟩ => ⟨p, B, G, i3, en, fun v d' G' H' ⟨c, hk, r⟩ n hv' => ?_⟩
  exact ⟨v, .ty T, _, _, c, rfl, .ty T, dz_ty hv' n.gh, kit_ty hk, q _ _ G' H' r n (.bl _)⟩
theorem c_isi2 (T U : String) {tn un : Str} {p2 p3 p4 : Pos} {k : Nat} (h : XD X e δ fun d => ∃ b b2, kitB (tyD d) T = some b ∧ kitB (tyD d) U = some b2 ∧ R (.bool (b || b2))) (F : Free X.mg := by assumption) (hb : bnames.contains tn = true := by decide +kernel) (hb2 : bnames.contains un = true := by decide +kernel) (hv : bootBuiltins tn = some (.type T) := by decide +kernel) (hvU : bootBuiltins un = some (.type U) := by decide +kernel)
    (hgT : Gl X tn := by rfl) (hgU : Gl X un := by rfl) (hg : Gl X "isinstance" := by rfl) (hn : tn ≠ "__name__" := by decide) (hd : (tn == ("__debug__" : Str)) = false := by decide) (hn2 : un ≠ "__name__" := by decide) (hd2 : (un == ("__debug__" : Str)) = false := by decide)
    (hs1 : starEach [.Tuple [.Name tn p2, .Name un p3] k p4] X.env = [(false, eval (.Tuple [.Name tn p2, .Name un p3] k p4) X.env)] := by rfl) (hs : starEach [e, .Tuple [.Name tn p2, .Name un p3] k p4] X.env = (false, eval e X.env) :: starEach [.Tuple [.Name tn p2, .Name un p3] k p4] X.env := by rfl) (ht2 : starEach [.Name un p3] X.env = [(false, eval (.Name un p3) X.env)] := by rfl) (ht : starEach [.Name tn p2, .Name un p3] X.env = (false, eval (.Name tn p2) X.env) :: starEach [.Name un p3] X.env := by rfl) :
    XD X (.Call (.Name "isinstance" p) [e, .Tuple [.Name tn p2, .Name un p3] k p4] [] pos) δ R := by
  refine PE.imp (pe_callB call_isiT hg (F "isinstance" (by decide +kernel)) (by decide +kernel) (pa_cons h (pa_cons (pe_tup (pa_cons (pe_bltn (v := .ty T) hgT (F tn hb) hv rfl hn hd) (pa_cons (pe_bltn (v := .ty U) hgU (F un hb2) hvU rfl hn2 hd2) pa_nil (by rw [ht2]; rfl)) ht)) pa_nil (by rw [hs1]; rfl)) hs) (he := hs) (hpl := by rw [hs1]; rfl)) fun σ H Q ⟨p, B, G, i3, en, q⟩ => ⟨p, B, G, i3, en, fun v d' G' H' ⟨c, c2, hk, hkU, r⟩ n hv' => ?_⟩
  have i3' := i3.nxt n
  refine ⟨by show 2 ≤ sizeLine; decide, fun l hl => ?_⟩
  have n2 := Nxt.newH i3' (.tup [.ty T, .ty U]) hl
  refine ⟨v, l, _, _, [.type T, .type U], c || c2, rfl, upd_same, .cons (.ty T) (.cons (.ty U) .nil), dz_ty hv' n2.gh, kitAny_cons (kit_ty hk) (fun hc => kitAny_cons (kit_ty hkU) (fun h2 => ?_) (fun h2 => ?_)) (fun hc => ?_), q _ _ _ _ r (n.trans n2) (.bl _)⟩
  · rw [hc, h2]; rfl
  · rw [hc, h2]; rfl
  · rw [hc]; rfl
/-- a <= b <= c -/
theorem c_chain {a b : Expr} (h : XD X a δ fun x => XD X b δ fun y => ∃ i j : Int, x = .int i ∧ y = .int j ∧ (i ≤ j → XD X c δ fun z => ∃ k : Int, z = .int k ∧ R (.bool (decide (j ≤ k)))) ∧ (¬ i ≤ j → R (.bool false))) (hlm : lastMarks [CmpOp.LtE, CmpOp.LtE] [b, c] = false := by rfl) : XD X (.Compare a [.LtE, .LtE] [b, c] pos) δ R :=
  PE.imp (pe_chain op_le op_le h (pe_later (δ := δ)) (pe_later (δ := δ)) (hm := hlm)) fun σ H Q ⟨p, B, G, i3, en, q⟩ => ⟨p, B, G, i3, en, fun v d G1 H1 r1 n1 h1 => ⟨_, r1, p, B, G1, i3.nxt n1, en.nxt n1, fun w d2 G2 H2 ⟨i, j, e1, e2, k1, k2⟩ n2 h2 => by
    subst e1; subst e2
    cases h1; cases h2
    refine ⟨i, j, rfl, rfl, _, rfl, ?_⟩
    have n12 := n1.trans n2
    by_cases hle : i ≤ j
    · rw [decide_eq_true hle]
      refine iteT ⟨_, k1 hle, p, B, G2, i3.nxt n12, en.nxt n12, fun w' d3 G3 H3 ⟨k, e3, r⟩ n3 h3 => ?_⟩
      subst e3
      cases h3
      exact ⟨j, k, rfl, rfl, q _ _ G3 H3 r (n12.trans n3) (.bl _)⟩
    · rw [decide_eq_false hle]
      exact iteF (q _ _ G2 H2 (k2 hle) n12 (.bl _))⟩⟩
/-- what a Bool is -/
theorem r_b {c2 : Bool} (h : b = c2) (k : R (.bool b)) : R (.bool c2) := h ▸ k
/-- a constant of the module -/
theorem c_glob {x : Str} {v : V} {u : Value} (hm : X.mg x = some u) (r : RelV v u) (hv : ∀ G, Dz X.K G v d) (k : R d) (hg : Gl X x := by rfl) (hd : (x == ("__debug__" : Str)) = false := by decide) : XD X (.Name x pos) δ R := c_of (pd_glob hg hm r hv hd) k
theorem c_globI {x : Str} {i : Int} (hm : ∃ t, X.mg x = some (.int i t)) (k : R (.int i)) (hg : Gl X x := by rfl) (hd : (x == ("__debug__" : Str)) = false := by decide) : XD X (.Name x pos) δ R := by
  obtain ⟨t, hm⟩ := hm
  exact c_of (pd_glob (v := .int i) hg hm ⟨_, rfl⟩ (fun G => .int i) hd) k
end
end Dv

set_option linter.all false
set_option maxRecDepth 100000
set_option maxHeartbeats 2000000
namespace Dv
open PySem PySem.Spec PyProof.Rows L2 RZ
/-! ### what form a goal has -/
def isIntT : Dt → Bool
  | .int _ => true
  | .bool _ => true
  | _ => false
def isBoolT : Dt → Bool
  | .bool _ => true
  | _ => false
def isTupT : Dt → Bool
  | .tuple _ => true
  | _ => false
def isListT : Dt → Bool
  | .list _ => true
  | _ => false
def isStrT : Dt → Bool
  | .str _ => true
  | _ => false
section
variable {X : Cx} {rest : List Stmt} {a b c e : Expr} {es fs : List Expr} {δ : De} {o : Out} {pos p pos' pt : Pos} {x y z : Str} {R : Dt → Prop} {S : Bool → Prop} {A B : Prop}
theorem is_let (h : SsD X (.Assign [.Name x pos'] e pos :: rest) δ o) : SsD X (.Assign [.Name x pos'] e pos :: rest) δ o := h
theorem is_two {px py : Pos} {k k2 : Nat} {pt2 : Pos} (h : SsD X (.Assign [.Tuple [.Name x px, .Name y py] k pt] (.Tuple [a, b] k2 pt2) pos :: rest) δ o) : SsD X (.Assign [.Tuple [.Name x px, .Name y py] k pt] (.Tuple [a, b] k2 pt2) pos :: rest) δ o := h
theorem is_three {px py pz : Pos} {k k2 : Nat} {pt2 : Pos} (h : SsD X (.Assign [.Tuple [.Name x px, .Name y py, .Name z pz] k pt] (.Tuple [a, b, c] k2 pt2) pos :: rest) δ o) : SsD X (.Assign [.Tuple [.Name x px, .Name y py, .Name z pz] k pt] (.Tuple [a, b, c] k2 pt2) pos :: rest) δ o := h
theorem is_tgN {js : List Nat} {d : Dt} {δ1 : De} (h : TgD X (.Name x pos) js d δ δ1) : TgD X (.Name x pos) js d δ δ1 := h
theorem is_tgT {k : Nat} {js : List Nat} {d : Dt} {δ1 : De} (h : TgD X (.Tuple es k pos) js d δ δ1) : TgD X (.Tuple es k pos) js d δ δ1 := h
theorem is_exT {tg : Expr} {d : Dt} {P : De → Prop} (h : ∃ δ' js, TgD X tg js d δ δ' ∧ P δ') : ∃ δ' js, TgD X tg js d δ δ' ∧ P δ' := h
theorem is_var (h : XD X (.Name x pos) δ R) : XD X (.Name x pos) δ R := h
theorem is_callN {kws : List Keyword} (h : XD X (.Call (.Name x p) (e :: es) kws pos) δ R) : XD X (.Call (.Name x p) (e :: es) kws pos) δ R := h
theorem br_t (h : A) : (true = true → A) ∧ (true = false → B) := ⟨fun _ => h, fun z => Bool.noConfusion z⟩
theorem br_f (h : B) : (false = true → A) ∧ (false = false → B) := ⟨fun z => Bool.noConfusion z, fun _ => h⟩
theorem br_f' (h : B) : (false = false → B) ∧ (false = true → A) := ⟨fun _ => h, fun z => Bool.noConfusion z⟩
theorem br_t' (h : A) : (true = false → B) ∧ (true = true → A) := ⟨fun z => Bool.noConfusion z, fun _ => h⟩
theorem br_d {p : Prop} [Decidable p] (h1 : p → A) (h2 : ¬ p → B) : (decide p = true → A) ∧ (decide p = false → B) := ⟨fun z => h1 (of_decide_eq_true z), fun z => h2 (of_decide_eq_false z)⟩
theorem br_n {p : Prop} [Decidable p] (h1 : ¬ p → A) (h2 : p → B) : ((!decide p) = true → A) ∧ ((!decide p) = false → B) := ⟨fun z => h1 (by simpa using z), fun z => h2 (by simpa using z)⟩
theorem br_d' {p : Prop} [Decidable p] (h2 : ¬ p → B) (h1 : p → A) : (decide p = false → B) ∧ (decide p = true → A) := ⟨fun z => h2 (of_decide_eq_false z), fun z => h1 (of_decide_eq_true z)⟩
theorem br_n' {p : Prop} [Decidable p] (h2 : p → B) (h1 : ¬ p → A) : ((!decide p) = false → B) ∧ ((!decide p) = true → A) := ⟨fun z => h2 (by simpa using z), fun z => h1 (by simpa using z)⟩
/-- a test that is known -/
theorem br_is {p : Prop} [Decidable p] (hp : p) (h : A) : (decide p = true → A) ∧ (decide p = false → B) := ⟨fun _ => h, fun z => absurd hp (of_decide_eq_false z)⟩
theorem br_no {p : Prop} [Decidable p] (hp : ¬ p) (h : B) : (decide p = true → A) ∧ (decide p = false → B) := ⟨fun z => absurd (of_decide_eq_true z) hp, fun _ => h⟩
theorem br_nis {p : Prop} [Decidable p] (hp : p) (h : B) : ((!decide p) = true → A) ∧ ((!decide p) = false → B) := br_n (fun z => absurd hp z) fun _ => h
theorem br_nno {p : Prop} [Decidable p] (hp : ¬ p) (h : A) : ((!decide p) = true → A) ∧ ((!decide p) = false → B) := br_n (fun _ => h) fun z => absurd z hp
theorem free_mk {mg : Str → Option Value} (h1 : mg "isinstance" = none) (h2 : mg "int" = none) (h3 : mg "bool" = none) (h4 : mg "tuple" = none) (h5 : mg "list" = none) (h6 : mg "str" = none) (h7 : mg "len" = none) (h8 : mg "all" = none) (h9 : mg "any" = none) (h10 : mg "max" = none) (h11 : mg "min" = none) (h12 : mg "abs" = none) (h13 : mg "sorted" = none) (h14 : mg "repr" = none) (h15 : mg "range" = none) (h16 : mg "enumerate" = none) (h17 : mg "divmod" = none) (h18 : mg "set" = none) (h19 : mg "sum" = none) (h20 : mg "zip" = none) (h21 : mg "dict" = none) (h22 : mg "ValueError" = none) (h23 : mg "ArithmeticError" = none) (h24 : mg "LookupError" = none) : Free mg := fun x hx => by
  simp only [bnames, List.contains_cons, List.contains_nil, Bool.or_eq_true, Bool.or_false, beq_iff_eq] at hx
  rcases hx with e | e | e | e | e | e | e | e | e | e | e | e | e | e | e | e | e | e | e | e | e | e | e | e | e <;> subst e <;> assumption
theorem at0 {d : Dt} {ds : List Dt} : atI (d :: ds) 0 = some d := atI_nat (j := 0) rfl
theorem ss_n (h : o.nx δ) : SsD X [] δ o := ss_nil h
theorem nn_t (h : S true) : S (!false) := h
theorem nn_f (h : S false) : S (!true) := h
theorem c_isiI {p2 : Pos} (h : XD X e δ fun d => R (.bool (isIntT d))) (F : Free X.mg := by assumption) (hgT : Gl X "int" := by rfl) (hg : Gl X "isinstance" := by rfl) (hs1 : starEach [.Name "int" p2] X.env = [(false, eval (.Name "int" p2) X.env)] := by rfl) (hs : starEach [e, .Name "int" p2] X.env = (false, eval e X.env) :: starEach [.Name "int" p2] X.env := by rfl) : XD X (.Call (.Name "isinstance" p) [e, .Name "int" p2] [] pos) δ R :=
  c_isi "int" (h.mono fun d k => ⟨isIntT d, by cases d <;> (simp only [tyD, isIntT, isBoolT, isTupT, isListT, isStrT]; decide +kernel), k⟩) F (by decide +kernel) (by decide +kernel) hgT hg (hs1 := hs1) (hs := hs)
theorem c_isiB {p2 : Pos} (h : XD X e δ fun d => R (.bool (isBoolT d))) (F : Free X.mg := by assumption) (hgT : Gl X "bool" := by rfl) (hg : Gl X "isinstance" := by rfl) (hs1 : starEach [.Name "bool" p2] X.env = [(false, eval (.Name "bool" p2) X.env)] := by rfl) (hs : starEach [e, .Name "bool" p2] X.env = (false, eval e X.env) :: starEach [.Name "bool" p2] X.env := by rfl) : XD X (.Call (.Name "isinstance" p) [e, .Name "bool" p2] [] pos) δ R :=
  c_isi "bool" (h.mono fun d k => ⟨isBoolT d, by cases d <;> (simp only [tyD, isIntT, isBoolT, isTupT, isListT, isStrT]; decide +kernel), k⟩) F (by decide +kernel) (by decide +kernel) hgT hg (hs1 := hs1) (hs := hs)
theorem c_isiT {p2 : Pos} (h : XD X e δ fun d => R (.bool (isTupT d))) (F : Free X.mg := by assumption) (hgT : Gl X "tuple" := by rfl) (hg : Gl X "isinstance" := by rfl) (hs1 : starEach [.Name "tuple" p2] X.env = [(false, eval (.Name "tuple" p2) X.env)] := by rfl) (hs : starEach [e, .Name "tuple" p2] X.env = (false, eval e X.env) :: starEach [.Name "tuple" p2] X.env := by rfl) : XD X (.Call (.Name "isinstance" p) [e, .Name "tuple" p2] [] pos) δ R :=
  c_isi "tuple" (h.mono fun d k => ⟨isTupT d, by cases d <;> (simp only [tyD, isIntT, isBoolT, isTupT, isListT, isStrT]; decide +kernel), k⟩) F (by decide +kernel) (by decide +kernel) hgT hg (hs1 := hs1) (hs := hs)
theorem c_isiL {p2 : Pos} (h : XD X e δ fun d => R (.bool (isListT d))) (F : Free X.mg := by assumption) (hgT : Gl X "list" := by rfl) (hg : Gl X "isinstance" := by rfl) (hs1 : starEach [.Name "list" p2] X.env = [(false, eval (.Name "list" p2) X.env)] := by rfl) (hs : starEach [e, .Name "list" p2] X.env = (false, eval e X.env) :: starEach [.Name "list" p2] X.env := by rfl) : XD X (.Call (.Name "isinstance" p) [e, .Name "list" p2] [] pos) δ R :=
  c_isi "list" (h.mono fun d k => ⟨isListT d, by cases d <;> (simp only [tyD, isIntT, isBoolT, isTupT, isListT, isStrT]; decide +kernel), k⟩) F (by decide +kernel) (by decide +kernel) hgT hg (hs1 := hs1) (hs := hs)
theorem c_isiS {p2 : Pos} (h : XD X e δ fun d => R (.bool (isStrT d))) (F : Free X.mg := by assumption) (hgT : Gl X "str" := by rfl) (hg : Gl X "isinstance" := by rfl) (hs1 : starEach [.Name "str" p2] X.env = [(false, eval (.Name "str" p2) X.env)] := by rfl) (hs : starEach [e, .Name "str" p2] X.env = (false, eval e X.env) :: starEach [.Name "str" p2] X.env := by rfl) : XD X (.Call (.Name "isinstance" p) [e, .Name "str" p2] [] pos) δ R :=
  c_isi "str" (h.mono fun d k => ⟨isStrT d, by cases d <;> (simp only [tyD, isIntT, isBoolT, isTupT, isListT, isStrT]; decide +kernel), k⟩) F (by decide +kernel) (by decide +kernel) hgT hg (hs1 := hs1) (hs := hs)
theorem c_isiLT {p2 p3 p4 : Pos} {k : Nat} (h : XD X e δ fun d => R (.bool (isListT d || isTupT d))) (F : Free X.mg := by assumption) (hgT : Gl X "list" := by rfl) (hgU : Gl X "tuple" := by rfl) (hg : Gl X "isinstance" := by rfl)
    (hs1 : starEach [.Tuple [.Name "list" p2, .Name "tuple" p3] k p4] X.env = [(false, eval (.Tuple [.Name "list" p2, .Name "tuple" p3] k p4) X.env)] := by rfl) (hs : starEach [e, .Tuple [.Name "list" p2, .Name "tuple" p3] k p4] X.env = (false, eval e X.env) :: starEach [.Tuple [.Name "list" p2, .Name "tuple" p3] k p4] X.env := by rfl) (ht2 : starEach [.Name "tuple" p3] X.env = [(false, eval (.Name "tuple" p3) X.env)] := by rfl) (ht : starEach [.Name "list" p2, .Name "tuple" p3] X.env = (false, eval (.Name "list" p2) X.env) :: starEach [.Name "tuple" p3] X.env := by rfl) :
    XD X (.Call (.Name "isinstance" p) [e, .Tuple [.Name "list" p2, .Name "tuple" p3] k p4] [] pos) δ R :=
  c_isi2 "list" "tuple" (h.mono fun d k => ⟨isListT d, isTupT d, by cases d <;> (simp only [tyD, isIntT, isBoolT, isTupT, isListT, isStrT]; decide +kernel), by cases d <;> (simp only [tyD, isIntT, isBoolT, isTupT, isListT, isStrT]; decide +kernel), k⟩) F (by decide +kernel) (by decide +kernel) (by decide +kernel) (by decide +kernel) hgT hgU hg (hs1 := hs1) (hs := hs) (ht2 := ht2) (ht := ht)
end
end Dv

set_option linter.all false
set_option maxRecDepth 100000
set_option maxHeartbeats 2000000
namespace Dv
open PySem PySem.Spec PyProof.Rows L2 RZ
section
variable {X : Cx} {elt tg iter e : Expr} {scope : Scope} {pos p : Pos} {δ : De} {R : Dt → Prop} {c : Bool} {A B : Prop}
theorem br_by (hc : c = true) (h : A) : (c = true → A) ∧ (c = false → B) := ⟨fun _ => h, fun z => by rw [hc] at z; cases z⟩
theorem br_byf (hc : c = false) (h : B) : (c = true → A) ∧ (c = false → B) := ⟨fun z => (by rw [hc] at z; cases z), fun _ => h⟩
theorem br_by' (hc : c = true) (h : A) : (c = false → B) ∧ (c = true → A) := ⟨fun z => (by rw [hc] at z; cases z), fun _ => h⟩
theorem br_byf' (hc : c = false) (h : B) : (c = false → B) ∧ (c = true → A) := ⟨fun _ => h, fun z => by rw [hc] at z; cases z⟩
theorem br_nby (hc : c = true) (h : B) : ((!c) = true → A) ∧ ((!c) = false → B) := br_byf (by rw [hc]; rfl) h
theorem br_nbyf (hc : c = false) (h : A) : ((!c) = true → A) ∧ ((!c) = false → B) := br_by (by rw [hc]; rfl) h
/-- a comprehension of known data -/
theorem c_comp {α : Type} (own : List (Str × Nat)) (ok : BlkOk X.N X.env.scope scope own) (hi : XI X tg iter δ fun ds => ∃ (xs : List α) (enc F : α → Dt), ds = xs.map enc ∧ xs.length ≤ 100000 ∧
      (∀ (i : Nat) x, xs[i]? = some x → ∃ δ2, (∀ s H C cl fp, TgD (bX X scope s H C cl fp) tg (own.map (·.2)) (enc x) (wipeD δ (own.map (·.2))) δ2) ∧ ∀ s H C cl fp, XD (bX X scope s H C cl fp) elt δ2 fun y => y = F x) ∧ R (.list (xs.map F))) (hN : X.N.Nodup := by assumption) (hc : X.calm = true := by rfl) (hs : ∀ x, foldedSetIterable iter X.env x = pure x := by intro _; rfl) : XD X (.ListComp elt [⟨tg, iter, [], 0⟩] scope pos) δ R := c_o ((lco_fun own ok hi).xo hN hc hs)
/-- drawn elements: each by Rel -/
theorem c_compR (own : List (Str × Nat)) (ok : BlkOk X.N X.env.scope scope own) (hi : XI X tg iter δ fun ds => ds.length ≤ 100000 ∧ ∃ Rel : Nat → Dt → Dt → Prop,
      (∀ (i : Nat) d, ds[i]? = some d → ∃ δ2, (∀ s H C cl fp, TgD (bX X scope s H C cl fp) tg (own.map (·.2)) d (wipeD δ (own.map (·.2))) δ2) ∧ ∀ s H C cl fp, XD (bX X scope s H C cl fp) elt δ2 (Rel i d)) ∧
      ∀ out, out.length = ds.length → (∀ (i : Nat) d y, ds[i]? = some d → out[i]? = some y → Rel i d y) → R (.list out)) (hN : X.N.Nodup := by assumption) (hc : X.calm = true := by rfl) (hs : ∀ x, foldedSetIterable iter X.env x = pure x := by intro _; rfl) : XD X (.ListComp elt [⟨tg, iter, [], 0⟩] scope pos) δ R := c_o ((lco_map own ok hi).xo hN hc hs)
theorem c_filter {α : Type} {test : Expr} (own : List (Str × Nat)) (ok : BlkOk X.N X.env.scope scope own) (hi : XI X tg iter δ fun ds => ∃ (xs : List α) (enc F : α → Dt) (c : α → Bool), ds = xs.map enc ∧ xs.length ≤ 100000 ∧
      (∀ (i : Nat) x, xs[i]? = some x → ∃ δ2, (∀ s H C cl fp, TgD (bX X scope s H C cl fp) tg (own.map (·.2)) (enc x) (wipeD δ (own.map (·.2))) δ2) ∧ (∀ s H C cl fp, XT (bX X scope s H C cl fp) test δ2 fun b => b = c x) ∧ (c x = true → ∀ s H C cl fp, XD (bX X scope s H C cl fp) elt δ2 fun y => y = F x)) ∧ R (.list ((xs.filter c).map F))) (hN : X.N.Nodup := by assumption) (hc : X.calm = true := by rfl) (hs : ∀ x, foldedSetIterable iter X.env x = pure x := by intro _; rfl) : XD X (.ListComp elt [⟨tg, iter, [test], 0⟩] scope pos) δ R := c_o ((lco_filter own ok hi).xo hN hc hs)
/-- all([..]), each one true -/
theorem c_allOk {p2 : Pos} (own : List (Str × Nat)) (ok : BlkOk X.N X.env.scope scope own) (hi : XI X tg iter δ fun ds => ds.length ≤ 100000 ∧
      (∀ (i : Nat) d, ds[i]? = some d → ∃ δ2, (∀ s H C cl fp, TgD (bX X scope s H C cl fp) tg (own.map (·.2)) d (wipeD δ (own.map (·.2))) δ2) ∧ ∀ s H C cl fp, XD (bX X scope s H C cl fp) elt δ2 fun y => y = .bool true) ∧ R (.bool true)) (hN : X.N.Nodup := by assumption) (F : Free X.mg := by assumption) (hg : Gl X "all" := by rfl) (hc : X.calm = true := by rfl) (hs : ∀ x, foldedSetIterable iter X.env x = pure x := by intro _; rfl)
    (h1 : starEach [.ListComp elt [⟨tg, iter, [], 0⟩] scope pos] X.env = (false, eval (.ListComp elt [⟨tg, iter, [], 0⟩] scope pos) X.env) :: starEach [] X.env := by rfl) (h2 : starEach [.ListComp elt [⟨tg, iter, [], 0⟩] scope pos] X.env = [.ListComp elt [⟨tg, iter, [], 0⟩] scope pos].map fun e => (false, eval e X.env) := by rfl) : XD X (.Call (.Name "all" p) [.ListComp elt [⟨tg, iter, [], 0⟩] scope pos] [] p2) δ R :=
  c_all (c_compR own ok (PI.imp hi fun σ H Q ⟨p, B, G, i3, en, q⟩ => ⟨p, B, G, i3, en, fun J ds G' H' ⟨hl, turn, fin⟩ => q J ds G' H' ⟨hl, fun _ _ y => y = .bool true, turn, fun out e k => f_allT (fun d hd => by
    obtain ⟨i, hi, rfl⟩ := List.getElem_of_mem hd
    exact k i (ds[i]'(by omega)) _ (List.getElem?_eq_getElem _) (List.getElem?_eq_getElem hi)) fin hc⟩⟩) hN hc hs) F hg h1 h2
/-- all([..]), each one known -/
theorem c_allF {α : Type} {p2 : Pos} (own : List (Str × Nat)) (ok : BlkOk X.N X.env.scope scope own) (hi : XI X tg iter δ fun ds => ∃ (xs : List α) (enc : α → Dt) (F : α → Bool), ds = xs.map enc ∧ xs.length ≤ 100000 ∧
      (∀ (i : Nat) x, xs[i]? = some x → ∃ δ2, (∀ s H C cl fp, TgD (bX X scope s H C cl fp) tg (own.map (·.2)) (enc x) (wipeD δ (own.map (·.2))) δ2) ∧ ∀ s H C cl fp, XD (bX X scope s H C cl fp) elt δ2 fun y => y = .bool (F x)) ∧ R (.bool (xs.all F))) (hN : X.N.Nodup := by assumption) (F : Free X.mg := by assumption) (hg : Gl X "all" := by rfl) (hc : X.calm = true := by rfl) (hs : ∀ x, foldedSetIterable iter X.env x = pure x := by intro _; rfl)
    (h1 : starEach [.ListComp elt [⟨tg, iter, [], 0⟩] scope pos] X.env = (false, eval (.ListComp elt [⟨tg, iter, [], 0⟩] scope pos) X.env) :: starEach [] X.env := by rfl) (h2 : starEach [.ListComp elt [⟨tg, iter, [], 0⟩] scope pos] X.env = [.ListComp elt [⟨tg, iter, [], 0⟩] scope pos].map fun e => (false, eval e X.env) := by rfl) : XD X (.Call (.Name "all" p) [.ListComp elt [⟨tg, iter, [], 0⟩] scope pos] [] p2) δ R :=
  c_all (c_comp (α := α) own ok (PI.imp hi fun σ H Q ⟨p, B, G, i3, en, q⟩ => ⟨p, B, G, i3, en, fun J ds G' H' ⟨xs, enc, F, e, hl, turn, fin⟩ => q J ds G' H' ⟨xs, enc, fun x => .bool (F x), e, hl, turn, by
    have e : xs.map (fun x => PyData.bool (F x)) = (xs.map F).map PyData.bool := by rw [List.map_map]; rfl
    rw [e]
    refine f_all ?_ hc
    rw [List.all_map]; exact fin⟩⟩) hN hc hs) F hg h1 h2
theorem i_enumB {elts : List Expr} {kk : Nat} {tpos : Pos} {v : Dt} {ds : List Dt} {S : List Dt → Prop} {p2 : Pos} (hv : v = .list ds ∨ v = .tuple ds) (h : PD X e δ v) (k : S (enD ds)) (F : Free X.mg := by assumption) (hg : Gl X "enumerate" := by rfl) (h1 : starEach [e] X.env = (false, eval e X.env) :: starEach [] X.env := by rfl) (h2 : starEach [e] X.env = [e].map fun e => (false, eval e X.env) := by rfl) : XI X (.Tuple elts kk tpos) (.Call (.Name "enumerate" p) [e] [] p2) δ S := by
  rcases hv with e1 | e1
  · exact i_enumL (h.mono fun d e2 => ⟨ds, by rw [e2, e1], k⟩) F hg h1 h2
  · exact i_enumTup (h.mono fun d e2 => ⟨ds, by rw [e2, e1], k⟩) F hg h1 h2
theorem enD_at {ds : List Dt} {i : Nat} {d : Dt} (h : (enD ds)[i]? = some d) : ∃ x, ds[i]? = some x ∧ d = .tuple [.int ((i : Nat) : Int), x] := by
  have hi : i < ds.length := by
    have := (List.getElem?_eq_some_iff.mp h).1
    rw [enD_length] at this
    exact this
  rw [enD_get (List.getElem?_eq_getElem hi)] at h
  cases h
  exact ⟨_, List.getElem?_eq_getElem hi, rfl⟩
theorem map_get {α : Type} {xs : List α} {F : α → Dt} {i : Nat} {d : Dt} (h : (xs.map F)[i]? = some d) : ∃ x, xs[i]? = some x ∧ d = F x := by
  rw [List.getElem?_map] at h
  cases e : xs[i]? with
  | none => rw [e] at h; cases h
  | some x => rw [e] at h; cases h; exact ⟨x, rfl, rfl⟩
theorem rngD_at {lo : Int} {n i : Nat} {d : Dt} (h : (rngD lo n)[i]? = some d) : i < n ∧ d = .int (lo + (i : Nat)) := by
  have hi : i < n := by
    have := (List.getElem?_eq_some_iff.mp h).1
    rw [rngD_length] at this
    exact this
  rw [rngD_get hi] at h
  exact ⟨hi, (Option.some.inj h).symm⟩
theorem c_chainT {a b c : Expr} {S : Bool → Prop} (h : XD X a δ fun x => XD X b δ fun y => ∃ i j : Int, x = .int i ∧ y = .int j ∧ (i ≤ j → XD X c δ fun z => ∃ k : Int, z = .int k ∧ S (decide (j ≤ k))) ∧ (¬ i ≤ j → S false)) (hlm : lastMarks [CmpOp.LtE, CmpOp.LtE] [b, c] = false := by rfl) : XT X (.Compare a [.LtE, .LtE] [b, c] pos) δ S :=
  PT.imp (pt_chain op_le op_le h (pe_later (δ := δ)) (pe_later (δ := δ)) (hm := hlm)) fun σ H Q ⟨p, B, G, i3, en, q⟩ => ⟨p, B, G, i3, en, fun v d G1 H1 r1 n1 h1 => ⟨_, r1, p, B, G1, i3.nxt n1, en.nxt n1, fun w d2 G2 H2 ⟨i, j, e1, e2, k1, k2⟩ n2 h2 => by
    subst e1; subst e2
    cases h1; cases h2
    refine ⟨i, j, rfl, rfl, _, rfl, ?_⟩
    have n12 := n1.trans n2
    by_cases hle : i ≤ j
    · rw [decide_eq_true hle]
      refine iteT ⟨_, k1 hle, p, B, G2, i3.nxt n12, en.nxt n12, fun w' d3 G3 H3 ⟨k, e3, r⟩ n3 h3 => ?_⟩
      subst e3
      cases h3
      exact ⟨j, k, rfl, rfl, _, rfl, q _ G3 H3 r (n12.trans n3)⟩
    · rw [decide_eq_false hle]
      exact iteF ⟨_, rfl, q _ G2 H2 (k2 hle) n12⟩⟩⟩
theorem c_dict0 (k : R (.dict [])) : XD X (.Dict [] [] pos) δ R := PE.imp pe_dnewK fun σ H Q ⟨p, B, G, i3, en, q⟩ => fun a ha => q (.ref a) _ _ _ k (.new i3 _ ha) (.dct (.inl upd_same))
end
end Dv

set_option linter.all false
set_option maxRecDepth 100000
set_option maxHeartbeats 2000000
namespace Dv
open PySem PySem.Spec PyProof.Rows L2 RZ
/-! ### comprehensions of two clauses -/
def En.plain : En → Bool
  | .own _ => false
  | .own2 _ _ => false
  | _ => true
theorem EnvD.flatEnv {K : Fg} {p : Option Addr} {B G H G' H' : Hp} {σ : L2.St} {δ : De} (h : EnvD K p B G H σ δ) (hp : δ.all En.plain = true) (e : Ex G G') (hr : ∀ a lo hi, p ≠ some a → H a = some (.rng lo hi) → H' a = some (.rng lo hi)) : EnvD K p B G' H' σ δ := by
  have pl : ∀ (i : Nat) en, δ[i]? = some en → en.plain = true := fun i en q => List.all_eq_true.mp hp en (List.mem_of_getElem? q)
  refine ⟨h.len, fun i en q => ?_, fun i j e1 f oi oj a hij q1 _ _ _ f1 _ => ?_⟩
  · obtain ⟨o, a, b⟩ := h.slot i en q
    refine ⟨o, a, ?_⟩
    cases en with
    | no => trivial
    | d x => obtain ⟨v, e1, e2⟩ := b; exact ⟨v, e1, dp_ex e _ _ e2⟩
    | pot => exact b
    | rng lo hi => obtain ⟨a, c1, c2, c3⟩ := b; exact ⟨a, c1, c2, hr a lo hi c2 c3⟩
    | own ds => exact absurd (pl i _ q) (by simp [En.plain])
    | own2 as dss => exact absurd (pl i _ q) (by simp [En.plain])
  · have := pl i e1 q1
    cases e1 with
    | no => exact foot_no f1
    | d x => exact foot_d f1
    | pot => exact foot_pot f1
    | rng lo hi => rcases f1 with ⟨z, _⟩ | z <;> cases z
    | own ds => simp [En.plain] at this
    | own2 as dss => simp [En.plain] at this
structure Turn2 (X : Cx) (elt tg1 : Expr) (scope : Scope) (δ2 δ3 : De) (vs1 : List Nat) (d : Dt) (Y : Dt → Prop) : Prop where
  g : ∀ s H C cl fp, TgD (bX X scope s H C cl fp) tg1 vs1 d (wipeD δ2 vs1) δ3
  e : ∀ s H C cl fp, XD (bX X scope s H C cl fp) elt δ3 Y
theorem yesT {σ : L2.St} {H : Hp} {A B : Hp → Prop} (h : A H) : tYes σ H (fun b H3 => if b = true then A H3 else B H3) := by
  show (if true = true then A H else B H)
  rw [if_pos rfl]; exact h
section
variable {X : Cx} {elt tg iter tg1 iter1 : Expr} {scope : Scope} {own : List (Str × Nat)} {pos : Pos} {δ : De} {R : List Dt → Prop}
theorem xo_comp2 (own : List (Str × Nat)) (vs1 : List Nat) (ok : BlkOk X.N X.env.scope scope own) (hi : XI X tg iter δ fun ds => ds.length ≤ 100000 ∧ ∃ Iv : Nat → List Dt → Prop, Iv 0 [] ∧
      (∀ (i : Nat) d out, ds[i]? = some d → Iv i out → ∃ δ2 es, (∀ s H C cl fp, TgD (bX X scope s H C cl fp) tg (own.map (·.2)) d (wipeD δ (own.map (·.2))) δ2) ∧ δ2.all En.plain = true ∧ (∀ s H C cl fp, XI (bX X scope s H C cl fp) tg1 iter1 δ2 fun x => x = es) ∧
        ∃ Jv : Nat → List Dt → Prop, Jv 0 out ∧ (∀ (j : Nat) d1 out1, es[j]? = some d1 → Jv j out1 → out1.length < 100000 ∧ ∃ δ3, Turn2 X elt tg1 scope δ2 δ3 vs1 d1 fun y => Jv (j + 1) (out1 ++ [y])) ∧ ∀ out1, Jv es.length out1 → Iv (i + 1) out1) ∧ ∀ out, Iv ds.length out → R out)
    (hN : X.N.Nodup := by assumption) (hv : ∀ i ∈ vs1, i ∈ own.map (·.2) := by decide) (hc : X.calm = true := by rfl) (hs : ∀ x, foldedSetIterable iter X.env x = pure x := by intro _; rfl) (hs1 : ∀ env x, foldedSetIterable iter1 env x = pure x := by intro _ _; rfl) : XO X (.ListComp elt [⟨tg, iter, [], 0⟩, ⟨tg1, iter1, [], 0⟩] scope pos) δ R := by
  have pg : ∀ s H C cl fp, PG (bX X scope s H C cl fp) tg (fun v σ H Q => ∃ d δ2, (∀ s H C cl fp, TgD (bX X scope s H C cl fp) tg (own.map (·.2)) d (wipeD δ (own.map (·.2))) δ2) ∧ rG X.K (own.map (·.2)) d (wipeD δ (own.map (·.2))) δ2 v σ H Q) := fun s H C cl fp =>
    ⟨fun pins s1 σ H1 v u Q I r ⟨d, δ2, t, q⟩ => PG.run (t s H C cl fp) pins s1 σ H1 v u Q I r q⟩
  have pi1 : ∀ s H C cl fp, PI (bX X scope s H C cl fp) tg1 iter1 (fun σ H Q => ∃ δ2 es, (∀ s H C cl fp, XI (bX X scope s H C cl fp) tg1 iter1 δ2 fun x => x = es) ∧ rI X.K δ2 (fun x => x = es) σ H Q) := fun s H C cl fp =>
    ⟨fun pins s1 σ H1 Q I ⟨δ2, es, t, q⟩ => PI.run (t s H C cl fp) pins s1 σ H1 Q I q⟩
  have pg1 : ∀ s H C cl fp, PG (bX X scope s H C cl fp) tg1 (fun v σ H Q => ∃ d δ2 δ3 Y, Turn2 X elt tg1 scope δ2 δ3 vs1 d Y ∧ rG X.K vs1 d (wipeD δ2 vs1) δ3 v σ H Q) := fun s H C cl fp =>
    ⟨fun pins s1 σ H1 v u Q I r ⟨d, δ2, δ3, Y, t, q⟩ => PG.run (t.g s H C cl fp) pins s1 σ H1 v u Q I r q⟩
  have pe : ∀ s H C cl fp, PE (bX X scope s H C cl fp) elt (fun σ H Q => ∃ d δ2 δ3 Y, Turn2 X elt tg1 scope δ2 δ3 vs1 d Y ∧ rX X.K δ3 Y σ H Q) := fun s H C cl fp =>
    ⟨fun pins s1 σ H1 Q I ⟨d, δ2, δ3, Y, t, q⟩ => PE.run (t.e s H C cl fp) pins s1 σ H1 Q I q⟩
  refine PE.imp (pe_lc2 hc hN hi ok hv pg (fun s H C cl fp => pts_nil) pi1 pg1 (fun s H C cl fp => pts_nil) pe hs hs1) fun σ H Q ⟨p, B, G, i3, en, q⟩ => ⟨p, B, G, i3, en, fun J ds G1 H1 ⟨hS, Iv, h0, turn, hR⟩ n yl Dl hD => ?_⟩
  have i31 := i3.nxt n
  have en1 := en.nxt n
  have gD : G1 Dl = none := i31.gh.free hD
  have pD : p ≠ some Dl := pot_ne i31 hD
  refine ⟨fun i m H' => m = ds.length - i ∧ i ≤ ds.length ∧ ∃ G' acc os, Nxt p G1 H1 G' H' ∧ G' Dl = none ∧ H' Dl = some (.lst acc) ∧ DzAll X.K G' acc os ∧ Iv i os, ⟨_, rfl, Nat.zero_le _, G1, [], [], .newH i31 _ hD, gD, upd_same, .nil, h0⟩, ?_⟩
  rintro i m H' ⟨em, hle, G', acc, os, n', gd, hd, ha, iv⟩
  have i3' := i31.nxt n'
  by_cases hlt : i < ds.length
  · obtain ⟨go, yd⟩ := (yl p B G' H' n'.st.1 i3' i).1 hlt
    refine .inr ⟨go, fun H'' => ∃ G' acc os, Nxt p G1 H1 G' H'' ∧ G' Dl = none ∧ H'' Dl = some (.lst acc) ∧ DzAll X.K G' acc os ∧ Iv (i + 1) os, fun H'' k => ⟨_, by omega, rfl, by omega, k⟩, fun x H2 hy => ?_⟩
    obtain ⟨G2, d, e2, n2, hx⟩ := yd x H2 hy
    have n12 := n'.trans n2
    obtain ⟨δ2, es, tg2, hpl, src, Jv, j0, turn1, fin1⟩ := turn i d os e2 iv
    have gd2 : G2 Dl = none := n2.st.2 Dl (nn hd) gd
    have hd2 : H2 Dl = some (.lst acc) := n2.ex Dl _ (by rw [del_ne pD]; exact hd)
    refine ⟨d, δ2, tg2, p, B, G2, i31.nxt n12, (en1.nxt n12).wipes _, hx, fun σ2 en2 ⟨ks', ks⟩ => ⟨?_, ?_⟩⟩
    · refine wipe_same ?_ ks
      rw [ks', wipe_length]
    · refine yesT ?_
      refine ⟨δ2, es, src, p, B, G2, i31.nxt n12, en2, fun J1 es' G3 H3 ees n3 yl1 => ?_⟩
      subst ees
      have n13 := n12.trans n3
      have gd3 : G3 Dl = none := n3.st.2 Dl (nn hd2) gd2
      have hd3 : H3 Dl = some (.lst acc) := n3.ex Dl _ (by rw [del_ne pD]; exact hd2)
      have ha3 := dpAll_ex (n2.st.1.trans n3.st.1) _ _ ha
      have en3 := en2.nxt n3
      refine ⟨fun j m H' => m = es'.length - j ∧ j ≤ es'.length ∧ ∃ G' acc os, Nxt p G1 H1 G' H' ∧ Ex G3 G' ∧ (∀ a o, a ≠ Dl → p ≠ some a → H3 a = some o → H' a = some o) ∧ G' Dl = none ∧ H' Dl = some (.lst acc) ∧ DzAll X.K G' acc os ∧ Jv j os, ⟨_, rfl, Nat.zero_le _, G3, acc, os, n13, Ex.refl _, (fun a o _ _ h => h), gd3, hd3, ha3, j0⟩, ?_⟩
      rintro j k H4 ⟨ek, hj, G4, acc4, os4, n14, m4, k4, gd4, hd4, ha4, jv⟩
      have i34 := i31.nxt n14
      by_cases hlt1 : j < es'.length
      · obtain ⟨go1, yd1⟩ := (yl1 p B G4 H4 m4 i34 j).1 hlt1
        refine .inr ⟨go1, fun H'' => ∃ G' acc os, Nxt p G1 H1 G' H'' ∧ Ex G3 G' ∧ (∀ a o, a ≠ Dl → p ≠ some a → H3 a = some o → H'' a = some o) ∧ G' Dl = none ∧ H'' Dl = some (.lst acc) ∧ DzAll X.K G' acc os ∧ Jv (j + 1) os, fun H'' k => ⟨_, by omega, rfl, by omega, k⟩, fun x5 H5 hy5 => ?_⟩
        obtain ⟨G5, d1, e5, n5, hx5⟩ := yd1 x5 H5 hy5
        obtain ⟨small, δ3, t3⟩ := turn1 j d1 os4 e5 jv
        have n15 := n14.trans n5
        have m5 := m4.trans n5.st.1
        have k5 : ∀ a o, a ≠ Dl → p ≠ some a → H3 a = some o → H5 a = some o := fun a o h1 h2 h3 => n5.ex a o (by rw [del_ne h2]; exact k4 a o h1 h2 h3)
        have gd5 : G5 Dl = none := n5.st.2 Dl (nn hd4) gd4
        have hd5 : H5 Dl = some (.lst acc4) := n5.ex Dl _ (by rw [del_ne pD]; exact hd4)
        have ha5 := dpAll_ex n5.st.1 _ _ ha4
        refine ⟨d1, δ2, δ3, _, t3, p, B, G5, i31.nxt n15, (en3.flatEnv hpl m5 fun a lo hi hpa ha => k5 a _ (fun z => by subst z; rw [hd3] at ha; cases ha) hpa ha).wipes _, hx5, fun σ3 en6 ⟨ls', ls⟩ => ⟨?_, ?_⟩⟩
        · refine wipe_same ?_ ls
          rw [ls', wipe_length]
        · refine yesT ?_
          refine ⟨d1, δ2, δ3, _, t3, p, B, G5, i31.nxt n15, en6, fun y dy G6 H6 ry n6 hy6 => ?_⟩
          have gd6 : G6 Dl = none := n6.st.2 Dl (nn hd5) gd5
          have hd6 : H6 Dl = some (.lst acc4) := n6.ex Dl _ (by rw [del_ne pD]; exact hd5)
          have ha6 := dpAll_ex n6.st.1 _ _ ha5
          have n16 := n15.trans n6
          have m6 := m5.trans n6.st.1
          have put : ∀ {G0 H0 : Hp}, Nxt p G0 H0 G6 H6 → (∀ a o, del p H0 a = some o → a ≠ Dl) → Nxt p G0 H0 G6 (upd H6 Dl (.lst (acc4 ++ [y]))) := fun {G0 H0} nn0 hne => ⟨nn0.st, fun a o h => by
            rw [upd_ne (hne a o h)]; exact nn0.ex a o h, nn0.gh.mut gd6, fun z hz => by
            have : z ≠ Dl := fun w => pD (by rw [hz, w])
            rw [upd_ne this]; exact nn0.pot z hz⟩
          refine ⟨acc4, hd6, ?_, G6, acc4 ++ [y], os4 ++ [dy], put n16 (fun a o h => ne_of_none (del_le h).1 hD), m6, (fun a o h1 h2 h3 => by rw [upd_ne h1]; exact n6.ex a o (by rw [del_ne h2]; exact k5 a o h1 h2 h3)), gd6, upd_same, dpAll_append ha6 (.cons hy6 .nil), ry⟩
          · rw [dpAll_length ha6]
            exact Nat.lt_of_lt_of_le small (by decide)
      · have e : j = es'.length := by omega
        subst e
        exact .inl ⟨(yl1 p B G4 H4 m4 i34 _).2 rfl, G4, acc4, os4, n14, gd4, hd4, ha4, fin1 os4 jv⟩
  · have e : i = ds.length := by omega
    subst e
    exact .inl ⟨(yl p B G' H' n'.st.1 i3' _).2 rfl, q Dl acc os G' H' (hR os iv) (n.trans n') (back_none n hD) gd pD hd ha⟩
end
section
variable {X : Cx} {elt tg iter tg1 iter1 : Expr} {scope : Scope} {own : List (Str × Nat)} {pos p : Pos} {δ : De} {R : Dt → Prop}
theorem c_allOk2 {p2 : Pos} (own : List (Str × Nat)) (vs1 : List Nat) (ok : BlkOk X.N X.env.scope scope own) (hi : XI X tg iter δ fun ds => ds.length ≤ 200 ∧
      (∀ (i : Nat) d, ds[i]? = some d → ∃ δ2 es, (∀ s H C cl fp, TgD (bX X scope s H C cl fp) tg (own.map (·.2)) d (wipeD δ (own.map (·.2))) δ2) ∧ δ2.all En.plain = true ∧ (∀ s H C cl fp, XI (bX X scope s H C cl fp) tg1 iter1 δ2 fun x => x = es) ∧ es.length ≤ 200 ∧
        ∀ (j : Nat) d1, es[j]? = some d1 → ∃ δ3, Turn2 X elt tg1 scope δ2 δ3 vs1 d1 fun y => y = .bool true) ∧ R (.bool true))
    (hN : X.N.Nodup := by assumption) (F : Free X.mg := by assumption) (hv : ∀ i ∈ vs1, i ∈ own.map (·.2) := by decide) (hg : Gl X "all" := by rfl) (hc : X.calm = true := by rfl) (hs : ∀ x, foldedSetIterable iter X.env x = pure x := by intro _; rfl) (hs1 : ∀ env x, foldedSetIterable iter1 env x = pure x := by intro _ _; rfl)
    (h1 : starEach [.ListComp elt [⟨tg, iter, [], 0⟩, ⟨tg1, iter1, [], 0⟩] scope pos] X.env = (false, eval (.ListComp elt [⟨tg, iter, [], 0⟩, ⟨tg1, iter1, [], 0⟩] scope pos) X.env) :: starEach [] X.env := by rfl) (h2 : starEach [.ListComp elt [⟨tg, iter, [], 0⟩, ⟨tg1, iter1, [], 0⟩] scope pos] X.env = [.ListComp elt [⟨tg, iter, [], 0⟩, ⟨tg1, iter1, [], 0⟩] scope pos].map fun e => (false, eval e X.env) := by rfl) :
    XD X (.Call (.Name "all" p) [.ListComp elt [⟨tg, iter, [], 0⟩, ⟨tg1, iter1, [], 0⟩] scope pos] [] p2) δ R :=
  c_all (c_o (xo_comp2 own vs1 ok (PI.imp hi fun σ H Q ⟨p, B, G, i3, en, q⟩ => ⟨p, B, G, i3, en, fun J ds G' H' ⟨hl, turn, fin⟩ => q J ds G' H' ⟨by omega, fun i out => out.length ≤ 200 * i ∧ ∀ d ∈ out, d = .bool true, ⟨by simp, by simp⟩, fun i d out hd iv => by
    obtain ⟨δ2, es, t1, t2, t3, t4, t5⟩ := turn i d hd
    have hi : i < ds.length := (List.getElem?_eq_some_iff.mp hd).1
    refine ⟨δ2, es, t1, t2, t3, fun j out => out.length ≤ 200 * i + j ∧ ∀ d ∈ out, d = .bool true, ⟨by omega, iv.2⟩, fun j d1 out1 hd1 jv => ?_, fun out1 jv => ⟨by omega, jv.2⟩⟩
    have hj : j < es.length := (List.getElem?_eq_some_iff.mp hd1).1
    obtain ⟨δ3, u⟩ := t5 j d1 hd1
    exact ⟨by omega, δ3, u.g, fun s H C cl fp => (u.e s H C cl fp).mono fun y hy => ⟨by rw [List.length_append, List.length_singleton]; omega, fun d hd => by
      rcases List.mem_append.mp hd with h | h
      · exact jv.2 d h
      · rw [List.mem_singleton.mp h]; exact hy⟩⟩, fun out iv => f_allT iv.2 fin hc⟩⟩) hN hv hc hs hs1)) F hg h1 h2
end
theorem g_sub {X : Cx} {tg : Expr} {js ks : List Nat} {d : Dt} {δ δ1 : De} (h : TgD X tg js d δ δ1) (hs : js.all (fun i => ks.contains i) = true) : TgD X tg ks d δ δ1 :=
  PG.imp h fun v σ H Q ⟨p, B, G, i3, en, hv, q⟩ => ⟨p, B, G, i3, en, hv, fun σ' e ⟨l, k⟩ => q σ' e ⟨l, fun i hi => k i fun z => hi (by simpa using List.all_eq_true.mp hs i z)⟩⟩
/-! ### a range in a name -/
section
variable {X : Cx} {tg e a b : Expr} {rest : List Stmt} {δ : De} {o : Out} {p pos spos pos' xp : Pos} {S : List Dt → Prop} {x : Str} {i : Nat}
theorem s_rng1 {F : Int → De} (hi : Nx X.N x i) (hF : ∀ j, SetR δ i (.rng 0 j) (F j)) (h : XD X e δ fun d => ∃ j : Int, d = .int j ∧ SsD X rest (F j) o) (Fr : Free X.mg := by assumption) (hN : X.N.Nodup := by assumption) (hx : Loc X.env.scope x := by first | exact Or.inl rfl | exact Or.inr rfl)
    (hs : swapsWith (.Call (.Name "range" p) [e] [] pos) (some (.Name x pos')) spos.line X.env = pure false := by rfl) (hf : X.fn x = true ∨ X.env.scope.names.lookup x = some .local := by first | exact .inl rfl | exact .inr rfl | assumption) (hg : Gl X "range" := by rfl) (h1 : starEach [e] X.env = (false, eval e X.env) :: starEach [] X.env := by rfl) :
    SsD X (.Assign [.Name x pos'] (.Call (.Name "range" p) [e] [] pos) spos :: rest) δ o := by
  have hc : CallR X (.type "range") (fun vs H Q => ∃ j, vs = [V.int j] ∧ ∀ q, H q = none → Q (.ref q) (upd H q (.rng 0 j))) := by
    intro pins s σ H vs us Q I r h
    obtain ⟨j, rfl, q⟩ := h
    obtain ⟨u, rfl, ru⟩ := r.one
    obtain ⟨t, rfl⟩ := ru
    refine call_range_1 ⟨.ref s.heap.objs.size, upd H s.heap.objs.size (.rng 0 j), I.laid (fun b o e => Heap.get?_push_of_some _ e) (Nat.le_refl _) ?_, rfl, q _ (I.hok.fresh (Nat.le_refl _))⟩
    exact ⟨_, _, _, Heap.get?_push_size _ rfl⟩
  refine ss_seq (N := fun δ' => SsD X rest δ' o) ?_ fun δ' h => h
  refine PS.imp (ps_set hN hi.eq hx (pe_callTy hc hg (Fr "range" (by decide +kernel)) (by decide +kernel) (pa_cons h pa_nil h1) (he := h1)) hs hf) fun D σ H ⟨p, B, G, i3, en, q⟩ => ⟨p, B, G, i3, en, fun v d G' H' ⟨j, r, k⟩ n hv => ?_⟩
  subst r
  cases hv
  refine ⟨j, rfl, fun l hl => ?_⟩
  have i3' := i3.nxt n
  have n2 := n.trans (Nxt.newH i3' (.rng 0 j) hl)
  refine q.nx _ _ G' _ k (n2.stepB i3) (i3.nxt n2) ?_
  rw [← (hF j).eq]
  exact (en.nxt n2).put (en := .rng 0 j) ⟨l, rfl, pot_ne i3' hl, upd_same⟩ fun a z => by rcases z with ⟨z, _⟩ | z <;> cases z
theorem i_rngV {lo hi : Int} (hN : Nx X.N x i) (hs : δ[i]? = some (.rng lo hi)) (hb : -(2 ^ 62) ≤ lo ∧ lo < 2 ^ 62 ∧ -(2 ^ 62) ≤ hi ∧ hi < 2 ^ 62) (k : S (rngD lo (hi - lo).toNat))
    (hv : Vis X.env.scope x := by first | exact Or.inl rfl | exact Or.inr (Or.inl rfl) | exact Or.inr (Or.inr rfl)) (hd : (x == ("__debug__" : Str)) = false := by decide) (hcd : (x == ("__classdict__" : Str)) = false := by decide) : XI X tg (.Name x xp) δ S := by
  have hp : PI X tg (.Name x xp) (fun σ H R => (∃ v, σ[i]? = some (some v) ∧ (fun v H1 => ∃ a, v = .ref a ∧ H1 a = some (.rng lo hi) ∧ R (Itr lo (hi - lo).toNat) H1) v H)) := by
    refine ⟨fun pins s σ H R I h => ?_⟩
    refine thn ((pe_var (pos := xp) hN.eq hv hd hcd).run pins s σ H (fun v H1 => ∃ a, v = .ref a ∧ H1 a = some (.rng lo hi) ∧ R (Itr lo (hi - lo).toNat) H1) I h) fun v s1 ⟨x, H1, I1, r1, q1⟩ => ?_
    obtain ⟨a, e, hq, q⟩ := q1
    subst e
    cases r1
    obtain ⟨t, u, w, rec⟩ : ∃ t u v, s1.heap.get? a = some { cls := .type "range", data := .fields #[.int lo t, .int hi u, .int 1 v] } := I1.hok a _ hq
    refine wpAny_pyIter_range (show IsRange s1.heap a lo hi 1 t u w from rec) (small_one hb.1 hb.2.1 hb.2.2.1 hb.2.2.2) ?_
    refine ⟨s1.heap.objs.size, [s1.heap.objs.size], _, _, H1, rfl, I1.kept (t' := s1.toks) fun b o e => Heap.get?_push_of_some _ e, turn_range _ lo (hi - lo).toNat, ?_, fun b hb => ?_, q⟩
    · have e1 : lo + ((0 : Nat) : Int) * 1 = lo := by simp
      have e2 : (((hi - lo).toNat : Nat) : Int) - ((0 : Nat) : Int) = Builtin.Range.rangeSize lo hi 1 := by rw [rangeSize_one]; split <;> omega
      show IsRangeIter _ _ (lo + ((0 : Nat) : Int) * 1) ((((hi - lo).toNat : Nat) : Int) - ((0 : Nat) : Int)) 1
      rw [e1, e2]
      exact Heap.get?_push_size _ rfl
    · have e : b = s1.heap.objs.size := by simpa using hb
      subst e
      exact I1.fpOk (Nat.le_refl _) (I1.hok.fresh (Nat.le_refl _))
  exact PI.imp hp fun σ H Q ⟨p, B, G, i3, en, q⟩ => by
    obtain ⟨o, h1, a, rfl, h2, h3⟩ := en.slot i _ hs
    exact ⟨_, h1, a, rfl, h3, q _ _ G H k (.refl i3) yld_rng⟩
theorem is_rng (h : SsD X (.Assign [.Name x pos'] (.Call (.Name "range" p) [e] [] pos) spos :: rest) δ o) : SsD X (.Assign [.Name x pos'] (.Call (.Name "range" p) [e] [] pos) spos :: rest) δ o := h
theorem is_src (h : XI X tg (.Name x xp) δ S) : XI X tg (.Name x xp) δ S := h
end
end Dv

set_option linter.all false
set_option maxRecDepth 100000
set_option maxHeartbeats 2000000
namespace Dv
open PySem PySem.Spec PyProof.Rows L2 RZ
/-! ### sum of a tuple -/
theorem sum_rawT {prog : Program} {w : World} {A : Around} {E : Value → Shared → Prop} {s : Shared} {Q : Value → Shared → Prop} {l : Addr} {its : List Value} {ns : List Int} (hh : A.handled = none) (hl : s.heap.IsTuple l its.toArray) (hi : IntsAre its ns)
    (h : ∀ h' tk t', (∀ b o, s.heap.get? b = some o → h'.get? b = some o) → Q (.int ns.sum t') { s with heap := h', toks := tk }) : wpAny (model prog w) A (call (.builtin "sum") [.ref l]) Q E s := by
  obtain ⟨xs, e⟩ := hi.allInts.items
  have hn : numsOf (intItems xs).toList = ns := by rw [← e]; exact hi.numsOf
  rw [nums_intItems] at hn
  rw [e] at hl
  have hlt : l < s.heap.objs.size := by obtain ⟨_, z, _⟩ := hl; exact Heap.lt_size z
  refine call_sum_walkG (wpAny_pyIter_tuple hl ⟨_, _, _, _, _, _, numAt xs, rfl, Walks.tuple (A := A.in1) hh _ l (Nat.ne_of_lt hlt) (intItems xs), ⟨⟨_, Heap.get?_push_size _ rfl, rfl, rfl⟩, hl.push _⟩, fun b hb => ?_, (fun _ _ => intItems_at), fun h' tk t' hk => ?_⟩)
  · rw [Heap.size_push]
    simp at hb
    rcases hb with e | e
    · rw [e]; exact Nat.lt_succ_self _
    · rw [e]; exact Nat.lt_succ_of_lt hlt
  · have := h h' tk t' fun b o q => hk b o (by simp; exact Nat.ne_of_lt (Heap.lt_size q)) (Heap.get?_push_of_some _ q)
    rw [preSum_eq, List.take_of_length_le (by simp [intItems]), hn]
    exact this
section
variable {X : Cx} {R : Dt → Prop}
theorem f_sumT {ns : List Int} (k : R (.int ns.sum)) (hc : X.calm = true := by rfl) : CallP X (.builtin "sum") [.tuple (ns.map PyData.int)] R :=
  ⟨fun vs H Q => ∃ (a : Addr) (ns : List Int), vs = [V.ref a] ∧ SqT X.K H a (ns.map V.int) ∧ Q (.int ns.sum) H, fun pins s σ H vs us Q I r h => by
    obtain ⟨a, ns, rfl, hs, q⟩ := h
    obtain ⟨its, rv, hl, _⟩ := I.tuple hs
    rw [Vals.ref1 r]
    exact sum_rawT (I.ok.hd hc) hl rv.ints fun h' tk t' hk => ⟨.int _, H, I.kept hk, ⟨_, rfl⟩, q⟩, fun p B G H vs i3 hv Q q => by
    obtain ⟨v, rfl, h⟩ := one_of hv
    cases h with
    | tup hs ha =>
      have e := dpAll_ints ha
      subst e
      exact ⟨_, ns, rfl, ex_t i3.gh hs, q _ _ G H k (.refl i3) (.int _)⟩⟩
end
end Dv

set_option linter.all false
set_option maxRecDepth 100000
set_option maxHeartbeats 4000000
namespace Dv
open PySem PySem.Spec PyProof.Rows L2 RZ
section
variable {X : Cx} {δ : De} {e : Expr} {o : Out} {pos : Pos} {ds : List Dt} {R : List Dt → Prop} {N : De → Prop} {rest : List Stmt} {x : Str} {i : Nat}
/-- x.extend(e), e a new list -/
theorem sd_ext (i : Nat) {x : Str} {apos cpos np : Pos} (hs : δ[i]? = some (.own ds)) (he : XO X e δ R) (hR : ∀ es, R es → ds.length + es.length ≤ 100000 ∧ N (δ.set i (.own (ds ++ es)))) (hN : X.N[i]? = some x := by rfl)
    (hv : Vis X.env.scope x := by first | exact Or.inl rfl | exact Or.inr (Or.inl rfl) | exact Or.inr (Or.inr rfl)) (hd : (x == ("__debug__" : Str)) = false := by decide) (hcd : (x == ("__classdict__" : Str)) = false := by decide)
    (hbase : attributeBase (.Name x np) "extend" X.env (eval (.Name x np) X.env) = eval (.Name x np) X.env := by rfl)
    (hfew : ((backTo cpos (starEach [e] X.env)).all (fun x => !x.1) && (backToKw cpos (keywordEach [] X.env)).all (fun x => x.1.isSome) && decide (([e] : List Expr).length + ([] : List Keyword).length + (if ([] : List Keyword).isEmpty then 0 else 1) < 30)) = true := by rfl)
    (hline : (apos.endLine == cpos.line) = true := by rfl) (hst : starEach [e] X.env = [(false, eval e X.env)] := by rfl) (hsw : swapsWith (.Call (.Attribute (.Name x np) "extend" apos) [e] [] cpos) none pos.line X.env = pure false := by rfl) :
    SD X (.Expr (.Call (.Attribute (.Name x np) "extend" apos) [e] [] cpos) pos) δ { o with nx := N } := by
  refine PS.imp (ps_expr (pe_bm PySem.F.plainAttrs_list PySem.F.slot_list_extend PySem.F.type_list_extend mt_extend (pe_var hN hv hd hcd) (pa_cons he pa_nil (by rw [hst]; rfl)) hbase hfew hline hst rfl) hsw) fun D σ H ⟨p, B, G, i3, en, q⟩ => ?_
  obtain ⟨o', h1, l, xs, rfl, h2, h3, h4, h5, h6⟩ := en.slot i _ hs
  refine ⟨_, h1, .inl ⟨rfl, xs, .inl (.inl h5)⟩, p, B, G, i3, en, fun l2 zs es G' H' r n h0 g pl hl ha => ?_⟩
  have en' := en.nxt n
  have i3' := i3.nxt n
  have g' : G' l = none := n.st.2 l (nn h5) h3
  have h5' : H' l = some (.lst xs) := n.ex _ _ (by rw [del_ne h4]; exact h5)
  have rr := hR es r
  refine ⟨l, l2, xs, zs, rfl, rfl, h5', hl, by rw [dpAll_length h6, dpAll_length ha]; exact Nat.le_trans rr.1 (by decide), q.nx _ σ G' _ rr.2 (n.stepB i3) ⟨i3'.bh.mut h2, i3'.gh.mut g', fun z hz' => ?_⟩ (en'.app hs h1 (dpAll_append (dpAll_ex n.st.1 _ _ h6) ha))⟩
  obtain ⟨a1, a2, a3, a4, a5, a6⟩ := i3'.pot z hz'
  have : z ≠ l := fun w => h4 (by rw [hz', w])
  exact ⟨a1, a2, a3, a4, by rw [upd_ne this]; exact a5, a6⟩
theorem s_extend {apos cpos np : Pos} {F : List Dt → De} (hi : Nx X.N x i) (hs : δ[i]? = some (.own ds)) (hF : ∀ es, SetR δ i (.own (ds ++ es)) (F es)) (h : XO X e δ fun es => ds.length + es.length ≤ 100000 ∧ SsD X rest (F es) o)
    (hv : Vis X.env.scope x := by first | exact Or.inl rfl | exact Or.inr (Or.inl rfl) | exact Or.inr (Or.inr rfl)) (hd : (x == ("__debug__" : Str)) = false := by decide) (hcd : (x == ("__classdict__" : Str)) = false := by decide)
    (hbase : attributeBase (.Name x np) "extend" X.env (eval (.Name x np) X.env) = eval (.Name x np) X.env := by rfl)
    (hfew : ((backTo cpos (starEach [e] X.env)).all (fun x => !x.1) && (backToKw cpos (keywordEach [] X.env)).all (fun x => x.1.isSome) && decide (([e] : List Expr).length + ([] : List Keyword).length + (if ([] : List Keyword).isEmpty then 0 else 1) < 30)) = true := by rfl)
    (hline : (apos.endLine == cpos.line) = true := by rfl) (hst : starEach [e] X.env = [(false, eval e X.env)] := by rfl) (hsw : swapsWith (.Call (.Attribute (.Name x np) "extend" apos) [e] [] cpos) none pos.line X.env = pure false := by rfl) :
    SsD X (.Expr (.Call (.Attribute (.Name x np) "extend" apos) [e] [] cpos) pos :: rest) δ o :=
  ss_seq (N := fun δ' => SsD X rest δ' o) (sd_ext i hs h (fun es k => ⟨k.1, by rw [(hF es).eq]; exact k.2⟩) hi.eq hv hd hcd hbase hfew hline hst hsw) fun δ' h => h
end
end Dv

set_option linter.all false
set_option maxRecDepth 100000
set_option maxHeartbeats 4000000
namespace Dv
open PySem PySem.Spec PyProof.Rows L2 RZ
section
variable {X : Cx} {ds : List Dt} {R : Dt → Prop} {K : Fg} {H : Hp}
theorem dzAll_rep {vs : List V} (h : DzAll K H vs ds) : ∀ n : Nat, DzAll K H (List.replicate n vs).flatten (List.replicate n ds).flatten
  | 0 => .nil
  | n + 1 => by
    rw [List.replicate_succ, List.replicate_succ, List.flatten_cons, List.flatten_cons]
    exact dpAll_append h (dzAll_rep h n)
theorem bp_repT {k : Int} (h0 : ds ≠ []) (hl : ds.length ≤ 1000) (k2 : 2 ≤ k) (k1 : k ≤ 1000) (r : R (.tuple (List.replicate k.toNat ds).flatten)) : BinP X .Mult (.tuple ds) (.int k) R := ⟨_, op_repT, by
  intro p B G H v w i3 h1 h2 Q q
  cases h2
  cases h1 with
  | tup hs ha => exact ⟨_, _, _, rfl, rfl, ex_t i3.gh hs, fun e => h0 (by subst e; cases ha; rfl), k2, k1, by rw [dpAll_length ha]; exact hl, fun l hl => q _ _ _ _ r (.new i3 _ hl) (.tup (.inl (.inl upd_same)) (dpAll_ex (Ex.new (i3.gh.free hl)) _ _ (dzAll_rep ha _)))⟩⟩
end
end Dv

set_option linter.all false
set_option maxRecDepth 100000
set_option maxHeartbeats 4000000
namespace Dv
open PySem PySem.Spec PyProof.Rows L2 RZ
section
variable {X : Cx} {δ : De} {e : Expr} {S : Bool → Prop}
/-- a list as a test -/
theorem t_list (h : XD X e δ fun d => ∃ ds, d = .list ds ∧ S (!ds.isEmpty)) (he : ∀ whole, isTrue e X.env whole = (do let v ← whole; standAt e.pos; holding [v] (truthy v)) := by intro _; rfl) : XT X e δ S := PT.imp (pt_truth h he) fun σ H Q ⟨p, B, G, i3, en, q⟩ =>
  ⟨p, B, G, i3, en, fun v d G' H' ⟨ds, r, k⟩ n hv => by
    subst r
    cases hv with
    | lst hs ha => exact ⟨!ds.isEmpty, .inl ⟨_, exl (i3.nxt n).gh hs, by cases ha <;> rfl⟩, q _ G' H' k n⟩⟩
end
end Dv

set_option linter.all false
set_option maxRecDepth 100000
set_option maxHeartbeats 4000000
namespace Dv
open PySem PySem.Spec PyProof.Rows L2 RZ
section
variable {X : Cx} {sts rest : List Stmt} {a b c e : Expr} {δ δ' : De} {o : Out} {d : Dt} {ds : List Dt} {pos p sp np : Pos} {k j : Int} {x y : Str} {i : Nat} {R S : List Dt → Prop}
/-- x[b] = v, x a list of the def's own -/
theorem tx_own {jj : Nat} (hi : Nx X.N x i) (hs : δ[i]? = some (.own ds)) (hb : PD X b δ (.int j)) (hj : ixN ds.length j = some jj) (hS : SetR δ i (.own (ds.set jj d)) δ') (hv : Vis X.env.scope x := by first | exact Or.inl rfl | exact Or.inr (Or.inl rfl) | exact Or.inr (Or.inr rfl)) (hd : (x == ("__debug__" : Str)) = false := by decide)
    (hcd : (x == ("__classdict__" : Str)) = false := by decide)
    (hasg : ∀ v, assign (.Subscript (.Name x np) b pos) X.env v = (do
      let ov ← holding [v] (eval (.Name x np) X.env)
      let iv ← holding [v, ov] (eval b X.env)
      standAt pos
      holding [v, ov, iv] (setItem ov iv v)
      release [v, ov, iv] []) := by intro _; rfl) : TgX X (.Subscript (.Name x np) b pos) d δ δ' := by
  rw [← hS.eq]
  exact PG.imp (pg_sub (pe_var hi.eq hv hd hcd) hb set_list hasg) fun v σ H Q ⟨p, B, G, i3, en, hv', q⟩ => by
    obtain ⟨o', h1, l, xs, rfl, h2, h3, h4, h5, h6⟩ := en.slot i _ hs
    refine ⟨_, h1, p, B, G, i3, en, fun u dd G1 H1 r1 n1 hv1 => ?_⟩
    subst r1
    cases hv1
    have h51 : H1 l = some (.lst xs) := n1.ex _ _ (by rw [del_ne h4]; exact h5)
    have g1 : G1 l = none := n1.st.2 l (nn h5) h3
    have i31 := i3.nxt n1
    have h61 := dpAll_ex n1.st.1 _ _ h6
    have hset : DzAll X.K G1 (xs.set jj v) (ds.set jj d) := dzAll_of_get (by rw [List.length_set, List.length_set]; exact dpAll_length h6) fun t x' d' k1 k2 => by
      by_cases ht : jj = t
      · subst ht
        have hl : jj < xs.length := by have := (List.getElem?_eq_some_iff.mp k1).1; rwa [List.length_set] at this
        have hl2 : jj < ds.length := by have := (List.getElem?_eq_some_iff.mp k2).1; rwa [List.length_set] at this
        rw [List.getElem?_set_self hl] at k1
        rw [List.getElem?_set_self hl2] at k2
        cases k1; cases k2
        exact dp_ex n1.st.1 _ _ hv'
      · rw [List.getElem?_set_ne ht] at k1 k2
        obtain ⟨d3, e1, e2⟩ := dpAll_get' h61 k1
        rw [e1] at k2
        cases k2
        exact e2
    refine ⟨l, xs, j, jj, rfl, rfl, h51, by rw [dpAll_length h6]; exact hj, q σ G1 _ (n1.stepB i3) ⟨i31.bh.mut h2, i31.gh.mut g1, fun z hz => ?_⟩ ((en.nxt n1).app hs h1 hset)⟩
    obtain ⟨a1, a2, a3, a4, a5, a6⟩ := i31.pot z hz
    have : z ≠ l := fun w => h4 (by rw [hz, w])
    exact ⟨a1, a2, a3, a4, by rw [upd_ne this]; exact a5, a6⟩
theorem SetR.lt {δ δ' : De} {i : Nat} {en : En} (h : SetR δ i en δ') : i < δ.length := by
  induction h with
  | z => simp
  | s _ ih => simpa using ih
/-- targets that write into own lists -/
theorem s_unpX {tg : Expr} (h : XD X e δ fun d => ∃ δ', TgX X tg d δ δ' ∧ SsD X rest δ' o) (hs : swapsWithSole [tg] e pos.line X.env = pure false := by rfl) (hw : swappedStores [tg] e X.env = pure none := by rfl)
    (h1 : (assignEach [tg] X.env).map (·.2) = [assign tg X.env] := by rfl) : SsD X (.Assign [tg] e pos :: rest) δ o := by
  have pg : PG X tg (fun v σ H Q => ∃ d δ', TgX X tg d δ δ' ∧ SsD X rest δ' o ∧ rGX X.K d δ δ' v σ H Q) := ⟨fun pins s σ H v u Q I r ⟨d, δ', a, _, q⟩ => PG.run a pins s σ H v u Q I r q⟩
  refine ss_seq (N := fun δ' => SsD X rest δ' o) ?_ fun δ' h => h
  exact PS.imp (ps_asg h pg hs hw h1) fun D σ H ⟨p, B, G, i3, en, q⟩ => ⟨p, B, G, i3, en, fun v d G' H' ⟨δ', t, k⟩ n hv => ⟨d, δ', t, k, p, B, G', i3.nxt n, en.nxt n, hv, fun σ' G2 H2 s2 i2 en2 => q.nx _ _ G2 H2 k ((n.stepB i3).trans s2) i2 en2⟩⟩
/-- x, y = a, b, both new lists -/
theorem s_twoO {j : Nat} {px py pt : Pos} {kt k2 pt2} {F : List Dt → De} {G : List Dt → List Dt → De} (hi : Nx X.N x i) (hj : Nx X.N y j) (hF : ∀ d, SetR δ i (.own d) (F d)) (hG : ∀ d d2, SetR (F d) j (.own d2) (G d d2)) (ha : XO X a δ R) (hb : XO X b δ S) (k : ∀ d d2, R d → S d2 → SsD X rest (G d d2) o)
    (hij : i ≠ j := by decide) (hN : X.N.Nodup := by assumption) (hc : X.calm = true := by rfl) (hx : X.env.scope.names.lookup x = some .local := by rfl) (hy : X.env.scope.names.lookup y = some .local := by rfl)
    (hw : swappedStores [.Tuple [.Name x px, .Name y py] kt pt] (.Tuple [a, b] k2 pt2) X.env = pure (some [x, y]) := by rfl) (hs : swapsWithSole [.Tuple [.Name x px, .Name y py] kt pt] (.Tuple [a, b] k2 pt2) pos.line X.env = pure false := by rfl)
    (h1 : starEach [a, b] X.env = (false, eval a X.env) :: starEach [b] X.env := by rfl) (h2 : starEach [b] X.env = (false, eval b X.env) :: starEach [] X.env := by rfl) :
    SsD X (.Assign [.Tuple [.Name x px, .Name y py] kt pt] (.Tuple [a, b] k2 pt2) pos :: rest) δ o := by
  refine ss_seq (N := fun δ' => SsD X rest δ' o) ?_ fun δ' h => h
  exact PS.imp (ps_par hc hN hi.eq hj.eq hij hx hy (pa_cons ha (pa_cons hb pa_nil h2) h1) hw hs) fun D σ H ⟨p, B, G0, i3, en, q⟩ => ⟨p, B, G0, i3, en, fun l xs ds G1 H1 r1 n1 h0 g pl hl ha1 => ⟨p, B, G1, i3.nxt n1, en.nxt n1, fun l2 xs2 ds2 G2 H2 r2 n2 h02 g2 pl2 hl2 ha2 => by
    refine ⟨.ref l, .ref l2, rfl, q.nx _ _ G2 H2 (k ds ds2 r1 r2) ((n1.trans n2).stepB i3) (i3.nxt (n1.trans n2)) ?_⟩
    have e0 := en.putOwn i3 n1 h0 g pl hl ha1 i
    have e1 := e0.putOwn (i3.nxt n1) n2 h02 g2 pl2 hl2 ha2 j
    rw [(hF ds).eq, (hG ds ds2).eq] at e1
    exact e1⟩⟩
end
/-- a promise of a new list is one of data -/
theorem new_data {K : Fg} {H G G' H' : Hp} {l : Addr} {xs : List V} {ds : List Dt} (hg : Ex G H) (s1 : Step H G G') (e2 : Ex G' H') (h1 : H l = none) (h2 : G' l = none) (h3 : H' l = some (.lst xs)) (h4 : DzAll K G' xs ds) : Step H G (upd G' l (.lst xs)) ∧ Ex (upd G' l (.lst xs)) H' ∧ Dz K (upd G' l (.lst xs)) (.ref l) (.list ds) :=
  ⟨⟨s1.1.trans (Ex.new h2), fun a k1 k2 => by
    have : a ≠ l := fun z => k1 (z ▸ h1)
    rw [upd_ne this]; exact s1.2 a k1 k2⟩, fun a o ho => by
    by_cases z : a = l
    · subst z; rw [upd_same] at ho; cases ho; exact h3
    · rw [upd_ne z] at ho; exact e2 a o ho, .lst (.inl (.inl upd_same)) (dpAll_ex (Ex.new h2) _ _ h4)⟩
theorem Cal.ofO {P : Program} {w : World} {K : Fg} {mg : Str → Option Value} {base : Heap} {k : Nat} {x : Str} {ps : List Str} {st : Stmt} {R : List Dt → List Dt → Prop} (C : Cal P w K mg base k x ps st (spO K R)) : Cal P w K mg base k x ps st (spD K fun ds d => ∃ es, R ds es ∧ d = .list es) := by
  obtain ⟨f, fd, F, h⟩ := C.ex
  have go : ∀ vs H Q E, spD K (fun ds d => ∃ es, R ds es ∧ d = .list es) vs H Q E → spO K R vs H Q E := fun vs H Q E ⟨G, ds, d, eg, hv, ⟨es, r, e⟩, q⟩ => ⟨G, ds, es, eg, hv, r, fun l xs G' H' s1 e1 e2 h1 h2 h3 h4 => by
    subst e
    obtain ⟨q1, q2, q3⟩ := new_data eg s1 e2 h1 h2 h3 h4
    exact q _ _ H' q1 e1 q2 q3⟩
  exact ⟨f, fd, ⟨fun vs H Q E z => F.len vs H Q E (go vs H Q E z), fun A outer s H args us vs Q E hr hg en bt va z => F.run A outer s H args us vs Q E hr hg en bt va (go vs H Q E z)⟩, h⟩
/-! ### a list of data, and one list in it that is written to at the end -/
section
variable {X : Cx} {δ δ1 δ2 : De} {o : Out} {i : Nat} {x : Str}
inductive MidS (X : Cx) (δ : De) : List Stmt → List Stmt → Prop
  | done {sts} : MidS X δ sts sts
  | step {c bod pos sts rest} : XT X c δ (fun k => k = false) → MidS X δ sts rest → MidS X δ (.If c bod [] pos :: sts) rest
structure MidI (K : Fg) (p : Option Addr) (B G H0 G' H : Hp) (σ0 σ : L2.St) (δ : De) (i : Nat) (a l : Addr) (xs vs : List V) (ds1 ds2 : List Dt) : Prop where
  i3 : I3 p B G H0
  en : EnvD K p B G H0 σ0 δ
  eq : σ = σ0.set i (some (.ref l))
  n : Nxt p G H0 G' H
  a0 : H0 a = none
  ga : G' a = some (.lst xs)
  gl : G' l = some (.lst (.ref a :: vs))
  da : DzAll K G' xs ds1
  dl : Dz K G' (.ref l) (.list (.list ds1 :: ds2))
def rM (K : Fg) (δ : De) (i : Nat) (ds1 ds2 : List Dt) (o : Out) : TS := fun D σ H => ∃ p B G H0 G' σ0 a l xs vs, MidI K p B G H0 G' H σ0 σ δ i a l xs vs ds1 ds2 ∧ Post K p B G D o
theorem MidI.env {K : Fg} {p : Option Addr} {B G H0 G' H : Hp} {σ0 σ : L2.St} {a l : Addr} {xs vs : List V} {ds1 ds2 : List Dt} (h : MidI K p B G H0 G' H σ0 σ δ i a l xs vs ds1 ds2) : EnvD K p B G' H σ (δ.set i (.d (.list (.list ds1 :: ds2)))) := by
  rw [h.eq]
  exact (h.en.nxt h.n).set h.dl
theorem MidI.go {K : Fg} {p : Option Addr} {B G H0 G' H G2 H2 : Hp} {σ0 σ : L2.St} {a l : Addr} {xs vs : List V} {ds1 ds2 : List Dt} (h : MidI K p B G H0 G' H σ0 σ δ i a l xs vs ds1 ds2) (n : Nxt p G' H G2 H2) : MidI K p B G H0 G2 H2 σ0 σ δ i a l xs vs ds1 ds2 :=
  ⟨h.i3, h.en, h.eq, h.n.trans n, h.a0, n.st.1 _ _ h.ga, n.st.1 _ _ h.gl, dpAll_ex n.st.1 _ _ h.da, dp_ex n.st.1 _ _ h.dl⟩
theorem mid_ps {ds1 ds2 : List Dt} (hF : SetR δ i (.d (.list (.list ds1 :: ds2))) δ1) {mid fin : List Stmt} (m : MidS X δ1 mid fin) (hfin : PSs X fin (rM X.K δ i ds1 ds2 o)) : PSs X mid (rM X.K δ i ds1 ds2 o) := by
  induction m with
  | done => exact hfin
  | @step c bod pos sts fin hc _ ih =>
    have ih := ih hfin
    have z1 : PSs X bod (fun _ _ _ => False) := ⟨fun pins s σ H D I h => h.elim⟩
    refine PSs.imp (pss_cons (ps_if hc z1 pss_nil) ih) fun D σ H ⟨p, B, G, H0, G', σ0, a, l, xs, vs, h, q⟩ => ?_
    have en := h.env
    rw [hF.eq] at en
    refine ⟨p, B, G', h.i3.nxt h.n, en, fun c G2 H2 hc2 n2 => ?_⟩
    subst hc2
    exact iteF ⟨p, B, G, H0, G2, σ0, a, l, xs, vs, h.go n2, q⟩
theorem s_heard {e1 ea : Expr} {es : List Expr} {mid rest : List Stmt} {ds1 ds2 : List Dt} {d : Dt} {lp pos pos' np sp kp apos cpos pos2 : Pos} {jj} (hi : Nx X.N x i) (hF : SetR δ i (.d (.list (.list ds1 :: ds2))) δ1) (hG : SetR δ i .no δ2) (h1 : XO X e1 δ (fun y => y = ds1)) (h2 : PAD X es δ ds2)
    (m : MidS X δ1 mid (.Expr (.Call (.Attribute (.Subscript (.Name x np) (.Constant (.int 0) jj kp) sp) "append" apos) [ea] [] cpos) pos2 :: rest)) (he : PD X ea δ1 d) (hl1 : ds1.length ≤ 10000) (hl2 : ds2.length ≤ 10000) (k : SsD X rest δ2 o)
    (hN : X.N.Nodup := by assumption) (hx : Loc X.env.scope x := by first | exact Or.inl rfl | exact Or.inr rfl) (hs : swapsWith (.List (e1 :: es) lp) (some (.Name x pos')) pos.line X.env = pure false := by rfl) (hf : X.fn x = true ∨ X.env.scope.names.lookup x = some .local := by first | exact .inl rfl | exact .inr rfl | assumption)
    (hst1 : starEach (e1 :: es) X.env = (false, eval e1 X.env) :: starEach es X.env := by rfl)
    (hv : Vis X.env.scope x := by first | exact Or.inl rfl | exact Or.inr (Or.inl rfl) | exact Or.inr (Or.inr rfl)) (hd : (x == ("__debug__" : Str)) = false := by decide) (hcd : (x == ("__classdict__" : Str)) = false := by decide)
    (hbase : attributeBase (.Subscript (.Name x np) (.Constant (.int 0) jj kp) sp) "append" X.env (eval (.Subscript (.Name x np) (.Constant (.int 0) jj kp) sp) X.env) = eval (.Subscript (.Name x np) (.Constant (.int 0) jj kp) sp) X.env := by rfl)
    (hfew : ((backTo cpos (starEach [ea] X.env)).all (fun x => !x.1) && (backToKw cpos (keywordEach [] X.env)).all (fun x => x.1.isSome) && decide (([ea] : List Expr).length + ([] : List Keyword).length + (if ([] : List Keyword).isEmpty then 0 else 1) < 30)) = true := by rfl)
    (hline : (apos.endLine == cpos.line) = true := by rfl) (hst : starEach [ea] X.env = [(false, eval ea X.env)] := by rfl) (hsw : swapsWith (.Call (.Attribute (.Subscript (.Name x np) (.Constant (.int 0) jj kp) sp) "append" apos) [ea] [] cpos) none pos2.line X.env = pure false := by rfl) :
    SsD X (.Assign [.Name x pos'] (.List (e1 :: es) lp) pos :: mid) δ o := by
  have hfin : PSs X (.Expr (.Call (.Attribute (.Subscript (.Name x np) (.Constant (.int 0) jj kp) sp) "append" apos) [ea] [] cpos) pos2 :: rest) (rM X.K δ i ds1 ds2 o) := by
    refine PSs.imp (pss_cons (ps_expr (pe_bm PySem.F.plainAttrs_list PySem.F.slot_list_append PySem.F.type_list_append mt_append (pe_ix ix_list (pe_var hi.eq hv hd hcd) pe_int (fun _ _ => rfl)) (pa_cons he pa_nil (by rw [hst]; rfl)) hbase hfew hline hst rfl) hsw) k) fun D σ H ⟨p, B, G, H0, G', σ0, a, l, xs, vs, h, q⟩ => ?_
    have en := h.env
    obtain ⟨o', k1, v1, rfl, k2⟩ := en.slot i (.d (.list (.list ds1 :: ds2))) (List.getElem?_set_self hF.lt)
    have ev : v1 = .ref l := by
      have hl : i < σ0.length := by
        have := (List.getElem?_eq_some_iff.mp k1).1
        rw [h.eq, List.length_set] at this
        exact this
      rw [h.eq, List.getElem?_set_self hl] at k1
      cases k1; rfl
    subst ev
    have i3' := h.i3.nxt h.n
    have hH : H l = some (.lst (.ref a :: vs)) := i3'.gh _ _ h.gl
    have hA : H a = some (.lst xs) := i3'.gh _ _ h.ga
    rw [hF.eq] at en
    refine ⟨_, k1, l, _, 0, .ref a, rfl, rfl, .inl (.inl hH), atI_nat (j := 0) rfl, .inl ⟨rfl, xs, .inl (.inl hA)⟩, p, B, G', i3', en, fun v d' G2 H2 r n2 hv' => ?_⟩
    have h2 := h.go n2
    have i32 := h.i3.nxt h2.n
    refine ⟨a, xs, v, rfl, rfl, i32.gh _ _ h2.ga, by rw [dpAll_length h.da]; exact Nat.lt_of_le_of_lt hl1 (by decide), ?_⟩
    have ga0 : G a = none := h.i3.gh.free h.a0
    have n3 : Nxt p G H0 G (upd H2 a (.lst (xs ++ [v]))) := by
      refine ⟨Step.refl _ _, fun b u hb => ?_, fun b u hb => ?_, fun z hz => ?_⟩
      · have : b ≠ a := ne_of_none (del_le hb).1 h.a0
        rw [upd_ne this]; exact h2.n.ex b u hb
      · have : b ≠ a := ne_of_none hb ga0
        rw [upd_ne this]; exact i32.gh b u (h2.n.st.1 b u hb)
      · obtain ⟨_, _, u, u', h3, h4⟩ := h.i3.pot z hz
        have : z ≠ a := ne_of_none h3 h.a0
        rw [upd_ne this]; exact h2.n.pot z hz
    refine ⟨p, B, G, h.i3.nxt n3, ?_, q⟩
    have e3 := (h.en.nxt n3).put (i := i) (o := some (.ref l)) (en := .no) trivial fun b f => by rcases f with ⟨z, _⟩ | z <;> cases z
    rw [← h.eq, hG.eq] at e3
    exact e3
  refine PSs.imp (pss_cons (ps_set hN hi.eq hx (pe_lst (pa_cons h1 h2.pa hst1)) hs hf) (mid_ps hF m hfin)) fun D σ H ⟨p, B, G, i3, en, q⟩ => ⟨p, B, G, i3, en, fun a xs ds G1 H1 r n h0 g pl hla ha => ⟨p, B, G1, i3.nxt n, en.nxt n, fun vs dd G2 H2 r2 n2 hv2 => ?_⟩⟩
  subst r
  subst r2
  refine ⟨by show vs.length + 1 ≤ _; rw [dpAll_length hv2]; exact Nat.le_trans (Nat.succ_le_succ hl2) (by decide), fun l hl => ?_⟩
  have n12 := n.trans n2
  have a2 : G2 a = none := n2.st.2 a (nn hla) g
  have hla2 : H2 a = some (.lst xs) := n2.ex _ _ (by rw [del_ne pl]; exact hla)
  obtain ⟨m1, d1⟩ := own_data i3 n12 h0 a2 pl hla2 (dpAll_ex n2.st.1 _ _ ha)
  have i31 := i3.nxt m1
  have gl : upd G2 a (.lst xs) l = none := i31.gh.free hl
  have m2 : Nxt p (upd G2 a (.lst xs)) H2 (upd G2 a (.lst xs)) (upd H2 l (.lst (.ref a :: vs))) := .newH i31 _ hl
  obtain ⟨m3, d2⟩ := own_data (K := X.K) (ds := .list ds :: dd) i31 m2 hl gl (pot_ne i31 hl) upd_same (.cons d1 (dpAll_ex (Ex.new a2) _ _ hv2))
  have al : a ≠ l := fun z => by subst z; rw [hla2] at hl; cases hl
  exact ⟨p, B, G, H, upd (upd G2 a (.lst xs)) l (.lst (.ref a :: vs)), σ, a, l, xs, vs, ⟨i3, en, rfl, m1.trans m3, h0, by rw [upd_ne al, upd_same], upd_same, dpAll_ex (Ex.new gl) _ _ (dpAll_ex (Ex.new a2) _ _ (dpAll_ex n2.st.1 _ _ ha)), d2⟩, q⟩
end
end Dv

set_option linter.all false
set_option maxRecDepth 100000
set_option maxHeartbeats 4000000
namespace Dv
open PySem PySem.Spec PyProof.Rows L2 RZ HT
section
variable {prog : Program} {w : World} {A : Around} {E : Value → Shared → Prop} {s : Shared}
theorem adj_rev (n : Nat) : Builtin.Slice.sliceAdjust none none (-1) (n : Int) = ((n : Int) - 1, -1) := rfl
theorem places_rev (n : Nat) : Builtin.Slice.slicePlaces ((n : Int) - 1) (-1) (-1) = n := by
  unfold Builtin.Slice.slicePlaces
  rw [if_neg (by decide), show (- -1 : Int) = 1 by decide, Int.ediv_one]
  by_cases h : (n : Int) - 1 > -1
  · rw [if_pos h]; omega
  · rw [if_neg h]; omega
theorem applied_rev {sl : Addr} {vl vu vs : Value} {n : Nat} {Q : Int × Int × Nat → Shared → Prop} (hs : s.heap.IsSliceOf sl vl vu vs) (pl : IsPart vl none) (pu : IsPart vu none) (ps : IsPart vs (some (-1))) (h : Q ((n : Int) - 1, -1, n) s) : wpAny (model prog w) A (Builtin.Slice.sliceApplied (.ref sl) (pure (n : Int))) Q E s := by
  obtain ⟨o1, g1, g2, g3⟩ := id hs
  unfold Builtin.Slice.sliceApplied
  unfold Builtin.Slice.sliceFields
  refine wpAny_bind (wpAny_bind (wpAny_field g1 g3 (x := vl) rfl (wpAny_bind (wpAny_field g1 g3 (x := vu) rfl (wpAny_bind (wpAny_field g1 g3 (x := vs) rfl (wpAny_pure (wpAny_bind (slicePart_ ps ?_)))))))))
  show wpAny _ _ (if ((-1 : Int) == 0) = true then _ else _) _ _ s
  rw [if_neg (by decide : ¬ ((-1 : Int) == 0) = true)]
  refine wpAny_bind (slicePart_ pl (wpAny_bind (slicePart_ pu (wpAny_bind (wpAny_pure (?_ : wpAny _ _ (match Builtin.Slice.sliceAdjust none none (-1) (n : Int) with | (lo, hi) => pure (lo, (-1 : Int), Builtin.Slice.slicePlaces lo hi (-1))) _ _ s))))))
  rw [adj_rev]
  show wpAny _ _ (pure ((n : Int) - 1, (-1 : Int), Builtin.Slice.slicePlaces ((n : Int) - 1) (-1) (-1))) _ _ s
  rw [places_rev]
  exact wpAny_pure h
theorem fm_congr {α β : Type} {f g : α → Option β} : ∀ {l : List α}, (∀ x ∈ l, f x = g x) → l.filterMap f = l.filterMap g
  | [], _ => rfl
  | a :: l, h => by rw [List.filterMap_cons, List.filterMap_cons, h a (List.mem_cons_self ..), fm_congr fun x hx => h x (List.mem_cons_of_mem _ hx)]
theorem pick_rev (xs : Array Value) : ((List.range xs.size).filterMap fun (m : Nat) => xs[((xs.size : Int) - 1 + (m : Int) * -1).toNat]?).toArray = xs.toList.reverse.toArray := by
  have h : ((List.range xs.size).filterMap fun (m : Nat) => xs[((xs.size : Int) - 1 + (m : Int) * -1).toNat]?) = ((List.range xs.size).map fun k => xs.size - 1 - k).filterMap (xs[·]?) := by
    rw [List.filterMap_map]
    apply fm_congr
    intro m hm
    have := List.mem_range.mp hm
    show _ = xs[xs.size - 1 - m]?
    rw [show ((xs.size : Int) - 1 + (m : Int) * -1).toNat = xs.size - 1 - m by omega]
  rw [h, PySem.W.krv_range, List.filterMap_reverse, PySem.W.krv_all]
theorem get_rev {t sl : Addr} {xs : Array Value} {vl vu vs : Value} {Q : Value → Shared → Prop} (ht : IsTup s.heap t xs) (hs : s.heap.IsSliceOf sl vl vu vs) (pl : IsPart vl none) (pu : IsPart vu none) (ps : IsPart vs (some (-1)))
    (h : Q (.ref s.heap.objs.size) { s with heap := s.heap.push { cls := .type "tuple", data := .seq xs.toList.reverse.toArray } }) (hz : xs.size ≤ sizeLine) : wpAny (model prog w) A (getItem (.ref t) (.ref sl)) Q E s := by
  have hk : sizeOk (.seq xs.toList.reverse.toArray) := by
    show xs.toList.reverse.toArray.size ≤ sizeLine
    rw [List.size_toArray, List.length_reverse, Array.length_toList]; exact hz
  obtain ⟨o1, g1, g2, g3⟩ := id hs
  have hT : s.TypeIs (.ref sl) "slice" := ⟨o1, g1, g2⟩
  unfold getItem
  try with_reducible refine wpAny_holding ?_
  (try refine wpAny_bind (wpAny_pure ?_))
  refine wpAny_bind (wpAny_sequenceKey ht.typeIs (by decide) (wpAny_bind (wpAny_callSpecial?_slot (name := Str.ofString "__getitem__") ht.typeIs PyProof.Rows.slot_tuple_getitem (wpAny_call_entry PyProof.Rows.slot_tuple_getitem ht.typeIs entry_tuple_getitem ?_ (args_tuple_getitem _ _)))))
  show wpAny _ _ (Builtin.Tuple.tupleItemsOf (Value.ref t) >>= _) _ _ s
  refine wpAny_bind (tupleItemsOf_ ht (wpAny_bind (wpAny_typeOf hT ?_)))
  rw [if_pos (by decide)]
  refine wpAny_bind (applied_rev hs pl pu ps ?_)
  have no : ¬ ((((xs.size : Int) - 1) == 0 && (-1 : Int) == 1 && xs.size == xs.size) = true) := by
    rw [show ((-1 : Int) == 1) = false by decide, Bool.and_false, Bool.false_and]; decide
  show wpAny _ _ (if (((xs.size : Int) - 1) == 0 && (-1 : Int) == 1 && xs.size == xs.size) = true then _ else _) _ _ s
  rw [if_neg no, pick_rev]
  first
    | exact wpAny_bind (m := Builtin.Tuple.tupleExact _) (wpAny_newObj_type (wpAny_pure ⟨_, rfl, wpAny_pure h⟩) hk)
    | exact wpAny_bind (m := Builtin.Tuple.tupleExact _) (wpAny_newObj_type (wpAny_bind (wpAny_pure (wpAny_pure ⟨_, rfl, wpAny_pure h⟩))) hk)
    | exact wpAny_bind (wpAny_bind (m := Builtin.Tuple.tupleExact _) (wpAny_newObj_type (wpAny_pure (wpAny_pure ⟨_, rfl, wpAny_pure h⟩)) hk))
    | exact wpAny_bind (wpAny_bind (m := Builtin.Tuple.tupleExact _) (wpAny_newObj_type (wpAny_pure ⟨_, rfl, wpAny_pure h⟩) hk))
end
/-- t[::-1] of a tuple -/
def tRevT (K : PySem.W.Frag) (te : TE) : TE := fun σ H Q => te σ H fun x H1 => ∃ a xs, x = .ref a ∧ SqT K H1 a xs ∧ ∀ p, H1 p = none → Q (.ref p) (upd H1 p (.tup xs.reverse))
section
variable {X : Cx}
theorem pe_revT {e : Expr} {te : TE} {k : Nat} {p1 p2 p3 pos : Pos} (he : PE X e te) : PE X (.Subscript e (.Slice none none (some (.UnaryOp .USub (.Constant (.int 1) k p1) p2)) p3) pos) (tRevT X.K te) := by
  constructor
  intro pins s σ H Q I h
  refine Subscript_ (thn (he.run pins s σ H _ I h) fun v s1 ⟨x, H1, I1, r1, a, xs, ex, hx, q⟩ => ?_)
  subst ex
  cases r1
  have st : PO X (some (.UnaryOp .USub (.Constant (.int 1) k p1) p2)) (tPart (tUn (rU fun i => .int (-i)) (tC (.int 1)))) := po_some (pe_un un_neg pe_int)
  refine wpAny_Slice (thn (po_none.run pins s1 σ H1 (fun o H2 => o = none ∧ H2 = H1) I1 ⟨rfl, rfl⟩) fun vl s2 ⟨_, _, I2, pl, el, e2⟩ => thn (po_none.run pins s2 σ H1 (fun o H3 => o = none ∧ H3 = H1) (e2 ▸ I2) ⟨rfl, rfl⟩) fun vu s3 ⟨_, _, I3, pu, eu, e3⟩ => thn (st.run pins s3 σ H1 (fun o H4 => o = some (-1) ∧ H4 = H1) (e3 ▸ I3) ⟨1, rfl, -1, rfl, rfl, rfl⟩) fun vs s4 ⟨_, _, I4, ps, eo, e4⟩ => ?_)
  subst el eu eo e2 e3 e4
  have I5 : Inv X pins σ _ { s4 with heap := s4.heap.push { cls := .type "slice", data := .fields #[vl, vu, vs] } } := I4.kept (t' := s4.toks) fun b ob q => Heap.get?_push_of_some _ q
  obtain ⟨its, r, ht, hz⟩ := I5.tuple hx
  have hlen := r.length
  show wpAny (model X.prog X.w) X.A (subscriptTail e (.Slice none none (some (.UnaryOp .USub (.Constant (.int 1) k p1) p2)) p3) (.ref a) (.ref s4.heap.objs.size)) (EP X pins σ Q) X.xe _
  refine tail_any (ops := [.ref a, .ref s4.heap.objs.size]) ht.typeIs (PyProof.Rows.slot_tuple_getitem.lookup) ?_ (by with_unfolding_all rfl)
  refine get_rev ht (Heap.IsSliceOf.new _ vl vu vs) pl pu ps ?_ (by rw [List.size_toArray]; omega)
  refine ⟨.ref _, _, I5.laid (t' := s4.toks) (o := .tup xs.reverse) (fun b ob q => Heap.get?_push_of_some _ q) (Nat.le_refl _) ?_, rfl, q _ (I5.hok.fresh (Nat.le_refl _))⟩
  exact ⟨by rw [List.length_reverse]; exact hz, _, r.reverse, IsTup.new _ _⟩
theorem c_revT {e : Expr} {δ : De} {R : Dt → Prop} {k : Nat} {p1 p2 p3 pos : Pos} (h : XD X e δ fun d => ∃ ds, d = .tuple ds ∧ R (.tuple ds.reverse)) : XD X (.Subscript e (.Slice none none (some (.UnaryOp .USub (.Constant (.int 1) k p1) p2)) p3) pos) δ R :=
  PE.imp (pe_revT h) fun σ H Q ⟨p, B, G, i3, en, q⟩ => ⟨p, B, G, i3, en, fun v d G' H' ⟨ds, e, r⟩ n hv => by
    subst e
    cases hv with
    | tup hs ha =>
      have i3' := i3.nxt n
      exact ⟨_, _, rfl, ex_t i3'.gh hs, fun l hl => q _ _ _ _ r (n.trans (.new i3' _ hl)) (.tup (.inl (.inl upd_same)) (dpAll_ex (Ex.new (i3'.gh.free hl)) _ _ (dpAll_reverse ha)))⟩⟩
end
end Dv

set_option linter.all false
set_option maxRecDepth 100000
set_option maxHeartbeats 4000000
/-! own errors: class C(..): def __init__(self, value): self.value = value -/
namespace Dv
open PySem PySem.Spec PyProof.Rows L2 RZ PySem.W PySem.Calls PySem.HandSPX
def iA (p1 p2 : Pos) : Arguments := ⟨[], [⟨"self", none, p1⟩, ⟨"value", none, p2⟩], none, [], [], none, []⟩
def iB (q1 q2 q3 q4 : Pos) : List Stmt := [.Assign [.Attribute (.Name "self" q1) "value" q2] (.Name "value" q3) q4]
def iS : Scope := { kind := .function, names := [("self", .local), ("value", .local)], isGenerator := false, isCoroutine := false, more := [] }
/-- what the text says of the class cn, at C, and of its __init__, at fI -/
structure ErrTxt (K : Frag) (mg : Str → Option Value) (cn qn : Str) (C fI : Addr) : Prop where
  gC : mg cn = some (.ref C)
  cls : ∃ nm q N bs bm sn sub ab col dd k0 k1 k2 k3 k5, K.lookup C = some (excClassObj nm q C N bs bm true sn sub ab col dd k0 k1 k2 k3 k5 "ValueError.__new__") ∧ refsVE bm = true
  sa : findIn K (.ref C) "__setattr__" = some (some (.builtin "object.__setattr__"))
  ga : findIn K (.ref C) "__getattribute__" = some (some (.builtin "BaseException.__getattribute__"))
  gg : findIn K (.ref C) "__getattr__" = some none
  noN : findIn K (.ref C) "value" = some none
  iC : findIn K (.ref C) "__init__" = some (some (.ref fI))
  tC : typeIn K (.ref fI) = some (.type "function")
  kC : keepIn K (.ref C) = true
  exC : subIn K (.ref C) (.type "BaseException") = some true
  tyC : typeIn K (.ref C) = some (.type "type")
  hdC : hasDictIn K C = true
  te : exmOne K (.ref C) (.ref C) = some true
  fn : ∃ (oc : Value) (od : Option Addr) (doc pm : Value) (an : Option Addr) (cdv ct : Value) (osl : Array (Option Value)) (p1 p2 q1 q2 q3 q4 : Pos),
    K.lookup fI = some ⟨oc, od, .func (fnOf "__init__" qn (iA p1 p2) (iB q1 q2 q3 q4) iS .none .none doc pm an cdv ct), osl⟩ ∧ codeIn K cdv qn = true
theorem ldL {M : Model} {s : Shared} {name : Str} {scope : Scope} {L a : Addr} {cd : Value} {m : Str → Option Value} {x : Str} {pos : Pos} {v : Value} {Q : Value → Shared → Prop} {A : Around} {E : Value → Shared → Prop} (hn : s.heap.Ns L m) (hv : m x = some v) (h : Q v s)
    (hk : scope.kind = .function := by rfl) (hl : (envOfC name scope L a cd).kindOf x = some .local := by rfl) (hd : (x == ("__debug__" : Str)) = false := by decide) :
    wpAny M A (eval (.Name x pos) (envOfC name scope L a cd)) Q E s := wpAny_Name (wpAny_loadName_local hk hl hn hv h) hd
/-- what __init__ leaves of a new error at x -/
structure InitD (h h' : Heap) (x C dx t1 : Addr) (v : Value) : Prop where
  keep : ∀ b o, b ≠ x → h.get? b = some o → h'.get? b = some o
  obj : h'.get? x = some { cls := .ref C, dict := some dx, data := .fields #[.ref t1, .none, .none, .none, .bool false, .none] }
  dbig : h.objs.size ≤ dx
  dne : dx ≠ x
  ns : h'.Ns1 dx (fun y => if y = "value" then some v else none)
/-- a made error -/
structure MadeE (h h' : Heap) (e C d : Addr) (v : Value) : Prop where
  keep : ∀ b o, h.get? b = some o → h'.get? b = some o
  new : h.objs.size ≤ e
  obj : ∃ oe vs, h'.get? e = some oe ∧ oe.cls = .ref C ∧ oe.dict = some d ∧ oe.data = .fields vs ∧ vs[1]? = some .none
  dbig : h.objs.size ≤ d
  dne : d ≠ e
  ns : h'.Ns1 d (fun y => if y = "value" then some v else none)
section
variable {prog : Program} {w : World} {A : Around} {E : Value → Shared → Prop} {R : Result → Shared → Prop} {s : Shared} {K : Frag} {mg : Str → Option Value} {cn qn : Str} {C fI : Addr}
theorem err_init (T : ErrTxt K mg cn qn C fI) {x t0 : Addr} {v : Value} (X : K.In s.heap) (hlim : s.heap.NoLimit) (hx : s.heap.get? x = some (excO C t0)) (hnx : K.lookup x = none) (hroom : A.depth < recursionLimit)
    (hq : ∀ h' tk dx, InitD s.heap h' x C dx t0 v → R (.ok (.ret .none)) { s with heap := h', toks := tk }) :
    codeAny (model prog w) A (.call (.ref fI) ⟨[.ref x, v], []⟩) R s := by
  obtain ⟨oc, od, doc, pm, an, cdv, ct, osl, p1, p2, q1, q2, q3, q4, ho, hcd⟩ := T.fn
  obtain ⟨nm, q, N, bs, bm, sn, sub, ab, col, dd, k0, k1, k2, k3, k5, hC, hbm⟩ := T.cls
  have hcl : clsIn K C = some { name := nm, bases := bs, mro := .ref C :: bm, ns := N, qualname := q, hasDict := true, slotNames := sn, subclasses := sub, abstract := ab, collection := col, hasDel := false } := by unfold clsIn; rw [hC] <;> rfl
  refine Att.call_fn (binds := [("self", .ref x), ("value", v)]) X hlim ho hcd hroom (BindsTo.of_eq (by first | rfl | with_unfolding_all rfl)) (by first | rfl | decide | with_unfolding_all rfl) (fun s₁ IC => ?_) rfl rfl rfl
  obtain ⟨h₁, tk₁, rfl⟩ := IC.toInCall.same
  have k : ∀ b o, s.heap.get? b = some o → h₁.get? b = some o := IC.toInCall.keep
  have hn := IC.toInCall.ns
  have hxL : s.heap.objs.size ≠ x := Nat.ne_of_gt (Heap.lt_size hx)
  have X₁ : K.In h₁ := X.keeps k
  have hx₁ := k _ _ hx
  show wpAny _ _ (execs _ _) _ _ _
  refine wpAny_execs_cons (plainObj_wpAny_Assign_Attribute ?_)
  refine ldL (v := v) hn (by first | rfl | with_unfolding_all rfl | kernel_rfl) (ldL (v := .ref x) hn (by first | rfl | with_unfolding_all rfl | kernel_rfl) ?_)
  refine set_plain X₁ (ox := excO C t0) (od := none) ⟨hx₁, rfl, rfl, trivial⟩ T.sa ?_
  refine exc_osa X₁ hx₁ hcl (show refsVE (.ref C :: bm) = true from hbm) rfl T.noN (fun h₃ tk₃ dx k₃ dn dne hx₃ hn₃ => ?_)
  show wpAny _ _ (execs _ _) _ _ _
  have z : s.heap.objs.size < h₁.objs.size := hn.lt
  exact wpAny_execs_nil (hq h₃ tk₃ dx ⟨fun b o hb e => k₃ b o hb (k b o e), hx₃, Nat.le_of_lt (Nat.lt_of_lt_of_le z dn), dne, hn₃⟩)
theorem err_made (T : ErrTxt K mg cn qn C fI) {v : Value} (X : K.In s.heap) (hlim : s.heap.NoLimit) (hroom : A.depth + 1 < recursionLimit)
    (hq : ∀ h' tk e d, MadeE s.heap h' e C d v → R (.ok (.ret (.ref e))) { s with heap := h', toks := tk }) :
    codeAny (model prog w) A (.call (.ref C) ⟨[v], []⟩) R s := by
  obtain ⟨nm, q, N, bs, bm, sn, sub, ab, col, dd, k0, k1, k2, k3, k5, hC, hbm⟩ := T.cls
  obtain ⟨hp, g, dr, tk, os⟩ := s
  have k : ∀ b o, hp.get? b = some o → ((hp.push (kdv_tup [v])).push (excO C hp.objs.size)).get? b = some o := fun b o e => Heap.get?_push_of_some _ (Heap.get?_push_of_some _ e)
  have hget : ((hp.push (kdv_tup [v])).push (excO C hp.objs.size)).get? (hp.objs.size + 1) = some (excO C hp.objs.size) := by heap_get
  have hnx : K.lookup (hp.objs.size + 1) = none := by
    cases e : K.lookup (hp.objs.size + 1) with
    | none => rfl
    | some o =>
      have z : hp.get? (hp.objs.size + 1) = some o := X _ _ e
      exact absurd (Nat.lt_of_succ_lt (Heap.lt_size z)) (Nat.lt_irrefl _)
  refine call_own F.excBase_ValueError (fun X => refsVE_contains X bm hbm) (X _ _ hC) (looks_findIn X T.iC) (fun self => bind_fn X self T.tC) (by rw [sizeLine_eq]; exact (by decide : 1 ≤ 16777216)) ?_
  refine err_init (s := ⟨(hp.push (kdv_tup [v])).push (excO C hp.objs.size), g, dr, tk, os⟩) T (X.keeps k) (hlim.keeps k) hget hnx ?_ fun h' tk' dx ⟨k', hx, dn, dne, hns⟩ => ?_
  · show A.depth + 1 < recursionLimit
    exact hroom
  · have old : ∀ b o, hp.get? b = some o → h'.get? b = some o := fun b o e => k' b o (Nat.ne_of_lt (Nat.lt_succ_of_lt (Heap.lt_size e))) (k b o e)
    have z : hp.objs.size + 1 + 1 ≤ dx := by
      first
        | (simpa only [Heap.size_push] using dn)
        | exact dn
        | (have q := dn; rw [Heap.size_push, Heap.size_push] at q; exact q)
    exact ⟨rfl, hq h' tk' (hp.objs.size + 1) dx ⟨old, Nat.le_succ _, ⟨_, _, hx, rfl, rfl, rfl, rfl⟩, Nat.le_trans (Nat.le_trans (Nat.le_succ _) (Nat.le_succ _)) z, dne, hns⟩⟩
end
def vF (v : V) : List (Str × V) := [(("value" : Str), v)]
theorem relO_v {v : V} {v' : Value} (r : RelV v v') (f : Str) : RelO (List.lookup f (vF v)) (if f = "value" then some v' else none) := by
  by_cases hw : f = "value"
  · subst hw
    rw [if_pos rfl, show List.lookup ("value" : Str) (vF v) = some v by simp [vF, List.lookup]]
    exact r
  · rw [if_neg hw]
    have qw : (f == ("value" : Str)) = false := by simpa using hw
    rw [show List.lookup f (vF v) = none by simp [vF, List.lookup, qw]]
    trivial
section
variable {X : Cx} {C fI : Addr} {cn qn : Str}
/-- C(e) -/
def tMkE (C : Addr) (ta : TA) : L2.St → Hp → L2.XK → Prop := fun σ H Q => ta σ H fun vs H1 => ∃ v, vs = [v] ∧ ∀ d, H1 d = none → Q (.ref C) (some d) (upd H1 d (.xd (vF v)))
theorem pmk_err {a : Expr} {ta : TA} {p pos : Pos} {k : Nat} (T : ErrTxt X.K X.mg cn qn C fI) (hr : Room k X.A) (ha : PA X [a] ta) (hg : Gl X cn := by rfl) (hdb : (cn == ("__debug__" : Str)) = false := by decide)
    (he : starEach (a :: []) X.env = (false, eval a X.env) :: starEach [] X.env := by rfl) (hpl : (backTo pos (starEach [] X.env)).any (·.1) = false := by rfl) :
    PMk X (.Call (.Name cn p) [a] [] pos) (tMkE C ta) := by
  intro pins s σ H Q I h
  refine wpAny_Call_Name_kw (ld_glob I hg T.gC ?_ hdb)
  refine callWith_K (h₀ := X.base) I.ok.mod.kin T.kC (thn (ha.run pos pins s σ H _ I h) fun us s1 hh => ?_) he hpl
  obtain ⟨vs, H1, I1, r1, v, ev, q1⟩ := hh
  subst ev
  refine ⟨I1.kIn, ?_⟩
  cases r1 with
  | cons rv rn =>
    rename_i v' us'
    cases rn
    show wpAny _ _ (call (.ref C) [v']) _ _ _
    have hlim := I1.nolimit
    obtain ⟨hp, g, dr, tk, os⟩ := s1
    refine wpAny_call (err_made T I1.kIn hlim (by have := hr.dp; omega) fun h' tk' e d M => ?_)
    show MkP X pins σ Q (.ref e) ⟨h', g, dr, tk', os⟩
    obtain ⟨oe, fv, hoe, hc, hd, hdat, h1⟩ := M.obj
    have hns := M.ns
    obtain ⟨G', g1, g2⟩ := restrict h' fun b => decide (b ≠ e)
    have gk : ∀ b, b ≠ e → G'.get? b = h'.get? b := fun b hb => g1 b (decide_eq_true hb)
    have ge : G'.get? e = none := g2 e (by simp)
    have old : ∀ b o, hp.get? b = some o → G'.get? b = some o := fun b o q => (gk b (Nat.ne_of_lt (Nat.lt_of_lt_of_le (Heap.lt_size q) M.new))).trans (M.keep b o q)
    have ob : ObjOk X.prog X.w (upd H1 d (.xd (vF v))) G' d (.xd (vF v)) :=
      ⟨_, hns.at (fun o q => (gk d M.dne).trans q), fun f => relO_v rv f⟩
    have J : Inv X pins σ (upd H1 d (.xd (vF v))) ⟨G', g, dr, tk', os⟩ := I1.laid (t' := tk') old M.dbig ob
    refine ⟨e, oe, fv, ⟨G', g, dr, tk', os⟩, _, .ref C, some d, rfl, J, fun b o q => ?_, ge, hoe, ⟨hc, hd⟩, hdat, h1, ?_, rfl, I1.bare, raises_own T.exC T.tyC, q1 d (I1.hok.fresh M.dbig)⟩
    · by_cases hb : b = e
      · have q' : G'.get? b = some o := q
        rw [hb, ge] at q'; cases q'
      · exact (gk b hb).symm.trans q
    · rw [upd_ne (Ne.symm M.dne)]
      exact I1.hok.fresh M.new
theorem ps_raiseE {a : Expr} {ta : TA} {W : WX} {p pos pos2 : Pos} {k : Nat} (hc : X.calm = true) (T : ErrTxt X.K X.mg cn qn C fI) (hr : Room k X.A) (tk : Takes X W) (ha : PA X [a] ta) (hg : Gl X cn := by rfl) (hdb : (cn == ("__debug__" : Str)) = false := by decide)
    (he : starEach (a :: []) X.env = (false, eval a X.env) :: starEach [] X.env := by rfl) (hpl : (backTo pos (starEach [] X.env)).any (·.1) = false := by rfl) :
    PS X (.Raise (some (.Call (.Name cn p) [a] [] pos)) none pos2) (fun _ σ H => tMkE C ta σ H fun cls d H' => W cls d σ H') := ps_raise hc tk (pmk_err T hr ha hg hdb he hpl)
end
end Dv

set_option linter.all false
set_option maxRecDepth 100000
set_option maxHeartbeats 4000000
/-! defs that raise; try -/
namespace Dv
open PySem PySem.Spec PyProof.Rows L2 RZ
structure FnX (P : Program) (w : World) (K : Fg) (mg : Str → Option Value) (base : Heap) (k : Nat) (f : Addr) (fd : FuncData) (ps : List Str) (sp : Sp) : Prop where
  len : ∀ vs H Q E, sp vs H Q E → vs.length = ps.length
  run : ∀ (A : Around) (outer : List Env) (s : Shared) (H : Hp) (args : Args) (us : List Value) (vs : List V) (Q : VK) (E : L2.XK),
    Room k A → A.guards = some [] → Env0 P w K mg base A outer s H → BindsTo s fd args (ps.zip us) → Vals vs us → sp vs H Q E →
      codeAny (model P w) A (.call (.ref f) args) (CR (L2.CX P w) outer P w H s Q E) s
structure CalX (P : Program) (w : World) (K : Fg) (mg : Str → Option Value) (base : Heap) (k : Nat) (x : Str) (ps : List Str) (st : Stmt) (sp : Sp) : Prop where
  ex : ∃ f fd, FnX P w K mg base k f fd ps sp ∧ mg x = some (.ref f) ∧ PySem.W.keepIn K (.ref f) = true ∧ Binds K fd ps [] ∧ Fun K x x st f fd
section
variable {P : Program} {w : World} {K : Fg} {mg : Str → Option Value} {base : Heap}
abbrev xcx (P : Program) (w : World) (K : Fg) (mg : Str → Option Value) (base : Heap) (N : List Str) (x : Str) (st : Stmt) (f : Addr) (cdv : Value) (A : Around) (outer : List Env) (s : Shared) (H : Hp) (E : L2.XK) : Cx :=
  cxOf (L2.CX P w) P w K mg base N x (defScope st) f cdv A outer s H E
theorem fnX_of {x : Str} {st : Stmt} {f : Addr} {fd : FuncData} {N ps : List Str} {k : Nat} {sp : Sp} (F : Fun K x x st f fd) (S : FnScope N ps (defScope st)) (len : ∀ vs H Q E, sp vs H Q E → vs.length = ps.length)
    (body : ∀ (cdv : Value) (A : Around) (outer : List Env) (s : Shared) (H : Hp) (vs : List V) (Q : VK) (E : L2.XK), Room k (A.deeper (envOfC x (defScope st) s.heap.objs.size f cdv)) → A.guards = some [] → sp vs H Q E →
      ∃ t, PSs (xcx P w K mg base N x st f cdv A outer s H E) (defBody st) t ∧ t { nx := fun _ H' => Q .non H', rt := Q } (start N vs) H) : FnX P w K mg base (k + 1) f fd ps sp := by
  obtain ⟨oc, od, kV, doc, pm, an, cdv, ct, osl, rfl, lk, hcd⟩ := F.ex
  refine ⟨len, fun A outer s H args us vs Q E hr hg e0 hb r hsp => ?_⟩
  have hl := len _ _ _ _ hsp
  have KX : K.In s.heap := e0.mod.kin.keeps fun b o e => (e0.bs b o e).1
  have lim : s.heap.NoLimit := e0.mod.nolimit.keeps fun b o e => (e0.bs b o e).1
  refine codeAny_call_function hr.depth (KX _ _ lk) rfl S.co S.gen rfl (PySem.W.codeRec_of KX hcd) (hb _ _ _ _ ?_)
  refine wpAny_newFunctionEnv_cells S.kind (fun ⟨n, v⟩ hy => ?_) fun env he s1 z => ?_
  · rcases S.par n (List.of_mem_zip hy).1 with q | q
    · exact .inl q
    · exact .inr ⟨q, PySem.W.cellsFrom_some _ _ _ (.inl q)⟩
  · subst he
    refine ⟨lim.keeps z.toInCall.keep, codeAny_func ?_⟩
    obtain ⟨t, ht, hq⟩ := body cdv A outer s H vs Q E (hr.deeper _) hg hsp
    have I : Inv (cxOf (L2.CX P w) P w K mg base N x (defScope st) f cdv A outer s H E) [] (start N vs) H s1 := inv_start S hr.hd e0 hl r z
    refine wpAny_mono (ht.run [] s1 (start N vs) H _ I hq) (fun fl s' hs => ?_) fun e s' hs => hs
    cases fl with
    | ret u => obtain ⟨v, σ', H', J, rv, q⟩ := hs; exact ⟨v, H', J.os, J.bare, J.base, J.hok, rv, q⟩
    | next => obtain ⟨σ', H', J, q⟩ := hs; exact ⟨V.non, H', J.os, J.bare, J.base, J.hok, rfl, q⟩
    | brk => obtain ⟨_, _, _, q⟩ := hs; exact False.elim q
    | cont => obtain ⟨_, _, _, q⟩ := hs; exact False.elim q
end
/-- the def raises: class cn, its value x -/
def spX (K : Fg) (mg : Str → Option Value) (R : List Dt → Str → Dt → Prop) : Sp := fun vs H _ E => ∃ G ds cn x, Ex G H ∧ DzAll K G vs ds ∧ R ds cn x ∧
  ∀ C d v G' H', mg cn = some (.ref C) → Step H G G' → Ex H H' → Ex G' H' → H d = none → H' d = some (.xd (vF v)) → Dz K G' v x → E (.ref C) (some d) H'
def PostX (K : Fg) (mg : Str → Option Value) (p : Option Addr) (B G : Hp) (W : WX) (ox : Str → Dt → Prop) : Prop := ∀ (C : Addr) (cn : Str) (d : Addr) (v : V) (x : Dt) (σ : L2.St) (G' H' : Hp), ox cn x → mg cn = some (.ref C) → Step B G G' → I3 p B G' H' → B d = none → H' d = some (.xd (vF v)) → Dz K G' v x → W (.ref C) (some d) σ H'
theorem PostX.step {K : Fg} {mg : Str → Option Value} {p : Option Addr} {B G G' : Hp} {W : WX} {ox : Str → Dt → Prop} (h : PostX K mg p B G W ox) (s : Step B G G') : PostX K mg p B G' W ox := fun C cn d v x σ G2 H2 a b c => h C cn d v x σ G2 H2 a b (s.trans c)
def rRX (X : Cx) (δ : De) (W : WX) (ox : Str → Dt → Prop) : TS := fun _ σ H => ∃ p B G, I3 p B G H ∧ EnvD X.K p B G H σ δ ∧ PostX X.K X.mg p B G W ox
/-- the block raises -/
def RsX (X : Cx) (sts : List Stmt) (δ : De) (ox : Str → Dt → Prop) : Prop := ∀ W, Takes X W → PSs X sts (rRX X δ W ox)
section
variable {X : Cx} {δ δ' : De} {sts tss rest : List Stmt} {a c e : Expr} {es : List Expr} {p pos pos2 : Pos} {ox : Str → Dt → Prop} {cn qn x : Str} {C fI : Addr} {k : Nat} {ps : List Str} {st : Stmt}
theorem never {sts : List Stmt} : PSs X sts (fun _ _ _ => False) := ⟨fun pins s σ H D I h => h.elim⟩
theorem s_start {N : List Str} {es : List En} (h : StR N es δ) (k : RsX X sts δ ox) : RsX X sts (stD N es) ox := h.eq ▸ k
theorem x_eq {sts' : List Stmt} (h : sts = sts') (k : RsX X sts' δ ox) : RsX X sts δ ox := h ▸ k
theorem x_raise (T : ErrTxt X.K X.mg cn qn C fI) (h : XD X a δ (fun d => ox cn d)) (hr : Room k X.A := by first | assumption | (refine Room.mono (by assumption) ?_; decide)) (hc : X.calm = true := by rfl) (hg : Gl X cn := by rfl) (hdb : (cn == ("__debug__" : Str)) = false := by decide)
    (he : starEach (a :: []) X.env = (false, eval a X.env) :: starEach [] X.env := by rfl) (h2 : starEach [a] X.env = [a].map fun e => (false, eval e X.env) := by rfl) (hpl : (backTo pos (starEach [] X.env)).any (·.1) = false := by rfl) :
    RsX X (.Raise (some (.Call (.Name cn p) [a] [] pos)) none pos2 :: rest) δ ox := fun W tk =>
  PSs.imp (pss_cons (ps_raiseE hc T hr tk (a_c (T := fun ds => ∃ d, ds = [d] ∧ ox cn d) (h.mono fun d k => a_n ⟨d, rfl, k⟩) he h2).pa hg hdb he hpl) never) fun D σ H ⟨p, B, G, i3, en, q⟩ => ⟨p, B, G, i3, en, fun vs ds G1 H1 ⟨d, e, r⟩ n hv => by
    subst e
    obtain ⟨v, rfl, hw⟩ := one_of hv
    have i31 := i3.nxt n
    refine ⟨v, rfl, fun dd hd => q C cn dd v d σ G1 _ r T.gC (n.stepB i3) (i31.nxt (.newH i31 _ hd)) (i31.bh.free hd) upd_same (dp_ex (Ex.refl _) _ _ hw)⟩⟩
theorem x_if (h : XT X c δ (fun k => k = true)) (hr : RsX X sts δ ox) : RsX X (.If c sts tss pos :: rest) δ ox := fun W tk =>
  PSs.imp (pss_cons (ps_if h (hr W tk) (never (sts := tss))) never) fun D σ H ⟨p, B, G, i3, en, q⟩ => ⟨p, B, G, i3, en, fun k G1 H1 r n => by
    subst r
    exact iteT ⟨p, B, G1, i3.nxt n, en.nxt n, q.step (n.stepB i3)⟩⟩
theorem x_skip (h : XT X c δ (fun k => k = false)) (hr : RsX X rest δ ox) : RsX X (.If c sts [] pos :: rest) δ ox := fun W tk =>
  PSs.imp (pss_cons (ps_if h (never (sts := sts)) pss_nil) (hr W tk)) fun D σ H ⟨p, B, G, i3, en, q⟩ => ⟨p, B, G, i3, en, fun k G1 H1 r n => by
    subst r
    exact iteF ⟨p, B, G1, i3.nxt n, en.nxt n, q.step (n.stepB i3)⟩⟩
/-- a statement that goes on -/
theorem x_seq {st : Stmt} {N : De → Prop} (h : SD X st δ { nx := N }) (hk : ∀ δ', N δ' → RsX X rest δ' ox) : RsX X (st :: rest) δ ox := fun W tk => by
  have z : PSs X rest (fun D σ H => ∃ δ', N δ' ∧ rRX X δ' W ox D σ H) := ⟨fun pins s σ H D I ⟨δ', n, q⟩ => (hk δ' n W tk).run pins s σ H D I q⟩
  exact PSs.imp (pss_cons h z) fun D σ H ⟨p, B, G, i3, en, q⟩ => ⟨p, B, G, i3, en, fun δ1 σ1 G1 H1 a s i en1 => ⟨δ1, a, p, B, G1, i, en1, q.step s⟩, fun _ _ _ _ z => z.elim, fun _ _ _ _ z => z.elim, fun _ _ _ _ z => z.elim, fun _ _ _ _ _ z => z.elim⟩
theorem x_do (h : XD X e δ fun _ => True) (hr : RsX X rest δ ox) (hs : swapsWith e none pos.line X.env = pure false := by rfl) : RsX X (.Expr e pos :: rest) δ ox := x_seq (N := fun δ' => δ' = δ) (sd_expr (o := {}) (N := fun δ' => δ' = δ) h (fun d _ => rfl) hs) fun δ' e => e ▸ hr
theorem x_let {pos' : Pos} {y : Str} {i : Nat} {F : Dt → De} (hi : Nx X.N y i) (hF : ∀ d, SetR δ i (.d d) (F d)) (h : XD X e δ fun d => RsX X rest (F d) ox) (hN : X.N.Nodup := by assumption) (hx : Loc X.env.scope y := by first | exact Or.inl rfl | exact Or.inr rfl)
    (hs : swapsWith e (some (.Name y pos')) pos.line X.env = pure false := by rfl) (hf : X.fn y = true ∨ X.env.scope.names.lookup y = some .local := by first | exact .inl rfl | exact .inr rfl | assumption) : RsX X (.Assign [.Name y pos'] e pos :: rest) δ ox :=
  x_seq (N := fun δ' => RsX X rest δ' ox) (sd_set (o := {}) (N := fun δ' => RsX X rest δ' ox) i hN h (fun d k => by rw [(hF d).eq]; exact k) hi.eq hx hs hf) fun δ' h => h
/-- a call that raises -/
theorem run_x {f : Addr} {fd : FuncData} {sp : Sp} {W : WX} {pins : List (Addr × Obj)} {σ : L2.St} {H : Hp} {s : Shared} {Q : VK} {us : List Value} {vs : List V} (F : FnX X.prog X.w X.K X.mg X.base k f fd ps sp) (hr : Room k X.A) (hgd : X.A.guards = some []) (hb : Binds X.K fd ps []) (tk : Takes X W)
    (I : Inv X pins σ H s) (r : Vals vs us) (h : sp vs H Q (WE W σ)) : wpAny (model X.prog X.w) X.A (call (.ref f) us) (EP X pins σ Q) X.xe s := by
  have hl : (us ++ []).length = ps.length := by rw [List.append_nil, ← r.length]; exact F.len _ _ _ _ h
  have hb' := hb s us I.kIn hl
  rw [List.append_nil] at hb'
  refine wpAny_call (codeAny_mono (F.run X.A X.stack s H ⟨us, []⟩ us vs Q (WE W σ) hr hgd I.env0 hb' r h) fun r s' hq => ?_)
  cases r with
  | error e => exact passAt tk σ pins H s e s' I hq
  | ok fl =>
    cases fl with
    | ret u => exact I.after hq
    | next => exact False.elim hq
    | brk => exact False.elim hq
    | cont => exact False.elim hq
def PostE (K : Fg) (mg : Str → Option Value) (p : Option Addr) (G H : Hp) (W : WX) (ox : Str → Dt → Prop) (σ : L2.St) : Prop := ∀ (C : Addr) (cn : Str) (d : Addr) (v : V) (x : Dt) (G' H' : Hp), ox cn x → mg cn = some (.ref C) → Nxt p G H G' H' → H d = none → H' d = some (.xd (vF v)) → Dz K G' v x → W (.ref C) (some d) σ H'
theorem PostX.at' {K : Fg} {mg : Str → Option Value} {p : Option Addr} {B G H : Hp} {W : WX} {ox : Str → Dt → Prop} {σ : L2.St} (i3 : I3 p B G H) (h : PostX K mg p B G W ox) : PostE K mg p G H W ox σ := fun C cn d v x G' H' r gC n hd hd2 hv => h C cn d v x σ G' H' r gC (n.stepB i3) (i3.nxt n) (i3.bh.free hd) hd2 hv
def rEX (X : Cx) (δ : De) (W : WX) (ox : Str → Dt → Prop) : TE := fun σ H _ => ∃ p B G, I3 p B G H ∧ EnvD X.K p B G H σ δ ∧ PostE X.K X.mg p G H W ox σ
/-- an expression that raises -/
def XR (X : Cx) (e : Expr) (δ : De) (ox : Str → Dt → Prop) : Prop := ∀ W, Takes X W → PE X e (rEX X δ W ox)
theorem r_call {R : List Dt → Str → Dt → Prop} (Cl : CalX X.prog X.w X.K X.mg X.base k x ps st (spX X.K X.mg R)) (ha : XA X (e :: es) δ fun ds => ∃ cn y, R ds cn y ∧ ox cn y) (hr : Room k X.A := by first | assumption | (refine Room.mono (by assumption) ?_; decide)) (hgd : X.A.guards = some [] := by assumption) (hg : Gl X x := by rfl)
    (hpl : starEach es X.env = es.map fun e => (false, eval e X.env) := by rfl) (hdb : (x == ("__debug__" : Str)) = false := by decide) : XR X (.Call (.Name x p) (e :: es) [] pos) δ ox := fun W tk => by
  obtain ⟨f, fd, F, hm, hk, hb, _⟩ := Cl.ex
  refine ⟨fun pins s σ H Q I ⟨p, B, G, i3, en, q⟩ => ?_⟩
  refine wpAny_Call_Name_kw (ld_glob I hg hm ?_ hdb)
  refine PySem.W.callWith_K (h₀ := X.base) I.ok.mod.kin hk (thn (ha.pa.run pos pins s σ H (fun vs H1 => ∃ ds G1, (∃ cn y, R ds cn y ∧ ox cn y) ∧ Nxt p G H G1 H1 ∧ DzAll X.K G1 vs ds) I ⟨p, B, G, i3, en, fun vs ds G1 H1 r n hv => ⟨ds, G1, r, n, hv⟩⟩) fun us s1 ⟨vs, H1, I1, r, ds, G1, ⟨cn, y, h1, h2⟩, n, hv⟩ => ⟨I1.kIn, ?_⟩) (by rw [hpl]; exact ha.pl) (back_plain hpl)
  have i31 := i3.nxt n
  refine run_x F hr hgd hb tk I1 r ⟨G1, ds, cn, y, i31.gh, hv, h1, fun C d v G' H' gC st e1 e2 hd hd2 hv2 => ?_⟩
  have n2 : Nxt p G1 H1 G' H' := ⟨st, fun a o h => e1 a o (del_le h).1, e2, fun z hz => by
    obtain ⟨_, _, a, b, h3, h4⟩ := i31.pot z hz
    exact ⟨a, b, e1 _ _ h3, h4⟩⟩
  exact q C cn d v y G' H' h2 gC (n.trans n2) (back_none n hd) hd2 hv2
theorem x_ret (h : XR X e δ ox) : RsX X (.Return (some e) pos :: rest) δ ox := fun W tk => PSs.imp (pss_cons (ps_ret (h W tk)) never) fun D σ H ⟨p, B, G, i3, en, q⟩ => ⟨p, B, G, i3, en, q.at' i3⟩
theorem x_exp (h : XR X e δ ox) (hs : swapsWith e none pos.line X.env = pure false := by rfl) : RsX X (.Expr e pos :: rest) δ ox := fun W tk => PSs.imp (pss_cons (ps_expr (h W tk) hs) never) fun D σ H ⟨p, B, G, i3, en, q⟩ => ⟨p, B, G, i3, en, q.at' i3⟩
end
section
variable {P : Program} {w : World} {K : Fg} {mg : Str → Option Value} {base : Heap} {x : Str} {st : Stmt} {f : Addr} {fd : FuncData} {N ps : List Str} {k : Nat} {R : List Dt → Str → Dt → Prop}
theorem fnX_data (F : Fun K x x st f fd) (S : FnScope N ps (defScope st)) (len : ∀ ds cn d, R ds cn d → ds.length = ps.length)
    (body : ∀ (cdv : Value) (A : Around) (outer : List Env) (s : Shared) (H : Hp) (E : L2.XK), Room k (xcx P w K mg base N x st f cdv A outer s H E).A → (xcx P w K mg base N x st f cdv A outer s H E).A.guards = some [] → (xcx P w K mg base N x st f cdv A outer s H E).A.units + 64 < cLine →
      ∀ ds cn d, R ds cn d → RsX (xcx P w K mg base N x st f cdv A outer s H E) (defBody st) (stD N (ds.map .d)) (fun c y => c = cn ∧ y = d)) : FnX P w K mg base (k + 1) f fd ps (spX K mg R) := by
  refine fnX_of F S (fun vs H Q E ⟨G, ds, cn, d, _, h, r, _⟩ => by rw [dpAll_length h]; exact len ds cn d r) fun cdv A outer s H vs Q E hr hg ⟨G, ds, cn, y, eg, h, r, q⟩ => ?_
  refine ⟨_, body cdv A outer s H E hr hg hr.units ds cn y r (fun cls d _ H => E cls d H) (takes_of rfl rfl rfl rfl), none, H, G, ⟨Ex.refl H, eg, fun _ z => nomatch z⟩, env_data h, ?_⟩
  intro C cn' d v y' σ G' H' e gC st i bd hd hv
  obtain ⟨rfl, rfl⟩ := e
  exact q C d v G' H' gC st i.bh i.gh bd hd hv
end
end Dv

set_option linter.all false
set_option maxRecDepth 100000
set_option maxHeartbeats 4000000
/-! isinstance of an error that has its dict; the suite of an except clause -/
namespace Dv
open PySem PySem.Spec PyProof.Rows L2 RZ PySem.W
section
variable {prog : Program} {w : World} {A : Around} {E : Value → Shared → Prop} {s : Shared} {K : Fg} {x D : Addr} {ox : Obj} {od : Option Obj}
theorem find_cls (o : Option Obj) (hc : (clsIn K D).isSome = true) (ha : findIn K (.ref D) "__class__" = some (some (.builtin "object.__class__"))) (hg : specialIn K (.builtin "object.__class__") "__get__" = some (some (.builtin "getset_descriptor.__get__"))) (ht : takesIn K (.builtin "object.__class__") = some true) : findObj K D o "__class__" = some (.bind (.builtin "getset_descriptor.__get__") (.builtin "object.__class__")) := by
  obtain ⟨cd, hc⟩ := Option.isSome_iff_exists.mp hc
  unfold findObj
  rw [hc, Option.bind_some, ha, Option.bind_some]
  simp [hg, ht]
theorem err_class {Q : Option Value → Shared → Prop} (T : L2.ExcC K D) (X : K.In s.heap) (I : InstAt s.heap x ox D od) (h : Q (some (.ref D)) { s with toks := s.toks + 1 }) : wpAny (model prog w) A (getAttr? (.ref x) "__class__") Q E s := by
  obtain ⟨hga, hgt, hsub, hdct, ha, hn, htk, hm⟩ := T
  have hf := find_cls od (by obtain ⟨cd, hc, _⟩ := any_some hdct; rw [hc]; rfl) ha hn htk
  obtain ⟨hp, g, d, t, os⟩ := s
  have k0 := I.type (M := model prog w)
  have k1 := looks_findIn (M := model prog w) X hga
  have k2 := looks_findIn (M := model prog w) X hgt
  have k3 := looks_find (M := model prog w) X I hf
  have sub : Looks (model prog w) hp (isInstance (.ref x) (.type "BaseException")) true := k0.andThen (looks_subIn X hsub)
  have e0 : (false && onTheHeap (Value.builtin "BaseException.__getattribute__")) = false := rfl
  have e2 : (Value.builtin "BaseException.__getattribute__" == Value.builtin "object.__getattribute__") = false := by decide +kernel
  have e1 : (onTheHeap (Value.ref D) && Value.builtin "BaseException.__getattribute__" == Value.builtin "object.__getattribute__") = false := by rw [e2]; rfl
  unfold getAttr?
  unfold getAttrBy?
  unfold getAttrBy
  refine wpAny_bind (wpAny_mkText (wpAny_bind (wpAny_attempt (wpAny_holding (wpAny_bind (k0.at (wpAny_bind (k1.at (?_ : wpAny _ _ (if (onTheHeap (Value.ref D) && Value.builtin "BaseException.__getattribute__" == Value.builtin "object.__getattribute__") = true then _ else _) _ _ _)))))))))
  rw [e1, if_neg (by decide)]
  unfold getAttrByItsOwn
  unfold hookBefore
  refine wpAny_bind ?_
  rw [if_pos (show onTheHeap (Value.ref D) = true by rfl)]
  refine k2.at (wpAny_bind (wpAny_attempt (wpAny_holding ?_)))
  unfold callGetattribute
  rw [e0, if_neg (by decide)]
  unfold boundAndCalled
  rw [PySem.F.excAttr_ValueError.ga.bind (.ref x)]
  refine wpAny_bind (wpAny_pure (?_ : wpAny _ _ (call (.builtin "BaseException.__getattribute__") [.ref x, .str "__class__" t]) _ _ _))
  refine wpAny_call (codeAny_call_builtin PySem.F.excAttr_ValueError.ga.plain PySem.F.entry_bexc_ga (@check_slot (model prog w) _ _ ⟨hp, g, d, t + 1, os⟩ "BaseException.__getattribute__" "BaseException" "__getattribute__" (.ref x) [.str "__class__" t] [] _ (by decide +kernel) (by decide +kernel) sub (PySem.F.args_bexc_ga (.ref x) (.str "__class__" t)) ?_))
  unfold Builtin.«object.__getattribute__»
  refine wpAny_bind (wpAny_of_eq (a := ((Value.ref x : Value), [Value.str "__class__" t])) (by first | rfl | (simp only [slotArgs]; rfl)) (wpAny_bind (wpAny_pure (wpAny_bind (k0.at (wpAny_bind (k3.at ?_)))))))
  show wpAny _ _ (holding [Value.builtin "object.__class__"] (call (.builtin "getset_descriptor.__get__") [.builtin "object.__class__", .ref x, .ref D]) >>= ret) _ _ _
  refine wpAny_bind (wpAny_holding (wpAny_call (class_get (s := ⟨hp, g, d, t + 1, os⟩) (ox := ox) (od := od) X I hm (wpAny_pure ?_))))
  show wpAny _ _ (handedOut (.ref D)) _ _ _
  rw [handedOut_of (v := .ref D) rfl]
  first
    | exact wpAny_pure (wpAny_pure h)
    | exact wpAny_pure h
    | exact wpAny_pure (wpAny_bind (wpAny_pure (wpAny_pure h)))
theorem err_kit (T : L2.ExcC K D) : KitX K (.ref x) (.ref D) (fun h => InstAt h x ox D od) where
  ty := fun _ _ _ I => I.type
  it := fun _ _ X _ => by
    obtain ⟨c1, h1, _⟩ := any_some T.hd
    unfold clsIn at h1
    split at h1
    · rename_i c' d' cd' sl' ho
      intro A' Q' E' s' k q
      unfold isType
      unfold loadHead
      exact wpAny_bind (wpAny_loadPart (k _ _ (X _ _ ho)) (wpAny_pure q))
    · cases h1
  ne := fun h tp dd its n sl X htp => by
    obtain ⟨c1, h1, _⟩ := any_some T.hd
    refine Bool.eq_false_iff.mpr fun q => ?_
    have e : D = tp := Value.ref.inj (beq_iff_eq.mp q)
    subst e
    unfold clsIn at h1
    split at h1
    · rename_i c' d' cd' sl' ho
      have z := (X _ _ ho).symm.trans htp
      cases z
    · cases h1
  ca := fun X I k => err_class T X I k
end
/-- isinstance(e, c), e the error that the suite holds -/
def rIsR (K : Fg) (D a dd : Addr) : List V → Hp → VK → Prop := fun xs H Q => ∃ (c : V) (cv : Value) (b : Bool) (fs : List (Str × V)), xs = [.ref a, c] ∧ (∀ u, RelV c u → u = cv) ∧ kitOne K (.ref D) cv = some b ∧ H dd = some (.xd fs) ∧ Q (.bl b) H
theorem call_isR {X : Cx} {a D dd : Addr} {oe : Obj} {pn : List (Addr × Obj)} (C : L2.ExcC X.K D) (hz : Zc (.ref D) (some dd) oe) (hf : ∃ vs, oe.data = .fields vs) : CallR (X.suite a ((a, oe) :: pn)) (.builtin "isinstance") (rIsR X.K D a dd) := by
  intro pins s σ H xs us Q I r h
  obtain ⟨c, cv, b, fs, rfl, hcv, e, hd, q⟩ := h
  cases r with
  | cons rx rr =>
    cases rr with
    | cons rt rr =>
      cases rr
      cases rx
      have ec := hcv _ rt
      subst ec
      obtain ⟨hget, _⟩ := I.pin (a, oe) (List.mem_append.mpr (.inl List.mem_cons_self))
      obtain ⟨vs, hv⟩ := hf
      have hx : ObjOk X.prog X.w H s.heap dd (.xd fs) := I.hok dd _ hd
      obtain ⟨mA, hns, hr⟩ := hx
      obtain ⟨od, ho, hl⟩ := lookIn_ns hns
      have J : InstAt s.heap a oe D (some od) := ⟨hget, hz.1, by unfold notCls; rw [hv] <;> rfl, by rw [hz.2]; exact ho⟩
      exact kia_one (err_kit C) I.kIn J e (fun z => nomatch z) fun tk => ⟨.bl b, H, I.kept (t' := tk) fun _ _ z => z, rfl, q⟩
end Dv

set_option linter.all false
set_option maxRecDepth 100000
set_option maxHeartbeats 4000000
/-! try: a call that raises; except C as n: one statement over n.value -/
namespace Dv
open PySem PySem.Spec PyProof.Rows L2 RZ
/-- the error at a in slot i, of the class at C, its dict d; x: its value -/
structure Held (K : Fg) (p : Option Addr) (B G H : Hp) (σ : L2.St) (δ : De) (i : Nat) (C a : Addr) (cls : Value) (d : Option Addr) (x : Dt) (dd : Addr) (v : V) : Prop where
  i3 : I3 p B G H
  en : EnvD K p B G H σ δ
  at' : σ[i]? = some (some (.ref a))
  cl : cls = .ref C
  dc : d = some dd
  hd : H dd = some (.xd (vF v))
  hv : Dz K G v x
theorem Held.go {K : Fg} {p : Option Addr} {B G H G' H' : Hp} {σ : L2.St} {δ : De} {i : Nat} {C a : Addr} {cls : Value} {d : Option Addr} {x : Dt} {dd : Addr} {v : V} (h : Held K p B G H σ δ i C a cls d x dd v) (n : Nxt p G H G' H') : Held K p B G' H' σ δ i C a cls d x dd v :=
  ⟨h.i3.nxt n, h.en.nxt n, h.at', h.cl, h.dc, n.ex _ _ (by
    rw [del_ne]
    · exact h.hd
    · intro z
      obtain ⟨_, _, _, _, h3, _⟩ := h.i3.pot dd z
      rw [h.hd] at h3; cases h3), dp_ex n.st.1 _ _ h.hv⟩
def rXE (K : Fg) (δ : De) (i : Nat) (C a : Addr) (cls : Value) (d : Option Addr) (x : Dt) (U : Dt → Prop) : TE := fun σ H Q => ∃ p B G dd v, Held K p B G H σ δ i C a cls d x dd v ∧ ∀ u y G' H', U y → Nxt p G H G' H' → Dz K G' u y → Q u H'
def rAE (K : Fg) (δ : De) (i : Nat) (C a : Addr) (cls : Value) (d : Option Addr) (x : Dt) (ds : List Dt) : TA := fun σ H Q => ∃ p B G dd v, Held K p B G H σ δ i C a cls d x dd v ∧ ∀ us G' H', Nxt p G H G' H' → DzAll K G' us ds → Q us H'
def rSE (K : Fg) (δ : De) (i : Nat) (C a : Addr) (cls : Value) (d : Option Addr) (x : Dt) (o : Out) : TS := fun D σ H => ∃ p B G dd v, Held K p B G H σ δ i C a cls d x dd v ∧ Post K p B G D o
/-- where the suite stands -/
structure Hold (X Y : Cx) (a : Addr) (cls : Value) (d : Option Addr) (i : Nat) (n : Str) (C : Addr) : Prop where
  ex : ∃ oe pn, Y = X.suite a ((a, oe) :: pn) ∧ Zc cls d oe ∧ ∃ vs, oe.data = .fields vs
  nm : X.N[i]? = some n
section
variable {X Y : Cx} {a C : Addr} {cls : Value} {d : Option Addr} {i : Nat} {n : Str} {δ : De} {x : Dt} {U : Dt → Prop} {e b : Expr} {es rest : List Expr} {ds : List Dt} {y : Dt} {pos p np : Pos}
def YE (Y : Cx) (δ : De) (i : Nat) (C a : Addr) (cls : Value) (d : Option Addr) (x : Dt) (e : Expr) (U : Dt → Prop) : Prop := PE Y e (rXE Y.K δ i C a cls d x U)
def YA (Y : Cx) (δ : De) (i : Nat) (C a : Addr) (cls : Value) (d : Option Addr) (x : Dt) (es : List Expr) (ds : List Dt) : Prop := PA Y es (rAE Y.K δ i C a cls d x ds)
theorem ye_of (h : XD Y e δ U) : YE Y δ i C a cls d x e U := PE.imp h fun σ H Q ⟨p, B, G, dd, v, hh, q⟩ => ⟨p, B, G, hh.i3, hh.en, q⟩
theorem ye_val (hh : Hold X Y a cls d i n C) (T : ∃ mg cn qn fI, ErrTxt X.K mg cn qn C fI) (k : U x) (hv : Vis X.env.scope n := by first | exact Or.inl rfl | exact Or.inr (Or.inl rfl) | exact Or.inr (Or.inr rfl)) (hd : (n == ("__debug__" : Str)) = false := by decide) (hcd : (n == ("__classdict__" : Str)) = false := by decide)
    (hb : attributeBase (.Name n np) "value" X.env (eval (.Name n np) X.env) = eval (.Name n np) X.env := by rfl) : YE Y δ i C a cls d x (.Attribute (.Name n np) "value" pos) U := by
  obtain ⟨oe, pn, rfl, hz, hf⟩ := hh.ex
  obtain ⟨mg, cn, qn, fI, T⟩ := T
  refine PE.imp (pe_xf (X := X) (C := C) ⟨T.ga, T.gg, T.exC, T.hdC⟩ T.noN hz hf (pe_var (X := X.suite a ((a, oe) :: pn)) hh.nm hv hd hcd) hb) fun σ H Q ⟨p, B, G, dd, v, h, q⟩ => ?_
  exact ⟨_, h.at', rfl, h.cl, dd, vF v, v, h.dc, h.hd, by simp [vF, List.lookup], q v x G H k (.refl h.i3) h.hv⟩
theorem ye_is {kn : Str} {kp : Pos} {c : V} {cv : Value} (hh : Hold X Y a cls d i n C) (E : L2.ExcC X.K C) (hK : PE Y (.Name kn kp) (tC c)) (hcv : ∀ u, RelV c u → u = cv) (hk : PySem.W.kitOne X.K (.ref C) cv = some true) (k : U (.bool true)) (F : Free X.mg := by assumption)
    (hv : Vis X.env.scope n := by first | exact Or.inl rfl | exact Or.inr (Or.inl rfl) | exact Or.inr (Or.inr rfl)) (hd : (n == ("__debug__" : Str)) = false := by decide) (hcd : (n == ("__classdict__" : Str)) = false := by decide) (hg : Gl X "isinstance" := by rfl)
    (hs1 : starEach [.Name kn kp] X.env = [(false, eval (.Name kn kp) X.env)] := by rfl) (hs : starEach [.Name n np, .Name kn kp] X.env = (false, eval (.Name n np) X.env) :: starEach [.Name kn kp] X.env := by rfl) : YE Y δ i C a cls d x (.Call (.Name "isinstance" p) [.Name n np, .Name kn kp] [] pos) U := by
  obtain ⟨oe, pn, rfl, hz, hf⟩ := hh.ex
  by_cases q1 : cls = .ref C
  case neg =>
    exact ⟨fun pins s σ H Q I ⟨p, B, G, dd, v, h, _⟩ => absurd h.cl q1⟩
  subst q1
  cases d with
  | none => exact ⟨fun pins s σ H Q I ⟨p, B, G, dd, v, h, _⟩ => by have := h.dc; cases this⟩
  | some dd0 =>
    refine PE.imp (pe_callB (X := X.suite a ((a, oe) :: pn)) (call_isR E hz hf) hg (F _ (by decide +kernel)) (by decide +kernel) (pa_cons (pe_var (X := X.suite a ((a, oe) :: pn)) hh.nm hv hd hcd) (pa_cons hK pa_nil hs1) hs) (by decide) (by decide) hs (by rw [hs1]; exact back_plain (es := [.Name kn kp]) hs1)) fun σ H Q ⟨p, B, G, dd, v, h, q⟩ => ?_
    have e := h.dc
    cases e
    exact ⟨_, h.at', c, cv, true, vF v, rfl, hcv, hk, h.hd, q (.bl true) (.bool true) G H k (.refl h.i3) (.bl true)⟩
theorem ye_fn1 {id : String} {kn : Str} (hX : Y.mg = X.mg) (hvb : bootBuiltins kn = some (.builtin id)) (h : YE Y δ i C a cls d x e fun y => CallP Y (.builtin id) [y] U) (F : Free X.mg := by assumption) (hb : bnames.contains kn = true := by decide +kernel) (hg : Gl Y kn := by rfl) (hn : kn ≠ "__name__" := by decide) (hdb : (kn == ("__debug__" : Str)) = false := by decide)
    (h1 : starEach [e] Y.env = (false, eval e Y.env) :: starEach [] Y.env := by rfl) (hpl : (backTo pos (starEach [] Y.env)).any (·.1) = false := by rfl) : YE Y δ i C a cls d x (.Call (.Name kn p) [e] [] pos) U := by
  refine PE.imp (pe_callB (r := fun vs H Q => ∃ r, CallR Y (.builtin id) r ∧ r vs H Q) (fun pins s σ H vs us Q I rv ⟨r, hc, q⟩ => hc pins s σ H vs us Q I rv q) hg (by rw [hX]; exact F kn hb) hvb (pa_cons h pa_nil h1) hn hdb h1 hpl) fun σ H Q ⟨p, B, G, dd, v, hh, q⟩ => ⟨p, B, G, dd, v, hh, fun u y G' H' ⟨r, hc, hr⟩ n hu => ?_⟩
  exact ⟨r, hc, hr p B G' H' [u] (hh.i3.nxt n) (.cons hu .nil) Q fun u2 d2 G2 H2 rr n2 hu2 => q u2 d2 G2 H2 rr (n.trans n2) hu2⟩
theorem ye_and (h : YE Y δ i C a cls d x e (fun y => y = .bool true)) (hb : YE Y δ i C a cls d x (.BoolOp .And (b :: rest) pos) U) : YE Y δ i C a cls d x (.BoolOp .And (e :: b :: rest) pos) U :=
  PE.imp (pe_and h hb) fun σ H Q ⟨p, B, G, dd, v, hh, q⟩ => ⟨p, B, G, dd, v, hh, fun u y G' H' r n hu => by
    subst r
    cases hu
    exact ⟨true, rfl, iteT ⟨p, B, G', dd, v, hh.go n, fun u2 d2 G2 H2 r2 n2 k2 => q u2 d2 G2 H2 r2 (n.trans n2) k2⟩⟩⟩
theorem ye_one {op} (h : YE Y δ i C a cls d x e U) : YE Y δ i C a cls d x (.BoolOp op [e] pos) U := pe_one h
theorem ya_n : YA Y δ i C a cls d x [] [] := PA.imp pa_nil fun σ H Q ⟨p, B, G, dd, v, hh, q⟩ => q [] G H (.refl hh.i3) .nil
theorem ya_c (h : YE Y δ i C a cls d x e (fun z => z = y)) (h2 : YA Y δ i C a cls d x es ds) (hs : starEach (e :: es) Y.env = (false, eval e Y.env) :: starEach es Y.env := by rfl) : YA Y δ i C a cls d x (e :: es) (y :: ds) :=
  PA.imp (pa_cons h h2 hs) fun σ H Q ⟨p, B, G, dd, v, hh, q⟩ => ⟨p, B, G, dd, v, hh, fun u z G' H' r n hu => by
    subst r
    exact ⟨p, B, G', dd, v, hh.go n, fun us G2 H2 n2 hv2 => q (u :: us) G2 H2 (n.trans n2) (.cons (dp_ex n2.st.1 _ _ hu) hv2)⟩⟩
theorem ye_lst (h : YA Y δ i C a cls d x es ds) (hl : ds.length ≤ 100000 := by simp) : YE Y δ i C a cls d x (.List es pos) (fun z => z = .list ds) :=
  PE.imp (pe_lst h) fun σ H Q ⟨p, B, G, dd, v, hh, q⟩ => ⟨p, B, G, dd, v, hh, fun us G' H' n hv => ⟨by rw [dpAll_length hv]; exact Nat.le_trans hl (by decide), fun l hl0 => by
    have i3' := hh.i3.nxt n
    have m := Nxt.newH i3' (.lst us) hl0
    obtain ⟨m2, hd⟩ := own_data i3' m hl0 (i3'.gh.free hl0) (pot_ne i3' hl0) upd_same hv
    exact q _ _ _ _ rfl (n.trans m2) hd⟩⟩
end
theorem set_same {δ : De} {i : Nat} {en : En} (h : δ[i]? = some en) : δ.set i en = δ := by
  apply List.ext_getElem?
  intro j
  rw [List.getElem?_set]
  by_cases e : i = j
  · subst e
    rw [if_pos rfl, if_pos (List.getElem?_eq_some_iff.mp h).1, h]
  · rw [if_neg e]
/-- try: f(..) except C as n: y = e -/
theorem s_try {X : Cx} {i j k : Nat} {n y cn fx : Str} {qn : Str} {C fI : Addr} {es : List Expr} {e0 ev : Expr} {δ : De} {rest : List Stmt} {o : Out} {st : Stmt} {ps : List Str} {R : List Dt → Str → Dt → Prop} {V : Dt → Prop} {F : Dt → De} {W : Dt → Dt} {np pos' pos fp cpos epos yp apos : Pos}
    (Cl : CalX X.prog X.w X.K X.mg X.base k fx ps st (spX X.K X.mg R)) (T : ErrTxt X.K X.mg cn qn C fI) (hi : Nx X.N n i) (hδ : δ[i]? = some .no) (hj : Nx X.N y j) (hF : ∀ z, SetR δ j (.d z) (F z)) (hij : i ≠ j)
    (ha : ∀ pn xe, XA (X.tr pn xe) (e0 :: es) δ fun ds => ∃ x, R ds cn x ∧ V x) (hsu : ∀ x, V x → ∀ a oe cls d pn, Hold X (X.suite a ((a, oe) :: pn)) a cls d i n C → YE (X.suite a ((a, oe) :: pn)) δ i C a cls d x ev (fun z => z = W x)) (hk : ∀ x, V x → SsD X rest (F (W x)) o)
    (hN : X.N.Nodup := by assumption) (hr : Room k X.A := by first | assumption | (refine Room.mono (by assumption) ?_; decide)) (hgd : X.A.guards = some [] := by assumption) (hst : X.stack = X.env :: X.outer := by rfl) (hfr : X.env.frame = some X.env.locals := by rfl) (hln : X.env.kindOf n = some .local := by rfl) (hg : Gl X fx := by rfl) (hgc : Gl X cn := by rfl) (hdc : (cn == ("__debug__" : Str)) = false := by decide)
    (hdb : (fx == ("__debug__" : Str)) = false := by decide) (hpl : starEach es X.env = es.map fun e => (false, eval e X.env) := by rfl) (hsw : swapsWith (.Call (.Name fx fp) (e0 :: es) [] cpos) none epos.line X.env = pure false := by rfl)
    (hx : Loc X.env.scope y := by first | exact Or.inl rfl | exact Or.inr rfl) (hs2 : swapsWith ev (some (.Name y yp)) apos.line X.env = pure false := by rfl) (hf2 : X.fn y = true ∨ X.env.scope.names.lookup y = some .local := by first | exact .inl rfl | exact .inr rfl | assumption) :
    SsD X (.Try [.Expr (.Call (.Name fx fp) (e0 :: es) [] cpos) epos] [.ExceptHandler (some (.Name cn np)) (some n) [.Assign [.Name y yp] ev apos] pos'] [] [] pos :: rest) δ o := by
  refine ss_seq (N := fun δ' => ∃ x, V x ∧ δ' = F (W x)) ?_ (fun δ' ⟨x, hV, e⟩ => e ▸ hk x hV)
  refine PS.imp (ps_try_as (i := i) (c := .ref C) (Wout := fun _ _ _ _ => False) (tb := fun W2 => fun D σ H => rEX X δ W2 (fun c z => c = cn ∧ V z) σ H (fun _ _ => False)) (ts := fun a cls d => fun D σ H => ∃ x, V x ∧ rSE X.K δ i C a cls d x { nx := fun δ' => δ' = F (W x) } D σ H) hst hfr hN hi.eq hln ⟨hgc, hdc, .inl T.gC⟩ takes0 (fun W2 pn xe tk _ => ?body) (fun a oe cls d pn hz hf => ?suite)) fun D σ H ⟨p, B, G, i3, en, q⟩ => ?pre
  case body =>
    have z := r_call (X := X.tr pn xe) (ox := fun c z => c = cn ∧ V z) (p := fp) (pos := cpos) Cl ((ha pn xe).mono fun ds ⟨x, h1, h2⟩ => ⟨cn, x, h1, rfl, h2⟩) hr hgd hg hpl hdb W2 tk
    exact PSs.imp (pss_cons (ps_expr z hsw) (never (sts := []))) fun D σ H h => h
  case suite =>
    refine PSs.imp (t := fun D σ H => ∃ x, V x ∧ rSE X.K δ i C a cls d x { nx := fun δ' => δ' = F (W x) } D σ H) ⟨fun pins s σ H D I ⟨x, hV, h⟩ => ?_⟩ fun D σ H h => h
    have he := hsu x hV a oe cls d pn ⟨⟨oe, pn, rfl, hz, hf⟩, hi.eq⟩
    refine (PSs.imp (pss_one (ps_set (X := X.suite a ((a, oe) :: pn)) hN hj.eq hx he hs2 hf2)) ?_).run pins s σ H D I h
    rintro D σ H ⟨p, B, G, dd, v, hh, q⟩
    refine ⟨p, B, G, dd, v, hh, fun u z G' H' r n hu => ?_⟩
    subst r
    exact q.nx _ _ G' H' (by show δ.set j (.d (W x)) = F (W x); exact (hF _).eq) (n.stepB hh.i3) (hh.i3.nxt n) ((hh.en.nxt n).set hu)
  case pre =>
    refine ⟨p, B, G, i3, en, fun C' cn' d v x G' H' ⟨ec, hV⟩ gC n hd hd2 hv => ?_⟩
    subst ec
    have e : C' = C := by have := gC.symm.trans T.gC; cases this; rfl
    subst e
    refine ⟨true, T.te, fun _ a ha0 => ⟨x, hV, p, B, G', d, v, ⟨i3.nxt n, ?_, ?_, rfl, rfl, hd2, hv⟩, ?_⟩, fun z => Bool.noConfusion z⟩
    · have e1 := (en.nxt n).put (i := i) (o := some (.ref a)) (en := .no) trivial fun b f => by rcases f with ⟨z, _⟩ | z <;> cases z
      rw [set_same hδ] at e1
      exact e1
    · have hl : i < σ.length := by rw [en.len]; exact (List.getElem?_eq_some_iff.mp hδ).1
      rw [List.getElem?_set_self hl]
    · refine ⟨fun δ' σ' G2 H2 e2 st i2 en2 => ?_, fun _ _ _ _ z => z.elim, fun _ _ _ _ z => z.elim, fun _ _ _ _ z => z.elim, fun _ _ _ _ _ z => z.elim⟩
      have e3 := en2.put (i := i) (o := none) (en := .no) trivial fun b f => by rcases f with ⟨z, _⟩ | z <;> cases z
      have hs : δ'.set i .no = δ' := set_same (by rw [e2, ← (hF (W x)).eq, List.getElem?_set_ne (Ne.symm hij)]; exact hδ)
      rw [hs] at e3
      exact q.nx δ' _ G2 H2 ⟨x, hV, e2⟩ ((n.stepB i3).trans st) i2 e3
end Dv

set_option linter.all false
set_option maxRecDepth 100000
set_option maxHeartbeats 4000000
namespace Dv
open PySem PySem.Spec PyProof.Rows L2 RZ
theorem all_succ {p : Nat → Bool} {i : Nat} : (List.range (i + 1)).all p = ((List.range i).all p && p i) := by
  rw [List.range_succ, List.all_append]; simp
section
variable {X : Cx} {elt tg iter tg1 iter1 : Expr} {scope : Scope} {own : List (Str × Nat)} {pos p : Pos} {δ : De} {R : Dt → Prop}
/-- all([F(i, j) for i in places for j in places]) -/
theorem c_all2F {p2 : Pos} (n : Nat) (F : Nat → Nat → Bool) (own : List (Str × Nat)) (vs1 : List Nat) (ok : BlkOk X.N X.env.scope scope own) (hi : XI X tg iter δ fun ds => ds = rngD 0 n ∧ n ≤ 200 ∧
      (∀ i : Nat, i < n → ∃ δ2, (∀ s H C cl fp, TgD (bX X scope s H C cl fp) tg (own.map (·.2)) (.int ((i : Nat) : Int)) (wipeD δ (own.map (·.2))) δ2) ∧ δ2.all En.plain = true ∧ (∀ s H C cl fp, XI (bX X scope s H C cl fp) tg1 iter1 δ2 fun x => x = rngD 0 n) ∧
        ∀ j : Nat, j < n → ∃ δ3, Turn2 X elt tg1 scope δ2 δ3 vs1 (.int ((j : Nat) : Int)) fun y => y = .bool (F i j)) ∧ R (.bool ((List.range n).all fun i => (List.range n).all (F i))))
    (hN : X.N.Nodup := by assumption) (Fr : Free X.mg := by assumption) (hv : ∀ i ∈ vs1, i ∈ own.map (·.2) := by decide) (hg : Gl X "all" := by rfl) (hc : X.calm = true := by rfl) (hs : ∀ x, foldedSetIterable iter X.env x = pure x := by intro _; rfl) (hs1 : ∀ env x, foldedSetIterable iter1 env x = pure x := by intro _ _; rfl)
    (h1 : starEach [.ListComp elt [⟨tg, iter, [], 0⟩, ⟨tg1, iter1, [], 0⟩] scope pos] X.env = (false, eval (.ListComp elt [⟨tg, iter, [], 0⟩, ⟨tg1, iter1, [], 0⟩] scope pos) X.env) :: starEach [] X.env := by rfl) (h2 : starEach [.ListComp elt [⟨tg, iter, [], 0⟩, ⟨tg1, iter1, [], 0⟩] scope pos] X.env = [.ListComp elt [⟨tg, iter, [], 0⟩, ⟨tg1, iter1, [], 0⟩] scope pos].map fun e => (false, eval e X.env) := by rfl) :
    XD X (.Call (.Name "all" p) [.ListComp elt [⟨tg, iter, [], 0⟩, ⟨tg1, iter1, [], 0⟩] scope pos] [] p2) δ R :=
  c_all (c_o (xo_comp2 own vs1 ok (PI.imp hi fun σ H Q ⟨p, B, G, i3, en, q⟩ => ⟨p, B, G, i3, en, fun J ds G' H' ⟨hd, hl, turn, fin⟩ => q J ds G' H' ⟨by rw [hd, rngD_length]; omega, fun i out => ∃ bs : List Bool, out = bs.map PyData.bool ∧ bs.length ≤ 200 * i ∧ bs.all _root_.id = (List.range i).all fun a => (List.range n).all (F a), ⟨[], rfl, by simp, rfl⟩, fun i d out hd2 ⟨bs, e1, e2, e3⟩ => by
    rw [hd] at hd2
    obtain ⟨hi, e⟩ := rngD_at hd2
    rw [Int.zero_add] at e
    subst e
    obtain ⟨δ2, t1, t2, t3, t5⟩ := turn i hi
    refine ⟨δ2, rngD 0 n, t1, t2, t3, fun j out => ∃ bs : List Bool, out = bs.map PyData.bool ∧ bs.length ≤ 200 * i + j ∧ bs.all _root_.id = (((List.range i).all fun a => (List.range n).all (F a)) && (List.range j).all (F i)), ⟨bs, e1, by omega, by rw [e3]; simp⟩, fun j d1 out1 hd1 ⟨cs, f1, f2, f3⟩ => ?_, fun out1 ⟨cs, f1, f2, f3⟩ => ?_⟩
    · obtain ⟨hj, e⟩ := rngD_at hd1
      rw [Int.zero_add] at e
      subst e
      obtain ⟨δ3, u⟩ := t5 j hj
      refine ⟨by rw [f1, List.length_map]; have : i < 200 := by omega
                 omega, δ3, u.g, fun s H C cl fp => (u.e s H C cl fp).mono fun y hy => ⟨cs ++ [F i j], by rw [f1, hy, List.map_append]; rfl, by rw [List.length_append]; simp; omega, ?_⟩⟩
      rw [List.all_append, f3, all_succ, Bool.and_assoc]
      simp
    · rw [rngD_length] at f2 f3
      exact ⟨cs, f1, by omega, by rw [f3, all_succ]⟩, fun out ⟨bs, e1, e2, e3⟩ => by
    rw [hd, rngD_length] at e3
    rw [e1]
    exact f_all (by rw [e3]; exact fin) hc⟩⟩) hN hv hc hs hs1)) Fr hg h1 h2
end
end Dv

set_option linter.all false
set_option maxRecDepth 100000
set_option maxHeartbeats 4000000
namespace Dv
open PySem PySem.Spec PyProof.Rows L2 RZ
theorem so_app {a b : Str} (h1 : PyData.strOk a = true) (h2 : PyData.strOk b = true) : PyData.strOk (a ++ b) = true := by
  show ((a.cps ++ b.cps).all fun c => decide (c < 0x110000)) = true
  rw [Array.all_append]
  have e1 : (a.cps.all fun c => decide (c < 0x110000)) = true := h1
  have e2 : (b.cps.all fun c => decide (c < 0x110000)) = true := h2
  rw [e1, e2]; rfl
theorem so_of (s : String) : PyData.strOk (Str.ofString s) = true := by
  rw [Str.ofString_eq_toList]
  unfold PyData.strOk
  rw [Array.all_eq_true]
  intro i hi
  refine decide_eq_true ?_
  have h : ∀ x ∈ s.toList.map Char.toNat, x < 0x110000 := fun x hx => by
    obtain ⟨c, _, rfl⟩ := List.mem_map.mp hx
    have v := c.valid
    unfold UInt32.isValidChar at v
    unfold Nat.isValidChar at v
    show c.val.toNat < _
    omega
  exact h _ (by
    have := Array.getElem_mem hi
    simpa using this)
theorem so_from : ∀ {ts : List Str} {k : Nat} {acc : Str}, PyData.strOk acc = true → (∀ t ∈ ts, PyData.strOk t = true) → PyData.strOk (textFrom k acc ts) = true
  | [], _, _, h, _ => h
  | t :: ts, k, acc, h, ht => by
    unfold textFrom
    exact so_from (so_app (so_app h (so_of _)) (ht t (List.mem_cons_self ..))) fun x hx => ht x (List.mem_cons_of_mem _ hx)
theorem so_join : ∀ {ts : List Str}, (∀ t ∈ ts, PyData.strOk t = true) → PyData.strOk (Str.join ", " ts) = true
  | [], _ => by decide +kernel
  | [x], h => h x (List.mem_cons_self ..)
  | x :: y :: r, h => so_app (so_app (h x (List.mem_cons_self ..)) (so_of _)) (so_join fun z hz => h z (List.mem_cons_of_mem _ hz))
mutual
/-- what is shown of it are signs there are -/
def sok : Dt → Bool
  | .str x => PyData.strOk (reprText x)
  | .list xs => sokAll xs
  | .tuple xs => sokAll xs
  | .dict kvs => kvs.isEmpty
  | _ => true
def sokAll : List Dt → Bool
  | [] => true
  | x :: xs => sok x && sokAll xs
end
mutual
theorem sok_shown : ∀ {v : Dt}, sok v = true → PyData.strOk v.shown = true
  | .none, _ => so_of _
  | .bool b, _ => by
    cases b <;> exact so_of _
  | .int i, _ => so_of _
  | .str x, h => h
  | .list xs, h => so_app (so_from (so_of _) (sok_all (xs := xs) h)) (so_of _)
  | .tuple xs, h => so_app (so_app (so_of _) (so_join (sok_all (xs := xs) h))) (so_of _)
  | .dict kvs, h => by
    cases kvs with
    | nil => exact (by decide +kernel : PyData.strOk (PyData.dict []).shown = true)
    | cons _ _ => cases h
theorem sok_all : ∀ {xs : List Dt}, sokAll xs = true → ∀ t ∈ PyData.shownAll xs, PyData.strOk t = true
  | [], _, t, ht => by cases ht
  | x :: xs, h, t, ht => by
    have h2 : (sok x && sokAll xs) = true := h
    rw [Bool.and_eq_true] at h2
    rcases List.mem_cons.mp ht with rfl | ht
    · exact sok_shown h2.1
    · exact sok_all h2.2 t ht
end
theorem sokAll_of : ∀ {xs : List Dt}, (∀ x ∈ xs, sok x = true) → sokAll xs = true
  | [], _ => rfl
  | x :: xs, h => by
    show (sok x && sokAll xs) = true
    rw [h x (List.mem_cons_self ..), sokAll_of fun y hy => h y (List.mem_cons_of_mem _ hy)]; rfl
theorem sokAll_mem : ∀ {xs : List Dt}, sokAll xs = true → ∀ x ∈ xs, sok x = true
  | [], _, x, hx => by cases hx
  | y :: xs, h, x, hx => by
    have h2 : (sok y && sokAll xs) = true := h
    rw [Bool.and_eq_true] at h2
    rcases List.mem_cons.mp hx with rfl | hx
    · exact h2.1
    · exact sokAll_mem h2.2 x hx
end Dv

set_option linter.all false
set_option maxRecDepth 100000
set_option maxHeartbeats 4000000
namespace Dv
open PySem PySem.Spec PyProof.Rows L2 RZ
section
variable {X : Cx} {a b e : Expr} {δ : De} {p pos p3 p4 : Pos} {S : List Dt → Prop} {R : Dt → Prop}
/-- two lists put together are a new list -/
theorem o_cat (h : XD X a δ fun x => XD X b δ fun y => ∃ es fs, x = .list es ∧ y = .list fs ∧ es.length + fs.length ≤ 100000 ∧ S (es ++ fs)) : XO X (.BinOp a .Add b pos) δ S :=
  PE.imp (pe_op (r := rCatR X.K) op_catR h (pe_later (δ := δ))) fun σ H Q ⟨p, B, G, i3, en, q⟩ => two_c i3 en fun v w d1 d2 G' H' ⟨es, fs, e1, e2, hl, k⟩ n i' h1 h2 => by
    subst e1; subst e2
    cases h1 with
    | lst hs ha => cases h2 with
      | lst hs2 ha2 =>
        exact ⟨_, _, _, _, rfl, rfl, ex_x i'.gh hs, ex_x i'.gh hs2, by rw [dpAll_length ha, dpAll_length ha2]; exact Nat.le_trans hl (by decide), fun l hl => q l _ (es ++ fs) G' _ k (n.trans (.newH i' (.lst _) hl)) (back_none n hl) (i'.gh.free hl) (pot_ne i' hl) upd_same (dpAll_append ha ha2)⟩
/-- list(range(n)) -/
theorem c_listRg1 (h : XD X a δ fun d => ∃ n : Nat, d = .int ((n : Nat) : Int) ∧ n ≤ 100000 ∧ R (.list ((List.range n).map fun i => PyData.int ((i : Nat) : Int)))) (F : Free X.mg := by assumption) (hc : X.calm = true := by rfl) (hg : Gl X "list" := by rfl) (hg2 : Gl X "range" := by rfl)
    (hs2 : starEach [a] X.env = (false, eval a X.env) :: starEach [] X.env := by rfl) (hs3 : starEach [.Call (.Name "range" p3) [a] [] p4] X.env = (false, eval (.Call (.Name "range" p3) [a] [] p4) X.env) :: starEach [] X.env := by rfl) :
    XD X (.Call (.Name "list" p) [.Call (.Name "range" p3) [a] [] p4] [] pos) δ R :=
  PE.imp (pe_listRg hc hg (F "list" (by decide +kernel)) (prg_1 hg2 (F "range" (by decide +kernel)) h hs2) hs3) fun σ H Q ⟨p, B, G, i3, en, q⟩ => ⟨p, B, G, i3, en, fun v d G' H' ⟨n, e1, hn, k⟩ nx hv => by
    subst e1
    cases hv
    have hr : RgOk 0 ((n : Nat) : Int) := RgOk.of_le (by omega) (by omega) (by omega) (by omega)
    refine ⟨_, rfl, hr, fun l hl => q _ _ _ _ k (nx.trans (.new (i3.nxt nx) _ hl)) (.lst (.inl (.inl upd_same)) ?_)⟩
    have e1 : rgV 0 ((n : Nat) : Int) = ((List.range n).map fun k : Nat => ((k : Nat) : Int)).map V.int := by
      unfold rgV
      rw [List.map_map, show ((((n : Nat) : Int)) - 0).toNat = n by omega]
      refine List.map_congr_left fun k _ => ?_
      show V.int (0 + ((k : Nat) : Int)) = V.int ((k : Nat) : Int)
      rw [Int.zero_add]
    have e2 : ((List.range n).map fun i => PyData.int ((i : Nat) : Int)) = ((List.range n).map fun k : Nat => ((k : Nat) : Int)).map PyData.int := by rw [List.map_map]; rfl
    rw [e1, e2]
    exact dpAll_of_ints _⟩
end
end Dv

set_option linter.all false
set_option maxRecDepth 100000
set_option maxHeartbeats 4000000
namespace Dv
open PySem PySem.Spec PyProof.Rows L2 RZ
theorem exm_own {K : PySem.W.Frag} {C : Addr} (hb : PySem.W.subIn K (.ref C) (.type "BaseException") = some true) (hi : PySem.W.isClsIn K C = true) (ht : PySem.W.typeIn K (.ref C) = some (.type "type")) (hs : PySem.W.subIn K (.ref C) (.ref C) = some true) : PySem.W.exmOne K (.ref C) (.ref C) = some true := by
  unfold PySem.W.exmOne PySem.W.kitCls
  unfold PySem.W.isClsIn at hi
  simp [hb, hi, ht, hs]
theorem kit_ref {K : PySem.W.Frag} {C B : Addr} (hi : PySem.W.isClsIn K B = true) (ht : PySem.W.typeIn K (.ref B) = some (.type "type")) (hs : PySem.W.subIn K (.ref C) (.ref B) = some true) : PySem.W.kitOne K (.ref C) (.ref B) = some true := by
  unfold PySem.W.kitOne
  split
  · rfl
  · unfold PySem.W.kitCls
    unfold PySem.W.isClsIn at hi
    simp [hi, ht, hs]
theorem kit_ty {K : PySem.W.Frag} {C : Addr} {T : String} (hm : PySem.W.kitMeta T = true) (hs : PySem.W.subIn K (.ref C) (.type T) = some true) : PySem.W.kitOne K (.ref C) (.type T) = some true := by
  unfold PySem.W.kitOne
  split
  · rfl
  · unfold PySem.W.kitCls
    simp [hm, hs]
theorem Df.calX {P : Program} {w : World} {K : Fg} {mg : Str → Option Value} {base h : Heap} {k : Nat} {x : Str} {ps : List Str} {st : Stmt} {sp : Sp} (D : Df K x st) (X : K.In h) (G : h.Ns mainGlobals mg)
    (hb : ∀ (kV doc pm : Value) (an : Option Addr) (cdv ct : Value) (us : List Value), us.length = ps.length → bindArgs (PySem.W.fnOf x x (defArgs st) (defBody st) (defScope st) .none kV doc pm an cdv ct) ⟨us, []⟩ = pure (ps.zip us))
    (F : ∀ f fd, Fun K x x st f fd → FnX P w K mg base k f fd ps sp) : CalX P w K mg base k x ps st sp := by
  obtain ⟨f, fd, a, hk, fn⟩ := D.ex
  exact ⟨f, fd, F f fd fn, PySem.W.mg_of X G a, hk, fn.binds hb, fn⟩
end Dv

set_option linter.all false
set_option maxRecDepth 100000
set_option maxHeartbeats 4000000
namespace DvZ
open PySem
open Sem (wp)
theorem zip_no_len : typeLookup (.type "zip") "__len__" = pure none := by rw [typeLookup_type, builtinLookup_eq_fast]; kernel_rfl
theorem zip_no_hint : typeLookup (.type "zip") "__length_hint__" = pure none := by rw [typeLookup_type, builtinLookup_eq_fast]; kernel_rfl
structure ZSt (h : Heap) (S z TI TO i1 i2 l1 l2 : Addr) (xs ys : Array Value) (i : Nat) : Prop where
  ti : PySem.IsPair h TI (.ref i1) (.ref i2)
  h1 : h.IsListIter i1 l1 i
  h2 : h.IsListIter i2 l2 i
  l1 : h.IsList l1 xs
  l2 : h.IsList l2 ys
  z : (IsZip h z TI TO .none ∧ ∃ a b, PySem.IsPair h TO a b) ∨ ∃ T f oT, IsZipHeld h z TI TO T f ∧ h.get? T = some oT ∧ T ≠ z ∧ T ≠ i1 ∧ T ≠ i2 ∧ T ≠ S
section
variable {prog : Program} {w : World} {A : Around} {E : Value → Shared → Prop} {s : Shared} {S z TI TO i1 i2 l1 l2 : Addr} {xs ys : Array Value} {i : Nat}
theorem z_item {Q : Option Value → Shared → Prop} (D : ZipApart z TI TO i1 i2 l1 l2) (hS : S < s.heap.objs.size) (st : ZSt s.heap S z TI TO i1 i2 l1 l2 xs ys i) {x y : Value} (ex : xs[i]? = some x) (ey : ys[i]? = some y)
    (hQ : ∀ h', ZSt h' S z TI TO i1 i2 l1 l2 xs ys (i + 1) → PySem.IsPair h' s.heap.objs.size x y → h'.objs.size = s.heap.objs.size + 1 → (∀ c o, c ≠ z → c ≠ TO → c ≠ i1 → c ≠ i2 → s.heap.get? c = some o → h'.get? c = some o) → Q (some (.ref s.heap.objs.size)) { s with heap := h' }) :
    wpAny (model prog w) A (pyNext (.ref z)) Q E s := by
  obtain ⟨hTI, h1, h2, hl1, hl2, hz⟩ := st
  have lt : ∀ {c o}, s.heap.get? c = some o → s.heap.objs.size ≠ c := fun e => Nat.ne_of_gt (Heap.lt_size e)
  have n1 : s.heap.objs.size ≠ i1 := let ⟨_, e, _⟩ := h1; lt e
  have n2 : s.heap.objs.size ≠ i2 := let ⟨_, e, _⟩ := h2; lt e
  rcases hz with ⟨hz, a, b, hTO⟩ | ⟨T, f, oT, hz, hT, r1, r2, r3, r4⟩
  · refine wpAny_pyNext_zip_item D hz hTI hTO h1 h2 hl1 hl2 ex ey fun h' a1 a2 a3 a4 a5 a6 hk => ?_
    exact hQ h' ⟨hk _ _ D.TIz D.TITO D.TIi1 D.TIi2 hTI, a3, a4, hl1.at fun o e => hk _ o D.l1z D.l1TO D.l1i1 D.l1i2 e, hl2.at fun o e => hk _ o D.l2z D.l2TO D.l2i1 D.l2i2 e, .inr ⟨_, false, _, a1, a5, lt hz, n1, n2, Nat.ne_of_gt hS⟩⟩ a5 a6 hk
  · refine wpAny_pyNext_zip_item_held D hz hT hTI h1 h2 hl1 hl2 ex ey fun h' a1 a3 a4 a5 a6 hk => ?_
    exact hQ h' ⟨hk _ _ D.TIz D.TIi1 D.TIi2 hTI, a3, a4, hl1.at fun o e => hk _ o D.l1z D.l1i1 D.l1i2 e, hl2.at fun o e => hk _ o D.l2z D.l2i1 D.l2i2 e, .inr ⟨T, true, oT, a1, hk _ _ r1 r2 r3 hT, r1, r2, r3, r4⟩⟩ a5 a6 fun c o c1 c2 c3 c4 e => hk c o c1 c3 c4 e
theorem z_done {Q : Option Value → Shared → Prop} (hA : A.handled = none) (D : ZipApart z TI TO i1 i2 l1 l2) (st : ZSt s.heap S z TI TO i1 i2 l1 l2 xs ys i) (ex : xs[i]? = none)
    (hQ : ∀ h', (∀ c o, c ≠ z → c ≠ TO → c ≠ i1 → c ≠ i2 → s.heap.get? c = some o → h'.get? c = some o) → Q none { s with heap := h' }) : wpAny (model prog w) A (pyNext (.ref z)) Q E s := by
  obtain ⟨hTI, h1, h2, hl1, hl2, hz⟩ := st
  rcases hz with ⟨hz, a, b, hTO⟩ | ⟨T, f, oT, hz, hT, r1, r2, r3, r4⟩
  · exact wpAny_pyNext_zip_end hA D hz hTI hTO h1 h2 hl1 hl2 (.inl ex) hQ
  · exact wpAny_pyNext_zip_end_held hA D hz hT hTI h1 h2 hl1 hl2 (.inl ex) fun h' hk => hQ h' fun c o c1 c2 c3 c4 e => hk c o c1 c3 c4 e
/-- the heap at S alone is written -/
theorem ZSt.at {h h' : Heap} (st : ZSt h S z TI TO i1 i2 l1 l2 xs ys i) (k : ∀ b o, b ≠ S → h.get? b = some o → h'.get? b = some o) (d1 : z ≠ S) (d2 : TI ≠ S) (d3 : TO ≠ S) (d4 : i1 ≠ S) (d5 : i2 ≠ S) (d6 : l1 ≠ S) (d7 : l2 ≠ S) : ZSt h' S z TI TO i1 i2 l1 l2 xs ys i := by
  obtain ⟨hTI, h1, h2, hl1, hl2, hz⟩ := st
  refine ⟨k _ _ d2 hTI, h1.at fun o e => k _ o d4 e, h2.at fun o e => k _ o d5 e, hl1.at fun o e => k _ o d6 e, hl2.at fun o e => k _ o d7 e, ?_⟩
  rcases hz with ⟨hz, a, b, hTO⟩ | ⟨T, f, oT, hz, hT, r1, r2, r3, r4⟩
  · exact .inl ⟨k _ _ d1 hz, a, b, k _ _ d3 hTO⟩
  · exact .inr ⟨T, f, oT, k _ _ d1 hz, k _ _ r4 hT, r1, r2, r3, r4⟩
structure ZAcc (S : Addr) (h : Heap) (acc : Array Value) (Ts : List Addr) (xs ys : Array Value) (i : Nat) : Prop where
  len : Ts.length = i
  eq : acc = (Ts.map Value.ref).toArray
  nd : Ts.Nodup
  ge : ∀ T ∈ Ts, S < T
  pr : ∀ (j : Nat) (T : Addr), Ts[j]? = some T → ∃ x y, xs[j]? = some x ∧ ys[j]? = some y ∧ PySem.IsPair h T x y
theorem ZAcc.keep {h h' : Heap} {acc : Array Value} {Ts : List Addr} (a : ZAcc S h acc Ts xs ys i) (k : ∀ b o, S < b → h.get? b = some o → h'.get? b = some o) : ZAcc S h' acc Ts xs ys i :=
  ⟨a.len, a.eq, a.nd, a.ge, fun j T e => by
    obtain ⟨x, y, e1, e2, e3⟩ := a.pr j T e
    exact ⟨x, y, e1, e2, k _ _ (a.ge T (List.mem_of_getElem? e)) e3⟩⟩
theorem ZAcc.push {h : Heap} {acc : Array Value} {Ts : List Addr} (a : ZAcc S h acc Ts xs ys i) {T : Addr} {x y : Value} (ex : xs[i]? = some x) (ey : ys[i]? = some y) (hp : PySem.IsPair h T x y) (hS : S < T) (hn : ∀ U ∈ Ts, U < T) : ZAcc S h (acc.push (.ref T)) (Ts ++ [T]) xs ys (i + 1) := by
  refine ⟨by rw [List.length_append, a.len]; rfl, by rw [a.eq]; simp, ?_, ?_, ?_⟩
  · refine List.nodup_append.mpr ⟨a.nd, by simp, fun U hU V hV => ?_⟩
    rw [List.mem_singleton] at hV
    subst hV
    exact Nat.ne_of_lt (hn U hU)
  · intro U hU
    rcases List.mem_append.mp hU with hU | hU
    · exact a.ge U hU
    · rw [List.mem_singleton] at hU; subst hU; exact hS
  · intro j U e
    by_cases hj : j < Ts.length
    · rw [List.getElem?_append_left hj] at e; exact a.pr j U e
    · have hj2 : j = Ts.length := by
        have := (List.getElem?_eq_some_iff.mp e).1
        rw [List.length_append, List.length_singleton] at this
        omega
      subst hj2
      rw [List.getElem?_append_right (Nat.le_refl _)] at e
      simp at e
      subst e
      rw [a.len]
      exact ⟨x, y, ex, ey, hp⟩
theorem z_loop {R : Result → Shared → Prop} (hA : A.in1.handled = none) (D : ZipApart z TI TO i1 i2 l1 l2) (d1 : z < S) (d2 : TI < S) (d3 : TO < S) (d4 : i1 < S) (d5 : i2 < S) (d6 : l1 < S) (d7 : l2 < S) (hxy : xs.size = ys.size) (hn : xs.size ≤ sizeLine) (res : Value) :
    ∀ (k i : Nat) (s : Shared) (acc : Array Value) (Ts : List Addr) (c : Nat), xs.size - i = k → i ≤ xs.size → ZSt s.heap S z TI TO i1 i2 l1 l2 xs ys i → s.heap.get? S = some { cls := .type "list", dict := none, data := .seq acc c, slots := #[] } → ZAcc S s.heap acc Ts xs ys i →
    (∀ h' acc' Ts' c', (∀ b o, b ≠ z → b ≠ TO → b ≠ i1 → b ≠ i2 → b ≠ S → s.heap.get? b = some o → h'.get? b = some o) → h'.get? S = some { cls := .type "list", dict := none, data := .seq acc' c', slots := #[] } → ZAcc S h' acc' Ts' xs ys xs.size → R (.ok (.ret res)) { s with heap := h' }) →
    codeAny (model prog w) A (.builtin "list.extend.loop" ⟨[.ref S, .ref z, res], []⟩) R s := by
  intro k
  induction k with
  | zero =>
    intro i s acc Ts c hk hi st hS hacc hR
    have hin : i = xs.size := by omega
    subst hin
    refine codeAny_builtin F.entry_extend_loop ?_
    rw [Around.under_plainId F.plain_extend_loop _]
    show wpAny _ A.in1 (pyNext (.ref z) >>= _) _ _ s
    refine wpAny_bind (z_done hA D st (Array.getElem?_eq_none (Nat.le_refl _)) fun h' hk' => ?_)
    have nS : ∀ {a : Addr}, a < S → S ≠ a := fun h => Nat.ne_of_gt h
    refine wpAny_pure (hR h' acc Ts c (fun b o b1 b2 b3 b4 _ e => hk' b o b1 b2 b3 b4 e) (hk' S _ (nS d1) (nS d3) (nS d4) (nS d5) hS) (hacc.keep fun b o hb e => hk' b o ?_ ?_ ?_ ?_ e)) <;> exact Nat.ne_of_gt (Nat.lt_trans (by assumption) hb)
  | succ k ih =>
    intro i s acc Ts c hk hi st hS hacc hR
    have hlt : i < xs.size := by omega
    have ex := Array.getElem?_eq_getElem hlt
    have ey := Array.getElem?_eq_getElem (show i < ys.size by omega)
    refine codeAny_builtin F.entry_extend_loop ?_
    rw [Around.under_plainId F.plain_extend_loop _]
    show wpAny _ A.in1 (pyNext (.ref z) >>= _) _ _ s
    have hSlt : S < s.heap.objs.size := Heap.lt_size hS
    have nS : ∀ {a : Addr}, a < S → S ≠ a := fun h => Nat.ne_of_gt h
    refine wpAny_bind (z_item D hSlt st ex ey fun h' st' hp hsz hk' => ?_)
    have hS' := hk' S _ (nS d1) (nS d3) (nS d4) (nS d5) hS
    have hacc1 : ZAcc S h' acc Ts xs ys i := hacc.keep fun b o hb e => hk' b o (Nat.ne_of_gt (Nat.lt_trans d1 hb)) (Nat.ne_of_gt (Nat.lt_trans d3 hb)) (Nat.ne_of_gt (Nat.lt_trans d4 hb)) (Nat.ne_of_gt (Nat.lt_trans d5 hb)) e
    have hacc2 := hacc1.push ex ey hp hSlt fun U hU => by
      obtain ⟨j, hj⟩ := List.getElem?_of_mem hU
      obtain ⟨_, _, _, _, e⟩ := hacc.pr j U hj
      exact Heap.lt_size e
    show wpAny _ A.in1 (updateSeq S (·.push (.ref s.heap.objs.size)) >>= _) _ _ _
    refine wpAny_bind ?_
    have oth : ∀ b o, b ≠ S → h'.get? b = some o → (h'.update S (Obj.mapSeq (·.push (.ref s.heap.objs.size)))).get? b = some o := fun b o hb e => (Heap.get?_update_other _ _ (Ne.symm hb)).trans e
    have hsz2 : acc.size = i := by rw [hacc.eq]; simp [hacc.len]
    refine wpAny_updateSeq hS' rfl (wpAny_pure ⟨plainId_quiet F.plain_extend_loop _, ih (i + 1) _ (acc.push (.ref s.heap.objs.size)) _ _ (by omega) hlt (st'.at oth (Nat.ne_of_lt d1) (Nat.ne_of_lt d2) (Nat.ne_of_lt d3) (Nat.ne_of_lt d4) (Nat.ne_of_lt d5) (Nat.ne_of_lt d6) (Nat.ne_of_lt d7)) (Heap.get?_update_self _ hS' rfl) (hacc2.keep fun b o hb e => oth b o (Nat.ne_of_gt hb) e) fun h'' acc' Ts' c' hk'' hS'' hacc' => ?_⟩)
      (by rw [hsz2]; omega) (by show (acc.push (.ref s.heap.objs.size)).size ≤ sizeLine + 1; rw [Array.size_push, hsz2]; omega)
    exact hR h'' acc' Ts' c' (fun b o b1 b2 b3 b4 b5 e => hk'' b o b1 b2 b3 b4 b5 (oth b o b5 (hk' b o b1 b2 b3 b4 e))) hS'' hacc'
theorem z_extend {R : Result → Shared → Prop} (hA : A.in1.handled = none) (D : ZipApart z TI TO i1 i2 l1 l2) (d1 : z < S) (d2 : TI < S) (d3 : TO < S) (d4 : i1 < S) (d5 : i2 < S) (d6 : l1 < S) (d7 : l2 < S) (hxy : xs.size = ys.size) (hn : xs.size ≤ sizeLine) (res : Value) (c₀ : Nat)
    (hz : IsZip s.heap z TI TO .none) (st : ZSt s.heap S z TI TO i1 i2 l1 l2 xs ys 0) (hS : s.heap.get? S = some { cls := .type "list", data := .seq #[] c₀ })
    (hR : ∀ h' acc' Ts' c', (∀ b o, b ≠ z → b ≠ TO → b ≠ i1 → b ≠ i2 → b ≠ S → s.heap.get? b = some o → h'.get? b = some o) → h'.get? S = some { cls := .type "list", dict := none, data := .seq acc' c', slots := #[] } → ZAcc S h' acc' Ts' xs ys xs.size → R (.ok (.ret res)) { s with heap := h' }) :
    wpAny (model prog w) A.in1 (Builtin.List.listExtendWith (.ref S) (.ref z) res)
      (fun fin s' => match fin with | .done f => R (.ok f) s' | .again c' => c'.quiet = true ∧ codeAny (model prog w) A c' R s') (fun e s' => R (.error e) s') s := by
  have hSI : S ≠ z := Nat.ne_of_gt d1
  have hT : s.TypeIs (.ref z) "zip" := ⟨_, hz, rfl⟩
  unfold Builtin.List.listExtendWith
  refine wpAny_bind (wpAny_typeOf hT ?_)
  have h1 : Builtin.List.listSameRef (.ref S) (.ref z) = false := by simp [Builtin.List.listSameRef, hSI]
  have h2 : (Value.type "zip" == Value.type "list") = false := by decide
  have h3 : (Value.type "zip" == Value.type "tuple") = false := by decide
  simp only [h1, h2, h3, Bool.or_false, Bool.false_eq_true, if_false]
  refine wpAny_bind (wpAny_pyIter_zip hz ?_)
  refine wpAny_bind (wpAny_holding ?_)
  unfold Builtin.List.listLengthHint
  refine wpAny_bind (wpAny_specialOf hT zip_no_len ?_)
  show wpAny _ A.in1 (specialOf (Value.ref z) (Str.ofString "__length_hint__") >>= _) _ _ _
  refine wpAny_bind (wpAny_specialOf hT zip_no_hint ?_)
  refine wpAny_pure ?_
  show wpAny _ A.in1 (rule "list.extend.makes-room" >>= fun _ => Builtin.List.listTouch (.ref S) >>= fun _ =>
    again (.builtin "list.extend.loop" ⟨[.ref S, .ref z, res], []⟩)) _ _ _
  refine wpAny_bind (wpAny_rule ?_)
  refine wpAny_bind ?_
  show wpAny _ A.in1 (updateSeq S (·.push .none) >>= fun _ => updateSeq S (·.pop)) _ _ _
  refine wpAny_bind (wpAny_updateSeq hS rfl ?_)
  have hS₂ := Heap.get?_update_self (Obj.mapSeq (·.push Value.none)) hS rfl
  refine wpAny_updateSeq (hz := by seq_fits) hS₂ rfl ?_
  have hS₃ := Heap.get?_update_self (Obj.mapSeq (·.pop)) hS₂ rfl
  have oth : ∀ b o, b ≠ S → s.heap.get? b = some o → ((s.heap.update S (Obj.mapSeq (·.push Value.none))).update S (Obj.mapSeq (·.pop))).get? b = some o :=
    fun b o hb e => (Heap.get?_update_other _ _ (Ne.symm hb)).trans ((Heap.get?_update_other _ _ (Ne.symm hb)).trans e)
  refine wpAny_pure ⟨plainId_quiet F.plain_extend_loop _, z_loop hA D d1 d2 d3 d4 d5 d6 d7 hxy hn res _ 0 _ #[] [] _ rfl (Nat.zero_le _) (st.at oth (Nat.ne_of_lt d1) (Nat.ne_of_lt d2) (Nat.ne_of_lt d3) (Nat.ne_of_lt d4) (Nat.ne_of_lt d5) (Nat.ne_of_lt d6) (Nat.ne_of_lt d7)) hS₃ ⟨rfl, rfl, List.nodup_nil, (fun _ h => by cases h), (fun _ _ h => by simp at h)⟩ fun h' acc' Ts' c' hk hS' hacc => ?_⟩
  exact hR h' acc' Ts' c' (fun b o b1 b2 b3 b4 b5 e => hk b o b1 b2 b3 b4 b5 (oth b o b5 e)) hS' hacc
theorem z_init {R : Result → Shared → Prop} (hA : A.in1.handled = none) (D : ZipApart z TI TO i1 i2 l1 l2) (d1 : z < S) (d2 : TI < S) (d3 : TO < S) (d4 : i1 < S) (d5 : i2 < S) (d6 : l1 < S) (d7 : l2 < S) (hxy : xs.size = ys.size) (hn : xs.size ≤ sizeLine)
    (hz : IsZip s.heap z TI TO .none) (st : ZSt s.heap S z TI TO i1 i2 l1 l2 xs ys 0) (hS : s.heap.get? S = some { cls := .type "list", data := .seq #[] })
    (hR : ∀ h' acc' Ts' c', (∀ b o, b ≠ z → b ≠ TO → b ≠ i1 → b ≠ i2 → b ≠ S → s.heap.get? b = some o → h'.get? b = some o) → h'.get? S = some { cls := .type "list", dict := none, data := .seq acc' c', slots := #[] } → ZAcc S h' acc' Ts' xs ys xs.size → R (.ok (.ret .none)) { s with heap := h' }) :
    wpAny (model prog w) A.in1 (Builtin.«list.__init__» ⟨[.ref S, .ref z], []⟩)
      (fun fin s' => match fin with | .done f => R (.ok f) s' | .again c' => c'.quiet = true ∧ codeAny (model prog w) A c' R s') (fun e s' => R (.error e) s') s := by
  show wpAny _ A.in1 (do let old ← Builtin.List.listItems (.ref S); Builtin.List.listUpdate (.ref S) (fun _ => #[]); letGo old.toList.reverse; Builtin.List.listExtendWith (.ref S) (.ref z) .none) _ _ s
  refine wpAny_bind ?_
  unfold Builtin.List.listItems
  refine wpAny_bind (wpAny_seqItems hS rfl (wpAny_pure ?_))
  show wpAny _ A.in1 (updateSeq S (fun _ => #[]) >>= fun _ => letGo (#[] : Array Value).toList.reverse >>= fun _ => Builtin.List.listExtendWith (.ref S) (.ref z) .none) _ _ s
  refine wpAny_bind (wpAny_updateSeq hS rfl ?_)
  have hS₂ := Heap.get?_update_self (Obj.mapSeq (fun _ => (#[] : Array Value))) hS rfl
  have oth : ∀ b o, b ≠ S → s.heap.get? b = some o → (s.heap.update S (Obj.mapSeq (fun _ => (#[] : Array Value)))).get? b = some o :=
    fun b o hb e => (Heap.get?_update_other _ _ (Ne.symm hb)).trans e
  refine wpAny_bind (wpAny_letGo ?_)
  refine z_extend hA D d1 d2 d3 d4 d5 d6 d7 hxy hn .none _ (oth _ _ (Nat.ne_of_lt d1) hz) (st.at oth (Nat.ne_of_lt d1) (Nat.ne_of_lt d2) (Nat.ne_of_lt d3) (Nat.ne_of_lt d4) (Nat.ne_of_lt d5) (Nat.ne_of_lt d6) (Nat.ne_of_lt d7)) hS₂ fun h' acc' Ts' c' hk hS' hacc => ?_
  exact hR h' acc' Ts' c' (fun b o b1 b2 b3 b4 b5 e => hk b o b1 b2 b3 b4 b5 (oth b o b5 e)) hS' hacc
/-- list(z), z what zip gave -/
theorem call_list_zip {Q : Value → Shared → Prop} (hh : A.handled = none) (D : ZipApart z TI TO i1 i2 l1 l2) (hxy : xs.size = ys.size) (hn : xs.size ≤ sizeLine)
    (hz : IsZip s.heap z TI TO .none) (hTI : PySem.IsPair s.heap TI (.ref i1) (.ref i2)) (hTO : PySem.IsPair s.heap TO .none .none) (h1 : s.heap.IsListIter i1 l1 0) (h2 : s.heap.IsListIter i2 l2 0) (hl1 : s.heap.IsList l1 xs) (hl2 : s.heap.IsList l2 ys)
    (hQ : ∀ h' acc' Ts' c', (∀ b o, b ≠ z → b ≠ TO → b ≠ i1 → b ≠ i2 → s.heap.get? b = some o → h'.get? b = some o) → h'.get? s.heap.objs.size = some { cls := .type "list", dict := none, data := .seq acc' c', slots := #[] } → ZAcc s.heap.objs.size h' acc' Ts' xs ys xs.size → Q (.ref s.heap.objs.size) { s with heap := h' }) :
    wpAny (model prog w) A (call (.type "list") [.ref z]) Q E s := by
  refine callType_codes (Q₁ := fun obj s₁ => obj = .ref s.heap.objs.size ∧ s₁ = { s with heap := s.heap.push { cls := .type "list", data := .seq #[] } }) F.called_list (F.typeCall_list_1 _) F.entry_list_init
    (code_list_new _ ⟨rfl, rfl⟩) fun obj s₁ h₁ => ?_
  obtain ⟨rfl, rfl⟩ := h₁
  have hS : (s.heap.push { cls := .type "list", data := .seq #[] }).get? s.heap.objs.size = some { cls := .type "list", data := .seq #[] } := Heap.get?_push_size _ rfl
  have lt : ∀ {c o}, s.heap.get? c = some o → c < s.heap.objs.size := fun e => Heap.lt_size e
  have d4 : i1 < s.heap.objs.size := let ⟨_, e, _⟩ := h1; lt e
  have d5 : i2 < s.heap.objs.size := let ⟨_, e, _⟩ := h2; lt e
  have d6 : l1 < s.heap.objs.size := let ⟨_, e, _⟩ := hl1; lt e
  have d7 : l2 < s.heap.objs.size := let ⟨_, e, _⟩ := hl2; lt e
  have pu : ∀ b o, s.heap.get? b = some o → (s.heap.push { cls := .type "list", data := .seq #[] }).get? b = some o := fun b o e => Heap.get?_push_of_some _ e
  refine ⟨⟨_, hS, rfl⟩, F.args_list_init_2 _ _, z_init (A := A.in1) hh D (lt hz) (lt hTI) (lt hTO) d4 d5 d6 d7 hxy hn (pu _ _ hz) ⟨pu _ _ hTI, h1.at fun o e => pu _ o e, h2.at fun o e => pu _ o e, hl1.at fun o e => pu _ o e, hl2.at fun o e => pu _ o e, .inl ⟨pu _ _ hz, _, _, pu _ _ hTO⟩⟩ hS fun h' acc' Ts' c' hk hS' hacc => ?_⟩
  exact ⟨rfl, hQ h' acc' Ts' c' (fun b o b1 b2 b3 b4 e => hk b o b1 b2 b3 b4 (Nat.ne_of_lt (lt e)) (pu b o e)) hS' hacc⟩
end
end DvZ

set_option linter.all false
set_option maxRecDepth 100000
set_option maxHeartbeats 4000000
namespace Dv
open PySem PySem.Spec PyProof.Rows L2 RZ
/-! list(zip(a, b)) -/
def putT (H : Hp) : List (Addr × (V × V)) → Hp
  | [] => H
  | q :: r => putT (upd H q.1 (.tup [q.2.1, q.2.2])) r
theorem putT_ne : ∀ {r : List (Addr × (V × V))} {H : Hp} {b : Addr}, (∀ q ∈ r, q.1 ≠ b) → putT H r b = H b
  | [], _, _, _ => rfl
  | q :: r, H, b, h => by
    show putT (upd H q.1 _) r b = H b
    rw [putT_ne fun x hx => h x (List.mem_cons_of_mem _ hx)]
    exact upd_ne (Ne.symm (h q (List.mem_cons_self ..)))
theorem putT_at : ∀ {r : List (Addr × (V × V))} {H : Hp} {q : Addr × (V × V)}, (r.map (·.1)).Nodup → q ∈ r → putT H r q.1 = some (.tup [q.2.1, q.2.2])
  | x :: r, H, q, hn, hq => by
    rw [List.map_cons, List.nodup_cons] at hn
    show putT (upd H x.1 _) r q.1 = _
    rcases List.mem_cons.mp hq with rfl | hq
    · rw [putT_ne fun y hy e => hn.1 (by rw [← e]; exact List.mem_map_of_mem (f := fun q : Addr × (V × V) => q.1) hy)]
      exact upd_same
    · exact putT_at hn.2 hq
theorem putT_ok {P : Program} {w : World} {h : Heap} : ∀ {r : List (Addr × (V × V))} {H : Hp}, HOk P w H h → (r.map (·.1)).Nodup → (∀ q ∈ r, H q.1 = none) → (∀ q ∈ r, ∃ its, Vals [q.2.1, q.2.2] its ∧ IsTup h q.1 its.toArray) → HOk P w (putT H r) h
  | [], _, x, _, _, _ => x
  | q :: r, H, x, hn, h0, ho => by
    rw [List.map_cons, List.nodup_cons] at hn
    refine putT_ok (H := upd H q.1 _) (HOk.laidN x (fun _ _ e => e) (h0 q (List.mem_cons_self ..)) ⟨by show 2 ≤ sizeLine; decide, ho q (List.mem_cons_self ..)⟩) hn.2 (fun y hy => ?_) fun y hy => ho y (List.mem_cons_of_mem _ hy)
    have ne : y.1 ≠ q.1 := fun e => hn.1 (by rw [← e]; exact List.mem_map_of_mem (f := fun q : Addr × (V × V) => q.1) hy)
    rw [upd_ne ne]
    exact h0 y (List.mem_cons_of_mem _ hy)
theorem putT_nxt {p : Option Addr} {B : Hp} : ∀ {r : List (Addr × (V × V))} {G H : Hp}, I3 p B G H → (r.map (·.1)).Nodup → (∀ q ∈ r, H q.1 = none) → Nxt p G H (putT G r) (putT H r)
  | [], _, _, i, _, _ => .refl i
  | q :: r, G, H, i, hn, h0 => by
    rw [List.map_cons, List.nodup_cons] at hn
    have n1 : Nxt p G H (upd G q.1 (.tup [q.2.1, q.2.2])) (upd H q.1 (.tup [q.2.1, q.2.2])) := .new i _ (h0 q (List.mem_cons_self ..))
    refine n1.trans (putT_nxt (i.nxt n1) hn.2 fun y hy => ?_)
    have ne : y.1 ≠ q.1 := fun e => hn.1 (by rw [← e]; exact List.mem_map_of_mem (f := fun q : Addr × (V × V) => q.1) hy)
    rw [upd_ne ne]
    exact h0 y (List.mem_cons_of_mem _ hy)
theorem un_more {fs ex : List Addr} {H H' : Hp} {h h' : Heap} (k : ∀ b u, h.get? b = some u → h'.get? b = some u) (k1 : ∀ b o, H b = some o → H' b = some o) (k2 : ∀ b, b < h.objs.size → H b = none → H' b = none) : Un fs ex H H' h h' where
  keep := fun b u q _ _ _ => k b u q
  slot := fun b u q _ _ _ => ⟨u.slots, k b u q⟩
  free := fun b u q n _ => k2 b (Heap.lt_size q) n
  there := fun b u q _ => ⟨u, k b u q⟩
  tups := fun b xs q => k1 _ _ q
  frzs := fun b u xs q => k1 _ _ q
  tbls := fun b ps q => ⟨#[], by rw [k1 _ _ q]; simp⟩
def pairsT (Ts : List Addr) (xs ys : List V) : List (Addr × (V × V)) := Ts.zip (xs.zip ys)
def tLstZip (K : Fg) (ta : TA) : TE := fun σ H Q => ta σ H fun vs H1 => ∃ a b xs ys, vs = [.ref a, .ref b] ∧ SqL K H1 a xs ∧ SqL K H1 b ys ∧ xs.length = ys.length ∧
  ∀ (Ts : List Addr) S, Ts.length = xs.length → Ts.Nodup → (∀ T ∈ Ts, H1 T = none) → H1 S = none → S ∉ Ts → Q (.ref S) (upd (putT H1 (pairsT Ts xs ys)) S (.lst (Ts.map V.ref)))
theorem pairs_fst {Ts : List Addr} {xs ys : List V} (h1 : Ts.length = xs.length) (h2 : xs.length = ys.length) : (pairsT Ts xs ys).map (·.1) = Ts := by
  unfold pairsT
  rw [List.map_fst_zip (by rw [List.length_zip]; omega)]
theorem pairs_get {Ts : List Addr} {xs ys : List V} {q : Addr × (V × V)} (hq : q ∈ pairsT Ts xs ys) : ∃ j : Nat, Ts[j]? = some q.1 ∧ xs[j]? = some q.2.1 ∧ ys[j]? = some q.2.2 := by
  obtain ⟨j, hj⟩ := List.getElem?_of_mem hq
  unfold pairsT at hj
  rw [List.getElem?_zip_eq_some] at hj
  obtain ⟨e1, e2⟩ := hj
  have e2' : (xs.zip ys)[j]? = some (q.2.1, q.2.2) := e2
  rw [List.getElem?_zip_eq_some] at e2'
  exact ⟨j, e1, e2'.1, e2'.2⟩
theorem pe_listZip {X : Cx} {e e2 : Expr} {ta : TA} {p pos p3 p4 : Pos} (hc : X.calm = true) (hg : Gl X "list") (hm : X.mg "list" = none) (hg2 : Gl X "zip") (hm2 : X.mg "zip" = none) (ha : PA X [e, e2] ta)
    (hs : starEach [e, e2] X.env = (false, eval e X.env) :: starEach [e2] X.env := by rfl) (hpl : (backTo p4 (starEach [e2] X.env)).any (·.1) = false := by rfl)
    (na : starEach [.Call (.Name "zip" p3) [e, e2] [] p4] X.env = (false, eval (.Call (.Name "zip" p3) [e, e2] [] p4) X.env) :: starEach [] X.env := by rfl) :
    PE X (.Call (.Name "list" p) [.Call (.Name "zip" p3) [e, e2] [] p4] [] pos) (tLstZip X.K ta) := by
  refine ⟨fun pins s σ H Q I h => ?_⟩
  refine Call_ (ld_blt I hg hm boot_list (PyProof.Rows.callWith_type1 (args_cons (Call_ (ld_blt I hg2 hm2 PyProof.Rows.boot_zip (PyProof.Rows.callWith_type1 (thn (ha.run p4 pins s σ H _ I h) fun us s1 ⟨vs, H1, I1, r1, q1⟩ => ?_) hs hpl))) na) na))
  obtain ⟨a, b, xs, ys, ex, hqx, hqy, hxy, q⟩ := q1
  subst ex
  cases r1 with
  | cons r rr =>
    cases rr with
    | cons r' rr =>
      cases rr
      cases r
      cases r'
      obtain ⟨its, rv, p1, hz1⟩ := I1.list hqx
      obtain ⟨its2, rv2, p2, hz2⟩ := I1.list hqy
      have la : a < s1.heap.objs.size := p1.lt
      have lb : b < s1.heap.objs.size := p2.lt
      refine call_zip_2 p1.isList p2.isList fun h' hz hTI hTO h1 h2 hsz hk => args_nil ?_
      have n1 := rv.length
      have n2 := rv2.length
      refine DvZ.call_list_zip (I1.ok.hd hc) (PySem.W.ktu_apart s1.heap.objs.size a b la lb) (xs := its.toArray) (ys := its2.toArray) (by simp; omega) (by simp; omega) hz hTI hTO h1 h2 (p1.isList.at fun o e => hk _ o e) (p2.isList.at fun o e => hk _ o e) fun h2 acc Ts c' hk2 hS hA => ?_
      have kk : ∀ b o, s1.heap.get? b = some o → h2.get? b = some o := fun b o e => by
        have lt := Heap.lt_size e
        exact hk2 b o (Nat.ne_of_lt (Nat.lt_of_lt_of_le lt (Nat.le_add_right _ 4))) (Nat.ne_of_lt (Nat.lt_of_lt_of_le lt (Nat.le_add_right _ 3))) (Nat.ne_of_lt lt) (Nat.ne_of_lt (Nat.lt_of_lt_of_le lt (Nat.le_add_right _ 1))) (hk b o e)
      have bS : s1.heap.objs.size ≤ h'.objs.size := by omega
      obtain ⟨tl, te, tn, tg, tp⟩ := hA
      have tl2 : Ts.length = xs.length := by rw [tl]; simp; omega
      have f0 : ∀ b, s1.heap.objs.size ≤ b → H1 b = none := fun b hb => I1.hok.fresh hb
      have tf : ∀ T ∈ Ts, H1 T = none := fun T hT => f0 T (Nat.le_of_lt (Nat.lt_of_le_of_lt bS (tg T hT)))
      have sf : H1 h'.objs.size = none := f0 _ bS
      have sn : h'.objs.size ∉ Ts := fun hm => Nat.lt_irrefl _ (tg _ hm)
      have pf := pairs_fst (xs := xs) (ys := ys) tl2 hxy
      have pn : ((pairsT Ts xs ys).map (·.1)).Nodup := by rw [pf]; exact tn
      have pm : ∀ y ∈ pairsT Ts xs ys, y.1 ∈ Ts := fun y hy => by rw [← pf]; exact List.mem_map_of_mem (f := fun q : Addr × (V × V) => q.1) hy
      have ok1 : HOk X.prog X.w (putT H1 (pairsT Ts xs ys)) h2 := putT_ok (I1.hok.kept kk) pn (fun y hy => tf _ (pm y hy)) fun y hy => by
        obtain ⟨j, e1, e2, e3⟩ := pairs_get hy
        obtain ⟨u, v, g1, g2, g3⟩ := tp j _ e1
        obtain ⟨u', k1, k2⟩ := Vals.get rv e2
        obtain ⟨v', k3, k4⟩ := Vals.get rv2 e3
        simp only [List.getElem?_toArray] at g1 g2
        have eu : u' = u := Option.some.inj (k1.symm.trans g1)
        have ev : v' = v := Option.some.inj (k3.symm.trans g2)
        subst eu
        subst ev
        exact ⟨[u', v'], .cons k2 (.cons k4 .nil), _, g3, rfl, _, rfl⟩
      have sE : putT H1 (pairsT Ts xs ys) h'.objs.size = none := by
        rw [putT_ne fun y hy e => sn (by rw [← e]; exact pm y hy)]; exact sf
      have vl : ∀ Us : List Addr, Vals (Us.map V.ref) (Us.map Value.ref) := fun Us => by
        induction Us with
        | nil => exact .nil
        | cons U Us ih => exact .cons rfl ih
      have ok2 : HOk X.prog X.w (upd (putT H1 (pairsT Ts xs ys)) h'.objs.size (.lst (Ts.map V.ref))) h2 := HOk.laidN ok1 (fun _ _ e => e) sE ⟨by rw [List.length_map]; omega, Ts.map Value.ref, c', vl Ts, by rw [← te]; exact hS⟩
      have I2 : Inv X pins σ (upd (putT H1 (pairsT Ts xs ys)) h'.objs.size (.lst (Ts.map V.ref))) { s1 with heap := h2 } := I1.un (t' := s1.toks) (un_more kk (fun b o e => by
        have n1 : b ≠ h'.objs.size := fun z => by rw [z, sf] at e; cases e
        rw [upd_ne n1, putT_ne fun y hy z => by
          have := tf _ (pm y hy)
          rw [z] at this
          rw [this] at e
          cases e]
        exact e) (fun b hb e => by
        have n1 : b ≠ h'.objs.size := Nat.ne_of_lt (Nat.lt_of_lt_of_le hb bS)
        rw [upd_ne n1, putT_ne fun y hy z => absurd (tg _ (pm y hy)) (by rw [z]; exact Nat.lt_asymm (Nat.lt_of_lt_of_le hb bS))]
        exact e)) ok2
      exact ⟨.ref h'.objs.size, _, I2, rfl, q Ts h'.objs.size tl2 tn tf sf sn⟩
def zipT (es fs : List Dt) : List Dt := List.zipWith (fun x y => PyData.tuple [x, y]) es fs
theorem dz_pairs {K : Fg} {G2 : Hp} : ∀ {Ts : List Addr} {xs ys : List V} {es fs : List Dt}, Ts.length = xs.length → DzAll K G2 xs es → DzAll K G2 ys fs → xs.length = ys.length → (∀ q ∈ pairsT Ts xs ys, G2 q.1 = some (.tup [q.2.1, q.2.2])) → DzAll K G2 (Ts.map V.ref) (zipT es fs)
  | [], [], [], _, _, _, hx, hy, _, _ => by
    cases hx
    cases hy
    exact .nil
  | T :: Ts, x :: xs, y :: ys, _, _, hl, hx, hy, hxy, hg => by
    cases hx with
    | cons x1 x2 => cases hy with
      | cons y1 y2 =>
        refine .cons (.tup (.inl (.inl (hg (T, (x, y)) (List.mem_cons_self ..)))) (.cons x1 (.cons y1 .nil))) (dz_pairs (by simpa using hl) x2 y2 (by simpa using hxy) fun q hq => hg q (List.mem_cons_of_mem _ hq))
  | [], _ :: _, _, _, _, hl, _, _, _, _ => by simp at hl
  | _ :: _, [], _, _, _, hl, _, _, _, _ => by simp at hl
  | [], [], _ :: _, _, _, _, _, _, hxy, _ => by simp at hxy
  | _ :: _, _ :: _, [], _, _, _, _, _, hxy, _ => by simp at hxy
section
variable {X : Cx} {a b : Expr} {δ : De} {p pos p3 p4 : Pos} {R : Dt → Prop}
theorem o_listZip {S0 : List Dt → Prop} (h : XA X [a, b] δ fun ds => ∃ es fs, ds = [.list es, .list fs] ∧ es.length = fs.length ∧ S0 (zipT es fs)) (F : Free X.mg := by assumption) (hz : X.mg "zip" = none := by assumption) (hc : X.calm = true := by rfl) (hg : Gl X "list" := by rfl) (hg2 : Gl X "zip" := by rfl)
    (hs : starEach [a, b] X.env = (false, eval a X.env) :: starEach [b] X.env := by rfl) (hpl : (backTo p4 (starEach [b] X.env)).any (·.1) = false := by rfl)
    (na : starEach [.Call (.Name "zip" p3) [a, b] [] p4] X.env = (false, eval (.Call (.Name "zip" p3) [a, b] [] p4) X.env) :: starEach [] X.env := by rfl) :
    XO X (.Call (.Name "list" p) [.Call (.Name "zip" p3) [a, b] [] p4] [] pos) δ S0 :=
  PE.imp (pe_listZip hc hg (F "list" (by decide +kernel)) hg2 hz h.pa hs hpl na) fun σ H Q ⟨p, B, G, i3, en, q⟩ => ⟨p, B, G, i3, en, fun vs ds G' H' ⟨es, fs, e, hl, k⟩ n hv => by
    subst e
    cases hv with
    | cons v1 hv => cases hv with
      | cons v2 hv =>
        cases hv
        cases v1 with
        | lst s1 a1 => cases v2 with
          | lst s2 a2 =>
            rename_i aa1 xs1 aa2 ys1
            have i' := i3.nxt n
            have l1 := dpAll_length a1
            have l2 := dpAll_length a2
            have hxy := (l1.trans hl).trans l2.symm
            refine ⟨_, _, _, _, rfl, exl i'.gh s1, exl i'.gh s2, hxy, fun Ts S tl tn tf sf sn => ?_⟩
            have pf := pairs_fst tl hxy
            have pm : ∀ y ∈ pairsT Ts xs1 ys1, y.1 ∈ Ts := fun y hy => by rw [← pf]; exact List.mem_map_of_mem (f := fun q : Addr × (V × V) => q.1) hy
            have pn := pf ▸ tn
            have n2 : Nxt p G' H' (putT G' (pairsT Ts xs1 ys1)) (putT H' (pairsT Ts xs1 ys1)) := putT_nxt i' pn fun y hy => tf _ (pm y hy)
            have i2 := i'.nxt n2
            have sE : putT H' (pairsT Ts xs1 ys1) S = none := by
              rw [putT_ne fun y hy e => sn (by rw [← e]; exact pm y hy)]; exact sf
            have n3 := Nxt.newH i2 (.lst (Ts.map V.ref)) sE
            have ex : Ex G' (putT G' (pairsT Ts xs1 ys1)) := n2.st.1
            exact q S _ _ _ _ k (n.trans (n2.trans n3)) (back_none n sf) (i2.gh.free sE) (pot_ne i2 sE) upd_same (dz_pairs tl (dpAll_ex ex _ _ a1) (dpAll_ex ex _ _ a2) hxy fun y hy => putT_at pn hy)⟩
end
end Dv

set_option linter.all false
set_option maxRecDepth 100000
set_option maxHeartbeats 4000000
namespace Dv
open PySem PySem.Spec PyProof.Rows L2 RZ
/-! `for x in [e1, e2]: if c: ..; x.append(None)`, e1, e2 new lists -/
section
variable {X : Cx} {δ δ2 : De} {o : Out} {i : Nat} {x : Str}
def rB (K : Fg) (δ : De) (i : Nat) : TS := fun D σ H => ∃ p B G0 H0 σ0 G a xs ds, I3 p B G0 H0 ∧ EnvD K p B G0 H0 σ0 δ ∧ Nxt p G0 H0 G H ∧ H0 a = none ∧ G a = none ∧ H a = some (.lst xs) ∧ DzAll K G xs ds ∧ ds.length ≤ 10000 ∧ σ = σ0.set i (some (.ref a)) ∧
  ∀ G' H', Nxt p G H G' H' → H' a = some (.lst xs) → G' a = none → D.nx σ (upd H' a (.lst (xs ++ [.non])))
theorem body_app {c : Expr} {bod : List Stmt} {np apos cpos pos1 pos2 kp : Pos} {kk : Nat} (hi : Nx X.N x i) (hlt : i < δ.length) (hc : ∀ ds, XT X c (δ.set i (.own ds)) fun k => k = false)
    (hv : Vis X.env.scope x) (hd : (x == ("__debug__" : Str)) = false) (hcd : (x == ("__classdict__" : Str)) = false)
    (hbase : attributeBase (.Name x np) "append" X.env (eval (.Name x np) X.env) = eval (.Name x np) X.env)
    (hfew : ((backTo cpos (starEach [.Constant .none kk kp] X.env)).all (fun x => !x.1) && (backToKw cpos (keywordEach [] X.env)).all (fun x => x.1.isSome) && decide (([.Constant .none kk kp] : List Expr).length + ([] : List Keyword).length + (if ([] : List Keyword).isEmpty then 0 else 1) < 30)) = true)
    (hline : (apos.endLine == cpos.line) = true) (hst : starEach [.Constant .none kk kp] X.env = [(false, eval (.Constant .none kk kp) X.env)]) (hsw : swapsWith (.Call (.Attribute (.Name x np) "append" apos) [.Constant .none kk kp] [] cpos) none pos2.line X.env = pure false) :
    PSs X [.If c bod [] pos1, .Expr (.Call (.Attribute (.Name x np) "append" apos) [.Constant .none kk kp] [] cpos) pos2] (rB X.K δ i) := by
  have z1 : PSs X bod (fun _ _ _ => False) := ⟨fun pins s σ H D I h => h.elim⟩
  have hc2 : PT X c (fun σ H Q => ∃ ds, True ∧ rT X.K (δ.set i (.own ds)) (fun k => k = false) σ H Q) := pt_many fun ds _ => hc ds
  refine PSs.imp (pss_cons (ps_if hc2 z1 pss_nil) (pss_one (ps_expr (pe_bm PySem.F.plainAttrs_list PySem.F.slot_list_append PySem.F.type_list_append mt_append (pe_var hi.eq hv hd hcd) (pa_cons pe_non pa_nil (by rw [hst]; rfl)) hbase hfew hline hst rfl) hsw))) fun D σ H ⟨p, B, G0, H0, σ0, G, a, xs, ds, i3, en, n, a0, ga, ha, da, hl, e, q⟩ => ?_
  have pl : p ≠ some a := pot_ne i3 a0
  subst e
  refine ⟨ds, trivial, p, B, G, i3.nxt n, en.putOwn i3 n a0 ga pl ha da i, fun k G2 H2 hk n2 => ?_⟩
  subst hk
  have ha2 : H2 a = some (.lst xs) := n2.ex _ _ (by rw [del_ne pl]; exact ha)
  have ga2 : G2 a = none := n2.st.2 a (nn ha) ga
  refine iteF ⟨.ref a, ?_, .inl ⟨rfl, xs, .inl (.inl ha2)⟩, ?_⟩
  · rw [List.getElem?_set_self (by rw [en.len]; exact hlt)]
  · refine ⟨a, xs, .non, rfl, rfl, ha2, ?_, q G2 H2 n2 ha2 ga2⟩
    rw [dpAll_length da]; exact Nat.lt_of_le_of_lt hl (by decide)
theorem nxt_app {p : Option Addr} {B G0 H0 G H : Hp} {a : Addr} {u : HO} (i3 : I3 p B G0 H0) (n : Nxt p G0 H0 G H) (a0 : H0 a = none) (g : G a = none) : Nxt p G0 H0 G (upd H a u) := by
  refine ⟨n.st, fun b w hb => ?_, fun b w hb => ?_, fun z hz => ?_⟩
  · have : b ≠ a := ne_of_none (del_le hb).1 a0
    rw [upd_ne this]; exact n.ex b w hb
  · have : b ≠ a := ne_of_none hb g
    rw [upd_ne this]; exact n.gh b w hb
  · obtain ⟨_, _, w, w', h3, h4⟩ := i3.pot z hz
    have : z ≠ a := ne_of_none h3 a0
    rw [upd_ne this]; exact n.pot z hz
theorem s_forNew2 {e1 e2 c : Expr} {bod rest : List Stmt} {ds1 ds2 : List Dt} {tp lp np apos cpos pos pos1 pos2 kp : Pos} {kk : Nat} (hi : Nx X.N x i) (hG : SetR δ i .no δ2) (h1 : XO X e1 δ fun y => y = ds1) (h2 : XO X e2 δ fun y => y = ds2) (hc : ∀ ds, XT X c (δ.set i (.own ds)) fun k => k = false) (hl1 : ds1.length ≤ 10000) (hl2 : ds2.length ≤ 10000) (k : SsD X rest δ2 o)
    (hN : X.N.Nodup := by assumption) (hx : Loc X.env.scope x := by first | exact Or.inl rfl | exact Or.inr rfl) (hf : X.fn x = true ∨ X.env.scope.names.lookup x = some .local := by first | exact .inl rfl | exact .inr rfl | assumption)
    (hp : PassesOwn (model X.prog X.w) X.A X.env X.xe := by exact PassesOwn.never) (hcalm : X.calm = true := by rfl) (hs : ∀ y, foldedSetIterable (.List [e1, e2] lp) X.env y = pure y := by intro _; rfl)
    (hst1 : starEach [e1, e2] X.env = (false, eval e1 X.env) :: starEach [e2] X.env := by rfl) (hst2 : starEach [e2] X.env = (false, eval e2 X.env) :: starEach [] X.env := by rfl)
    (hv : Vis X.env.scope x := by first | exact Or.inl rfl | exact Or.inr (Or.inl rfl) | exact Or.inr (Or.inr rfl)) (hd : (x == ("__debug__" : Str)) = false := by decide) (hcd : (x == ("__classdict__" : Str)) = false := by decide)
    (hbase : attributeBase (.Name x np) "append" X.env (eval (.Name x np) X.env) = eval (.Name x np) X.env := by rfl)
    (hfew : ((backTo cpos (starEach [.Constant .none kk kp] X.env)).all (fun x => !x.1) && (backToKw cpos (keywordEach [] X.env)).all (fun x => x.1.isSome) && decide (([.Constant .none kk kp] : List Expr).length + ([] : List Keyword).length + (if ([] : List Keyword).isEmpty then 0 else 1) < 30)) = true := by rfl)
    (hline : (apos.endLine == cpos.line) = true := by rfl) (hst : starEach [.Constant .none kk kp] X.env = [(false, eval (.Constant .none kk kp) X.env)] := by rfl) (hsw : swapsWith (.Call (.Attribute (.Name x np) "append" apos) [.Constant .none kk kp] [] cpos) none pos2.line X.env = pure false := by rfl) :
    SsD X (.For (.Name x tp) (.List [e1, e2] lp) [.If c bod [] pos1, .Expr (.Call (.Attribute (.Name x np) "append" apos) [.Constant .none kk kp] [] cpos) pos2] [] pos :: rest) δ o := by
  have hb := body_app (bod := bod) (pos1 := pos1) hi hG.lt hc hv hd hcd hbase hfew hline hst hsw
  refine PSs.imp (pss_cons (ps_for hp hcalm (pi_list (pe_lst (pa_cons h1 (pa_cons h2 pa_nil hst2) hst1))) (pg_name hN hi.eq hx hf) hb (hs := hs)) k) fun D σ H ⟨p, B, G, i3, en, q⟩ => ⟨p, B, G, i3, en, fun a1 xs1 es1 G1 H1 r1 n1 a10 g1 pl1 hla1 da1 => ⟨p, B, G1, i3.nxt n1, en.nxt n1, fun a2 xs2 es2 G2 H2 r2 n2 a21 g2 pl2 hla2 da2 => ?_⟩⟩
  subst r1
  subst r2
  refine ⟨by show 2 ≤ _; decide, fun l hl => ?_⟩
  have n12 := n1.trans n2
  have g12 : G2 a1 = none := n2.st.2 a1 (nn hla1) g1
  have hla12 : H2 a1 = some (.lst xs1) := n2.ex _ _ (by rw [del_ne pl1]; exact hla1)
  have a20 : H a2 = none := back_none n1 a21
  have i32 := i3.nxt n12
  have l0 : H l = none := back_none n12 hl
  have gl : G2 l = none := i32.gh.free hl
  have n3 : Nxt p G2 H2 G2 (upd H2 l (.lst [.ref a1, .ref a2])) := .newH i32 _ hl
  have ne1 : a1 ≠ l := fun z => by rw [z, hl] at hla12; cases hla12
  have ne2 : a2 ≠ l := fun z => by rw [z, hl] at hla2; cases hla2
  have ne12 : a1 ≠ a2 := fun z => by rw [z, a21] at hla1; cases hla1
  have n13 := n12.trans n3
  refine ⟨l, rfl, ⟨_, .inl (.inl upd_same)⟩, for_list (xs := [.ref a1, .ref a2]) (fun j σ' H' => ∃ G', Nxt p G H G' H' ∧ G' a1 = none ∧ G' a2 = none ∧ G' l = none ∧ H' l = some (.lst [.ref a1, .ref a2]) ∧ DzAll X.K G' xs1 es1 ∧ DzAll X.K G' xs2 es2 ∧ (j = 0 → H' a1 = some (.lst xs1)) ∧ (∃ w, H' a1 = some w) ∧ (j ≤ 1 → H' a2 = some (.lst xs2)) ∧ (j = 0 → σ' = σ) ∧ (1 ≤ j → ∃ u, σ' = σ.set i u)) ?_ ?_ ?_ ?_⟩
  · exact ⟨G2, n13, g12, g2, gl, upd_same, dpAll_ex n2.st.1 _ _ da1, da2, fun _ => (upd_ne ne1).trans hla12, ⟨_, (upd_ne ne1).trans hla12⟩, fun _ => (upd_ne ne2).trans hla2, fun _ => rfl, fun h => absurd h (by decide)⟩
  · intro j σ' H' _ ⟨G', n, _, _, _, h, _⟩
    exact .inl (.inl h)
  · intro j y σ' H' hy ⟨G', n, b1, b2, b3, b4, b5, b6, b7, ⟨w1, bw⟩, b8, b9, b10⟩
    have ps : ∀ u, σ'.set i (some u) = σ.set i (some u) := fun u => by
      by_cases hj : j = 0
      · rw [b9 hj]
      · obtain ⟨v, e⟩ := b10 (by omega)
        rw [e, List.set_set]
    have pl0 : p ≠ some l := pot_ne i3 l0
    have pa1 : p ≠ some a1 := pot_ne i3 a10
    have pa2 : p ≠ some a2 := pot_ne i3 a20
    match j, hy with
    | 0, hy =>
      cases hy
      refine ⟨p, B, G, H, σ, G', a1, xs1, es1, i3, en, n, a10, b1, b7 rfl, b5, hl1, ps _, fun G3 H3 n4 ha3 ga3 => ⟨G3, nxt_app i3 (n.trans n4) a10 ga3, ga3, n4.st.2 a2 (nn (b8 (by omega))) b2, n4.st.2 l (nn b4) b3, ?_, dpAll_ex n4.st.1 _ _ b5, dpAll_ex n4.st.1 _ _ b6, fun z => absurd z (by decide), ⟨_, upd_same⟩, fun _ => ?_, fun z => absurd z (by decide), fun _ => ⟨_, ps _⟩⟩⟩
      · rw [upd_ne (Ne.symm ne1)]; exact n4.ex _ _ (by rw [del_ne pl0]; exact b4)
      · rw [upd_ne (Ne.symm ne12)]; exact n4.ex _ _ (by rw [del_ne pa2]; exact b8 (by omega))
    | 1, hy =>
      cases hy
      refine ⟨p, B, G, H, σ, G', a2, xs2, es2, i3, en, n, a20, b2, b8 (Nat.le_refl _), b6, hl2, ps _, fun G3 H3 n4 ha3 ga3 => ⟨G3, nxt_app i3 (n.trans n4) a20 ga3, ?_, ga3, n4.st.2 l (nn b4) b3, ?_, dpAll_ex n4.st.1 _ _ b5, dpAll_ex n4.st.1 _ _ b6, fun z => absurd z (by omega), ⟨w1, ?_⟩, fun z => absurd z (by omega), fun z => absurd z (by omega), fun _ => ⟨_, ps _⟩⟩⟩
      · exact n4.st.2 a1 (nn bw) b1
      · rw [upd_ne (Ne.symm ne2)]; exact n4.ex _ _ (by rw [del_ne pl0]; exact b4)
      · rw [upd_ne ne12]; exact n4.ex _ _ (by rw [del_ne pa1]; exact bw)
    | _ + 2, hy => cases hy
  · intro σ' H' ⟨G', n, b1, b2, b3, b4, b5, b6, b7, ⟨w1, bw⟩, b8, b9, b10⟩
    obtain ⟨u, e⟩ := b10 (by show 1 ≤ 2; decide)
    subst e
    have nf : Nxt p G H G H' := ⟨.refl _ _, n.ex, fun b w h => n.gh b w (n.st.1 b w h), n.pot⟩
    refine ⟨p, B, G, i3.nxt nf, ?_, q⟩
    have e3 := (en.nxt nf).put (i := i) (o := u) (en := .no) trivial fun b f => by rcases f with ⟨z, _⟩ | z <;> cases z
    rw [hG.eq] at e3
    exact e3
end
end Dv

set_option linter.all false
set_option maxRecDepth 100000
set_option maxHeartbeats 4000000
namespace Dv
open PySem PySem.Spec PyProof.Rows L2 RZ
open Sem (wp)
/-! sorted(set(xs)), xs a list of ints -/
section
variable {P : Program} {w : World} {A : Around} {E : Value → Shared → Prop} {s : Shared}
abbrev newSet (w : World) : Obj := { cls := .type "set", dict := none, data := .set #[] 0 (.fresh 0 0 (!w.params.followText "set-order")) }
theorem set_init {R : Result → Shared → Prop} {S l : Addr} {items : Array Value} (ns : List Int) (hh : A.in1.handled = none) (hS : s.heap.get? S = some (newSet w)) (hl : s.heap.IsList l items) (hlS : l ≠ S) (hit : IntsAre items.toList ns) (hb : ns.length + 1 < scanBound)
    (hR : ∀ (h' : Heap) (tk c : Nat), L2.SetR w h' S (fun j => decide (j ∈ ns)) c → c ≤ ns.length → (∀ b o, b ≠ S → s.heap.get? b = some o → h'.get? b = some o) → R (.ok (.ret .none)) { s with heap := h', toks := tk }) :
    wpAny (model P w) A.in1 (Builtin.«set.__init__» ⟨[.ref S, .ref l], []⟩)
      (fun fin s' => match fin with | .done f => R (.ok f) s' | .again c' => c'.quiet = true ∧ codeAny (model P w) A c' R s') (fun e s' => R (.error e) s') s := by
  have hisz : items.size = ns.length := by
    have q := IntsAre.length hit
    rw [Array.length_toList] at q
    exact q
  have hSlt : S < s.heap.objs.size := Heap.lt_size hS
  obtain ⟨ol, hol, hcl, nl, hdl⟩ := hl
  obtain ⟨ocls, odict, odata, oslots⟩ := ol
  simp only at hcl hdl
  subst hcl; subst hdl
  have hl1 : s.heap.IsList l items := ⟨_, hol, rfl, nl, rfl⟩
  have hT : s.TypeIs (.ref S) "set" := ⟨_, hS, rfl⟩
  have hsls := F.sub_list_set
  have hslf := F.sub_list_frozenset
  have hne : (Value.type "list" == Value.type "dict") = false := by decide
  unfold Builtin.«set.__init__» noKeywords Builtin.Frozenset.updateFrom
  generalize hPI : pyIter = PI
  wp_walk
  subst hPI
  refine wpAny_pyIter_list hl1 ?_
  refine wpAny_bind (wpAny_runValue ?_)
  have hh3 : A.in1.in1.handled = none := by
    have : A.handled = none := by simpa using hh
    simp [this]
  have hneI : l ≠ s.heap.objs.size := Nat.ne_of_lt (Heap.lt_size hol)
  have hSf : S ∉ [s.heap.objs.size, l] := by
    simp only [List.mem_cons, List.mem_singleton, List.not_mem_nil, or_false, not_or]
    exact ⟨Nat.ne_of_lt hSlt, Ne.symm hlS⟩
  have hval : ∀ (i : Nat) (v : Value), items[i]? = some v → ∃ k t, ns[i]? = some k ∧ v = .int k t := fun i v hv => by
    have hi : i < ns.length := by rw [← hisz]; exact (Array.getElem?_eq_some_iff.mp hv).1
    obtain ⟨t, e⟩ := PyProof.Rows.IntsAre.int_at hit i v (by rw [Array.getElem?_toList]; exact hv)
    refine ⟨ns[i], t, List.getElem?_eq_getElem hi, ?_⟩
    rw [e, List.getD_eq_getElem?_getD, List.getElem?_eq_getElem hi]; rfl
  have hget : (s.heap.push { cls := .type "list_iterator", data := .fields #[.ref l, .int 0 0] }).get? S = some (newSet w) := Heap.get?_push_of_some _ hS
  refine L2.set_update_ints ((Walks.list hh3 _ l hneI items).toS) S hSf ns hisz hb hval (items.size - 0) 0 { s with heap := s.heap.push { cls := .type "list_iterator", data := .fields #[.ref l, .int 0 0] } } (by omega) (Nat.zero_le _)
    ⟨⟨_, Heap.get?_push_size _ rfl, rfl, rfl⟩, (hl1.push _)⟩ ?hS0 ?hR
  case hS0 => exact ⟨0, Nat.le_refl 0, L2.setR_new_at (w := w) hget⟩
  case hR =>
   intro s' c' hm hc' hS'
   obtain ⟨h', g2, d', tk', os'⟩ := s'
   have eg : g2 = s.gens := hm.gens
   have ed : d' = s.drawn := hm.drawn
   have eo : os' = s.os := hm.os
   subst eg; subst ed; subst eo
   show wpAny _ _ _ _ _ _
   refine wpAny_pure ?_
   show wpAny _ _ (ret Value.none) _ _ _
   rw [hisz] at hc'
   refine wpAny_pure (hR h' tk' c' hS' hc' fun b o hbS e => ?_)
   have hb2 : b ≠ s.heap.objs.size := Nat.ne_of_lt (Heap.lt_size e)
   exact hm.heap b o (by simp only [List.mem_cons, List.mem_singleton, List.not_mem_nil, or_false, not_or]; exact ⟨hbS, hb2⟩) (Heap.get?_push_of_some _ e)
theorem call_set_listI {l : Addr} {items : Array Value} (ns : List Int) {Q : Value → Shared → Prop} (hh : A.handled = none) (hl : s.heap.IsList l items) (hit : IntsAre items.toList ns) (hb : ns.length + 1 < scanBound)
    (h : ∀ (h' : Heap) (tk c : Nat), L2.SetR w h' s.heap.objs.size (fun j => decide (j ∈ ns)) c → c ≤ ns.length → (∀ b o, s.heap.get? b = some o → h'.get? b = some o) → Q (.ref s.heap.objs.size) { s with heap := h', toks := tk }) :
    wpAny (model P w) A (call (.type "set") [.ref l]) Q E s := by
  obtain ⟨c, tl, hmro⟩ := F.called_set.mro
  have hmade := F.called_set.made
  have hsub := F.called_set.sub
  refine wpAny_call (codeAny_of_tree ?_)
  show wpAny _ _ (callAny (.type "set") _) _ _ _
  refine wpAny_pure ⟨Code.quiet_builtin _ (by decide +kernel), codeAny_builtin F.entry_type_call ?_⟩
  rw [Around.under_plain (weight_type_call_type "set" [.ref l] []) rfl]
  have h1 := F.called_set.notType
  have h2 := F.called_set.canCreate
  have hct := F.typeCall_set_1 (.ref l)
  repeat (any_goals (first | assumption | wp_step))
  refine codeAny_mono (L2.code_set_led1 (.ref l) (E := E) (Q₁ := fun obj s₁ => obj = .ref s.heap.objs.size ∧ s₁ = { s with heap := s.heap.push (newSet w) }) ⟨rfl, rfl⟩) fun r s₁ hr => ?_
  cases r with
  | error e => exact hr
  | ok fl =>
    cases fl with
    | ret obj =>
      obtain ⟨rfl, rfl⟩ := hr
      have hS : (s.heap.push (newSet w)).get? s.heap.objs.size = some (newSet w) := Heap.get?_push_size _ rfl
      have hT : Shared.TypeIs { s with heap := s.heap.push (newSet w) } (.ref s.heap.objs.size) "set" := ⟨_, hS, rfl⟩
      have hli := F.called_set.init.lookup
      have hbi := F.called_set.init.bind (.ref s.heap.objs.size)
      repeat (any_goals (first | assumption | wp_step))
      refine codeAny_mono (codeAny_call_builtin (R := wants (fun r s₂ => r = .none ∧ Q (.ref s.heap.objs.size) s₂) E) F.called_set.init.plain F.entry_set_init (PySem.check_set_init_1 hT
        (set_init (A := A.in1) (s := { s with heap := s.heap.push (newSet w) }) ns (by simpa using hh) hS (hl.push _) (Nat.ne_of_lt (let ⟨_, e, _⟩ := hl; Heap.lt_size e)) hit hb fun h' tk c hR hc hk => ⟨rfl, h h' tk c hR hc fun b o e => hk b o (Nat.ne_of_lt (Heap.lt_size e)) (Heap.get?_push_of_some _ e)⟩))) fun r₂ s₂ hr₂ => ?_
      cases r₂ with
      | error e => exact hr₂
      | ok fl₂ =>
        cases fl₂ with
        | ret r =>
          obtain ⟨rfl, hq⟩ := hr₂
          repeat (any_goals (first | assumption | wp_step))
        | _ => exact hr₂.elim
    | _ => exact hr.elim
end
section
variable {X : Cx} {e : Expr} {δ : De} {p p2 q pos : Pos} {R : Dt → Prop}
def rSetL (K : Fg) (w : World) : List V → Hp → VK → Prop := fun vs H Q => ∃ (a : Addr) (ns : List Int), vs = [V.ref a] ∧ SqL K H a (ns.map V.int) ∧ ns.length < 60 ∧ ∀ (p : Addr) (c : Nat), c ≤ ns.length → H p = none → Q (.ref p) (upd H p (SetO w p (fun j => decide (j ∈ ns)) c))
theorem cr_setL (hc : X.calm = true) : CallR X (.type "set") (rSetL X.K X.w) := by
  intro pins s σ H vs us Q I r h
  obtain ⟨a, ns, rfl, hs, hl, q⟩ := h
  obtain ⟨its, rv, pl, hz⟩ := I.list hs
  rw [Vals.ref1 r]
  refine call_set_listI ns (I.ok.hd hc) pl.isList (by simpa using rv.ints) (by unfold scanBound; omega) fun h' tk c R1 hcn k => ?_
  exact ⟨.ref s.heap.objs.size, _, I.laid (t' := tk) k (Nat.le_refl _) (setO_new R1), rfl, q _ c hcn (I.hok.fresh (Nat.le_refl _))⟩
theorem c_sortedSet (h : XD X e δ fun d => ∃ ns : List Int, d = .list (ns.map PyData.int) ∧ ns.length < 60 ∧ ∀ ms : List Int, ms.Pairwise (· < ·) → (∀ k : Int, k ∈ ms ↔ k ∈ ns) → ms.length ≤ ns.length → R (.list (ms.map PyData.int))) (F : Free X.mg := by assumption) (hc : X.calm = true := by rfl) (hg : Gl X "sorted" := by rfl) (hg2 : Gl X "set" := by rfl)
    (hs : starEach [e] X.env = (false, eval e X.env) :: starEach [] X.env := by rfl) (hs2 : starEach [.Call (.Name "set" p2) [e] [] q] X.env = (false, eval (.Call (.Name "set" p2) [e] [] q) X.env) :: starEach [] X.env := by rfl) :
    XD X (.Call (.Name "sorted" p) [.Call (.Name "set" p2) [e] [] q] [] pos) δ R :=
  PE.imp (pe_callB (cr_sortedSet hc) hg (F "sorted" (by decide +kernel)) (by decide +kernel) (pa_cons (pe_callTy (cr_setL hc) hg2 (F "set" (by decide +kernel)) (by decide +kernel) (pa_cons h pa_nil hs) (he := hs)) pa_nil hs2) (he := hs2)) fun σ H Q ⟨p, B, G, i3, en, q⟩ => ⟨p, B, G, i3, en, fun v d G' H' ⟨ns, e1, hl, k⟩ n hv => by
    subst e1
    cases hv with
    | lst s1 a1 =>
      have ea := dpAll_ints a1
      subst ea
      have i' := i3.nxt n
      refine ⟨_, ns, rfl, exl i'.gh s1, hl, fun x c hcn hx => ⟨x, _, c, rfl, upd_same, by omega, fun ms y hpw hmem hml hy => ?_⟩⟩
      have n2 := Nxt.newH i' (SetO X.w x (fun j => decide (j ∈ ns)) c) hx
      have i2 := i'.nxt n2
      have n3 := Nxt.new i2 (.lst (ms.map V.int)) hy
      exact q _ _ _ _ (k ms hpw (fun j => by rw [hmem j, decide_eq_true_eq]) (by omega)) (n.trans (n2.trans n3)) (.lst (.inl (.inl upd_same)) (dpAll_of_ints _))⟩
end
end Dv

set_option linter.all false
set_option maxRecDepth 100000
set_option maxHeartbeats 4000000
namespace Dv
open PySem PySem.Spec PyProof.Rows L2 RZ
section
variable {X : Cx} {x : Dt} {ds : List Dt} {S : Bool → Prop}
theorem cp_inD (hu : X.A.units + 65 < cLine) (hx : SeqAt.shaped x = true) (hy : SeqAt.shaped (.list ds) = true) (k : S (ds.any fun z => PyData.eqv z x)) : CmpP X .In x (.list ds) S := ⟨_, op_inD hu, by
  intro p B G H v w i3 h1 h2 Q q
  exact ⟨_, _, dz_dp _ _ (nds hx) (dp_ex i3.gh _ _ h1), dz_dp _ _ (nds hy) (dp_ex i3.gh _ _ h2), hx, hy, q _ _ G H ⟨_, rfl, k⟩ (.refl i3) (.bl _)⟩⟩
end
end Dv

set_option linter.all false
set_option maxRecDepth 100000
set_option maxHeartbeats 4000000
namespace Dv
open PySem PySem.Spec PyProof.Rows L2 RZ
section
variable {X : Cx} {elt tg iter tg1 iter1 : Expr} {scope : Scope} {pos : Pos} {δ : De} {R : List Dt → Prop}
theorem flat_step {α β : Type} {xs : List α} {F : α → List β} {i : Nat} {x : α} (h : xs[i]? = some x) : (xs.take (i + 1)).flatMap F = (xs.take i).flatMap F ++ F x := by
  rw [take_succ' h, List.flatMap_append]
  simp
theorem flat_le {α β : Type} {xs : List α} {F : α → List β} {i : Nat} : ((xs.take i).flatMap F).length ≤ (xs.flatMap F).length := by
  conv => { rhs; rw [← List.take_append_drop i xs, List.flatMap_append, List.length_append] }
  omega
/-- [F x y for x in xs for y in ys x] -/
theorem xo_flat {α β : Type} (own : List (Str × Nat)) (vs1 : List Nat) (ok : BlkOk X.N X.env.scope scope own) (hi : XI X tg iter δ fun ds => ∃ (xs : List α) (enc : α → Dt) (ys : α → List β) (enc1 F : α → β → Dt), ds = xs.map enc ∧ xs.length ≤ 100000 ∧ (xs.flatMap fun x => (ys x).map (F x)).length ≤ 100000 ∧
      (∀ (i : Nat) x, xs[i]? = some x → ∃ δ2, (∀ s H C cl fp, TgD (bX X scope s H C cl fp) tg (own.map (·.2)) (enc x) (wipeD δ (own.map (·.2))) δ2) ∧ δ2.all En.plain = true ∧ (∀ s H C cl fp, XI (bX X scope s H C cl fp) tg1 iter1 δ2 fun l => l = (ys x).map (enc1 x)) ∧
        ∀ (j : Nat) y, (ys x)[j]? = some y → ∃ δ3, Turn2 X elt tg1 scope δ2 δ3 vs1 (enc1 x y) fun d => d = F x y) ∧ R (xs.flatMap fun x => (ys x).map (F x)))
    (hN : X.N.Nodup := by assumption) (hv : ∀ i ∈ vs1, i ∈ own.map (·.2) := by decide) (hc : X.calm = true := by rfl) (hs : ∀ x, foldedSetIterable iter X.env x = pure x := by intro _; rfl) (hs1 : ∀ env x, foldedSetIterable iter1 env x = pure x := by intro _ _; rfl) : XO X (.ListComp elt [⟨tg, iter, [], 0⟩, ⟨tg1, iter1, [], 0⟩] scope pos) δ R := by
  refine xo_comp2 own vs1 ok (PI.imp hi fun σ H Q ⟨p, B, G, i3, en, q⟩ => ⟨p, B, G, i3, en, fun J ds G' H' ⟨xs, enc, ys, enc1, F, e, hl, ht, turn, fin⟩ => q J ds G' H' ⟨by rw [e, List.length_map]; exact hl, fun i out => out = (xs.take i).flatMap fun x => (ys x).map (F x), by simp, fun i d out hd iv => ?_, fun out iv => ?_⟩⟩) hN hv hc hs hs1
  · subst e
    obtain ⟨x, hx, rfl⟩ : ∃ x, xs[i]? = some x ∧ enc x = d := by
      rw [List.getElem?_map] at hd
      cases z : xs[i]? with
      | none => rw [z] at hd; cases hd
      | some x => rw [z] at hd; cases hd; exact ⟨x, rfl, rfl⟩
    obtain ⟨δ2, t1, t2, t3, t4⟩ := turn i x hx
    have hst := flat_step (F := fun x => (ys x).map (F x)) hx
    have hle : ((xs.take (i + 1)).flatMap fun x => (ys x).map (F x)).length ≤ 100000 := Nat.le_trans flat_le ht
    rw [hst, List.length_append, List.length_map] at hle
    refine ⟨δ2, _, t1, t2, t3, fun j out1 => out1 = out ++ ((ys x).take j).map (F x), by simp, fun j d1 out1 hd1 jv => ?_, fun out1 jv => ?_⟩
    · obtain ⟨y, hy, rfl⟩ : ∃ y, (ys x)[j]? = some y ∧ enc1 x y = d1 := by
        rw [List.getElem?_map] at hd1
        cases z : (ys x)[j]? with
        | none => rw [z] at hd1; cases hd1
        | some y => rw [z] at hd1; cases hd1; exact ⟨y, rfl, rfl⟩
      obtain ⟨δ3, u⟩ := t4 j y hy
      have hj := (List.getElem?_eq_some_iff.mp hy).1
      refine ⟨?_, δ3, ⟨u.g, fun s H C cl fp => (u.e s H C cl fp).mono fun d hd => ?_⟩⟩
      · rw [jv, iv, List.length_append, List.length_map, List.length_take]; omega
      · show out1 ++ [d] = out ++ ((ys x).take (j + 1)).map (F x)
        rw [jv, hd, take_succ' hy, List.map_append, List.append_assoc]; rfl
    · rw [List.length_map] at jv
      rw [jv, List.take_length, iv, hst]
  · subst e
    rw [iv, List.length_map, List.take_length]; exact fin
end
end Dv

set_option linter.all false
set_option maxRecDepth 100000
set_option maxHeartbeats 4000000
namespace Dv
open PySem PySem.Spec PyProof.Rows L2 RZ
section
variable {X : Cx} {a b c : Expr} {rest : List Stmt} {δ : De} {o : Out} {pos : Pos} {R S : List Dt → Prop} {U : Dt → Prop}
/-- x, y, z = [..], [..], e : two new lists and data -/
theorem s_threeOOD {x y z : Str} {i j l : Nat} {px py pz pt : Pos} {kt k2 pt2} {F : List Dt → De} {G : List Dt → List Dt → De} {L : List Dt → List Dt → Dt → De} (hi : Nx X.N x i) (hj : Nx X.N y j) (hl : Nx X.N z l) (hF : ∀ d, SetR δ i (.own d) (F d)) (hG : ∀ d d2, SetR (F d) j (.own d2) (G d d2)) (hL : ∀ d d2 d3, SetR (G d d2) l (.d d3) (L d d2 d3))
    (ha : XO X a δ R) (hb : XO X b δ S) (hcc : XD X c δ U) (k : ∀ d d2 d3, R d → S d2 → U d3 → SsD X rest (L d d2 d3) o)
    (hij : i ≠ j := by decide) (hil : i ≠ l := by decide) (hjl : j ≠ l := by decide) (hN : X.N.Nodup := by assumption) (hc : X.calm = true := by rfl) (hx : X.env.scope.names.lookup x = some .local := by rfl) (hy : X.env.scope.names.lookup y = some .local := by rfl) (hz : X.env.scope.names.lookup z = some .local := by rfl)
    (hw : swappedStores [.Tuple [.Name x px, .Name y py, .Name z pz] kt pt] (.Tuple [a, b, c] k2 pt2) X.env = pure (some [x, y, z]) := by rfl) (hs : swapsWithSole [.Tuple [.Name x px, .Name y py, .Name z pz] kt pt] (.Tuple [a, b, c] k2 pt2) pos.line X.env = pure false := by rfl)
    (h1 : starEach [a, b, c] X.env = (false, eval a X.env) :: starEach [b, c] X.env := by rfl) (h2 : starEach [b, c] X.env = (false, eval b X.env) :: starEach [c] X.env := by rfl) (h3 : starEach [c] X.env = (false, eval c X.env) :: starEach [] X.env := by rfl) :
    SsD X (.Assign [.Tuple [.Name x px, .Name y py, .Name z pz] kt pt] (.Tuple [a, b, c] k2 pt2) pos :: rest) δ o := by
  refine ss_seq (N := fun δ' => SsD X rest δ' o) ?_ fun δ' h => h
  exact PS.imp (ps_par3 hc hN hi.eq hj.eq hl.eq hij hil hjl hx hy hz (pa_cons ha (pa_cons hb (pa_cons hcc pa_nil h3) h2) h1) hw hs) fun D σ H ⟨p, B, G0, i3, en, q⟩ => ⟨p, B, G0, i3, en, fun l1 xs ds G1 H1 r1 n1 h0 g pl hl1 ha1 => ⟨p, B, G1, i3.nxt n1, en.nxt n1, fun l2 xs2 ds2 G2 H2 r2 n2 h02 g2 pl2 hl2 ha2 => ⟨p, B, G2, (i3.nxt n1).nxt n2, (en.nxt n1).nxt n2, fun v3 d3 G3 H3 r3 n3 hv3 => by
    have i32 := (i3.nxt n1).nxt n2
    refine ⟨.ref l1, .ref l2, v3, rfl, q.nx _ _ G3 H3 (k ds ds2 d3 r1 r2 r3) (((n1.trans n2).trans n3).stepB i3) (i32.nxt n3) ?_⟩
    have e0 := en.putOwn i3 n1 h0 g pl hl1 ha1 i
    have e1 := e0.putOwn (i3.nxt n1) n2 h02 g2 pl2 hl2 ha2 j
    have e2 := (e1.nxt n3).set (i := l) hv3
    rw [(hF ds).eq, (hG ds ds2).eq, (hL ds ds2 d3).eq] at e2
    exact e2⟩⟩⟩
end
end Dv

set_option linter.all false
set_option maxRecDepth 100000
set_option maxHeartbeats 4000000
namespace Dv
open PySem PySem.Spec PyProof.Rows L2 RZ
section
variable {X : Cx} {a b : Expr} {rest : List Stmt} {δ : De} {o : Out} {pos : Pos} {R : List Dt → Prop} {U : Dt → Prop}
/-- x, y = [..], e : a new list and data -/
theorem s_twoOD {x y : Str} {i j : Nat} {px py pt : Pos} {kt k2 pt2} {F : List Dt → De} {G : List Dt → Dt → De} (hi : Nx X.N x i) (hj : Nx X.N y j) (hF : ∀ d, SetR δ i (.own d) (F d)) (hG : ∀ d d2, SetR (F d) j (.d d2) (G d d2)) (ha : XO X a δ R) (hb : XD X b δ U) (k : ∀ d d2, R d → U d2 → SsD X rest (G d d2) o)
    (hij : i ≠ j := by decide) (hN : X.N.Nodup := by assumption) (hc : X.calm = true := by rfl) (hx : X.env.scope.names.lookup x = some .local := by rfl) (hy : X.env.scope.names.lookup y = some .local := by rfl)
    (hw : swappedStores [.Tuple [.Name x px, .Name y py] kt pt] (.Tuple [a, b] k2 pt2) X.env = pure (some [x, y]) := by rfl) (hs : swapsWithSole [.Tuple [.Name x px, .Name y py] kt pt] (.Tuple [a, b] k2 pt2) pos.line X.env = pure false := by rfl)
    (h1 : starEach [a, b] X.env = (false, eval a X.env) :: starEach [b] X.env := by rfl) (h2 : starEach [b] X.env = (false, eval b X.env) :: starEach [] X.env := by rfl) :
    SsD X (.Assign [.Tuple [.Name x px, .Name y py] kt pt] (.Tuple [a, b] k2 pt2) pos :: rest) δ o := by
  refine ss_seq (N := fun δ' => SsD X rest δ' o) ?_ fun δ' h => h
  exact PS.imp (ps_par hc hN hi.eq hj.eq hij hx hy (pa_cons ha (pa_cons hb pa_nil h2) h1) hw hs) fun D σ H ⟨p, B, G0, i3, en, q⟩ => ⟨p, B, G0, i3, en, fun l xs ds G1 H1 r1 n1 h0 g pl hl ha1 => ⟨p, B, G1, i3.nxt n1, en.nxt n1, fun v2 d2 G2 H2 r2 n2 hv2 => by
    refine ⟨.ref l, v2, rfl, q.nx _ _ G2 H2 (k ds d2 r1 r2) ((n1.trans n2).stepB i3) (i3.nxt (n1.trans n2)) ?_⟩
    have e0 := en.putOwn i3 n1 h0 g pl hl ha1 i
    have e1 := (e0.nxt n2).set (i := j) hv2
    rw [(hF ds).eq, (hG ds d2).eq] at e1
    exact e1⟩⟩
end
end Dv

set_option linter.all false
set_option maxRecDepth 100000
set_option maxHeartbeats 4000000
section
open PySem PySem.Spec PyProof.Rows L2 RZ Dv in
local macro_rules | `(tactic| infer_instance) => `(tactic| first
  | (refine is_var ?_; refine c_var (by repeat (first | exact Nx.z | apply Nx.s)) (by rfl) ?_)
  | (refine is_var ?_; refine c_globI (by assumption) ?_)
  | (refine c_int ?_)
  | (refine c_bl ?_)
  | (refine c_str ?_)
  | (refine c_non ?_)
  | (refine c_dict0 ?_)
  | (refine c_ix ?_)
  | (refine ip_tup (by rfl) ?_)
  | (refine ip_list (by rfl) ?_)
  | (refine ip_tup at0 ?_)
  | (refine ip_list at0 ?_)
  | (refine c_bin ?_)
  | (refine bp_add ?_)
  | (refine bp_sub ?_)
  | (refine c_cmp (nomark _) ?_)
  | (refine c_cmpV (nomark _) ?_)
  | (refine cp_lt ?_)
  | (refine cp_le ?_)
  | (refine cp_gt ?_)
  | (refine cp_ge ?_)
  | (refine cp_eqI ?_)
  | (refine cp_neI ?_)
  | (refine cp_eqB ?_)
  | (refine cp_neB ?_)
  | (refine cp_isN ?_)
  | (refine cp_notN ?_)
  | (refine cp_eqS ?_)
  | (refine cp_neS ?_)
  | (refine c_tup ?_)
  | (refine c_lst ?_)
  | (refine a_c ?_)
  | (refine a_n ?_)
  | (refine c_w ?_)
  | (refine w_a ?_)
  | (refine w_o ?_)
  | (refine w_a1 ?_)
  | (refine w_o1 ?_)
  | (refine v_a ?_)
  | (refine v_o ?_)
  | (refine v_1 ?_)
  | (refine c_not ?_)
  | (refine c_notV ?_)
  | (refine c_if ?_)
  | (refine c_neg ?_)
  | (refine c_chain ?_)
  | (refine c_chainT ?_)
  | (refine c_len ?_)
  | (refine f_lenL ?_)
  | (refine f_lenT ?_)
  | (refine c_isiI ?_)
  | (refine c_isiB ?_)
  | (refine c_isiT ?_)
  | (refine c_isiL ?_)
  | (refine c_isiS ?_)
  | (refine c_isiLT ?_)
  | (refine c_repr ?_)
  | (refine c_tuple ?_)
  | (refine f_tupL ?_)
  | (refine f_tupT ?_)
  | (refine c_list ?_)
  | (refine f_listL ?_)
  | (refine f_listT ?_)
  | (refine c_max2 ?_)
  | (refine c_min2 ?_)
  | (refine f_max2 ?_)
  | (refine f_min2 ?_)
  | (refine c_slice ?_)
  | (refine c_sum ?_)
  | (refine f_sum ?_)
  | (refine f_sumT ?_)
  | (refine o_n ?_)
  | (refine o_s ?_)
  | (refine sl_l ?_)
  | (refine sl_t ?_)
  | (refine is_callN ?_; refine c_call (by assumption) ?_)
  | (refine is_rng ?_; refine s_rng1 (by repeat (first | exact Nx.z | apply Nx.s)) (by intro _; repeat (first | exact SetR.z | apply SetR.s)) ?_)
  | (refine is_let ?_; refine s_let (by repeat (first | exact Nx.z | apply Nx.s)) (by intro _; repeat (first | exact SetR.z | apply SetR.s)) ?_)
  | (refine s_ret' ?_)
  | (refine s_ifs ?_)
  | (refine is_two ?_; refine s_two (by repeat (first | exact Nx.z | apply Nx.s)) (by repeat (first | exact Nx.z | apply Nx.s)) (by intro _; repeat (first | exact SetR.z | apply SetR.s)) (by intro _ _; repeat (first | exact SetR.z | apply SetR.s)) ?_)
  | (refine is_three ?_; refine s_three (by repeat (first | exact Nx.z | apply Nx.s)) (by repeat (first | exact Nx.z | apply Nx.s)) (by repeat (first | exact Nx.z | apply Nx.s)) (by intro _; repeat (first | exact SetR.z | apply SetR.s)) (by intro _ _; repeat (first | exact SetR.z | apply SetR.s)) (by intro _ _ _; repeat (first | exact SetR.z | apply SetR.s)) ?_)
  | (refine s_do ?_)
  | (refine ss_n ?_)
  | (refine ⟨_, ⟨_, rfl, rfl⟩, ?_⟩)
  | (refine ⟨_, ⟨_, by assumption, rfl, rfl⟩, ?_⟩)
  | (refine ⟨_, ⟨_, _, rfl, rfl⟩, ?_⟩)
  | (refine ⟨_, ⟨_, _, _, rfl, rfl⟩, ?_⟩)
  | (refine ⟨_, ⟨_, _, _, _, rfl, rfl⟩, ?_⟩)
  | (refine ⟨_, ⟨_, _, _, by decide, rfl, rfl⟩, ?_⟩)
  | (refine i_range1 ?_)
  | (refine i_range2 ?_)
  | (refine i_zip ?_)
  | (refine is_src ?_; refine i_rngV (by repeat (first | exact Nx.z | apply Nx.s)) (by rfl) ?_ ?_)
  | (refine i_seq ?_)
  | (refine seq_l ?_)
  | (refine seq_t ?_)
  | (refine c_val ?_)
  | (refine s_unp ?_)
  | (refine is_exT ?_; refine ⟨_, _, by nofun, ?_⟩)
  | (refine br_t ?_)
  | (refine br_f ?_)
  | (refine br_t' ?_)
  | (refine br_f' ?_)
  | (refine ⟨_, _, rfl, rfl, ?_⟩)
  | (refine ⟨_, rfl, ?_⟩))
open PySem PySem.Spec PyProof.Rows L2 RZ Dv in
local macro_rules | `(tactic| and_intros) => `(tactic| first
  | (refine s_st (by repeat (first | exact StR.nil | apply StR.d | apply StR.no)) ?_; refine s_eq (by conv => { lhs; whnf }) ?_; (repeat infer_instance))
  | (infer_instance; (repeat infer_instance)))
open PySem PySem.Spec PyProof.Rows L2 RZ Dv in
local macro_rules | `(tactic| nofun) => `(tactic| first
  | (apply is_tgN; exact g_name (by assumption) (by repeat (first | exact Nx.z | apply Nx.s)) (by repeat (first | exact SetR.z | apply SetR.s)))
  | (apply is_tgN; refine g_sub (g_name (by assumption) (by repeat (first | exact Nx.z | apply Nx.s)) (by repeat (first | exact SetR.z | apply SetR.s))) (by rfl))
  | (apply is_tgT; first
    | exact g_tup (gs_c (by nofun) (gs_c (by nofun) tgs_nil))
    | exact g_tup (gs_c (by nofun) (gs_c (by nofun) (gs_c (by nofun) tgs_nil)))
    | exact g_tup (gs_c (by nofun) (gs_c (by nofun) (gs_c (by nofun) (gs_c (by nofun) tgs_nil))))
    | exact g_tup (gs_c (by nofun) (gs_c (by nofun) (gs_c (by nofun) (gs_c (by nofun) (gs_c (by nofun) tgs_nil)))))))
namespace K24
open PySem PySem.Spec PyProof.Rows L2 RZ Dv
def at_def (x : Str) : Stmt := (PySem.Challenge.pw_citylines_k24_stretches_spans_and_places.main.body.find? fun s => match s with | .FunctionDef n .. => n == x | _ => false).getD (.Pass ⟨0, 0, 0, 0⟩)
abbrev sInteger : Stmt := at_def "is_integer"
abbrev sCount : Stmt := at_def "is_count"
abbrev sWithin : Stmt := at_def "is_within"
abbrev sTuple : Stmt := at_def "is_tuple"
abbrev sList : Stmt := at_def "is_list"
abbrev sWord : Stmt := at_def "is_word"
abbrev sNamed : Stmt := at_def "is_named"
abbrev sTimes : Stmt := at_def "are_times"
abbrev sTime : Stmt := at_def "is_time"
def isIntB : Dt → Bool
  | .int _ => true
  | _ => false
def countB : Dt → Bool
  | .int i => decide (0 ≤ i)
  | _ => false
def withinB (v : Dt) (a b : Int) : Bool := match v with
  | .int i => decide (a ≤ i) && decide (i ≤ b)
  | _ => false
def tupB (v : Dt) (a b : Int) : Bool := match v with
  | .tuple es => decide (a ≤ (es.length : Int)) && decide ((es.length : Int) ≤ b)
  | _ => false
def seqB (v : Dt) (a b : Int) : Bool := match v with
  | .tuple es => decide (a ≤ (es.length : Int)) && decide ((es.length : Int) ≤ b)
  | .list es => decide (a ≤ (es.length : Int)) && decide ((es.length : Int) ≤ b)
  | _ => false
def wordB (v : Dt) (ss : List Str) : Bool := match v with
  | .str x => ss.any fun y => y == x
  | _ => false
def namedB (v : Dt) (x : Str) (n : Int) : Bool := tupB v n n && match v with
  | .tuple (e :: _) => wordB e [x]
  | _ => false
def leB : Dt → Dt → Bool
  | .int a, .int b => decide (a ≤ b)
  | _, _ => false
theorem countB_of {v : Dt} (h : countB v = true) : ∃ i, v = .int i ∧ 0 ≤ i := by
  cases v with
  | int i => exact ⟨i, rfl, by simpa [countB] using h⟩
  | _ => cases h
def timeB : Dt → Bool
  | .tuple [x, y] => countB x && (countB y && leB x y)
  | _ => false
theorem tupB_of {v : Dt} {a b : Int} (h : tupB v a b = true) : ∃ es, v = .tuple es ∧ a ≤ (es.length : Int) ∧ (es.length : Int) ≤ b := by
  cases v with
  | tuple es =>
    simp only [tupB, Bool.and_eq_true, decide_eq_true_eq] at h
    exact ⟨es, rfl, h⟩
  | _ => cases h
theorem len2 {α : Type} {es : List α} (h : es.length = 2) : ∃ x y, es = [x, y] := by
  match es, h with
  | [x, y], _ => exact ⟨x, y, rfl⟩
theorem len3 {α : Type} {es : List α} (h : es.length = 3) : ∃ x y z, es = [x, y, z] := by
  match es, h with
  | [x, y, z], _ => exact ⟨x, y, z, rfl⟩
section
variable {P : Program} {w : World} {K : Fg} {mg : Str → Option Value} {base : Heap} {f : Addr} {fd : FuncData}
theorem scInteger : FnScope ["value"] ["value"] (defScope sInteger) := ⟨rfl, rfl, rfl, by decide +kernel, rfl, by decide +kernel, by decide +kernel⟩
def rInteger (ds : List Dt) (d : Dt) : Prop := ∃ v, ds = [v] ∧ d = .bool (isIntB v)
theorem f_integer (T : Free mg) (F : Fun K "is_integer" "is_integer" sInteger f fd) : FnG P w K mg base 1 f fd ["value"] (spD K rInteger) := by
  refine fn_data F scInteger (fun ds d ⟨i, e, _⟩ => by subst e; rfl) fun cdv A outer s H E hr hgd hu ds d h => ?_
  obtain ⟨v, rfl, rfl⟩ := h
  have hN := scInteger.nd
  and_intros
  refine ⟨fun h1 => ?_, fun h1 => ?_⟩
  · and_intros
    cases v <;> first | rfl | cases h1
  · cases v <;> first | rfl | cases h1
theorem scCount : FnScope ["value"] ["value"] (defScope sCount) := ⟨rfl, rfl, rfl, by decide +kernel, rfl, by decide +kernel, by decide +kernel⟩
def rCount (ds : List Dt) (d : Dt) : Prop := ∃ v, ds = [v] ∧ d = .bool (countB v)
theorem f_count (C1 : Cal P w K mg base 1 "is_integer" ["value"] sInteger (spD K rInteger)) (F : Fun K "is_count" "is_count" sCount f fd) : FnG P w K mg base 2 f fd ["value"] (spD K rCount) := by
  refine fn_data F scCount (fun ds d ⟨i, e, _⟩ => by subst e; rfl) fun cdv A outer s H E hr hgd hu ds d h => ?_
  obtain ⟨v, rfl, rfl⟩ := h
  have hN := scCount.nd
  and_intros
  refine ⟨fun h1 => ?_, fun h1 => ?_⟩
  · cases v with
    | int i => and_intros; rfl
    | _ => cases h1
  · cases v <;> first | rfl | cases h1
theorem scWithin : FnScope ["value", "least", "most"] ["value", "least", "most"] (defScope sWithin) := ⟨rfl, rfl, rfl, by decide +kernel, rfl, by decide +kernel, by decide +kernel⟩
def rWithin (ds : List Dt) (d : Dt) : Prop := ∃ v a b, ds = [v, .int a, .int b] ∧ d = .bool (withinB v a b)
theorem f_within (C1 : Cal P w K mg base 1 "is_integer" ["value"] sInteger (spD K rInteger)) (F : Fun K "is_within" "is_within" sWithin f fd) : FnG P w K mg base 2 f fd ["value", "least", "most"] (spD K rWithin) := by
  refine fn_data F scWithin (fun ds d ⟨i, _, _, e, _⟩ => by subst e; rfl) fun cdv A outer s H E hr hgd hu ds d h => ?_
  obtain ⟨v, a, b, rfl, rfl⟩ := h
  have hN := scWithin.nd
  and_intros
  refine ⟨fun h1 => ?_, fun h1 => ?_⟩
  · cases v with
    | int i =>
      and_intros
      refine ⟨fun h2 => ?_, fun h2 => ?_⟩
      · and_intros
        show _ = PyData.bool (decide (a ≤ i) && _)
        rw [decide_eq_true h2]; rfl
      · show _ = PyData.bool (decide (a ≤ i) && _)
        rw [decide_eq_false h2]; rfl
    | _ => cases h1
  · cases v <;> first | rfl | cases h1
theorem scTuple : FnScope ["value", "least", "most"] ["value", "least", "most"] (defScope sTuple) := ⟨rfl, rfl, rfl, by decide +kernel, rfl, by decide +kernel, by decide +kernel⟩
def rTuple (ds : List Dt) (d : Dt) : Prop := ∃ (v : Dt) (a b : Int), ds = [v, .int a, .int b] ∧ d = .bool (tupB v a b)
theorem f_tuple (T : Free mg) (F : Fun K "is_tuple" "is_tuple" sTuple f fd) : FnG P w K mg base 1 f fd ["value", "least", "most"] (spD K rTuple) := by
  refine fn_data F scTuple (fun ds d ⟨i, _, _, e, _⟩ => by subst e; rfl) fun cdv A outer s H E hr hgd hu ds d h => ?_
  obtain ⟨v, a, b, rfl, rfl⟩ := h
  have hN := scTuple.nd
  and_intros
  refine ⟨fun h1 => ?_, fun h1 => ?_⟩
  · cases v with
    | tuple es =>
      and_intros
      refine ⟨fun h2 => ?_, fun h2 => ?_⟩
      · and_intros
        show _ = PyData.bool (decide (a ≤ _) && _)
        rw [decide_eq_true h2]; rfl
      · show _ = PyData.bool (decide (a ≤ _) && _)
        rw [decide_eq_false h2]; rfl
    | _ => cases h1
  · cases v <;> first | rfl | cases h1
theorem scList : FnScope ["value", "least", "most"] ["value", "least", "most"] (defScope sList) := ⟨rfl, rfl, rfl, by decide +kernel, rfl, by decide +kernel, by decide +kernel⟩
def rList (ds : List Dt) (d : Dt) : Prop := ∃ (v : Dt) (a b : Int), ds = [v, .int a, .int b] ∧ d = .bool (seqB v a b)
theorem f_list (T : Free mg) (F : Fun K "is_list" "is_list" sList f fd) : FnG P w K mg base 1 f fd ["value", "least", "most"] (spD K rList) := by
  refine fn_data F scList (fun ds d ⟨i, _, _, e, _⟩ => by subst e; rfl) fun cdv A outer s H E hr hgd hu ds d h => ?_
  obtain ⟨v, a, b, rfl, rfl⟩ := h
  have hN := scList.nd
  and_intros
  refine ⟨fun h1 => ?_, fun h1 => ?_⟩
  · cases v with
    | tuple es =>
      and_intros
      refine ⟨fun h2 => ?_, fun h2 => ?_⟩
      · and_intros
        show _ = PyData.bool (decide (a ≤ _) && _)
        rw [decide_eq_true h2]; rfl
      · show _ = PyData.bool (decide (a ≤ _) && _)
        rw [decide_eq_false h2]; rfl
    | list es =>
      and_intros
      refine ⟨fun h2 => ?_, fun h2 => ?_⟩
      · and_intros
        show _ = PyData.bool (decide (a ≤ _) && _)
        rw [decide_eq_true h2]; rfl
      · show _ = PyData.bool (decide (a ≤ _) && _)
        rw [decide_eq_false h2]; rfl
    | _ => cases h1
  · cases v <;> first | rfl | cases h1
theorem scWord : FnScope ["value", "words"] ["value", "words"] (defScope sWord) := ⟨rfl, rfl, rfl, by decide +kernel, rfl, by decide +kernel, by decide +kernel⟩
def rWord (ds : List Dt) (d : Dt) : Prop := ∃ (v : Dt) (ss : List Str), ds = [v, .tuple (ss.map PyData.str)] ∧ d = .bool (wordB v ss)
theorem f_word (T : Free mg) (F : Fun K "is_word" "is_word" sWord f fd) : FnG P w K mg base 1 f fd ["value", "words"] (spD K rWord) := by
  refine fn_data F scWord (fun ds d ⟨i, _, e, _⟩ => by subst e; rfl) fun cdv A outer s H E hr hgd hu ds d h => ?_
  obtain ⟨v, ss, rfl, rfl⟩ := h
  have hN := scWord.nd
  and_intros
  refine ⟨fun h1 => ?_, fun h1 => ?_⟩
  · cases v with
    | str x =>
      refine v_1 ?_
      refine c_cmpV rfl ?_
      and_intros
      refine cp_inS ?_
      rfl
    | _ => cases h1
  · cases v <;> first | rfl | cases h1
theorem scNamed : FnScope ["value", "word", "many"] ["value", "word", "many"] (defScope sNamed) := ⟨rfl, rfl, rfl, by decide +kernel, rfl, by decide +kernel, by decide +kernel⟩
def rNamed (ds : List Dt) (d : Dt) : Prop := ∃ (v : Dt) (x : Str) (n : Int), 1 ≤ n ∧ ds = [v, .str x, .int n] ∧ d = .bool (namedB v x n)
theorem f_named (C1 : Cal P w K mg base 1 "is_tuple" ["value", "least", "most"] sTuple (spD K rTuple)) (C2 : Cal P w K mg base 1 "is_word" ["value", "words"] sWord (spD K rWord)) (F : Fun K "is_named" "is_named" sNamed f fd) : FnG P w K mg base 2 f fd ["value", "word", "many"] (spD K rNamed) := by
  refine fn_data F scNamed (fun ds d ⟨i, _, _, _, e, _⟩ => by subst e; rfl) fun cdv A outer s H E hr hgd hu ds d h => ?_
  obtain ⟨v, x, n, hn, rfl, rfl⟩ := h
  have hN := scNamed.nd
  and_intros
  refine ⟨fun h1 => ?_, fun h1 => ?_⟩
  · cases v with
    | tuple es =>
      cases es with
      | nil =>
        simp only [tupB, List.length_nil, Bool.and_eq_true, decide_eq_true_eq] at h1
        omega
      | cons e es =>
        and_intros
        refine ⟨by simp, ?_⟩
        and_intros
        refine ⟨_, ⟨e, [x], rfl, rfl⟩, ?_⟩
        show _ = PyData.bool (tupB _ _ _ && _)
        rw [h1]; rfl
    | _ => cases h1
  · show _ = PyData.bool (tupB _ _ _ && _)
    rw [h1]; rfl
theorem scTime : FnScope ["value", "departure", "arrival"] ["value"] (defScope sTime) := ⟨rfl, rfl, rfl, by decide +kernel, rfl, by decide +kernel, by decide +kernel⟩
def rTime (ds : List Dt) (d : Dt) : Prop := ∃ v, ds = [v] ∧ d = .bool (timeB v)
theorem f_time (C1 : Cal P w K mg base 1 "is_tuple" ["value", "least", "most"] sTuple (spD K rTuple)) (C2 : Cal P w K mg base 2 "is_count" ["value"] sCount (spD K rCount)) (F : Fun K "is_time" "is_time" sTime f fd) : FnG P w K mg base 3 f fd ["value"] (spD K rTime) := by
  refine fn_data F scTime (fun ds d ⟨i, e, _⟩ => by subst e; rfl) fun cdv A outer s H E hr hgd hu ds d h => ?_
  obtain ⟨v, rfl, rfl⟩ := h
  have hN := scTime.nd
  and_intros
  refine ⟨fun h1 => ?_, fun h1 => ?_⟩
  · and_intros
    have h2 : tupB v 2 2 = false := by simpa using h1
    show PyData.bool false = PyData.bool (timeB v)
    match v, h2 with
    | .tuple [_, _], h2 => exact absurd h2 (by simp [tupB])
    | .none, _ | .bool _, _ | .int _, _ | .str _, _ | .list _, _ | .dict _, _ | .tuple [], _ | .tuple [_], _ | .tuple (_ :: _ :: _ :: _), _ => rfl
  · obtain ⟨es, rfl, k1, k2⟩ := tupB_of (v := v) (by simpa using h1)
    obtain ⟨x, y, rfl⟩ := len2 (es := es) (by omega)
    and_intros
    refine ⟨fun h2 => ?_, fun h2 => ?_⟩
    · and_intros
      refine ⟨fun h3 => ?_, fun h3 => ?_⟩
      · obtain ⟨a, rfl, a0⟩ := countB_of h2
        obtain ⟨b, rfl, b0⟩ := countB_of h3
        and_intros
        show PyData.bool _ = PyData.bool (countB _ && (countB _ && _))
        rw [h2, h3]; rfl
      · show PyData.bool _ = PyData.bool (countB _ && (countB _ && _))
        rw [h2, h3]; rfl
    · show PyData.bool _ = PyData.bool (countB _ && (countB _ && _))
      rw [h2]; rfl
theorem scTimes : FnScope ["value", "many", "part"] ["value", "many"] (defScope sTimes) := ⟨rfl, rfl, rfl, by decide +kernel, rfl, by decide +kernel, by decide +kernel⟩
def seqOf : Dt → List Dt
  | .list es => es
  | .tuple es => es
  | _ => []
def timesB (v : Dt) (n : Int) : Bool := seqB v n n && (seqOf v).all timeB
def rTimes (ds : List Dt) (d : Dt) : Prop := ∃ v n, (seqOf v).length ≤ 100000 ∧ ds = [v, .int n] ∧ d = .bool (timesB v n)
theorem seqB_of {v : Dt} {a b : Int} (h : seqB v a b = true) : (v = .list (seqOf v) ∨ v = .tuple (seqOf v)) ∧ a ≤ ((seqOf v).length : Int) ∧ ((seqOf v).length : Int) ≤ b := by
  cases v with
  | tuple es =>
    simp only [seqB, Bool.and_eq_true, decide_eq_true_eq] at h
    exact ⟨.inr rfl, h⟩
  | list es =>
    simp only [seqB, Bool.and_eq_true, decide_eq_true_eq] at h
    exact ⟨.inl rfl, h⟩
  | _ => cases h
theorem f_times (T : Free mg) (C1 : Cal P w K mg base 1 "is_list" ["value", "least", "most"] sList (spD K rList)) (C2 : Cal P w K mg base 3 "is_time" ["value"] sTime (spD K rTime)) (F : Fun K "are_times" "are_times" sTimes f fd) : FnG P w K mg base 4 f fd ["value", "many"] (spD K rTimes) := by
  refine fn_data F scTimes (fun ds d ⟨i, _, _, e, _⟩ => by subst e; rfl) fun cdv A outer s H E hr hgd hu ds d h => ?_
  obtain ⟨v, n, hl, rfl, rfl⟩ := h
  have hN := scTimes.nd
  and_intros
  refine ⟨fun h1 => ?_, fun h1 => ?_⟩
  · and_intros
    have h2 : seqB v n n = false := by simpa using h1
    show _ = PyData.bool (seqB v n n && _)
    rw [h2]; rfl
  · have h2 : seqB v n n = true := by simpa using h1
    obtain ⟨k1, k2, k3⟩ := seqB_of h2
    and_intros
    refine c_all ?_
    refine c_o ?_
    refine LcO.xo ?_ hN
    refine lco_fun (α := Dt) [("part", 2)] (blkOk_by (N := ["value", "many", "part"]) (sc := defScope sTimes) (by decide +kernel)) ?_
    and_intros
    refine ⟨seqOf v, k1, ?_⟩
    refine ⟨seqOf v, _root_.id, fun x => .bool (timeB x), by simp, hl, fun i x hx => ⟨_, fun s H C cl fp => by nofun, fun s H C cl fp => ?_⟩, ?_⟩
    · and_intros
      rfl
    · have e : (seqOf v).map (fun x => PyData.bool (timeB x)) = ((seqOf v).map timeB).map PyData.bool := by rw [List.map_map]; rfl
      rw [e]
      refine f_all ?_
      show _ = PyData.bool (seqB v n n && _)
      rw [h2, List.all_map]; rfl
end
end K24

set_option linter.all false
set_option maxRecDepth 100000
set_option maxHeartbeats 4000000
namespace K24
open PySem PySem.Spec PyProof.Rows L2 RZ Dv
abbrev sForm : Stmt := at_def "is_duty_form"
abbrev sPiece : Stmt := at_def "is_piece"
abbrev sBreak : Stmt := at_def "is_break"
abbrev sCkDuty : Stmt := at_def "check_duty"
abbrev sPlace : Stmt := at_def "duty_place"
abbrev sRides : Stmt := at_def "duty_rides"
abbrev sRidesOf : Stmt := at_def "rides_of"
abbrev sThere : Stmt := at_def "there"
abbrev sThereAt : Stmt := at_def "there_at"
abbrev sStretches : Stmt := at_def "stretches"
abbrev sBegins : Stmt := at_def "stretch_begins"
abbrev sSpans : Stmt := at_def "spans"
abbrev sDriven : Stmt := at_def "is_driven_in_time"
structure Pc where
  t : Int
  f : Int
  l : Int
structure Bk where
  rest : Bool
  m : Int
structure Duty where
  ps : List Pc
  bs : List Bk
def Pc.d (p : Pc) : Dt := .tuple [.int p.t, .int p.f, .int p.l]
def wordOf (r : Bool) : Str := if r then "rest" else "walk"
def Bk.d (b : Bk) : Dt := .tuple [.str (wordOf b.rest), .int b.m]
def Duty.d (x : Duty) : Dt := .tuple [.str "duty", .tuple (x.ps.map Pc.d), .tuple (x.bs.map Bk.d)]
theorem word_ok : ∀ r : Bool, wordB (.str (wordOf r)) ["walk", "rest"] = true := by decide +kernel
theorem word_ne : wordOf false ≠ "rest" := by decide +kernel
structure Pc.ok (p : Pc) : Prop where
  t0 : 0 ≤ p.t
  t1 : p.t ≤ 1000
  f0 : 0 ≤ p.f
  fl : p.f ≤ p.l
  l6 : p.l ≤ 6
structure Bk.ok (b : Bk) : Prop where
  m0 : (if b.rest then 1 else 0) ≤ b.m
  m1 : b.m ≤ 120
structure Duty.ok (x : Duty) : Prop where
  n1 : 1 ≤ x.ps.length
  n2 : x.ps.length ≤ 60
  bl : x.bs.length + 1 = x.ps.length
  pk : ∀ p ∈ x.ps, p.ok
  bk : ∀ b ∈ x.bs, b.ok
  nb : ∀ (i : Nat) p q, x.ps[i]? = some p → x.ps[i + 1]? = some q → p.t ≠ q.t
section
variable {P : Program} {w : World} {K : Fg} {mg : Str → Option Value} {base : Heap} {f : Addr} {fd : FuncData}
theorem scPiece : FnScope ["value", "trip", "first", "last"] ["value"] (defScope sPiece) := ⟨rfl, rfl, rfl, by decide +kernel, rfl, by decide +kernel, by decide +kernel⟩
def rPiece (ds : List Dt) (d : Dt) : Prop := ∃ p : Pc, p.ok ∧ ds = [p.d] ∧ d = .bool true
structure Cn (mg : Str → Option Value) : Prop where
  pieces : ∃ t, mg "MOST_PIECES" = some (.int 60 t)
  hop : ∃ t, mg "LAST_HOP" = some (.int 6 t)
  brk : ∃ t, mg "LONGEST_BREAK" = some (.int 120 t)
theorem f_piece (c : Cn mg) (C1 : Cal P w K mg base 1 "is_tuple" ["value", "least", "most"] sTuple (spD K rTuple)) (C2 : Cal P w K mg base 2 "is_count" ["value"] sCount (spD K rCount)) (C3 : Cal P w K mg base 2 "is_within" ["value", "least", "most"] sWithin (spD K rWithin)) (F : Fun K "is_piece" "is_piece" sPiece f fd) : FnG P w K mg base 3 f fd ["value"] (spD K rPiece) := by
  refine fn_data F scPiece (fun ds d ⟨i, _, e, _⟩ => by subst e; rfl) fun cdv A outer s H E hr hgd hu ds d h => ?_
  obtain ⟨p, ok, rfl, rfl⟩ := h
  have hN := scPiece.nd
  obtain ⟨c1, c2, c3⟩ := c
  and_intros
  refine br_is ok.t0 ?_
  and_intros
  refine br_is ok.f0 ?_
  and_intros
  refine br_by ?_ ?_
  · have := ok.f0
    have := ok.fl
    have := ok.l6
    simp [withinB]; omega
  and_intros
  show _ = _
  rw [decide_eq_true ok.fl]
theorem scBreak : FnScope ["value", "word", "minutes"] ["value"] (defScope sBreak) := ⟨rfl, rfl, rfl, by decide +kernel, rfl, by decide +kernel, by decide +kernel⟩
def rBreak (ds : List Dt) (d : Dt) : Prop := ∃ b : Bk, b.ok ∧ ds = [b.d] ∧ d = .bool true
theorem f_break (c : Cn mg) (C1 : Cal P w K mg base 1 "is_tuple" ["value", "least", "most"] sTuple (spD K rTuple)) (C2 : Cal P w K mg base 1 "is_word" ["value", "words"] sWord (spD K rWord)) (C3 : Cal P w K mg base 2 "is_within" ["value", "least", "most"] sWithin (spD K rWithin)) (F : Fun K "is_break" "is_break" sBreak f fd) : FnG P w K mg base 3 f fd ["value"] (spD K rBreak) := by
  refine fn_data F scBreak (fun ds d ⟨i, _, e, _⟩ => by subst e; rfl) fun cdv A outer s H E hr hgd hu ds d h => ?_
  obtain ⟨b, ok, rfl, rfl⟩ := h
  have hN := scBreak.nd
  obtain ⟨c1, c2, c3⟩ := c
  and_intros
  refine ⟨by simp, ?_⟩
  and_intros
  refine ⟨_, ⟨_, ["walk", "rest"], rfl, rfl⟩, ?_⟩
  and_intros
  refine br_nby ?_ ?_
  · exact word_ok b.rest
  and_intros
  have m0 := ok.m0
  have m1 := ok.m1
  refine br_d (fun h => ?_) (fun h => ?_)
  · and_intros
    show _ = _
    have : b.rest = true := by
      obtain ⟨r, m⟩ := b
      cases r
      · exact absurd h word_ne
      · rfl
    rw [this] at m0
    simp [withinB]
    exact ⟨by simpa using m0, m1⟩
  · and_intros
    show _ = _
    have : b.rest = false := by
      obtain ⟨r, m⟩ := b
      cases r
      · rfl
      · exact absurd rfl h
    rw [this] at m0
    simp [withinB]
    exact ⟨by simpa using m0, m1⟩
abbrev NF : List Str := ["value", "_", "pieces", "breaks", "between", "piece", "place", "part"]
theorem scForm : FnScope ["value", "_", "pieces", "breaks", "between", "piece", "place", "part"] ["value"] (defScope sForm) := ⟨rfl, rfl, rfl, by decide +kernel, rfl, by decide +kernel, by decide +kernel⟩
def rForm (ds : List Dt) (d : Dt) : Prop := ∃ x : Duty, x.ok ∧ ds = [x.d] ∧ d = .bool true
theorem f_form (T : Free mg) (c : Cn mg) (C1 : Cal P w K mg base 2 "is_named" ["value", "word", "many"] sNamed (spD K rNamed)) (C2 : Cal P w K mg base 1 "is_tuple" ["value", "least", "most"] sTuple (spD K rTuple)) (C3 : Cal P w K mg base 3 "is_piece" ["value"] sPiece (spD K rPiece)) (C4 : Cal P w K mg base 3 "is_break" ["value"] sBreak (spD K rBreak)) (F : Fun K "is_duty_form" "is_duty_form" sForm f fd) : FnG P w K mg base 4 f fd ["value"] (spD K rForm) := by
  refine fn_data F scForm (fun ds d ⟨i, _, e, _⟩ => by subst e; rfl) fun cdv A outer s H E hr hgd hu ds d h => ?_
  obtain ⟨x, ok, rfl, rfl⟩ := h
  have hN := scForm.nd
  obtain ⟨c1, c2, c3⟩ := c
  have n1 := ok.n1
  have n2 := ok.n2
  have bl := ok.bl
  and_intros
  refine br_byf' (by simp [tupB]; omega) ?_
  and_intros
  refine c_allOk [("piece", 5)] (blkOk_by (N := NF) (sc := defScope sForm) (by decide +kernel)) ?_
  and_intros
  refine ⟨by rw [List.length_map]; omega, fun i d hd => ?_, ?_⟩
  · obtain ⟨p, hp, rfl⟩ := map_get hd
    refine ⟨_, fun s H C cl fp => by nofun, fun s H C cl fp => ?_⟩
    and_intros
    exact ⟨_, ⟨p, ok.pk p (List.mem_of_getElem? hp), rfl, rfl⟩, rfl⟩
  and_intros
  rw [List.length_map]
  refine c_allOk [("place", 6)] (blkOk_by (N := NF) (sc := defScope sForm) (by decide +kernel)) ?_
  and_intros
  refine ⟨by omega, ?_⟩
  refine ⟨by rw [rngD_length]; omega, fun i d hd => ?_, ?_⟩
  · obtain ⟨hi, rfl⟩ := rngD_at hd
    rw [show (0 : Int) + ((i : Nat) : Int) = ((i : Nat) : Int) by omega]
    have h1 : i + 1 < x.ps.length := by omega
    have e1 : x.ps[i]? = some x.ps[i] := List.getElem?_eq_getElem (by omega)
    have e2 : x.ps[i + 1]? = some x.ps[i + 1] := List.getElem?_eq_getElem h1
    refine ⟨_, fun s H C cl fp => by nofun, fun s H C cl fp => ?_⟩
    and_intros
    refine ip_tup (at_map e1) ?_
    and_intros
    refine ip_tup (at_map (i := i + 1) e2) ?_
    and_intros
    show _ = _
    rw [decide_eq_false (ok.nb i _ _ e1 e2)]
    rfl
  and_intros
  refine br_by ?_ ?_
  · simp [tupB]; omega
  and_intros
  refine c_allOk [("part", 7)] (blkOk_by (N := NF) (sc := defScope sForm) (by decide +kernel)) ?_
  and_intros
  refine ⟨by rw [List.length_map]; omega, fun i d hd => ?_, rfl⟩
  obtain ⟨p, hp, rfl⟩ := map_get hd
  refine ⟨_, fun s H C cl fp => by nofun, fun s H C cl fp => ?_⟩
  and_intros
  exact ⟨_, ⟨p, ok.bk p (List.mem_of_getElem? hp), rfl, rfl⟩, rfl⟩
end
end K24

set_option linter.all false
set_option maxRecDepth 100000
set_option maxHeartbeats 4000000
namespace K24
open PySem PySem.Spec PyProof.Rows L2 RZ Dv
def hit (t h : Int) (p : Pc) : Bool := decide (p.t = t) && (decide (p.f ≤ h) && decide (h ≤ p.l))
def placeFrom (t h : Int) : Nat → List Duty → Dt
  | _, [] => .none
  | i, x :: xs => match x.ps.findIdx? (hit t h) with
    | some j => .tuple [.int ((i : Nat) : Int), .int ((j : Nat) : Int)]
    | none => placeFrom t h (i + 1) xs
section
variable {P : Program} {w : World} {K : Fg} {mg : Str → Option Value} {base : Heap} {f : Addr} {fd : FuncData}
theorem scCkDuty : FnScope ["duty"] ["duty"] (defScope sCkDuty) := ⟨rfl, rfl, rfl, by decide +kernel, rfl, by decide +kernel, by decide +kernel⟩
def rCkDuty (ds : List Dt) (d : Dt) : Prop := ∃ x : Duty, x.ok ∧ ds = [x.d] ∧ d = .none
theorem f_ckduty (C1 : Cal P w K mg base 4 "is_duty_form" ["value"] sForm (spD K rForm)) (F : Fun K "check_duty" "check_duty" sCkDuty f fd) : FnG P w K mg base 5 f fd ["duty"] (spD K rCkDuty) := by
  refine fn_data F scCkDuty (fun ds d ⟨i, _, e, _⟩ => by subst e; rfl) fun cdv A outer s H E hr hgd hu ds d h => ?_
  obtain ⟨x, ok, rfl, rfl⟩ := h
  have hN := scCkDuty.nd
  and_intros
  rfl
abbrev NP : List Str := ["duties", "trip", "hop", "position", "duty", "place", "piece", "own", "first", "last"]
theorem scPlace : FnScope NP ["duties", "trip", "hop"] (defScope sPlace) := ⟨rfl, rfl, rfl, by decide +kernel, rfl, by decide +kernel, by decide +kernel⟩
def rPlace (ds : List Dt) (d : Dt) : Prop := ∃ (v : Dt) (xs : List Duty) (t h : Int), xs.length ≤ 100 ∧ (v = .list (xs.map Duty.d) ∨ v = .tuple (xs.map Duty.d)) ∧ 0 ≤ t ∧ 0 ≤ h ∧ ds = [v, .int t, .int h] ∧ d = placeFrom t h 0 xs
theorem f_place (T : Free mg) (C1 : Cal P w K mg base 2 "is_count" ["value"] sCount (spD K rCount)) (F : Fun K "duty_place" "duty_place" sPlace f fd) : FnG P w K mg base 3 f fd ["duties", "trip", "hop"] (spD K rPlace) := by
  refine fn_data F scPlace (fun ds d ⟨_, _, _, _, _, _, _, _, e, _⟩ => by subst e; rfl) fun cdv A outer s H E hr hgd hu ds d h => ?_
  obtain ⟨v, xs, t, h, hl, hv, t0, h0, rfl, rfl⟩ := h
  have hN := scPlace.nd
  and_intros
  refine br_nis t0 ?_
  and_intros
  refine br_nis h0 ?_
  and_intros
  refine s_for ?_
  refine i_enumB hv (pd_v 0) ?_
  refine ⟨fun i y => placeFrom t h 0 xs = placeFrom t h i (xs.drop i) ∧ ∃ e3 e4 e5 e6 e7 e8 e9, y = [.d v, .d (.int t), .d (.int h), e3, e4, e5, e6, e7, e8, e9], ⟨rfl, _, _, _, _, _, _, _, rfl⟩, fun i d δ' hd iv => ?_, fun δ' iv => ?_⟩
  · obtain ⟨iv, e3, e4, e5, e6, e7, e8, e9, rfl⟩ := iv
    obtain ⟨x', hx', rfl⟩ := enD_at hd
    obtain ⟨x, hx, rfl⟩ := map_get hx'
    refine ⟨_, _, by nofun, ?_⟩
    have dr : xs.drop i = x :: xs.drop (i + 1) := by
      obtain ⟨hi, e⟩ := List.getElem?_eq_some_iff.mp hx
      rw [← e]; exact List.drop_eq_getElem_cons hi
    refine s_for ?_
    refine i_enumTup ?_
    and_intros
    refine ⟨fun j y => (∀ k p, k < j → x.ps[k]? = some p → hit t h p = false) ∧ ∃ e5 e6 e7 e8 e9, y = [.d v, .d (.int t), .d (.int h), .d (.int ((i : Nat) : Int)), .d x.d, e5, e6, e7, e8, e9], ⟨fun k p hk => absurd hk (Nat.not_lt_zero k), _, _, _, _, _, rfl⟩, fun j d δ' hd iv2 => ?_, fun δ' iv2 => ?_⟩
    · obtain ⟨iv2, e5, e6, e7, e8, e9, rfl⟩ := iv2
      obtain ⟨p', hp', rfl⟩ := enD_at hd
      obtain ⟨p, hp, rfl⟩ := map_get hp'
      refine ⟨_, _, by nofun, ?_⟩
      have miss : hit t h p = false → ∀ k q, k < j + 1 → x.ps[k]? = some q → hit t h q = false := fun hm k q hk hq => by
        by_cases e : k = j
        · subst e; rw [hp] at hq; cases hq; exact hm
        · exact iv2 k q (by omega) hq
      refine s_unp ?_
      and_intros
      refine br_d (fun k1 => ?_) (fun k1 => ?_)
      · and_intros
        refine ⟨fun k2 => ?_, fun k2 => ?_⟩
        · and_intros
          refine br_d (fun k3 => ?_) (fun k3 => ?_)
          · and_intros
            refine ⟨by simp, ?_⟩
            show _ = _
            have hit1 : hit t h p = true := by simp [hit, k1, k2, k3]
            have hj : j < x.ps.length := (List.getElem?_eq_some_iff.mp hp).1
            have fi : x.ps.findIdx? (hit t h) = some j := by
              rw [List.findIdx?_eq_some_iff_getElem]
              refine ⟨hj, by have := (List.getElem?_eq_some_iff.mp hp).2; rw [this]; exact hit1, fun k hk => ?_⟩
              rw [iv2 k _ hk (List.getElem?_eq_getElem (by omega))]
              decide
            rw [iv, dr]
            show _ = (match x.ps.findIdx? (hit t h) with | some j => _ | none => _)
            rw [fi]
          · and_intros
            exact ⟨miss (by simp [hit, k3]), _, _, _, _, _, rfl⟩
        · and_intros
          exact ⟨miss (by simp [hit, k2]), _, _, _, _, _, rfl⟩
      · and_intros
        exact ⟨miss (by simp [hit, k1]), _, _, _, _, _, rfl⟩
    · obtain ⟨iv2, e5, e6, e7, e8, e9, rfl⟩ := iv2
      and_intros
      refine ⟨?_, _, _, _, _, _, _, _, rfl⟩
      have fi : x.ps.findIdx? (hit t h) = none := by
        rw [List.findIdx?_eq_none_iff]
        intro p hp
        obtain ⟨k, hk, e⟩ := List.getElem_of_mem hp
        rw [enD_length, List.length_map] at iv2
        exact iv2 k p hk (by rw [← e]; exact List.getElem?_eq_getElem hk)
      rw [iv, dr]
      show (match x.ps.findIdx? (hit t h) with | some j => _ | none => _) = _
      rw [fi]
  · obtain ⟨iv, e3, e4, e5, e6, e7, e8, e9, rfl⟩ := iv
    and_intros
    rw [enD_length, List.length_map, List.drop_length] at iv
    exact iv.symm
end
end K24

set_option linter.all false
set_option maxRecDepth 100000
set_option maxHeartbeats 4000000
namespace K24
open PySem PySem.Spec PyProof.Rows L2 RZ Dv
def ridesP (p : Pc) : List Dt := (List.range (p.l + 1 - p.f).toNat).map fun k => .tuple [.int p.t, .int (p.f + ((k : Nat) : Int))]
def ridesD (x : Duty) : List Dt := x.ps.flatMap ridesP
theorem rides_len {ps : List Pc} (h : ∀ p ∈ ps, p.ok) : (ps.flatMap ridesP).length ≤ 7 * ps.length := by
  induction ps with
  | nil => simp
  | cons p ps ih =>
    have := ih fun q hq => h q (List.mem_cons_of_mem _ hq)
    have k := h p (List.mem_cons_self ..)
    have k1 := k.f0
    have k2 := k.l6
    rw [List.flatMap_cons, List.length_append, List.length_cons]
    unfold ridesP at this ⊢
    rw [List.length_map, List.length_range]
    omega
section
variable {P : Program} {w : World} {K : Fg} {mg : Str → Option Value} {base : Heap} {f : Addr} {fd : FuncData}
abbrev NRO : List Str := ["duty", "trip", "first", "last", "hop"]
theorem scRidesOf : FnScope NRO ["duty"] (defScope sRidesOf) := ⟨rfl, rfl, rfl, by decide +kernel, rfl, by decide +kernel, by decide +kernel⟩
def rRidesOf (ds es : List Dt) : Prop := ∃ x : Duty, (∀ p ∈ x.ps, p.ok) ∧ x.ps.length ≤ 60 ∧ ds = [x.d] ∧ es = ridesD x
theorem f_ridesof (T : Free mg) (F : Fun K "rides_of" "rides_of" sRidesOf f fd) : FnG P w K mg base 1 f fd ["duty"] (spO K rRidesOf) := by
  refine fn_own F scRidesOf (fun ds d ⟨_, _, _, e, _⟩ => by subst e; rfl) fun cdv A outer s H E hr hgd hu ds d h => ?_
  obtain ⟨x, ok, hn, rfl, rfl⟩ := h
  have hN := scRidesOf.nd
  refine s_st (by repeat (first | exact StR.nil | apply StR.d | apply StR.no)) ?_
  refine s_eq (by conv => { lhs; whnf }) ?_
  refine s_retE ?_
  refine xo_flat (α := Pc) (β := Nat) [("trip", 1), ("first", 2), ("last", 3), ("hop", 4)] [4] (blkOk_by (N := NRO) (sc := defScope sRidesOf) (by decide +kernel)) ?_
  and_intros
  refine ⟨x.ps, Pc.d, fun p => List.range (p.l + 1 - p.f).toNat, fun p k => .int (p.f + ((k : Nat) : Int)), fun p k => .tuple [.int p.t, .int (p.f + ((k : Nat) : Int))], rfl, by omega, Nat.le_trans (rides_len ok) (by omega), fun i p hp => ?_, rfl⟩
  have pk := ok p (List.mem_of_getElem? hp)
  refine ⟨[.d x.d, .d (.int p.t), .d (.int p.f), .d (.int p.l), .no], fun s H C cl fp => (g_sub (js := [1, 2, 3]) (g_tup (ds := [.int p.t, .int p.f, .int p.l]) (gs_c (by nofun) (gs_c (by nofun) (gs_c (by nofun) tgs_nil)))) (by rfl)), rfl, fun s H C cl fp => ?_, fun j k hk => ⟨[.d x.d, .d (.int p.t), .d (.int p.f), .d (.int p.l), .d (.int (p.f + ((k : Nat) : Int)))], ⟨fun s H C cl fp => by nofun, fun s H C cl fp => ?_⟩⟩⟩
  · have k1 := pk.f0
    have k2 := pk.l6
    have k3 := pk.fl
    and_intros
    refine ⟨by omega, ?_⟩
    rfl
  · and_intros
    refine c_intc ?_
    and_intros
    refine f_int ?_
    and_intros
    exact ⟨by simp, rfl⟩
end
end K24

set_option linter.all false
set_option maxRecDepth 100000
set_option maxHeartbeats 4000000
namespace K24
open PySem PySem.Spec PyProof.Rows L2 RZ Dv
def noB : Bk := ⟨false, 0⟩
def begN (bs : List Bk) (k : Nat) : List Nat := 0 :: ((List.range k).filter fun i => (bs.getD i noB).rest).map (· + 1)
def stA (bs : List Bk) : Nat → List (Nat × Nat) × Nat
  | 0 => ([], 0)
  | k + 1 => if (bs.getD k noB).rest then ((stA bs k).1 ++ [((stA bs k).2, k)], k + 1) else stA bs k
def prs (bs : List Bk) (k : Nat) : List (Nat × Nat) := (stA bs k).1 ++ [((stA bs k).2, k)]
theorem beg_prs {bs : List Bk} : ∀ k, begN bs k = (prs bs k).map (·.1)
  | 0 => rfl
  | k + 1 => by
    have ih := beg_prs (bs := bs) k
    unfold begN at ih ⊢
    rw [List.range_succ, List.filter_append, List.map_append, ← List.cons_append, ih]
    unfold prs
    show _ = List.map (·.1) ((if (bs.getD k noB).rest then ((stA bs k).1 ++ [((stA bs k).2, k)], k + 1) else stA bs k).1 ++ [((if (bs.getD k noB).rest then ((stA bs k).1 ++ [((stA bs k).2, k)], k + 1) else stA bs k).2, k + 1)])
    cases h : (bs.getD k noB).rest <;> (have h2 : (bs[k]?.getD noB).rest = _ := (congrArg Bk.rest List.getD_eq_getElem?_getD).symm.trans h) <;> simp [h, h2]
theorem tail_snoc {α : Type} {l : List α} {x : α} (h : l ≠ []) : (l ++ [x]).tail = l.tail ++ [x] := by
  cases l with
  | nil => exact absurd rfl h
  | cons y l => rfl
theorem last_st {bs : List Bk} : ∀ k, ((((stA bs k).1.map (·.1)) ++ [(stA bs k).2]).tail.map fun b => ((b : Nat) : Int) - 1) = (stA bs k).1.map fun q => ((q.2 : Nat) : Int)
  | 0 => rfl
  | k + 1 => by
    have ih := last_st (bs := bs) k
    show (List.map _ (((if (bs.getD k noB).rest then ((stA bs k).1 ++ [((stA bs k).2, k)], k + 1) else stA bs k).1.map (·.1)) ++ [(if (bs.getD k noB).rest then ((stA bs k).1 ++ [((stA bs k).2, k)], k + 1) else stA bs k).2]).tail) = List.map _ (if (bs.getD k noB).rest then ((stA bs k).1 ++ [((stA bs k).2, k)], k + 1) else stA bs k).1
    cases h : (bs.getD k noB).rest with
    | false => simpa using ih
    | true =>
      simp only [if_true]
      rw [List.map_append, tail_snoc (by simp), List.map_append]
      simp only [List.map_cons, List.map_nil]
      rw [ih, List.map_append]
      simp
theorem last_prs {bs : List Bk} {k : Nat} : ((((prs bs k).map (·.1)).tail.map fun b => ((b : Nat) : Int) - 1) ++ [((k : Nat) : Int)]) = (prs bs k).map fun q => ((q.2 : Nat) : Int) := by
  have h := last_st (bs := bs) k
  unfold prs
  rw [List.map_append, List.map_append]
  simp only [List.map_cons, List.map_nil]
  rw [h]
theorem st_le {bs : List Bk} : ∀ k, (∀ q ∈ (stA bs k).1, q.1 ≤ q.2 ∧ q.2 ≤ k) ∧ (stA bs k).2 ≤ k
  | 0 => ⟨fun q h => (by cases h), Nat.le_refl _⟩
  | k + 1 => by
    obtain ⟨i1, i2⟩ := st_le (bs := bs) k
    show (∀ q ∈ (if (bs.getD k noB).rest then ((stA bs k).1 ++ [((stA bs k).2, k)], k + 1) else stA bs k).1, q.1 ≤ q.2 ∧ q.2 ≤ k + 1) ∧ (if (bs.getD k noB).rest then ((stA bs k).1 ++ [((stA bs k).2, k)], k + 1) else stA bs k).2 ≤ k + 1
    cases h : (bs.getD k noB).rest with
    | false =>
      simp only [Bool.false_eq_true, if_false]
      exact ⟨fun q hq => by have := i1 q hq; omega, by omega⟩
    | true =>
      simp only [if_true]
      refine ⟨fun q hq => ?_, Nat.le_refl _⟩
      rcases List.mem_append.mp hq with hq | hq
      · have := i1 q hq; omega
      · rw [List.mem_singleton] at hq
        subst hq
        exact ⟨i2, Nat.le_succ _⟩
theorem prs_le {bs : List Bk} {k : Nat} : ∀ q ∈ prs bs k, q.1 ≤ q.2 ∧ q.2 ≤ k := fun q hq => by
  obtain ⟨i1, i2⟩ := st_le (bs := bs) k
  unfold prs at hq
  rcases List.mem_append.mp hq with hq | hq
  · exact i1 q hq
  · rw [List.mem_singleton] at hq
    subst hq
    exact ⟨i2, Nat.le_refl _⟩
def strD (x : Duty) : List Dt := (prs x.bs x.bs.length).map fun q => .tuple [.int ((q.1 : Nat) : Int), .int ((q.2 : Nat) : Int)]
theorem enD_bs {bs : List Bk} : enD (bs.map Bk.d) = (List.range bs.length).map fun i => PyData.tuple [.int ((i : Nat) : Int), (bs.getD i noB).d] := by
  apply List.ext_getElem?
  intro i
  by_cases hi : i < bs.length
  · rw [enD_get (d := (bs.getD i noB).d) (by rw [List.getElem?_map, List.getD_eq_getElem?_getD, List.getElem?_eq_getElem hi]; rfl), List.getElem?_map, List.getElem?_range hi]; rfl
  · rw [List.getElem?_eq_none (by rw [enD_length, List.length_map]; omega), List.getElem?_eq_none (by rw [List.length_map, List.length_range]; omega)]
theorem rest_dec {r : Bool} : decide (wordOf r = "rest") = r := by cases r <;> decide +kernel
end K24

set_option linter.all false
set_option maxRecDepth 100000
set_option maxHeartbeats 4000000
namespace K24
open PySem PySem.Spec PyProof.Rows L2 RZ Dv
theorem cut_lo' {ds : List Dt} {k : Nat} : Dv.cutD ds (some ((k : Nat) : Int)) none = ds.drop k := by simpa using cut_lo (xs := ds) (F := _root_.id) (k := k)
theorem br_nX {c : Bool} {A B : Prop} (hc : c = false) (h : B) : ((!c) = false → A) ∧ ((!c) = true → B) := by subst hc; exact ⟨fun z => Bool.noConfusion z, fun _ => h⟩
theorem br_nY {c : Bool} {A B : Prop} (hc : c = true) (h : A) : ((!c) = false → A) ∧ ((!c) = true → B) := by subst hc; exact ⟨fun _ => h, fun z => Bool.noConfusion z⟩
section
variable {P : Program} {w : World} {K : Fg} {mg : Str → Option Value} {base : Heap} {f : Addr} {fd : FuncData}
theorem scRides : FnScope ["duty"] ["duty"] (defScope sRides) := ⟨rfl, rfl, rfl, by decide +kernel, rfl, by decide +kernel, by decide +kernel⟩
def rRides (ds es : List Dt) : Prop := ∃ x : Duty, x.ok ∧ ds = [x.d] ∧ es = ridesD x
theorem f_rides (C1 : Cal P w K mg base 5 "check_duty" ["duty"] sCkDuty (spD K rCkDuty)) (C2 : Cal P w K mg base 1 "rides_of" ["duty"] sRidesOf (spO K rRidesOf)) (F : Fun K "duty_rides" "duty_rides" sRides f fd) : FnG P w K mg base 6 f fd ["duty"] (spO K rRides) := by
  refine fn_own F scRides (fun ds d ⟨_, _, e, _⟩ => by subst e; rfl) fun cdv A outer s H E hr hgd hu ds d h => ?_
  obtain ⟨x, ok, rfl, rfl⟩ := h
  have hN := scRides.nd
  refine s_st (by repeat (first | exact StR.nil | apply StR.d | apply StR.no)) ?_
  refine s_eq (by conv => { lhs; whnf }) ?_
  refine s_do ?_
  refine c_call C1 ?_
  iterate 3 infer_instance
  refine ⟨.none, ⟨x, ok, rfl, rfl⟩, ?_⟩
  refine s_eq (by conv => { lhs; whnf }) ?_
  refine s_retE ?_
  refine o_call C2 ?_
  iterate 3 infer_instance
  exact ⟨ridesD x, ⟨x, ok.pk, ok.n2, rfl, rfl⟩, rfl⟩
theorem scThereAt : FnScope ["duty", "place", "arrival"] ["duty", "place", "arrival"] (defScope sThereAt) := ⟨rfl, rfl, rfl, by decide +kernel, rfl, by decide +kernel, by decide +kernel⟩
def rThereAt (ds : List Dt) (d : Dt) : Prop := ∃ (x : Duty) (p : Nat) (a : Int), p < x.bs.length ∧ ds = [x.d, .int (((p + 1 : Nat) : Nat) : Int), .int a] ∧ d = .int (a + (x.bs.getD p noB).m)
theorem bk_at {bs : List Bk} {p : Nat} (h : p < bs.length) : bs[p]? = some (bs.getD p noB) := by rw [List.getD_eq_getElem?_getD, List.getElem?_eq_getElem h]; rfl
theorem f_thereat (F : Fun K "there_at" "there_at" sThereAt f fd) : FnG P w K mg base 1 f fd ["duty", "place", "arrival"] (spD K rThereAt) := by
  refine fn_data F scThereAt (fun ds d ⟨_, _, _, _, e, _⟩ => by subst e; rfl) fun cdv A outer s H E hr hgd hu ds d h => ?_
  obtain ⟨x, p, a, hp, rfl, rfl⟩ := h
  have hN := scThereAt.nd
  and_intros
  rw [show (((p + 1 : Nat) : Nat) : Int) - 1 = ((p : Nat) : Int) by omega]
  refine ip_tup (at_map (bk_at hp)) ?_
  and_intros
  rfl
theorem scThere : FnScope ["duty", "place", "arrival"] ["duty", "place", "arrival"] (defScope sThere) := ⟨rfl, rfl, rfl, by decide +kernel, rfl, by decide +kernel, by decide +kernel⟩
def rThere (ds : List Dt) (d : Dt) : Prop := ∃ (x : Duty) (p : Nat) (a : Int), x.ok ∧ p < x.bs.length ∧ 0 ≤ a ∧ ds = [x.d, .int (((p + 1 : Nat) : Nat) : Int), .int a] ∧ d = .int (a + (x.bs.getD p noB).m)
theorem f_there (C1 : Cal P w K mg base 5 "check_duty" ["duty"] sCkDuty (spD K rCkDuty)) (C2 : Cal P w K mg base 2 "is_within" ["value", "least", "most"] sWithin (spD K rWithin)) (C3 : Cal P w K mg base 2 "is_count" ["value"] sCount (spD K rCount)) (C4 : Cal P w K mg base 1 "there_at" ["duty", "place", "arrival"] sThereAt (spD K rThereAt)) (T : Free mg) (F : Fun K "there" "there" sThere f fd) : FnG P w K mg base 6 f fd ["duty", "place", "arrival"] (spD K rThere) := by
  refine fn_data F scThere (fun ds d ⟨_, _, _, _, _, _, e, _⟩ => by subst e; rfl) fun cdv A outer s H E hr hgd hu ds d h => ?_
  obtain ⟨x, p, a, ok, hp, a0, rfl, rfl⟩ := h
  have hN := scThere.nd
  have bl := ok.bl
  and_intros
  have h1 : withinB (PyData.int (((p + 1 : Nat) : Nat) : Int)) 1 ((((x.ps.map Pc.d).length : Nat) : Int) - 1) = true := by
    show (decide ((1 : Int) ≤ (((p + 1 : Nat) : Nat) : Int)) && decide ((((p + 1 : Nat) : Nat) : Int) ≤ (((x.ps.map Pc.d).length : Nat) : Int) - 1)) = true
    rw [List.length_map, decide_eq_true (by omega), decide_eq_true (by omega)]; rfl
  refine ⟨fun z => (by rw [h1] at z; cases z), fun _ => ?_⟩
  and_intros
  have h2 : countB (.int a) = true := by show decide (0 ≤ a) = true; exact decide_eq_true a0
  refine ⟨fun z => (by rw [h2] at z; cases z), fun _ => ?_⟩
  and_intros
  exact ⟨_, ⟨x, p, a, hp, rfl, rfl⟩, rfl⟩
theorem scBegins : FnScope ["duty", "place", "part"] ["duty"] (defScope sBegins) := ⟨rfl, rfl, rfl, by decide +kernel, rfl, by decide +kernel, by decide +kernel⟩
def rBegins (ds : List Dt) (d : Dt) : Prop := ∃ x : Duty, x.ok ∧ ds = [x.d] ∧ d = .list ((begN x.bs x.bs.length).map fun b => .int ((b : Nat) : Int))
theorem f_begins (T : Free mg) (F : Fun K "stretch_begins" "stretch_begins" sBegins f fd) : FnG P w K mg base 1 f fd ["duty"] (spD K rBegins) := by
  refine fn_data F scBegins (fun ds d ⟨_, _, e, _⟩ => by subst e; rfl) fun cdv A outer s H E hr hgd hu ds d h => ?_
  obtain ⟨x, ok, rfl, rfl⟩ := h
  have hN := scBegins.nd
  have bl := ok.bl
  have n2 := ok.n2
  and_intros
  refine ⟨by simp, ?_⟩
  refine c_o (LcO.xo (lco_filter (α := Nat) [("place", 1), ("part", 2)] (blkOk_by (N := ["duty", "place", "part"]) (sc := defScope sBegins) (by decide +kernel)) ?_) hN)
  refine i_enumB (v := .tuple (x.bs.map Bk.d)) (.inr rfl) (by and_intros; rfl) ?_
  rw [enD_bs]
  refine ⟨List.range x.bs.length, _, fun i => .int (((i : Nat) : Int) + 1), fun i => (x.bs.getD i noB).rest, rfl, by rw [List.length_range]; omega, fun i k hk => ⟨[.d x.d, .d (.int ((k : Nat) : Int)), .d (x.bs.getD k noB).d], fun s H C cl fp => by nofun, fun s H C cl fp => ?_, fun _ s H C cl fp => ?_⟩, ?_⟩
  · and_intros
    rw [rest_dec]
  · and_intros
    rfl
  refine bp_cat ?_ ?_
  · rw [List.length_map]
    have := List.length_filter_le (fun i => (x.bs.getD i noB).rest) (List.range x.bs.length)
    rw [List.length_range] at this
    show 1 + _ ≤ 100000
    omega
  show PyData.list _ = PyData.list _
  congr 1
  unfold begN
  rw [List.map_cons, List.map_map]
  rfl
abbrev NST : List Str := ["duty", "begins", "lasts", "begin"]
theorem scStretches : FnScope NST ["duty"] (defScope sStretches) := ⟨rfl, rfl, rfl, by decide +kernel, rfl, by decide +kernel, by decide +kernel⟩
def rStretches (ds es : List Dt) : Prop := ∃ x : Duty, x.ok ∧ ds = [x.d] ∧ es = strD x
theorem f_stretches (T : Free mg) (hz : mg "zip" = none) (C1 : Cal P w K mg base 5 "check_duty" ["duty"] sCkDuty (spD K rCkDuty)) (C2 : Cal P w K mg base 1 "stretch_begins" ["duty"] sBegins (spD K rBegins)) (F : Fun K "stretches" "stretches" sStretches f fd) : FnG P w K mg base 6 f fd ["duty"] (spO K rStretches) := by
  refine fn_own F scStretches (fun ds d ⟨_, _, e, _⟩ => by subst e; rfl) fun cdv A outer s H E hr hgd hu ds d h => ?_
  obtain ⟨x, ok, rfl, rfl⟩ := h
  have hN := scStretches.nd
  have bl := ok.bl
  have n2 := ok.n2
  refine s_st (by repeat (first | exact StR.nil | apply StR.d | apply StR.no)) ?_
  refine s_eq (by conv => { lhs; whnf }) ?_
  refine s_do ?_
  refine c_call C1 ?_
  iterate 3 infer_instance
  refine ⟨.none, ⟨x, ok, rfl, rfl⟩, ?_⟩
  refine s_eq (by conv => { lhs; whnf }) ?_
  refine s_let (i := 1) (F := fun d => [.d x.d, .d d, .no, .no]) (by repeat (first | exact Nx.z | apply Nx.s)) (by intro _; repeat (first | exact SetR.z | apply SetR.s)) ?_
  refine c_call C2 ?_
  iterate 3 infer_instance
  refine ⟨_, ⟨x, ok, rfl, rfl⟩, ?_⟩
  rw [beg_prs]
  have pl : (prs x.bs x.bs.length).length ≤ 60 := by
    have e := beg_prs (bs := x.bs) x.bs.length
    have e2 := congrArg List.length e
    rw [List.length_map] at e2
    rw [← e2]
    unfold begN
    have := List.length_filter_le (fun i => (x.bs.getD i noB).rest) (List.range x.bs.length)
    rw [List.length_range] at this
    rw [List.length_cons, List.length_map]
    omega
  have lp := last_prs (bs := x.bs) (k := x.bs.length)
  refine s_eq (by conv => { lhs; whnf }) ?_
  refine s_let (i := 2) (F := fun d => [.d x.d, .d (.list (((prs x.bs x.bs.length).map (·.1)).map fun b => .int ((b : Nat) : Int))), .d d, .no]) (by repeat (first | exact Nx.z | apply Nx.s)) (by intro _; repeat (first | exact SetR.z | apply SetR.s)) ?_
  refine XD.mono (U1 := fun d => d = .list ((prs x.bs x.bs.length).map fun q => .int ((q.2 : Nat) : Int))) ?_ fun d hd => ?_
  · infer_instance
    refine c_comp (α := Nat) [("begin", 3)] (blkOk_by (N := NST) (sc := defScope sStretches) (by decide +kernel)) ?_
    and_intros
    rw [show (some (1 : Int)) = some (((1 : Nat) : Nat) : Int) from rfl, cut_lo', List.drop_one, ← List.map_tail]
    refine ⟨((prs x.bs x.bs.length).map (·.1)).tail, fun b => .int ((b : Nat) : Int), fun b => .int (((b : Nat) : Int) - 1), rfl, by rw [List.length_tail, List.length_map]; omega, fun i b hb => ⟨_, fun s H C cl fp => by nofun, fun s H C cl fp => ?_⟩, ?_⟩
    · and_intros
      rfl
    and_intros
    rw [List.length_map]
    refine ⟨by simp, bp_cat (by rw [List.length_map, List.length_tail, List.length_map]; simp; omega) ?_⟩
    have e := congrArg (List.map PyData.int) lp
    rw [List.map_append, List.map_map, List.map_map] at e
    rw [show ((x.ps.length : Nat) : Int) - 1 = ((x.bs.length : Nat) : Int) by omega]
    exact congrArg PyData.list e
  subst hd
  refine s_eq (by conv => { lhs; whnf }) ?_
  refine s_retE ?_
  refine o_listZip ?_
  and_intros
  refine ⟨_, _, rfl, by rw [List.length_map, List.length_map, List.length_map], ?_⟩
  show zipT _ _ = strD x
  unfold zipT strD
  rw [List.map_map, List.zipWith_map_left, List.zipWith_map_right]
  rw [List.zipWith_self]
  rfl
abbrev Tm := Int × Int
def Tm.d (t : Tm) : Dt := .tuple [.int t.1, .int t.2]
def noT : Tm := (0, 0)
theorem tm_at {ts : List Tm} {p : Nat} (h : p < ts.length) : ts[p]? = some (ts.getD p noT) := by rw [List.getD_eq_getElem?_getD, List.getElem?_eq_getElem h]; rfl
def inTime (x : Duty) (ts : List Tm) : Prop := ∀ p, p + 1 < ts.length → (ts.getD p noT).2 + (x.bs.getD p noB).m ≤ (ts.getD (p + 1) noT).1
def seqV (v : Dt) (ts : List Tm) : Prop := v = .list (ts.map Tm.d) ∨ v = .tuple (ts.map Tm.d)
theorem ln_seq {X : Cx} {v : Dt} {ts : List Tm} {R : Dt → Prop} (hv : seqV v ts) (k : R (.int ((ts.length : Nat) : Int))) : CallP X (.builtin "len") [v] R := by
  rcases hv with rfl | rfl
  · exact f_lenL (by rw [List.length_map]; exact k)
  · exact f_lenT (by rw [List.length_map]; exact k)
theorem ix_seq {X : Cx} {v : Dt} {ts : List Tm} {p : Nat} {R : Dt → Prop} (hv : seqV v ts) (hp : p < ts.length) (k : R (ts.getD p noT).d) : IxP X v (.int ((p : Nat) : Int)) R := by
  rcases hv with rfl | rfl
  · exact ip_list (at_map (tm_at hp)) k
  · exact ip_tup (at_map (tm_at hp)) k
abbrev NDR : List Str := ["duty", "times", "place"]
theorem scDriven : FnScope NDR ["duty", "times"] (defScope sDriven) := ⟨rfl, rfl, rfl, by decide +kernel, rfl, by decide +kernel, by decide +kernel⟩
def rDriven (ds : List Dt) (d : Dt) : Prop := ∃ (x : Duty) (v : Dt) (ts : List Tm), x.bs.length + 1 = ts.length ∧ ts.length ≤ 60 ∧ seqV v ts ∧ inTime x ts ∧ ds = [x.d, v] ∧ d = .bool true
theorem f_driven (T : Free mg) (C1 : Cal P w K mg base 1 "there_at" ["duty", "place", "arrival"] sThereAt (spD K rThereAt)) (F : Fun K "is_driven_in_time" "is_driven_in_time" sDriven f fd) : FnG P w K mg base 2 f fd ["duty", "times"] (spD K rDriven) := by
  refine fn_data F scDriven (fun ds d ⟨_, _, _, _, _, _, _, e, _⟩ => by subst e; rfl) fun cdv A outer s H E hr hgd hu ds d h => ?_
  obtain ⟨x, v, ts, hl, hn, hv, ht, rfl, rfl⟩ := h
  have hN := scDriven.nd
  refine s_st (by repeat (first | exact StR.nil | apply StR.d | apply StR.no)) ?_
  refine s_eq (by conv => { lhs; whnf }) ?_
  refine s_ret' ?_
  refine c_allF (α := Nat) [("place", 2)] (blkOk_by (N := NDR) (sc := defScope sDriven) (by decide +kernel)) ?_
  refine i_range2 ?_
  refine c_int ?_
  refine c_len ?_
  iterate 1 infer_instance
  refine ln_seq hv ?_
  refine ⟨1, ((ts.length : Nat) : Int), rfl, rfl, by omega, List.range x.bs.length, fun p => .int (((p + 1 : Nat) : Nat) : Int), fun _ => true, (by unfold rngD; rw [show (((ts.length : Nat) : Int) - 1).toNat = x.bs.length by omega]; exact List.map_congr_left fun p _ => congrArg PyData.int (by omega)), by rw [List.length_range]; omega, fun i p hp => ?_, ?_⟩
  · have hp2 : p < x.bs.length := List.mem_range.mp (List.mem_of_getElem? hp)
    refine ⟨[.d x.d, .d v, .d (.int (((p + 1 : Nat) : Nat) : Int))], fun s H C cl fp => by nofun, fun s H C cl fp => ?_⟩
    and_intros
    refine ix_seq hv (by omega) ?_
    and_intros
    rw [show (((p + 1 : Nat) : Nat) : Int) - 1 = ((p : Nat) : Int) by omega]
    refine ix_seq hv (by omega) ?_
    and_intros
    refine ⟨_, ⟨x, p, _, hp2, rfl, rfl⟩, ?_⟩
    and_intros
    exact congrArg PyData.bool (decide_eq_true (ht p (by omega)))
  · show PyData.bool _ = PyData.bool true
    congr 1
    exact List.all_eq_true.mpr fun _ _ => rfl
end
end K24

set_option linter.all false
set_option maxRecDepth 100000
set_option maxHeartbeats 4000000
namespace K24
open PySem PySem.Spec PyProof.Rows L2 RZ Dv
def spn (ts : List Tm) (q : Nat × Nat) : List Dt := (List.range (q.2 + 1 - q.1)).map fun j => .tuple [.int ((ts.getD (q.1 + j) noT).2 - (ts.getD q.1 noT).1), .int ((ts.getD (q.1 + j) noT).2 - (ts.getD 0 noT).1)]
def spanD (x : Duty) (ts : List Tm) : List Dt := (prs x.bs x.bs.length).flatMap (spn ts)
theorem flat_bound {α β : Type} {F : α → List β} {m : Nat} : ∀ {l : List α}, (∀ x ∈ l, (F x).length ≤ m) → (l.flatMap F).length ≤ m * l.length
  | [], _ => by simp
  | x :: l, h => by
    have ih := flat_bound (F := F) (m := m) fun y hy => h y (List.mem_cons_of_mem _ hy)
    have h1 := h x (List.mem_cons_self ..)
    rw [List.flatMap_cons, List.length_append, List.length_cons, Nat.mul_add, Nat.mul_one]
    omega
theorem prs_len {bs : List Bk} {k : Nat} : (prs bs k).length ≤ k + 1 := by
  have e2 := congrArg List.length (beg_prs (bs := bs) k)
  rw [List.length_map] at e2
  rw [← e2]
  unfold begN
  have := List.length_filter_le (fun i => (bs.getD i noB).rest) (List.range k)
  rw [List.length_range] at this
  rw [List.length_cons, List.length_map]
  omega
theorem span_len {x : Duty} {ts : List Tm} (h : x.bs.length < 60) : (spanD x ts).length ≤ 3600 := by
  have h1 := flat_bound (F := spn ts) (m := 60) (l := prs x.bs x.bs.length) fun q hq => by
    have := prs_le q hq
    unfold spn
    rw [List.length_map, List.length_range]; omega
  have h2 := prs_len (bs := x.bs) (k := x.bs.length)
  unfold spanD
  have : 60 * (prs x.bs x.bs.length).length ≤ 60 * 60 := Nat.mul_le_mul_left _ (by omega)
  omega
theorem times_ok {v : Dt} {ts : List Tm} (hv : seqV v ts) (h : ∀ t ∈ ts, 0 ≤ t.1 ∧ t.1 ≤ t.2) : timesB v ((ts.length : Nat) : Int) = true := by
  have all : (ts.map Tm.d).all timeB = true := by
    rw [List.all_map, List.all_eq_true]
    intro t ht
    have := h t ht
    show (decide (0 ≤ t.1) && (decide (0 ≤ t.2) && decide (t.1 ≤ t.2))) = true
    rw [decide_eq_true (by omega), decide_eq_true (by omega), decide_eq_true (by omega)]; rfl
  unfold timesB
  rcases hv with rfl | rfl
  · show ((decide (((ts.length : Nat) : Int) ≤ (((ts.map Tm.d).length : Nat) : Int)) && decide ((((ts.map Tm.d).length : Nat) : Int) ≤ ((ts.length : Nat) : Int))) && (ts.map Tm.d).all timeB) = true
    rw [all, List.length_map, decide_eq_true (Int.le_refl _)]; rfl
  · show ((decide (((ts.length : Nat) : Int) ≤ (((ts.map Tm.d).length : Nat) : Int)) && decide ((((ts.map Tm.d).length : Nat) : Int) ≤ ((ts.length : Nat) : Int))) && (ts.map Tm.d).all timeB) = true
    rw [all, List.length_map, decide_eq_true (Int.le_refl _)]; rfl
section
variable {P : Program} {w : World} {K : Fg} {mg : Str → Option Value} {base : Heap} {f : Addr} {fd : FuncData}
abbrev NSp : List Str := ["duty", "times", "found", "begin", "last", "place", "arrival"]
theorem scSpans : FnScope NSp ["duty", "times"] (defScope sSpans) := ⟨rfl, rfl, rfl, by decide +kernel, rfl, by decide +kernel, by decide +kernel⟩
def rSpans (ds : List Dt) (d : Dt) : Prop := ∃ (x : Duty) (v : Dt) (ts : List Tm), x.ok ∧ ts.length = x.ps.length ∧ seqV v ts ∧ (∀ t ∈ ts, 0 ≤ t.1 ∧ t.1 ≤ t.2) ∧ inTime x ts ∧ ds = [x.d, v] ∧ d = .list (spanD x ts)
theorem f_spans (T : Free mg) (C1 : Cal P w K mg base 5 "check_duty" ["duty"] sCkDuty (spD K rCkDuty)) (C2 : Cal P w K mg base 4 "are_times" ["value", "many"] sTimes (spD K rTimes)) (C3 : Cal P w K mg base 2 "is_driven_in_time" ["duty", "times"] sDriven (spD K rDriven)) (C4 : Cal P w K mg base 6 "stretches" ["duty"] sStretches (spO K rStretches)) (F : Fun K "spans" "spans" sSpans f fd) : FnG P w K mg base 7 f fd ["duty", "times"] (spD K rSpans) := by
  refine fn_data F scSpans (fun ds d ⟨_, _, _, _, _, _, _, _, e, _⟩ => by subst e; rfl) fun cdv A outer s H E hr hgd hu ds d h => ?_
  obtain ⟨x, v, ts, ok, tl, hv, tb, ht, rfl, rfl⟩ := h
  have hN := scSpans.nd
  have bl := ok.bl
  have n2 := ok.n2
  have C5 := C4.ofO
  have tt := times_ok hv tb
  and_intros
  refine ⟨_, ⟨v, _, by rcases hv with rfl | rfl <;> (show (ts.map Tm.d).length ≤ 100000; rw [List.length_map]; omega), rfl, rfl⟩, ?_⟩
  and_intros
  rw [List.length_map, ← tl]
  refine br_nY tt ?_
  and_intros
  refine ⟨.bool true, ⟨x, v, ts, by omega, by omega, hv, ht, rfl, rfl⟩, ?_⟩
  iterate 3 infer_instance
  refine s_newOwn (i := 2) (F := fun es => [.d x.d, .d v, .own es, .no, .no, .no, .no]) (by repeat (first | exact Nx.z | apply Nx.s)) (by intro _; repeat (first | exact SetR.z | apply SetR.s)) ?_
  refine o_lst (a_n ⟨by simp, ?_⟩)
  refine s_eq (by conv => { lhs; whnf }) ?_
  refine s_for ?_
  refine i_seq ?_
  refine c_call C5 ?_
  iterate 3 infer_instance
  refine ⟨_, ⟨_, ⟨x, ok, rfl, rfl⟩, rfl⟩, ?_⟩
  have tot : (spanD x ts).length ≤ 3600 := span_len (by omega)
  have n0 : 0 < ts.length := by omega
  refine seq_l ⟨fun k z => ∃ a b c e : En, z = [.d x.d, .d v, .own (((prs x.bs x.bs.length).take k).flatMap (spn ts)), a, b, c, e], ⟨_, _, _, _, rfl⟩, fun k d δ' hd iv => ?_, fun δ' iv => ?_⟩
  case refine_2 =>
    obtain ⟨a, b, c, e, rfl⟩ := iv
    have e : (strD x).length = (prs x.bs x.bs.length).length := by unfold strD; rw [List.length_map]
    rw [e, List.take_length]
    refine s_freeze 2 rfl (by repeat (first | exact SetR.z | apply SetR.s)) ?_
    and_intros
    rfl
  obtain ⟨a, b, c, e, rfl⟩ := iv
  obtain ⟨q, hq, rfl⟩ := map_get hd
  have ql := prs_le q (List.mem_of_getElem? hq)
  have hst := flat_step (F := spn ts) hq
  have hle : (((prs x.bs x.bs.length).take (k + 1)).flatMap (spn ts)).length ≤ 3600 := Nat.le_trans flat_le tot
  rw [hst, List.length_append] at hle
  refine ⟨[.d x.d, .d v, .own (((prs x.bs x.bs.length).take k).flatMap (spn ts)), .d (.int ((q.1 : Nat) : Int)), .d (.int ((q.2 : Nat) : Int)), c, e], _, g_tup (ds := [.int ((q.1 : Nat) : Int), .int ((q.2 : Nat) : Int)]) (gs_c (by nofun) (gs_c (by nofun) tgs_nil)), ?_⟩
  refine s_eq (by conv => { lhs; whnf }) ?_
  refine s_for ?_
  and_intros
  refine ⟨by omega, fun j z => ∃ c e : En, z = [.d x.d, .d v, .own (((prs x.bs x.bs.length).take k).flatMap (spn ts) ++ (spn ts q).take j), .d (.int ((q.1 : Nat) : Int)), .d (.int ((q.2 : Nat) : Int)), c, e], ⟨c, e, by rw [List.take_zero, List.append_nil]⟩, fun j d δ' hd iv => ?_, fun δ' iv => ?_⟩
  case refine_2 =>
    obtain ⟨c, e, rfl⟩ := iv
    rw [rngD_length]
    have el : (spn ts q).length = (((q.2 : Nat) : Int) + 1 - ((q.1 : Nat) : Int)).toNat := by unfold spn; rw [List.length_map, List.length_range]; omega
    rw [← el, List.take_length]
    and_intros
    exact ⟨_, _, _, _, by rw [hst]⟩
  obtain ⟨c, e, rfl⟩ := iv
  obtain ⟨hj, rfl⟩ := rngD_at hd
  have hj : j < q.2 + 1 - q.1 := by omega
  rw [show ((q.1 : Nat) : Int) + ((j : Nat) : Int) = (((q.1 + j : Nat) : Nat) : Int) by omega]
  refine ⟨_, _, by nofun, ?_⟩
  refine s_eq (by conv => { lhs; whnf }) ?_
  infer_instance
  iterate 4 infer_instance
  refine ix_seq hv (by omega) ?_
  iterate 2 infer_instance
  have el : (spn ts q).length = q.2 + 1 - q.1 := by unfold spn; rw [List.length_map, List.length_range]
  have hj2 : (spn ts q)[j]? = some (.tuple [.int ((ts.getD (q.1 + j) noT).2 - (ts.getD q.1 noT).1), .int ((ts.getD (q.1 + j) noT).2 - (ts.getD 0 noT).1)]) := by unfold spn; rw [List.getElem?_map, List.getElem?_range hj]; rfl
  refine s_append (i := 2) (F := fun d => [.d x.d, .d v, .own ((((prs x.bs x.bs.length).take k).flatMap (spn ts) ++ (spn ts q).take j) ++ [d]), .d (.int ((q.1 : Nat) : Int)), .d (.int ((q.2 : Nat) : Int)), .d (.int (((q.1 + j : Nat) : Nat) : Int)), .d (.int (ts.getD (q.1 + j) noT).2)]) (by repeat (first | exact Nx.z | apply Nx.s)) rfl (by intro _; repeat (first | exact SetR.z | apply SetR.s)) (by rw [List.length_append, List.length_take]; omega) ?_
  and_intros
  refine ix_seq hv (by omega) ?_
  and_intros
  refine ix_seq (p := 0) hv (by omega) ?_
  and_intros
  refine ⟨by simp, ?_⟩
  and_intros
  exact ⟨_, _, by rw [take_succ' hj2, List.append_assoc]⟩
end
end K24

set_option linter.all false
set_option maxRecDepth 100000
set_option maxHeartbeats 4000000
namespace K24
open PySem PySem.Spec PyProof.Rows L2 RZ Dv
abbrev sLDraw : Stmt := at_def "_law_draw"
abbrev sLPick : Stmt := at_def "_law_pick"
abbrev sLPot : Stmt := at_def "_law_pot"
structure T0 (K : Fg) (mg : Str → Option Value) : Prop where
  isi : mg "isinstance" = none
  int : mg "int" = none
  bool : mg "bool" = none
  tuple : mg "tuple" = none
  list : mg "list" = none
  str : mg "str" = none
  len : mg "len" = none
  all : mg "all" = none
  any : mg "any" = none
  max : mg "max" = none
  min : mg "min" = none
  abs : mg "abs" = none
  sorted : mg "sorted" = none
  repr : mg "repr" = none
  range : mg "range" = none
  enumerate : mg "enumerate" = none
  divmod : mg "divmod" = none
  set : mg "set" = none
theorem T0.of {K : Fg} {mg : Str → Option Value} (F : Free mg) : T0 K mg := by constructor <;> exact F _ (by decide +kernel)
theorem getD_at {ns : List Int} {i : Nat} (h : i < ns.length) : ns[i]? = some (ns.getD i 0) := by rw [List.getD_eq_getElem?_getD, List.getElem?_eq_getElem h]; rfl
theorem at_ints {ns : List Int} {p : Nat} (h : p < ns.length) : atI (ns.map PyData.int) ((p : Nat) : Int) = some (.int (ns.getD p 0)) := at_map (getD_at h)
theorem all_true {α : Type} {xs : List α} : (xs.map fun _ => true).all _root_.id = true := by rw [List.all_map]; exact List.all_eq_true.mpr fun _ _ => rfl
def absL (i : Int) : Int := if i < 0 then -i else i
def cellL (ns : List Int) (k : Int) : Int := if decide (k < ((ns.length : Nat) : Int)) = true then absL (ns.getD k.toNat 0) else 827 * k + 83
def potA (ns : List Int) (k : Int) : Int := max 0 (cellL ns k - 10 ^ (18 : Int).toNat)
def potB (ns : List Int) (k : Int) : Int := (cellL ns k % 2147483549 * 40014 + 6151 * k + 181) % 2147483563 + 1
theorem pot_ok (ns : List Int) (k : Int) : potOk (potA ns k) (potB ns k) := by
  unfold potOk potA potB
  have h1 := Int.emod_nonneg (cellL ns k % 2147483563 * 39373 + 6007 * k + 307) (b := 2147483563) (by omega)
  have h2 := Int.emod_lt_of_pos (cellL ns k % 2147483563 * 39373 + 6007 * k + 307) (b := 2147483563) (by omega)
  omega
section
variable {P : Program} {w : World} {K : Fg} {mg : Str → Option Value} {base : Heap} {f : Addr} {fd : FuncData}
theorem scLDraw : FnScope ["pot", "many", "digit"] ["pot", "many"] (defScope sLDraw) := ⟨rfl, rfl, rfl, by decide +kernel, rfl, by decide +kernel, by decide +kernel⟩
def Lo (n : Int) (i : Int) : Prop := 0 ≤ i ∧ i < n
def rLDraw (ds : List Dt) (T : Dt → Prop) : Prop := ∃ n : Int, 0 < n ∧ n < 1073741824 ∧ ds = [.int n] ∧ T = IntP (Lo n)
theorem f_ldraw (T : T0 K mg) (F : Fun K "_law_draw" "_law_draw" sLDraw f fd) : FnG P w K mg base 1 f fd ["pot", "many"] (spP K rLDraw) := by
  refine fn_pot F scLDraw (fun ds T ⟨n, _, _, e, _⟩ => by subst e; rfl) fun cdv A outer s H E hr hgd hu ds U h => ?_
  obtain ⟨n, n0, n1, rfl, rfl⟩ := h
  refine ss_seq (N := fun x => x = stD ["pot", "many", "digit"] (.pot :: [PyData.int n].map .d)) (sd_if (S := fun _ => True) (xt_gt (S := fun _ => True) (T := fun _ => True) ((xd_potAt 0 (.inl rfl)).mono fun d ⟨i, e, _⟩ => ⟨i, e, trivial⟩) (xi_of pd_int trivial)) (fun _ => ?_) (fun _ => ss_nil rfl)) (fun δ' e => ?_)
  · refine ss_seq (sd_potDiv (N := fun x => ∃ i, x = [.pot, .d (.int n), .d (.int i)] ∧ Lo n i) (S := Lo n) 0 2 scLDraw.nd ((xd_divmod (S := fun i j => 0 ≤ i ∧ j = n) T.divmod (xa_cons (xd_potAt 0 (.inl rfl)) (pa_c (pd_v 1) pa_n) fun d ds ⟨i, e, h1, _⟩ h2 => ⟨i, n, by rw [e, h2], ⟨n0, n1⟩, h1, rfl⟩)).mono fun d ⟨i, j, e, h1, h2⟩ => ?_) (fun w hw => ⟨w, rfl, hw⟩)) (fun δ' ⟨i, e, hi⟩ => ?_)
    · subst h2
      exact ⟨_, _, e, Int.ediv_nonneg h1 (by omega), Int.emod_nonneg i (by omega), Int.emod_lt_of_pos i n0⟩
    · subst e
      exact s_ret (pd_v 2) ⟨i, rfl, hi⟩
  · subst e
    refine ss_to (sd_potSet 0 (xi_mod (S := fun _ => True) (T := fun j => j = 2147483587) (U := fun i => 0 ≤ i ∧ i ≤ 2147483588) (xi_int T.int (xi_add (S := fun _ => True) (T := fun _ => True) (xi_mul (S := fun _ => True) (T := fun j => j = 40692) (U := fun _ => True) ((xd_potAt 0 (.inr rfl)).mono fun d ⟨i, e, _⟩ => ⟨i, e, trivial⟩) (xi_of pd_int rfl) fun i j _ e => ⟨.inr (by subst e; omega), trivial⟩) (xi_of pd_int trivial) fun _ _ _ _ => trivial)) (xi_of pd_int rfl) fun i j _ e => ⟨by omega, by subst e; have := Int.emod_nonneg i (b := 2147483587) (by omega); have := Int.emod_lt_of_pos i (b := 2147483587) (by omega); omega⟩)) ?_
    refine ss_end (sd_ret (xi_mod (S := fun _ => True) (T := fun j => j = n) (U := Lo n) (xi_int T.int (xi_fdiv (S := fun _ => True) (T := fun j => j = 17) (U := fun _ => True) (xi_mod (S := fun _ => True) (T := fun j => j = 2147483549) (U := fun _ => True) (xi_int T.int (xi_mul (S := fun i => 0 ≤ i ∧ i ≤ 2147483588) (T := fun _ => True) (U := fun _ => True) ((xd_potAt 0 (.inr rfl)).mono fun d ⟨i, e, h1, h2⟩ => ⟨i, e, h1, h2 rfl⟩) ((xd_potAt 0 (.inr rfl)).mono fun d ⟨i, e, _⟩ => ⟨i, e, trivial⟩) fun i j h _ => ⟨.inl (by omega), trivial⟩)) (xi_of pd_int rfl) fun i j _ e => ⟨by omega, trivial⟩) (xi_of pd_int rfl) fun i j _ e => ⟨⟨by omega, by omega⟩, trivial⟩)) (xi_of (pd_v 1) rfl) fun i j _ e => by subst e; exact ⟨n0, Int.emod_nonneg i (by omega), Int.emod_lt_of_pos i n0⟩) fun d h => h)
theorem scLPick : FnScope ["pot", "some"] ["pot", "some"] (defScope sLPick) := ⟨rfl, rfl, rfl, by decide +kernel, rfl, by decide +kernel, by decide +kernel⟩
def rLPick (ds : List Dt) (T : Dt → Prop) : Prop := ∃ es : List Dt, 0 < es.length ∧ es.length < 1000 ∧ ds = [.list es] ∧ ∀ d ∈ es, T d
theorem f_lpick (T : T0 K mg) (C1 : Cal P w K mg base 1 "_law_draw" ["pot", "many"] sLDraw (spP K rLDraw)) (F : Fun K "_law_pick" "_law_pick" sLPick f fd) : FnG P w K mg base 2 f fd ["pot", "some"] (spP K rLPick) := by
  refine fn_pot F scLPick (fun ds T ⟨n, _, _, e, _⟩ => by subst e; rfl) fun cdv A outer s H E hr hgd hu ds U h => ?_
  obtain ⟨es, n0, n1, rfl, hU⟩ := h
  refine ss_end (sd_ret (xd_ixLP (S := Lo es.length) (ds := es) (T := U) (pd_v 1) (xd_pot C1 0 (pa_c (pd_len_list T.len (pa_c (pd_v 1) pa_n)) pa_n) fun ds e => ⟨es.length, by omega, by omega, e, rfl⟩) fun i hi => ?_) fun d h => h)
  obtain ⟨h1, h2⟩ := hi
  obtain ⟨k, rfl⟩ := Int.eq_ofNat_of_zero_le h1
  have hk : k < es.length := by omega
  exact ⟨es[k], atI_nat (List.getElem?_eq_getElem hk), hU _ (List.getElem_mem hk)⟩
theorem scLPot : FnScope ["script", "k", "cell"] ["script", "k"] (defScope sLPot) := ⟨rfl, rfl, rfl, by decide +kernel, rfl, by decide +kernel, by decide +kernel⟩
def rLPot (ds es : List Dt) : Prop := ∃ (ns : List Int) (k : Int), 0 ≤ k ∧ k ≤ 2 ∧ ds = [.list (ns.map PyData.int), .int k] ∧ es = [.int (potA ns k), .int (potB ns k)]
theorem f_lpot (T : T0 K mg) (F : Fun K "_law_pot" "_law_pot" sLPot f fd) : FnG P w K mg base 1 f fd ["script", "k"] (spO K rLPot) := by
  refine fn_own F scLPot (fun ds d ⟨_, _, _, _, e, _⟩ => by subst e; rfl) fun cdv A outer s H E hr hgd hu ds d h => ?_
  obtain ⟨ns, k, k0, k1, rfl, rfl⟩ := h
  refine s_set 2 scLPot.nd (d := .int (cellL ns k)) (pd_if (k := decide (k < ((ns.length : Nat) : Int))) ((pt_lt (pd_v 1) (pd_len_list T.len (pa_c (pd_v 0) pa_n))).mono fun c e => by rw [e, List.length_map]) (fun h => ?_) (fun h => ?_)) ?_
  · have hk : k.toNat < ns.length := by have := of_decide_eq_true h; omega
    refine (pd_abs T.abs (pa_c (pd_ixL (d := .int (ns.getD k.toNat 0)) (pd_v 0) (pd_v 1) ?_) pa_n)).is ?_
    · obtain ⟨j, rfl⟩ := Int.eq_ofNat_of_zero_le k0
      exact at_ints (by simpa using hk)
    · unfold cellL absL; rw [if_pos h]
  · refine (pd_add (pd_mul pd_int (pd_v 1) (by unfold CMul; omega)) pd_int).is ?_
    unfold cellL; rw [if_neg (by rw [h]; decide)]
  · refine s_retLst (pa_c (pd_max2 rfl T.max (pa_c pd_int (pa_c (pd_sub (pd_v 2) (pd_pow pd_int pd_int (by unfold CPow; decide))) pa_n))) (pa_c (pd_add (pd_mod (pd_int1 T.int (pa_c (pd_add (pd_add (pd_mul (pd_mod (pd_int1 T.int (pa_c (pd_v 2) pa_n)) pd_int (by decide)) pd_int (by unfold CMul; omega)) (pd_mul pd_int (pd_v 1) (by unfold CMul; omega))) pd_int) pa_n)) pd_int (by decide)) pd_int) pa_n)) rfl
end
end K24

set_option linter.all false
set_option maxRecDepth 100000
set_option maxHeartbeats 4000000
namespace K24
open PySem PySem.Spec PyProof.Rows L2 RZ Dv
abbrev sLDuty : Stmt := at_def "_law_duty"
structure PsI (ps : List Pc) (k : Nat) (a t : Int) : Prop where
  len : ps.length = k
  pk : ∀ p ∈ ps, p.ok
  inc : ∀ (i j : Nat) (p q : Pc), i < j → ps[i]? = some p → ps[j]? = some q → p.t < q.t
  tb : ∀ p ∈ ps, a ≤ p.t ∧ p.t < t
  t0 : a ≤ t
  t1 : t ≤ a + 2 * (k : Int)
structure DutyI (x : Duty) (m : Nat) (a : Int) : Prop where
  ok : x.ok
  len : x.ps.length = m
  inc : ∀ (i j : Nat) (p q : Pc), i < j → x.ps[i]? = some p → x.ps[j]? = some q → p.t < q.t
  tb : ∀ p ∈ x.ps, a ≤ p.t ∧ p.t < a + 2 * (m : Int)
theorem PsI.next {ps : List Pc} {k : Nat} {a t h l g : Int} (p : PsI ps k a t) (a0 : 0 ≤ a) (a3 : a ≤ 300) (hk : k < 60) (h0 : 0 ≤ h) (hl : h ≤ l) (l6 : l ≤ 6) (g0 : 0 ≤ g) (g1 : g < 2) : PsI (ps ++ [⟨t, h, l⟩]) (k + 1) a (t + 1 + g) := by
  have t0 := p.t0
  have t1 := p.t1
  refine ⟨by rw [List.length_append, p.len]; rfl, fun q hq => ?_, fun i j q r hij hq hr => ?_, fun q hq => ?_, by omega, by omega⟩
  · rcases List.mem_append.mp hq with hq | hq
    · exact p.pk q hq
    · rw [List.mem_singleton] at hq
      subst hq
      exact ⟨show 0 ≤ t by omega, show t ≤ 1000 by omega, h0, hl, l6⟩
  · have hj := (List.getElem?_eq_some_iff.mp hr).1
    rw [List.length_append, List.length_singleton] at hj
    rw [List.getElem?_append_left (by omega)] at hq
    by_cases e : j < ps.length
    · rw [List.getElem?_append_left e] at hr
      exact p.inc i j q r hij hq hr
    · rw [List.getElem?_append_right (by omega), show j - ps.length = 0 by omega] at hr
      cases hr
      exact (p.tb q (List.mem_of_getElem? hq)).2
  · rcases List.mem_append.mp hq with hq | hq
    · have := p.tb q hq
      omega
    · rw [List.mem_singleton] at hq
      subst hq
      exact ⟨show a ≤ t from t0, show t < t + 1 + g by omega⟩
theorem duty_ok {ps : List Pc} {bs : List Bk} {m : Nat} {a t : Int} (p : PsI ps m a t) (m1 : 1 ≤ m) (m60 : m ≤ 60) (hb : bs.length + 1 = m) (bk : ∀ b ∈ bs, b.ok) : DutyI ⟨ps, bs⟩ m a := by
  have e : ps.length = m := p.len
  refine ⟨⟨?_, ?_, ?_, p.pk, bk, fun i q r hq hr => ?_⟩, e, p.inc, fun q hq => ?_⟩
  · show 1 ≤ ps.length; omega
  · show ps.length ≤ 60; omega
  · show bs.length + 1 = ps.length; omega
  · have := p.inc i (i + 1) q r (Nat.lt_succ_self i) hq hr
    omega
  · have h1 := p.tb q hq
    have h2 := p.t1
    omega
section
variable {P : Program} {w : World} {K : Fg} {mg : Str → Option Value} {base : Heap} {f : Addr} {fd : FuncData}
abbrev NLd : List Str := ["pot", "many", "first", "pieces", "breaks", "trip", "turn", "hop"]
theorem scLDuty : FnScope NLd ["pot", "many", "first"] (defScope sLDuty) := ⟨rfl, rfl, rfl, by decide +kernel, rfl, by decide +kernel, by decide +kernel⟩
def DutyP (m : Nat) (a : Int) (d : Dt) : Prop := ∃ x : Duty, DutyI x m a ∧ d = x.d
def rLDuty (ds : List Dt) (U : Dt → Prop) : Prop := ∃ (m : Nat) (a : Int), 1 ≤ m ∧ m ≤ 60 ∧ 0 ≤ a ∧ a ≤ 300 ∧ ds = [.int ((m : Nat) : Int), .int a] ∧ U = DutyP m a
theorem f_lduty (T : Free mg) (C1 : Cal P w K mg base 1 "_law_draw" ["pot", "many"] sLDraw (spP K rLDraw)) (C2 : Cal P w K mg base 2 "_law_pick" ["pot", "some"] sLPick (spP K rLPick)) (F : Fun K "_law_duty" "_law_duty" sLDuty f fd) : FnG P w K mg base 3 f fd ["pot", "many", "first"] (spP K rLDuty) := by
  refine fn_pot F scLDuty (fun ds U ⟨_, _, _, _, _, _, e, _⟩ => by subst e; rfl) fun cdv A outer s H E hr hgd hu ds U h => ?_
  obtain ⟨m, a, m1, m60, a0, a3, rfl, rfl⟩ := h
  have hN := scLDuty.nd
  refine s_st (by repeat (first | exact StR.nil | apply StR.d | apply StR.no)) ?_
  refine s_eq (by conv => { lhs; whnf }) ?_
  refine s_threeOOD (i := 3) (j := 4) (l := 5) (R := fun y => y = []) (S := fun y => y = []) (U := fun d => d = .int a)
    (F := fun ps => [.pot, .d (.int ((m : Nat) : Int)), .d (.int a), .own ps, .no, .no, .no, .no])
    (G := fun ps bs => [.pot, .d (.int ((m : Nat) : Int)), .d (.int a), .own ps, .own bs, .no, .no, .no])
    (L := fun ps bs t => [.pot, .d (.int ((m : Nat) : Int)), .d (.int a), .own ps, .own bs, .d t, .no, .no])
    (by repeat (first | exact Nx.z | apply Nx.s)) (by repeat (first | exact Nx.z | apply Nx.s)) (by repeat (first | exact Nx.z | apply Nx.s)) (by intro _; repeat (first | exact SetR.z | apply SetR.s)) (by intro _ _; repeat (first | exact SetR.z | apply SetR.s)) (by intro _ _ _; repeat (first | exact SetR.z | apply SetR.s))
    (o_lst (a_n ⟨by simp, rfl⟩)) (o_lst (a_n ⟨by simp, rfl⟩)) (by infer_instance; rfl) fun ps bs t e1 e2 e3 => ?_
  subst e1 e2 e3
  refine s_for ?_
  and_intros
  refine ⟨by omega, fun k z => ∃ (ps : List Pc) (t : Int) (e f : En), PsI ps k a t ∧ z = [.pot, .d (.int ((m : Nat) : Int)), .d (.int a), .own (ps.map Pc.d), .own [], .d (.int t), e, f], ⟨[], a, _, _, ⟨rfl, fun p hp => (by cases hp), fun i j p q _ hp => (by cases hp), fun p hp => (by cases hp), Int.le_refl _, by omega⟩, rfl⟩, fun k v δ' hd iv => ?_, fun δ' iv => ?_⟩
  · obtain ⟨ps, t, e, f, iv, rfl⟩ := iv
    obtain ⟨hk, rfl⟩ := rngD_at hd
    refine ⟨_, _, by nofun, ?_⟩
    refine s_eq (by conv => { lhs; whnf }) ?_
    infer_instance
    refine c_pot C1 (i := 0) (by repeat (first | exact Nx.z | apply Nx.s)) rfl ?_
    and_intros
    refine ⟨_, ⟨3, by omega, by omega, rfl, rfl⟩, fun d ⟨h, e, h0, h3⟩ => ?_⟩
    subst e
    refine s_eq (by conv => { lhs; whnf }) ?_
    refine s_append (i := 3) (F := fun d => [.pot, .d (.int ((m : Nat) : Int)), .d (.int a), .own (ps.map Pc.d ++ [d]), .own [], .d (.int t), .d (.int (0 + ((k : Nat) : Int))), .d (.int h)]) (by repeat (first | exact Nx.z | apply Nx.s)) rfl (by intro _; repeat (first | exact SetR.z | apply SetR.s)) (by rw [List.length_map, iv.len]; omega) ?_
    refine c_tup ?_
    iterate 7 infer_instance
    refine c_pot C1 (i := 0) (by repeat (first | exact Nx.z | apply Nx.s)) rfl ?_
    and_intros
    refine ⟨_, ⟨4, by omega, by omega, rfl, rfl⟩, fun d ⟨l, e, l0, l4⟩ => ?_⟩
    subst e
    and_intros
    refine ⟨by simp, ?_⟩
    and_intros
    refine c_pot C1 (i := 0) (by repeat (first | exact Nx.z | apply Nx.s)) rfl ?_
    and_intros
    refine ⟨_, ⟨2, by omega, by omega, rfl, rfl⟩, fun d ⟨g, e, g0, g1⟩ => ?_⟩
    subst e
    and_intros
    exact ⟨ps ++ [⟨t, h, h + l⟩], t + 1 + g, _, _, iv.next a0 a3 (by omega) h0 (by omega) (by omega) g0 g1, by rw [List.map_append]; rfl⟩
  obtain ⟨ps, t, e, f, iv, rfl⟩ := iv
  rw [rngD_length] at iv
  have iv : PsI ps m a t := by simpa using iv
  refine s_eq (by conv => { lhs; whnf }) ?_
  refine s_for ?_
  and_intros
  refine ⟨by omega, fun k z => ∃ (bs : List Bk) (e f : En), bs.length = k ∧ (∀ b ∈ bs, b.ok) ∧ z = [.pot, .d (.int ((m : Nat) : Int)), .d (.int a), .own (ps.map Pc.d), .own (bs.map Bk.d), .d (.int t), e, f], ⟨[], _, _, rfl, fun b hb => (by cases hb), rfl⟩, fun k v δ' hd iv2 => ?_, fun δ' iv2 => ?_⟩
  · obtain ⟨bs, e, f, bl, bk, rfl⟩ := iv2
    obtain ⟨hk, rfl⟩ := rngD_at hd
    refine ⟨_, _, by nofun, ?_⟩
    refine s_eq (by conv => { lhs; whnf }) ?_
    refine s_append (i := 4) (F := fun d => [.pot, .d (.int ((m : Nat) : Int)), .d (.int a), .own (ps.map Pc.d), .own (bs.map Bk.d ++ [d]), .d (.int t), .d (.int (0 + ((k : Nat) : Int))), f]) (by repeat (first | exact Nx.z | apply Nx.s)) rfl (by intro _; repeat (first | exact SetR.z | apply SetR.s)) (by rw [List.length_map]; omega) ?_
    refine c_pot C2 (i := 0) (by repeat (first | exact Nx.z | apply Nx.s)) rfl ?_
    and_intros
    refine ⟨by simp, ?_⟩
    and_intros
    refine c_pot C1 (i := 0) (by repeat (first | exact Nx.z | apply Nx.s)) rfl ?_
    and_intros
    refine ⟨_, ⟨121, by omega, by omega, rfl, rfl⟩, fun d ⟨g, e, g0, g1⟩ => ?_⟩
    subst e
    and_intros
    refine ⟨by simp, ?_⟩
    and_intros
    refine ⟨by simp, ?_⟩
    and_intros
    refine c_pot C1 (i := 0) (by repeat (first | exact Nx.z | apply Nx.s)) rfl ?_
    and_intros
    refine ⟨_, ⟨120, by omega, by omega, rfl, rfl⟩, fun d ⟨r, e, r0, r1⟩ => ?_⟩
    subst e
    and_intros
    iterate 2 (refine ⟨by simp, ?_⟩; and_intros)
    refine ⟨by simp, ?_⟩
    and_intros
    refine ⟨fun d => ∃ b : Bk, b.ok ∧ d = b.d, ⟨_, by simp, by simp, rfl, fun d hd => ?_⟩, fun d ⟨b, ok, e⟩ => ?_⟩
    · simp only [List.mem_cons, List.not_mem_nil, or_false] at hd
      rcases hd with rfl | rfl | rfl | rfl | rfl
      · exact ⟨⟨false, 0⟩, ⟨by decide, by decide⟩, rfl⟩
      · exact ⟨⟨false, g⟩, ⟨by simpa using g0, by show g ≤ 120; omega⟩, rfl⟩
      · exact ⟨⟨false, 4⟩, ⟨by decide, by decide⟩, rfl⟩
      · exact ⟨⟨true, 1 + r⟩, ⟨by show 1 ≤ 1 + r; omega, by show 1 + r ≤ 120; omega⟩, rfl⟩
      · exact ⟨⟨true, 30⟩, ⟨by decide, by decide⟩, rfl⟩
    subst e
    and_intros
    exact ⟨bs ++ [b], _, _, by rw [List.length_append, bl]; rfl, fun c hc => by
      rcases List.mem_append.mp hc with hc | hc
      · exact bk c hc
      · rw [List.mem_singleton] at hc
        rw [hc]; exact ok, by rw [List.map_append]; rfl⟩
  obtain ⟨bs, e, f, bl, bk, rfl⟩ := iv2
  rw [rngD_length] at bl
  have D := duty_ok iv m1 m60 (show bs.length + 1 = m by omega) bk
  refine s_freeze 3 rfl (by repeat (first | exact SetR.z | apply SetR.s)) ?_
  refine s_freeze 4 rfl (by repeat (first | exact SetR.z | apply SetR.s)) ?_
  and_intros
  exact ⟨by simp, ⟨ps, bs⟩, D, rfl⟩
end
end K24

set_option linter.all false
set_option maxRecDepth 100000
set_option maxHeartbeats 4000000
namespace K24
open PySem PySem.Spec PyProof.Rows L2 RZ Dv
abbrev sLStr : Stmt := at_def "_law_stretches"
def rr (q : Nat × Nat) : List Dt := (List.range (q.2 + 1 - q.1)).map fun j => .int (((q.1 + j : Nat) : Nat) : Int)
def rowsB (bs : List Bk) (k : Nat) : List (List Dt) := if (bs.getD k noB).rest then (prs bs k).map rr ++ [[]] else (prs bs k).map rr
theorem rows_step {bs : List Bk} {k : Nat} : ∃ (a : List (List Dt)) (b : List Dt), rowsB bs k = a ++ [b] ∧ (prs bs (k + 1)).map rr = a ++ [b ++ [.int (((k + 1 : Nat) : Nat) : Int)]] ∧ b.length ≤ k + 1 := by
  have sl := (st_le (bs := bs) k).2
  unfold rowsB
  cases h : (bs.getD k noB).rest with
  | true =>
    refine ⟨(prs bs k).map rr, [], rfl, ?_, Nat.zero_le _⟩
    have e : prs bs (k + 1) = prs bs k ++ [(k + 1, k + 1)] := by
      show (if (bs.getD k noB).rest then ((stA bs k).1 ++ [((stA bs k).2, k)], k + 1) else stA bs k).1 ++ [((if (bs.getD k noB).rest then ((stA bs k).1 ++ [((stA bs k).2, k)], k + 1) else stA bs k).2, k + 1)] = _
      rw [h]; rfl
    rw [e, List.map_append]
    congr 1
    show [rr (k + 1, k + 1)] = _
    unfold rr
    simp
  | false =>
    refine ⟨(stA bs k).1.map rr, rr ((stA bs k).2, k), ?_, ?_, ?_⟩
    · show (prs bs k).map rr = _
      unfold prs
      rw [List.map_append]; rfl
    · have e : prs bs (k + 1) = (stA bs k).1 ++ [((stA bs k).2, k + 1)] := by
        show (if (bs.getD k noB).rest then ((stA bs k).1 ++ [((stA bs k).2, k)], k + 1) else stA bs k).1 ++ [((if (bs.getD k noB).rest then ((stA bs k).1 ++ [((stA bs k).2, k)], k + 1) else stA bs k).2, k + 1)] = _
        rw [h]; rfl
      rw [e, List.map_append]
      congr 1
      show [rr ((stA bs k).2, k + 1)] = _
      congr 1
      unfold rr
      show List.map _ (List.range (k + 1 + 1 - (stA bs k).2)) = List.map _ (List.range (k + 1 - (stA bs k).2)) ++ _
      rw [show k + 1 + 1 - (stA bs k).2 = (k + 1 - (stA bs k).2) + 1 by omega, List.range_succ, List.map_append]
      congr 1
      show [PyData.int _] = _
      rw [show (stA bs k).2 + (k + 1 - (stA bs k).2) = k + 1 by omega]
    · unfold rr
      rw [List.length_map, List.length_range]
      show k + 1 - _ ≤ _
      omega
theorem at_m1g {α : Type} {ys : List α} {n : Nat} (hl : ys.length = n + 1) : ∃ y, atI ys (-1) = some y ∧ ys[n]? = some y := by
  rcases List.eq_nil_or_concat ys with rfl | ⟨xs, x, rfl⟩
  · cases hl
  · rw [List.concat_eq_append] at hl ⊢
    rw [List.length_append, List.length_singleton] at hl
    exact ⟨x, atI_last _ _, by rw [List.getElem?_append_right (by omega), show n - xs.length = 0 by omega]; rfl⟩
theorem set_last {α : Type} {a : List α} {b c : α} : (a ++ [b]).set a.length c = a ++ [c] := by
  rw [List.set_append_right _ _ (Nat.le_refl _), Nat.sub_self]; rfl
theorem s_ifJ {X : Cx} {δ : De} {c : Expr} {sts tss rest : List Stmt} {o : Out} {pos : Pos} (N : De → Prop) (h : XT X c δ fun k => (k = true → SsD X sts δ { o with nx := N }) ∧ (k = false → SsD X tss δ { o with nx := N })) (k : ∀ δ', N δ' → SsD X rest δ' o) : SsD X (.If c sts tss pos :: rest) δ o :=
  ss_seq (N := N) (sd_if h (fun k => k.1 rfl) fun k => k.2 rfl) k
section
variable {P : Program} {w : World} {K : Fg} {mg : Str → Option Value} {base : Heap} {f : Addr} {fd : FuncData}
abbrev NLs : List Str := ["duty", "found", "place"]
theorem scLStr : FnScope NLs ["duty"] (defScope sLStr) := ⟨rfl, rfl, rfl, by decide +kernel, rfl, by decide +kernel, by decide +kernel⟩
def lstD (x : Duty) : Dt := .list ((prs x.bs x.bs.length).map fun q => .list (rr q))
def rLStr (ds : List Dt) (d : Dt) : Prop := ∃ x : Duty, x.ok ∧ ds = [x.d] ∧ d = lstD x
theorem f_lstr (T : Free mg) (F : Fun K "_law_stretches" "_law_stretches" sLStr f fd) : FnG P w K mg base 1 f fd ["duty"] (spD K rLStr) := by
  refine fn_data F scLStr (fun ds d ⟨_, _, e, _⟩ => by subst e; rfl) fun cdv A outer s H E hr hgd hu ds d h => ?_
  obtain ⟨x, ok, rfl, rfl⟩ := h
  have hN := scLStr.nd
  have bl := ok.bl
  have n2 := ok.n2
  refine s_st (by repeat (first | exact StR.nil | apply StR.d | apply StR.no)) ?_
  refine s_eq (by conv => { lhs; whnf }) ?_
  refine ss_seq (N := fun y => ∃ a, y = [.d x.d, .own2 [a] [[.int 0]], .no]) (sd_new2 1 hN (pa_c pd_int pa_n) (fun a => ⟨a, rfl⟩)) fun δ' ⟨a, e⟩ => ?_
  subst e
  refine s_eq (by conv => { lhs; whnf }) ?_
  refine s_for ?_
  and_intros
  rw [List.length_map]
  refine ⟨by omega, fun k z => ∃ (as : List Addr) (e : En), as.length ≤ k + 1 ∧ z = [.d x.d, .own2 as ((prs x.bs k).map rr), e], ⟨[a], _, Nat.le_refl _, rfl⟩, fun k v δ' hd iv => ?_, fun δ' iv => ?_⟩
  case refine_2 =>
    obtain ⟨as, e, al, rfl⟩ := iv
    rw [rngD_length, show (((x.ps.length : Nat) : Int) - 1).toNat = x.bs.length by omega]
    refine ss_frz2 1 rfl ?_
    refine s_eq (by conv => { lhs; whnf }) ?_
    and_intros
    show PyData.list _ = lstD x
    unfold lstD
    rw [List.map_map]; rfl
  obtain ⟨as, e, al, rfl⟩ := iv
  obtain ⟨hk, rfl⟩ := rngD_at hd
  have hb : k < x.bs.length := by omega
  obtain ⟨ia, ib, e1, e2, il⟩ := rows_step (bs := x.bs) (k := k)
  refine ⟨_, _, by nofun, ?_⟩
  refine s_eq (by conv => { lhs; whnf }) ?_
  refine s_ifJ (fun z => ∃ as, as.length ≤ k + 2 ∧ z = [.d x.d, .own2 as (rowsB x.bs k), .d (.int (1 + ((k : Nat) : Int)))]) ?_ fun δ' ⟨as, al, e⟩ => ?_
  · and_intros
    rw [show 1 + ((k : Nat) : Int) - 1 = ((k : Nat) : Int) by omega]
    refine ip_tup (at_map (bk_at hb)) ?_
    and_intros
    rw [rest_dec]
    refine ⟨fun h => ?_, fun h => ?_⟩
    · refine ss_seq (N := fun z => ∃ as, as.length ≤ k + 2 ∧ z = [.d x.d, .own2 as (rowsB x.bs k), .d (.int (1 + ((k : Nat) : Int)))]) (sd_appNew 1 rfl (fun a => ⟨as ++ [a], by rw [List.length_append]; exact Nat.add_le_add_right al 1, ?_⟩) (by omega)) fun _ h => ss_nil h
      unfold rowsB
      rw [if_pos h]; rfl
    · refine ss_nil ⟨as, by omega, ?_⟩
      unfold rowsB
      rw [if_neg (by rw [h]; decide)]
  subst e
  refine s_eq (by conv => { lhs; whnf }) ?_
  rw [e1]
  refine ss_seq (N := fun z => ∃ (as : List Addr) (e : En), as.length ≤ k + 1 + 1 ∧ z = [.d x.d, .own2 as ((prs x.bs (k + 1)).map rr), e]) (sd_appRow 1 ia.length (k := -1) (ds := ib) (d := .int (1 + ((k : Nat) : Int))) rfl (by and_intros; rfl) (fun α ys hl => at_m1g (by rw [hl, List.length_append]; rfl)) (by rw [List.getElem?_append_right (Nat.le_refl _), Nat.sub_self]; rfl) (pd_v 2) ?_ (by omega)) fun _ h => ss_nil h
  refine ⟨as, .d (.int (1 + ((k : Nat) : Int))), by omega, ?_⟩
  rw [e2]
  show [_, En.own2 as ((ia ++ [ib]).set ia.length _), _] = _
  rw [set_last, show ((k + 1 : Nat) : Int) = 1 + ((k : Nat) : Int) by omega]
end
end K24

set_option linter.all false
set_option maxRecDepth 100000
set_option maxHeartbeats 4000000
namespace K24
open PySem PySem.Spec PyProof.Rows L2 RZ Dv
abbrev sLTimes : Stmt := at_def "_law_times"
def hi25 : Int := 10 ^ 25
structure TmI (x : Duty) (ts : List Tm) (k : Nat) (b : Int) : Prop where
  len : ts.length = k
  tb : ∀ t ∈ ts, 0 ≤ t.1 ∧ t.1 ≤ t.2
  hi : ∀ t ∈ ts, t.2 ≤ b + 300 * (k : Int)
  it : inTime x ts
  du : ∀ t ∈ ts, t.2 ≤ t.1 + 70
def TimesP (x : Duty) (b : Int) (d : Dt) : Prop := ∃ ts, d = .list (ts.map Tm.d) ∧ ts.length = x.ps.length ∧ (∀ t ∈ ts, 0 ≤ t.1 ∧ t.1 ≤ t.2) ∧ (∀ t ∈ ts, t.2 ≤ b + 18000) ∧ inTime x ts ∧ ∀ t ∈ ts, t.2 ≤ t.1 + 70
theorem getD_app {ts : List Tm} {t : Tm} {i : Nat} (h : i < ts.length) : (ts ++ [t]).getD i noT = ts.getD i noT := by
  rw [List.getD_eq_getElem?_getD, List.getD_eq_getElem?_getD, List.getElem?_append_left h]
theorem getD_new {ts : List Tm} {t : Tm} : (ts ++ [t]).getD ts.length noT = t := by
  rw [List.getD_eq_getElem?_getD, List.getElem?_append_right (Nat.le_refl _), Nat.sub_self]; rfl
theorem TmI.next {x : Duty} {ts : List Tm} {k : Nat} {b m r : Int} (i : TmI x ts k b) (m0 : 0 ≤ m) (mb : m ≤ b + 300 * (k : Int) + 200) (ge : ∀ j, j + 1 = k → (ts.getD j noT).2 + (x.bs.getD j noB).m ≤ m) (r0 : 0 ≤ r) (r1 : r < 70) : TmI x (ts ++ [(m, m + r)]) (k + 1) b := by
  have len := i.len
  refine ⟨by rw [List.length_append, len]; rfl, fun t ht => ?_, fun t ht => ?_, fun p hp => ?_, fun t ht => ?_⟩
  · rcases List.mem_append.mp ht with ht | ht
    · exact i.tb t ht
    · rw [List.mem_singleton] at ht
      subst ht
      exact ⟨m0, show m ≤ m + r by omega⟩
  · rcases List.mem_append.mp ht with ht | ht
    · have := i.hi t ht
      omega
    · rw [List.mem_singleton] at ht
      subst ht
      show m + r ≤ _
      omega
  · rw [List.length_append, List.length_singleton] at hp
    rw [getD_app (by omega)]
    by_cases e : p + 1 < ts.length
    · rw [getD_app e]
      exact i.it p e
    · have e2 : p + 1 = ts.length := by omega
      rw [e2, getD_new]
      exact ge p (by omega)
  · rcases List.mem_append.mp ht with ht | ht
    · exact i.du t ht
    · rw [List.mem_singleton] at ht
      subst ht
      show m + r ≤ m + 70
      omega
theorem at_map' {ts : List Tm} {j : Nat} {t : Tm} (h : ts[j]? = some t) : (ts.map Tm.d)[j]? = some t.d := by rw [List.getElem?_map, h]; rfl
section
variable {P : Program} {w : World} {K : Fg} {mg : Str → Option Value} {base : Heap} {f : Addr} {fd : FuncData}
abbrev NLt : List Str := ["pot", "duty", "begin", "found", "minute", "place"]
theorem scLTimes : FnScope NLt ["pot", "duty", "begin"] (defScope sLTimes) := ⟨rfl, rfl, rfl, by decide +kernel, rfl, by decide +kernel, by decide +kernel⟩
def rLTimes (ds : List Dt) (U : Dt → Prop) : Prop := ∃ (x : Duty) (b : Int), x.ok ∧ 0 ≤ b ∧ ds = [x.d, .int b] ∧ U = TimesP x b
theorem f_ltimes (T : Free mg) (C1 : Cal P w K mg base 1 "_law_draw" ["pot", "many"] sLDraw (spP K rLDraw)) (C2 : Cal P w K mg base 2 "_law_pick" ["pot", "some"] sLPick (spP K rLPick)) (F : Fun K "_law_times" "_law_times" sLTimes f fd) : FnG P w K mg base 3 f fd ["pot", "duty", "begin"] (spP K rLTimes) := by
  refine fn_pot F scLTimes (fun ds U ⟨_, _, _, _, e, _⟩ => by subst e; rfl) fun cdv A outer s H E hr hgd hu ds U h => ?_
  obtain ⟨x, b, ok, b0, rfl, rfl⟩ := h
  have hN := scLTimes.nd
  have bl := ok.bl
  have n2 := ok.n2
  refine s_st (by repeat (first | exact StR.nil | apply StR.d | apply StR.no)) ?_
  refine s_eq (by conv => { lhs; whnf }) ?_
  refine s_twoOD (i := 3) (j := 4) (R := fun y => y = []) (U := fun d => d = .int b)
    (F := fun ts => [.pot, .d x.d, .d (.int b), .own ts, .no, .no]) (G := fun ts d => [.pot, .d x.d, .d (.int b), .own ts, .d d, .no])
    (by repeat (first | exact Nx.z | apply Nx.s)) (by repeat (first | exact Nx.z | apply Nx.s)) (by intro _; repeat (first | exact SetR.z | apply SetR.s)) (by intro _ _; repeat (first | exact SetR.z | apply SetR.s))
    (o_lst (a_n ⟨by simp, rfl⟩)) (by infer_instance; rfl) fun ts t e1 e2 => ?_
  subst e1 e2
  refine s_for ?_
  and_intros
  rw [List.length_map]
  refine ⟨by omega, fun k z => ∃ (ts : List Tm) (m : Int) (e : En), TmI x ts k b ∧ (k = 0 → m = b) ∧ z = [.pot, .d x.d, .d (.int b), .own (ts.map Tm.d), .d (.int m), e], ⟨[], b, _, ⟨rfl, fun t ht => (by cases ht), fun t ht => (by cases ht), fun p hp => absurd hp (Nat.not_lt_zero _), fun t ht => (by cases ht)⟩, fun _ => rfl, rfl⟩, fun k v δ' hd iv => ?_, fun δ' iv => ?_⟩
  · obtain ⟨ts, m, e, iv, mb, rfl⟩ := iv
    obtain ⟨hk, rfl⟩ := rngD_at hd
    have len := iv.len
    refine ⟨_, _, by nofun, ?_⟩
    refine s_eq (by conv => { lhs; whnf }) ?_
    refine s_ifJ (fun z => ∃ m : Int, 0 ≤ m ∧ m ≤ b + 300 * (k : Int) + 200 ∧ (∀ j, j + 1 = k → (ts.getD j noT).2 + (x.bs.getD j noB).m ≤ m) ∧ z = [.pot, .d x.d, .d (.int b), .own (ts.map Tm.d), .d (.int m), .d (.int (0 + ((k : Nat) : Int)))]) ?_ fun δ' ⟨m', m0, m1, ge, e⟩ => ?_
    · and_intros
      refine ⟨fun h => ?_, fun h => ?_⟩
      · have h := of_decide_eq_true h
        obtain ⟨j, rfl⟩ : ∃ j, k = j + 1 := ⟨k - 1, by omega⟩
        have bj := ok.bk (x.bs.getD j noB) (List.mem_of_getElem? (bk_at (by omega)))
        have tj := tm_at (ts := ts) (p := j) (by omega)
        have b1 := iv.tb _ (List.mem_of_getElem? tj)
        have b2 := iv.hi _ (List.mem_of_getElem? tj)
        have b3 : 0 ≤ (x.bs.getD j noB).m := by have := bj.m0; split at this <;> omega
        have b4 := bj.m1
        infer_instance
        infer_instance
        infer_instance
        infer_instance
        refine c_ownAt (i := 3) (by repeat (first | exact Nx.z | apply Nx.s)) rfl ?_
        and_intros
        have hlast : atI (ts.map Tm.d) (-1) = some (ts.getD j noT).d := by
          obtain ⟨y, h1, h2⟩ := at_m1g (ys := ts.map Tm.d) (n := j) (by rw [List.length_map]; omega)
          rw [at_map' tj] at h2
          cases h2
          exact h1
        refine ⟨_, _, rfl, hlast, ?_⟩
        and_intros
        rw [show 0 + (((j + 1 : Nat) : Nat) : Int) - 1 = ((j : Nat) : Int) by omega]
        refine ip_tup (at_map (bk_at (by omega))) ?_
        and_intros
        refine c_pot C2 (i := 0) (by repeat (first | exact Nx.z | apply Nx.s)) rfl ?_
        and_intros
        refine ⟨by simp, ?_⟩
        and_intros
        refine ⟨fun d => ∃ r : Int, 0 ≤ r ∧ r ≤ 25 ∧ d = .int r, ⟨_, by simp, by simp, rfl, fun d hd => ?_⟩, fun d ⟨r, r0, r1, e⟩ => ?_⟩
        · simp only [List.mem_cons, List.not_mem_nil, or_false] at hd
          rcases hd with rfl | rfl | rfl | rfl
          · exact ⟨0, by omega, by omega, rfl⟩
          · exact ⟨0, by omega, by omega, rfl⟩
          · exact ⟨1, by omega, by omega, rfl⟩
          · exact ⟨25, by omega, by omega, rfl⟩
        subst e
        and_intros
        have ge : ∀ i, i + 1 = j + 1 → (ts.getD i noT).2 + (x.bs.getD i noB).m ≤ (ts.getD j noT).2 + (x.bs.getD j noB).m + r := fun i hi => by
          have : i = j := by omega
          subst this
          omega
        exact ⟨(ts.getD j noT).2 + (x.bs.getD j noB).m + r, by omega, by omega, ge, rfl⟩
      · have h := of_decide_eq_false h
        have k0 : k = 0 := by omega
        subst k0
        and_intros
        exact ⟨m, by rw [mb rfl]; exact b0, by rw [mb rfl]; omega, fun j hj => absurd hj (Nat.succ_ne_zero j), rfl⟩
    subst e
    refine s_append (i := 3) (F := fun d => [.pot, .d x.d, .d (.int b), .own (ts.map Tm.d ++ [d]), .d (.int m'), .d (.int (0 + ((k : Nat) : Int)))]) (by repeat (first | exact Nx.z | apply Nx.s)) rfl (by intro _; repeat (first | exact SetR.z | apply SetR.s)) (by rw [List.length_map, iv.len]; omega) ?_
    refine c_tup ?_
    iterate 5 infer_instance
    refine c_pot C1 (i := 0) (by repeat (first | exact Nx.z | apply Nx.s)) rfl ?_
    and_intros
    refine ⟨_, ⟨70, by omega, by omega, rfl, rfl⟩, fun d ⟨r, e, r0, r1⟩ => ?_⟩
    subst e
    and_intros
    refine ⟨by simp, ?_⟩
    and_intros
    exact ⟨ts ++ [(m', m' + r)], m', _, iv.next m0 m1 ge r0 r1, fun h => absurd h (Nat.succ_ne_zero k), by rw [List.map_append]; rfl⟩
  obtain ⟨ts, m, e, iv, mb, rfl⟩ := iv
  rw [rngD_length] at iv
  have len := iv.len
  refine s_freeze 3 rfl (by repeat (first | exact SetR.z | apply SetR.s)) ?_
  and_intros
  exact ⟨by omega, iv.tb, fun t ht => by have := iv.hi t ht; omega, iv.it, iv.du⟩
end
end K24

set_option linter.all false
set_option maxRecDepth 100000
set_option maxHeartbeats 4000000
namespace K24
open PySem PySem.Spec PyProof.Rows L2 RZ Dv
abbrev sLSpans : Stmt := at_def "_law_spans"
theorem rr_at {q : Nat × Nat} {j : Nat} (h : q.1 + j ≤ q.2) : (rr q)[j]? = some (.int (((q.1 + j : Nat) : Nat) : Int)) := by
  unfold rr; rw [List.getElem?_map, List.getElem?_range (by omega)]; rfl
theorem rr_len {q : Nat × Nat} : (rr q).length = q.2 + 1 - q.1 := by unfold rr; rw [List.length_map, List.length_range]
theorem rr_of {q : Nat × Nat} {j : Nat} {d : Dt} (h : (rr q)[j]? = some d) : q.1 + j ≤ q.2 ∧ d = .int (((q.1 + j : Nat) : Nat) : Int) := by
  have hj := (List.getElem?_eq_some_iff.mp h).1
  rw [rr_len] at hj
  have hj : q.1 + j ≤ q.2 := by omega
  rw [rr_at hj] at h
  cases h
  exact ⟨hj, rfl⟩
section
variable {P : Program} {w : World} {K : Fg} {mg : Str → Option Value} {base : Heap} {f : Addr} {fd : FuncData}
abbrev NLsp : List Str := ["duty", "times", "found", "some", "place"]
theorem scLSpans : FnScope NLsp ["duty", "times"] (defScope sLSpans) := ⟨rfl, rfl, rfl, by decide +kernel, rfl, by decide +kernel, by decide +kernel⟩
def rLSpans (ds : List Dt) (d : Dt) : Prop := ∃ (x : Duty) (v : Dt) (ts : List Tm), x.ok ∧ ts.length = x.ps.length ∧ seqV v ts ∧ ds = [x.d, v] ∧ d = .list (spanD x ts)
theorem f_lspans (C1 : Cal P w K mg base 1 "_law_stretches" ["duty"] sLStr (spD K rLStr)) (F : Fun K "_law_spans" "_law_spans" sLSpans f fd) : FnG P w K mg base 2 f fd ["duty", "times"] (spD K rLSpans) := by
  refine fn_data F scLSpans (fun ds d ⟨_, _, _, _, _, _, e, _⟩ => by subst e; rfl) fun cdv A outer s H E hr hgd hu ds d h => ?_
  obtain ⟨x, v, ts, ok, tl, hv, rfl, rfl⟩ := h
  have hN := scLSpans.nd
  have bl := ok.bl
  have n2 := ok.n2
  refine s_st (by repeat (first | exact StR.nil | apply StR.d | apply StR.no)) ?_
  refine s_eq (by conv => { lhs; whnf }) ?_
  refine s_newOwn (i := 2) (F := fun es => [.d x.d, .d v, .own es, .no, .no]) (by repeat (first | exact Nx.z | apply Nx.s)) (by intro _; repeat (first | exact SetR.z | apply SetR.s)) ?_
  refine o_lst (a_n ⟨by simp, ?_⟩)
  refine s_eq (by conv => { lhs; whnf }) ?_
  refine s_for ?_
  refine i_seq ?_
  refine c_call C1 ?_
  iterate 3 infer_instance
  refine ⟨_, ⟨x, ok, rfl, rfl⟩, ?_⟩
  have tot : (spanD x ts).length ≤ 3600 := span_len (by omega)
  have n0 : 0 < ts.length := by omega
  refine seq_l ⟨fun k z => ∃ a b : En, z = [.d x.d, .d v, .own (((prs x.bs x.bs.length).take k).flatMap (spn ts)), a, b], ⟨_, _, rfl⟩, fun k d δ' hd iv => ?_, fun δ' iv => ?_⟩
  case refine_2 =>
    obtain ⟨a, b, rfl⟩ := iv
    rw [List.length_map, List.take_length]
    refine s_freeze 2 rfl (by repeat (first | exact SetR.z | apply SetR.s)) ?_
    and_intros
    rfl
  obtain ⟨a, b, rfl⟩ := iv
  obtain ⟨q, hq, rfl⟩ := map_get hd
  have ql := prs_le q (List.mem_of_getElem? hq)
  have hst := flat_step (F := spn ts) hq
  have hle : (((prs x.bs x.bs.length).take (k + 1)).flatMap (spn ts)).length ≤ 3600 := Nat.le_trans flat_le tot
  rw [hst, List.length_append] at hle
  refine ⟨_, _, by nofun, ?_⟩
  refine s_eq (by conv => { lhs; whnf }) ?_
  refine s_for ?_
  refine i_seq ?_
  and_intros
  refine ⟨fun j z => ∃ b : En, z = [.d x.d, .d v, .own (((prs x.bs x.bs.length).take k).flatMap (spn ts) ++ (spn ts q).take j), .d (.list (rr q)), b], ⟨b, by rw [List.take_zero, List.append_nil]⟩, fun j d δ' hd iv => ?_, fun δ' iv => ?_⟩
  case refine_2 =>
    obtain ⟨b, rfl⟩ := iv
    rw [rr_len]
    have el : (spn ts q).length = q.2 + 1 - q.1 := by unfold spn; rw [List.length_map, List.length_range]
    rw [← el, List.take_length]
    and_intros
    exact ⟨_, _, by rw [hst]⟩
  obtain ⟨b, rfl⟩ := iv
  obtain ⟨hj, rfl⟩ := rr_of hd
  refine ⟨_, _, by nofun, ?_⟩
  refine s_eq (by conv => { lhs; whnf }) ?_
  have el : (spn ts q).length = q.2 + 1 - q.1 := by unfold spn; rw [List.length_map, List.length_range]
  have hj2 : (spn ts q)[j]? = some (.tuple [.int ((ts.getD (q.1 + j) noT).2 - (ts.getD q.1 noT).1), .int ((ts.getD (q.1 + j) noT).2 - (ts.getD 0 noT).1)]) := by unfold spn; rw [List.getElem?_map, List.getElem?_range (by omega)]; rfl
  have r0 := rr_at (q := q) (j := 0) (by omega)
  refine s_append (i := 2) (F := fun d => [.d x.d, .d v, .own ((((prs x.bs x.bs.length).take k).flatMap (spn ts) ++ (spn ts q).take j) ++ [d]), .d (.list (rr q)), .d (.int (((q.1 + j : Nat) : Nat) : Int))]) (by repeat (first | exact Nx.z | apply Nx.s)) rfl (by intro _; repeat (first | exact SetR.z | apply SetR.s)) (by rw [List.length_append, List.length_take]; omega) ?_
  and_intros
  refine ix_seq hv (by omega) ?_
  and_intros
  refine ip_list (atI_nat r0) ?_
  refine ix_seq hv (by omega) ?_
  and_intros
  refine ix_seq hv (by omega) ?_
  and_intros
  refine ix_seq (p := 0) hv (by omega) ?_
  and_intros
  refine ⟨by simp, ?_⟩
  and_intros
  exact ⟨_, by rw [take_succ' hj2, List.append_assoc]; rfl⟩
end
end K24

set_option linter.all false
set_option maxRecDepth 100000
set_option maxHeartbeats 4000000
namespace K24
open PySem PySem.Spec PyProof.Rows L2 RZ Dv
abbrev sLPlaces : Stmt := at_def "_law_places_right"
theorem DutyI.ne {x : Duty} {m : Nat} {a : Int} (D : DutyI x m a) {i j : Nat} {p q : Pc} (h : i ≠ j) (hp : x.ps[i]? = some p) (hq : x.ps[j]? = some q) : p.t ≠ q.t := by
  rcases Nat.lt_or_gt_of_ne h with h | h
  · have := D.inc i j p q h hp hq; omega
  · have := D.inc j i q p h hq hp; omega
theorem find_hit {x : Duty} {m : Nat} {a h : Int} {i : Nat} {p : Pc} (D : DutyI x m a) (hp : x.ps[i]? = some p) (h1 : p.f ≤ h) (h2 : h ≤ p.l) : x.ps.findIdx? (hit p.t h) = some i := by
  rw [List.findIdx?_eq_some_iff_getElem]
  obtain ⟨hi, e⟩ := List.getElem?_eq_some_iff.mp hp
  refine ⟨hi, by rw [e]; simp [hit, h1, h2], fun k hk => ?_⟩
  have ne := D.ne (show k ≠ i by omega) (List.getElem?_eq_getElem (show k < x.ps.length by omega)) hp
  simp [hit, ne]
theorem find_miss {x : Duty} {m : Nat} {a : Int} {i : Nat} {p : Pc} (D : DutyI x m a) (hp : x.ps[i]? = some p) : x.ps.findIdx? (hit p.t (p.l + 1)) = none := by
  rw [List.findIdx?_eq_none_iff]
  intro q hq
  obtain ⟨k, hk, e⟩ := List.getElem_of_mem hq
  have e1 : x.ps[k]? = some q := by rw [← e]; exact List.getElem?_eq_getElem hk
  by_cases z : k = i
  · subst z
    rw [e1] at hp
    cases hp
    simp [hit]
    omega
  · have ne := D.ne z e1 hp
    simp [hit, ne]
theorem find_out {x : Duty} {t h : Int} (n : ∀ q ∈ x.ps, q.t ≠ t) : x.ps.findIdx? (hit t h) = none := by
  rw [List.findIdx?_eq_none_iff]
  intro q hq
  have := n q hq
  simp [hit, this]
structure TwoI (one two : Duty) (m m2 : Nat) : Prop where
  o : DutyI one m 0
  w : DutyI two m2 300
  m60 : m ≤ 60
  m3 : m2 ≤ 3
theorem place_hit {one two x : Duty} {m m2 k i : Nat} {p : Pc} {h : Int} (W : TwoI one two m m2) (hk : [one, two][k]? = some x) (hp : x.ps[i]? = some p) (h1 : p.f ≤ h) (h2 : h ≤ p.l) : placeFrom p.t h 0 [one, two] = .tuple [.int ((k : Nat) : Int), .int ((i : Nat) : Int)] := by
  match k, hk with
  | 0, hk =>
    cases hk
    show (match one.ps.findIdx? (hit p.t h) with | some j => _ | none => _) = _
    rw [find_hit W.o hp h1 h2]
  | 1, hk =>
    cases hk
    have b := W.w.tb p (List.mem_of_getElem? hp)
    have m60 := W.m60
    show (match one.ps.findIdx? (hit p.t h) with | some j => _ | none => _) = _
    rw [find_out fun q hq => by have := W.o.tb q hq; omega]
    show (match two.ps.findIdx? (hit p.t h) with | some j => _ | none => _) = _
    rw [find_hit W.w hp h1 h2]
theorem place_miss {one two x : Duty} {m m2 k i : Nat} {p : Pc} (W : TwoI one two m m2) (hk : [one, two][k]? = some x) (hp : x.ps[i]? = some p) : placeFrom p.t (p.l + 1) 0 [one, two] = .none := by
  have m60 := W.m60
  have m3 := W.m3
  match k, hk with
  | 0, hk =>
    cases hk
    have b := W.o.tb p (List.mem_of_getElem? hp)
    show (match one.ps.findIdx? (hit p.t _) with | some j => _ | none => _) = _
    rw [find_miss W.o hp]
    show (match two.ps.findIdx? (hit p.t _) with | some j => _ | none => _) = _
    rw [find_out fun q hq => by have := W.w.tb q hq; omega]; rfl
  | 1, hk =>
    cases hk
    have b := W.w.tb p (List.mem_of_getElem? hp)
    show (match one.ps.findIdx? (hit p.t _) with | some j => _ | none => _) = _
    rw [find_out fun q hq => by have := W.o.tb q hq; omega]
    show (match two.ps.findIdx? (hit p.t _) with | some j => _ | none => _) = _
    rw [find_miss W.w hp]; rfl
theorem place_none {one two : Duty} {m m2 : Nat} (W : TwoI one two m m2) : placeFrom (10 ^ 20) 0 0 [one, two] = .none := by
  have m60 := W.m60
  have m3 := W.m3
  show (match one.ps.findIdx? (hit _ _) with | some j => _ | none => _) = _
  rw [find_out fun q hq => by have := W.o.tb q hq; omega]
  show (match two.ps.findIdx? (hit _ _) with | some j => _ | none => _) = _
  rw [find_out fun q hq => by have := W.w.tb q hq; omega]; rfl
def twice : Duty := ⟨[⟨0, 0, 1⟩, ⟨1, 0, 0⟩, ⟨0, 1, 1⟩], [⟨false, 0⟩, ⟨true, 1⟩]⟩
def once : Duty := ⟨[⟨3, 0, 0⟩], []⟩
theorem twice_ok : twice.ok := by
  refine ⟨by decide, by decide, by decide, fun p hp => ?_, fun b hb => ?_, fun i p q hp hq => ?_⟩
  · simp only [twice, List.mem_cons, List.not_mem_nil, or_false] at hp
    rcases hp with rfl | rfl | rfl <;> exact ⟨by decide, by decide, by decide, by decide, by decide⟩
  · simp only [twice, List.mem_cons, List.not_mem_nil, or_false] at hb
    rcases hb with rfl | rfl <;> exact ⟨by decide, by decide⟩
  · match i, hp, hq with
    | 0, hp, hq => cases hp; cases hq; decide
    | 1, hp, hq => cases hp; cases hq; decide
    | n + 2, hp, hq => cases hq
theorem okd_pair {i j : Int} (h1 : i.natAbs < 10 ^ 38) (h2 : j.natAbs < 10 ^ 38) : OkD (.tuple [.int i, .int j]) 2 1 := (okd_tuple (n := 2) (b := 0) (k := 0) (fun d hd => by
  rcases List.mem_cons.mp hd with rfl | hd
  · exact okd_int h1
  · rcases List.mem_cons.mp hd with rfl | hd
    · exact okd_int h2
    · cases hd)).mono
theorem okd_rides {x : Duty} (ok : x.ok) : OkD (.list (ridesD x)) 2000 2 := (okd_list (n := 420) (b := 2) (k := 1) (fun d hd => by
  obtain ⟨p, hp, hd⟩ := List.mem_flatMap.mp hd
  obtain ⟨k, hk, rfl⟩ := List.mem_map.mp hd
  have pk := ok.pk p hp
  have := pk.t0
  have := pk.t1
  have := pk.f0
  have := pk.l6
  have := List.mem_range.mp hk
  exact okd_pair (by omega) (by omega)) (Nat.le_trans (rides_len ok.pk) (by have := ok.n2; omega))).mono
theorem okd_two {d e : Dt} {b k : Nat} (h1 : OkD d b k) (h2 : OkD e b k) (hb : b ≤ 100000) (hk : k ≤ 20) : OkD (.list [d, e]) 390000 40 := (okd_list (n := 2) (b := b) (k := k) fun x hx => by
  rcases List.mem_cons.mp hx with rfl | hx
  · exact h1
  · rcases List.mem_cons.mp hx with rfl | hx
    · exact h2
    · cases hx).mono (by omega) (by omega)
theorem br_ff {c : Bool} {A B : Prop} (h : c = false) (b : B) : (c = true → A) ∧ (c = false → B) := ⟨fun z => (by rw [h] at z; cases z), fun _ => b⟩
theorem ne_self {x : Str} : (!decide (x = x)) = false := by simp
theorem okd_pairs {es : List (Int × Int)} (h : ∀ e ∈ es, e.1.natAbs < 10 ^ 38 ∧ e.2.natAbs < 10 ^ 38) (hl : es.length ≤ 4000) : OkD (.list (es.map fun e => .tuple [.int e.1, .int e.2])) 12000 2 := (okd_list (n := 4000) (b := 2) (k := 1) (fun d hd => by
  obtain ⟨e, he, rfl⟩ := List.mem_map.mp hd
  exact okd_pair (h e he).1 (h e he).2) (by rw [List.length_map]; exact hl)).mono
theorem okd_told : OkD (.list [.tuple [.int 0, .int 0], .tuple [.int 1, .int 0], .list [.tuple [.int 0, .int 0], .tuple [.int 0, .int 1], .tuple [.int 1, .int 0], .tuple [.int 0, .int 1]], .list [.tuple [.int 0, .int 1], .tuple [.int 2, .int 2]]]) 390000 40 := (okd_list (n := 4) (b := 12000) (k := 2) (fun d hd => by
  simp only [List.mem_cons, List.not_mem_nil, or_false] at hd
  rcases hd with rfl | rfl | rfl | rfl
  · exact (okd_pair (by decide) (by decide)).mono
  · exact (okd_pair (by decide) (by decide)).mono
  · exact okd_pairs (es := [(0, 0), (0, 1), (1, 0), (0, 1)]) (by decide +kernel) (by simp)
  · exact okd_pairs (es := [(0, 1), (2, 2)]) (by decide +kernel) (by simp))).mono
section
variable {P : Program} {w : World} {K : Fg} {mg : Str → Option Value} {base : Heap} {f : Addr} {fd : FuncData}
abbrev NPl : List Str := ["duties", "at", "duty", "rides", "place", "trip", "first", "last", "hop", "twice", "told"]
theorem scLPlaces : FnScope NPl ["duties"] (defScope sLPlaces) := ⟨rfl, rfl, rfl, by decide +kernel, rfl, by decide +kernel, by decide +kernel⟩
def rLPlaces (ds : List Dt) (d : Dt) : Prop := ∃ (one two : Duty) (m m2 : Nat), TwoI one two m m2 ∧ ds = [.tuple [one.d, two.d]] ∧ d = .bool true
theorem f_lplaces (T : Free mg) (C1 : Cal P w K mg base 3 "duty_place" ["duties", "trip", "hop"] sPlace (spD K rPlace)) (C2 : Cal P w K mg base 6 "duty_rides" ["duty"] sRides (spO K rRides)) (C3 : Cal P w K mg base 6 "stretches" ["duty"] sStretches (spO K rStretches)) (F : Fun K "_law_places_right" "_law_places_right" sLPlaces f fd) : FnG P w K mg base 7 f fd ["duties"] (spD K rLPlaces) := by
  refine fn_data F scLPlaces (fun ds d ⟨_, _, _, _, _, e, _⟩ => by subst e; rfl) fun cdv A outer s H E hr hgd hu ds d h => ?_
  obtain ⟨one, two, m, m2, W, rfl, rfl⟩ := h
  have hN := scLPlaces.nd
  have C4 := C2.ofO
  have C5 := C3.ofO
  have hv : (PyData.tuple [one.d, two.d] = .list ([one, two].map Duty.d) ∨ PyData.tuple [one.d, two.d] = .tuple ([one, two].map Duty.d)) := .inr rfl
  refine s_st (by repeat (first | exact StR.nil | apply StR.d | apply StR.no)) ?_
  refine s_eq (by conv => { lhs; whnf }) ?_
  refine s_for ?_
  refine i_enumB hv (pd_v 0) ?_
  refine ⟨fun k z => ∃ e1 e2 e3 e4 e5 e6 e7 e8 : En, z = [.d (.tuple [one.d, two.d]), e1, e2, e3, e4, e5, e6, e7, e8, .no, .no], ⟨_, _, _, _, _, _, _, _, rfl⟩, fun k d δ' hd iv => ?_, fun δ' iv => ?_⟩
  · obtain ⟨e1, e2, e3, e4, e5, e6, e7, e8, rfl⟩ := iv
    obtain ⟨x', hx', rfl⟩ := enD_at hd
    obtain ⟨x, hx, rfl⟩ := map_get hx'
    have ok : x.ok := by
      have := List.mem_of_getElem? hx
      simp only [List.mem_cons, List.not_mem_nil, or_false] at this
      rcases this with rfl | rfl
      · exact W.o.ok
      · exact W.w.ok
    refine ⟨_, _, by nofun, ?_⟩
    refine s_eq (by conv => { lhs; whnf }) ?_
    refine s_newOwn (i := 3) (F := fun es => [.d (.tuple [one.d, two.d]), .d (.int ((k : Nat) : Int)), .d x.d, .own es, e4, e5, e6, e7, e8, .no, .no]) (by repeat (first | exact Nx.z | apply Nx.s)) (by intro _; repeat (first | exact SetR.z | apply SetR.s)) ?_
    refine o_lst (a_n ⟨by simp, ?_⟩)
    refine s_eq (by conv => { lhs; whnf }) ?_
    refine s_for ?_
    refine i_enumTup ?_
    and_intros
    have tot := rides_len ok.pk
    have n2 := ok.n2
    refine ⟨fun j z => ∃ e4 e5 e6 e7 e8 : En, z = [.d (.tuple [one.d, two.d]), .d (.int ((k : Nat) : Int)), .d x.d, .own ((x.ps.take j).flatMap ridesP), e4, e5, e6, e7, e8, .no, .no], ⟨_, _, _, _, _, rfl⟩, fun j d δ' hd iv => ?_, fun δ' iv => ?_⟩
    · obtain ⟨e4, e5, e6, e7, e8, rfl⟩ := iv
      obtain ⟨p', hp', rfl⟩ := enD_at hd
      obtain ⟨p, hp, rfl⟩ := map_get hp'
      have pk := ok.pk p (List.mem_of_getElem? hp)
      have := pk.f0
      have := pk.l6
      have := pk.fl
      have hst := flat_step (F := ridesP) hp
      have hle : ((x.ps.take (j + 1)).flatMap ridesP).length ≤ 420 := Nat.le_trans flat_le (by omega)
      rw [hst, List.length_append] at hle
      refine ⟨[.d (.tuple [one.d, two.d]), .d (.int ((k : Nat) : Int)), .d x.d, .own ((x.ps.take j).flatMap ridesP), .d (.int ((j : Nat) : Int)), .d (.int p.t), .d (.int p.f), .d (.int p.l), e8, .no, .no], _, g_tup (ds := [.int ((j : Nat) : Int), p.d]) (gs_c (by nofun) (gs_c (g_tup (ds := [.int p.t, .int p.f, .int p.l]) (gs_c (by nofun) (gs_c (by nofun) (gs_c (by nofun) tgs_nil)))) tgs_nil)), ?_⟩
      refine s_eq (by conv => { lhs; whnf }) ?_
      refine s_for ?_
      and_intros
      refine ⟨by omega, fun i z => ∃ e8 : En, z = [.d (.tuple [one.d, two.d]), .d (.int ((k : Nat) : Int)), .d x.d, .own ((x.ps.take j).flatMap ridesP ++ (ridesP p).take i), .d (.int ((j : Nat) : Int)), .d (.int p.t), .d (.int p.f), .d (.int p.l), e8, .no, .no], ⟨e8, by rw [List.take_zero, List.append_nil]⟩, fun i d δ' hd iv => ?_, fun δ' iv => ?_⟩
      · obtain ⟨e8, rfl⟩ := iv
        obtain ⟨hi, rfl⟩ := rngD_at hd
        refine ⟨_, _, by nofun, ?_⟩
        refine s_eq (by conv => { lhs; whnf }) ?_
        have hi2 : (ridesP p)[i]? = some (.tuple [.int p.t, .int (p.f + ((i : Nat) : Int))]) := by unfold ridesP; rw [List.getElem?_map, List.getElem?_range (by omega)]; rfl
        refine s_append (i := 3) (F := fun d => [.d (.tuple [one.d, two.d]), .d (.int ((k : Nat) : Int)), .d x.d, .own (((x.ps.take j).flatMap ridesP ++ (ridesP p).take i) ++ [d]), .d (.int ((j : Nat) : Int)), .d (.int p.t), .d (.int p.f), .d (.int p.l), .d (.int (p.f + ((i : Nat) : Int))), .no, .no]) (by repeat (first | exact Nx.z | apply Nx.s)) rfl (by intro _; repeat (first | exact SetR.z | apply SetR.s)) (by rw [List.length_append, List.length_take]; omega) ?_
        and_intros
        refine ⟨by simp, ?_⟩
        and_intros
        refine ⟨_, ⟨_, [one, two], p.t, p.f + ((i : Nat) : Int), by simp, hv, pk.t0, by omega, rfl, rfl⟩, ?_⟩
        rw [place_hit W hx hp (by omega) (by omega)]
        have k2 := (List.getElem?_eq_some_iff.mp hx).1
        have k2 : k < 2 := k2
        have j2 := (List.getElem?_eq_some_iff.mp hp).1
        have okp : OkD (.tuple [.int ((k : Nat) : Int), .int ((j : Nat) : Int)]) 390000 40 := (okd_pair (by omega) (by omega)).mono
        refine f_repr hgd hu okp ?_
        and_intros
        refine ⟨by simp, f_repr hgd hu okp ?_⟩
        and_intros
        refine br_ff ne_self ?_
        and_intros
        exact ⟨_, by rw [take_succ' hi2, List.append_assoc]⟩
      · obtain ⟨e8, rfl⟩ := iv
        rw [rngD_length]
        have el : (ridesP p).length = (p.l + 1 - p.f).toNat := by unfold ridesP; rw [List.length_map, List.length_range]
        rw [← el, List.take_length]
        refine s_eq (by conv => { lhs; whnf }) ?_
        and_intros
        refine c_callK (ks := ["hop", "trip", "duties"]) [2, 1, 0] C1 (kw_c ?_) (fun _ _ _ _ _ _ us hl => match us, hl with | [_, _, _], _ => rfl)
        and_intros
        refine kw_c ?_
        and_intros
        refine kw_c ?_
        and_intros
        refine kw_n ⟨rfl, _, ⟨_, [one, two], p.t, p.l + 1, by simp, hv, pk.t0, by omega, rfl, rfl⟩, ?_⟩
        rw [place_miss W hx hp]
        refine f_repr hgd hu okd_none.mono ?_
        and_intros
        exact ⟨_, _, _, _, _, by rw [hst]⟩
    · obtain ⟨e4, e5, e6, e7, e8, rfl⟩ := iv
      rw [enD_length, List.length_map, List.take_length]
      refine s_freeze 3 rfl (by repeat (first | exact SetR.z | apply SetR.s)) ?_
      refine s_eq (by conv => { lhs; whnf }) ?_
      and_intros
      refine ⟨_, ⟨_, ⟨x, ok, rfl, rfl⟩, rfl⟩, ?_⟩
      and_intros
      refine c_callK (ks := ["duty"]) [0] C4 (kw_c ?_) (fun _ _ _ _ _ _ us hl => match us, hl with | [_], _ => rfl)
      and_intros
      refine kw_n ⟨rfl, _, ⟨_, ⟨x, ok, rfl, rfl⟩, rfl⟩, ?_⟩
      have ok2 := okd_two (okd_rides ok) (okd_rides ok) (by omega) (by omega)
      and_intros
      refine ⟨by simp, f_repr hgd hu ok2 ?_⟩
      and_intros
      refine ⟨by simp, f_repr hgd hu ok2 ?_⟩
      and_intros
      refine br_ff ne_self ?_
      and_intros
      exact ⟨_, _, _, _, _, _, _, _, rfl⟩
  obtain ⟨e1, e2, e3, e4, e5, e6, e7, e8, rfl⟩ := iv
  refine s_eq (by conv => { lhs; whnf }) ?_
  and_intros
  refine bp_pow (by unfold CPow; decide) ?_
  and_intros
  refine ⟨_, ⟨_, [one, two], 10 ^ 20, 0, by simp, hv, by decide, by decide, rfl, rfl⟩, ?_⟩
  rw [place_none W]
  and_intros
  refine ⟨by simp, ?_⟩
  and_intros
  refine ⟨.none, ⟨.tuple [], [], 0, 0, by simp, .inr rfl, by decide, by decide, rfl, rfl⟩, ?_⟩
  and_intros
  have okn : OkD (.list [.none, .none]) 390000 40 := okd_two okd_none okd_none (by omega) (by omega)
  refine ⟨by simp, f_repr hgd hu okn ?_⟩
  and_intros
  refine ⟨by simp, f_repr hgd hu okn ?_⟩
  and_intros
  iterate 8 (refine ⟨by simp, ?_⟩; and_intros)
  iterate 1 (refine ⟨by simp, ?_⟩; and_intros)
  have v1 : placeFrom 0 1 0 [twice, twice] = .tuple [.int 0, .int 0] := by rfl
  refine ⟨_, ⟨_, [twice, twice], 0, 1, by simp, .inr rfl, by decide, by decide, rfl, rfl⟩, ?_⟩
  rw [v1]
  and_intros
  iterate 3 (refine ⟨by simp, ?_⟩; and_intros)
  refine ⟨by simp, ?_⟩
  refine bp_catT (ds := [.str "duty"]) (by simp) ?_
  and_intros
  refine ⟨by simp, ?_⟩
  and_intros
  have v2 : placeFrom 0 0 0 [once, twice] = .tuple [.int 1, .int 0] := by rfl
  refine ⟨_, ⟨_, [once, twice], 0, 0, by simp, .inl rfl, by decide, by decide, rfl, rfl⟩, ?_⟩
  rw [v2]
  and_intros
  have v3 : ridesD twice = [.tuple [.int 0, .int 0], .tuple [.int 0, .int 1], .tuple [.int 1, .int 0], .tuple [.int 0, .int 1]] := by rfl
  refine ⟨_, ⟨_, ⟨twice, twice_ok, rfl, rfl⟩, rfl⟩, ?_⟩
  rw [v3]
  and_intros
  have v4 : strD twice = [.tuple [.int 0, .int 1], .tuple [.int 2, .int 2]] := by rfl
  refine ⟨_, ⟨_, ⟨twice, twice_ok, rfl, rfl⟩, rfl⟩, ?_⟩
  rw [v4]
  and_intros
  refine ⟨by simp, ?_⟩
  and_intros
  refine f_repr hgd hu okd_told ?_
  iterate 10 (and_intros; refine ⟨by simp, ?_⟩)
  and_intros
  refine ⟨by simp, f_repr hgd hu okd_told ?_⟩
  and_intros
  exact congrArg PyData.bool (decide_eq_true rfl)
end
end K24

set_option linter.all false
set_option maxRecDepth 100000
set_option maxHeartbeats 4000000
namespace K24
open PySem PySem.Spec PyProof.Rows L2 RZ Dv
abbrev sLThere : Stmt := at_def "_law_there_right"
theorem okd_ii {i j : Int} (h1 : i.natAbs < 10 ^ 38) (h2 : j.natAbs < 10 ^ 38) : OkD (.list [.int i, .int j]) 390000 40 := (okd_list (n := 2) (b := 0) (k := 0) fun d hd => by
  rcases List.mem_cons.mp hd with rfl | hd
  · exact okd_int h1
  · rcases List.mem_cons.mp hd with rfl | hd
    · exact okd_int h2
    · cases hd).mono (by omega) (by omega)
section
variable {P : Program} {w : World} {K : Fg} {mg : Str → Option Value} {base : Heap} {f : Addr} {fd : FuncData}
abbrev NTr : List Str := ["pot", "duty", "many", "place", "arrival", "due"]
theorem scLThere : FnScope NTr ["pot", "duty"] (defScope sLThere) := ⟨rfl, rfl, rfl, by decide +kernel, rfl, by decide +kernel, by decide +kernel⟩
def rLThere (ds : List Dt) (U : Dt → Prop) : Prop := ∃ x : Duty, x.ok ∧ ds = [x.d] ∧ U = fun d => d = .bool true
theorem f_lthere (T : Free mg) (C1 : Cal P w K mg base 1 "_law_draw" ["pot", "many"] sLDraw (spP K rLDraw)) (C2 : Cal P w K mg base 6 "there" ["duty", "place", "arrival"] sThere (spD K rThere)) (F : Fun K "_law_there_right" "_law_there_right" sLThere f fd) : FnG P w K mg base 7 f fd ["pot", "duty"] (spP K rLThere) := by
  refine fn_pot F scLThere (fun ds U ⟨_, _, e, _⟩ => by subst e; rfl) fun cdv A outer s H E hr hgd hu ds U h => ?_
  obtain ⟨x, ok, rfl, rfl⟩ := h
  have hN := scLThere.nd
  have bl := ok.bl
  have n1 := ok.n1
  have n2 := ok.n2
  refine s_st (by repeat (first | exact StR.nil | apply StR.d | apply StR.no)) ?_
  refine s_eq (by conv => { lhs; whnf }) ?_
  infer_instance
  refine XD.mono (U1 := fun d => d = .int ((x.ps.length : Nat) : Int)) (by and_intros; rw [List.length_map]) fun d hd => ?_
  subst hd
  refine s_eq (by conv => { lhs; whnf }) ?_
  refine s_for ?_
  refine i_seq (XD.mono (U1 := fun d => ∃ ns : List Int, d = .list (ns.map PyData.int) ∧ ns.length ≤ 3 ∧ ∀ k ∈ ns, 1 ≤ k ∧ k < (x.ps.length : Int)) ?_ fun d hd => ?_)
  · infer_instance
    iterate 4 infer_instance
    refine ⟨fun h => ?_, fun h => ?_⟩
    · have h := of_decide_eq_true h
      refine c_sortedSet ?_
      and_intros
      refine c_pot C1 (i := 0) (by repeat (first | exact Nx.z | apply Nx.s)) rfl ?_
      and_intros
      refine ⟨_, ⟨(x.ps.length : Int) - 1, by omega, by omega, rfl, rfl⟩, fun d ⟨g, e, g0, g1⟩ => ?_⟩
      subst e
      and_intros
      refine ⟨by simp, [1, (x.ps.length : Int) - 1, 1 + g], rfl, by simp, fun ms _ hm hl => ⟨ms, rfl, hl, fun k hk => ?_⟩⟩
      have hk := (hm k).mp hk
      simp only [List.mem_cons, List.not_mem_nil, or_false] at hk
      omega
    · and_intros
      exact ⟨by simp, [], rfl, by simp, fun k hk => by cases hk⟩
  obtain ⟨ns, rfl, nl, nb⟩ := hd
  refine seq_l ⟨fun k z => ∃ a b c : En, z = [.pot, .d x.d, .d (.int ((x.ps.length : Nat) : Int)), a, b, c], ⟨_, _, _, rfl⟩, fun k d δ' hd iv => ?_, fun δ' iv => ?_⟩
  case refine_2 =>
    obtain ⟨a, b, c, rfl⟩ := iv
    and_intros
    rfl
  obtain ⟨a, b, c, rfl⟩ := iv
  obtain ⟨i, hi, rfl⟩ := map_get hd
  obtain ⟨i1, i2⟩ := nb i (List.mem_of_getElem? hi)
  obtain ⟨p, rfl⟩ : ∃ p : Nat, i = (((p + 1 : Nat) : Nat) : Int) := ⟨(i - 1).toNat, by omega⟩
  have hp : p < x.bs.length := by omega
  have bk := ok.bk _ (List.mem_of_getElem? (bk_at hp))
  have b1 := bk.m1
  have b0 : 0 ≤ (x.bs.getD p noB).m := by have := bk.m0; split at this <;> omega
  refine ⟨_, _, by nofun, ?_⟩
  refine s_eq (by conv => { lhs; whnf }) ?_
  refine s_for ?_
  refine i_seq (XD.mono (U1 := fun d => ∃ ns : List Int, d = .list (ns.map PyData.int) ∧ ∀ k ∈ ns, 0 ≤ k ∧ k ≤ 10 ^ 24) ?_ fun d hd => ?_)
  · and_intros
    refine bp_pow (by unfold CPow; decide) ?_
    and_intros
    exact ⟨by simp, [0, 1999, 10 ^ 24], rfl, by decide⟩
  obtain ⟨ms, rfl, mb⟩ := hd
  refine seq_l ⟨fun k z => ∃ b c : En, z = [.pot, .d x.d, .d (.int ((x.ps.length : Nat) : Int)), .d (.int (((p + 1 : Nat) : Nat) : Int)), b, c], ⟨_, _, rfl⟩, fun k d δ' hd iv => ?_, fun δ' iv => ?_⟩
  case refine_2 =>
    obtain ⟨b, c, rfl⟩ := iv
    and_intros
    exact ⟨_, _, _, rfl⟩
  obtain ⟨b, c, rfl⟩ := iv
  obtain ⟨j, hj, rfl⟩ := map_get hd
  obtain ⟨j1, j2⟩ := mb j (List.mem_of_getElem? hj)
  have okj : OkD (.list [.int (j + (x.bs.getD p noB).m), .int (j + (x.bs.getD p noB).m)]) 390000 40 := okd_ii (by omega) (by omega)
  refine ⟨_, _, by nofun, ?_⟩
  refine s_eq (by conv => { lhs; whnf }) ?_
  and_intros
  rw [show (((p + 1 : Nat) : Nat) : Int) - 1 = ((p : Nat) : Int) by omega]
  refine ip_tup (at_map (bk_at hp)) ?_
  and_intros
  refine ⟨_, ⟨x, p, j, ok, hp, j1, rfl, rfl⟩, ?_⟩
  and_intros
  refine c_callK (ks := ["arrival", "place", "duty"]) [2, 1, 0] C2 (kw_c ?_) (fun _ _ _ _ _ _ us hl => match us, hl with | [_, _, _], _ => rfl)
  and_intros
  refine kw_c ?_
  and_intros
  refine kw_c ?_
  and_intros
  refine kw_n ⟨rfl, _, ⟨x, p, j, ok, hp, j1, rfl, rfl⟩, ?_⟩
  and_intros
  refine ⟨by simp, f_repr hgd hu okj ?_⟩
  and_intros
  refine ⟨by simp, f_repr hgd hu okj ?_⟩
  and_intros
  refine br_ff ne_self ?_
  and_intros
  exact ⟨_, _, rfl⟩
end
end K24

set_option linter.all false
set_option maxRecDepth 100000
set_option maxHeartbeats 4000000
namespace K24
open PySem PySem.Spec PyProof.Rows L2 RZ Dv
abbrev sLSpR : Stmt := at_def "_law_spans_right"
def Part : Nat → List (Nat × Nat) → Nat → Prop
  | s, [], n => s = n
  | s, q :: l, n => q.1 = s ∧ q.1 ≤ q.2 ∧ Part (q.2 + 1) l n
theorem part_app : ∀ {l : List (Nat × Nat)} {s n m : Nat}, Part s l n → n ≤ m → Part s (l ++ [(n, m)]) (m + 1)
  | [], s, n, m, h, hm => ⟨Eq.symm h, hm, rfl⟩
  | q :: l, s, n, m, ⟨h1, h2, h3⟩, hm => ⟨h1, h2, part_app h3 hm⟩
theorem part_st {bs : List Bk} : ∀ k, Part 0 (stA bs k).1 (stA bs k).2
  | 0 => rfl
  | k + 1 => by
    have ih := part_st (bs := bs) k
    have le := (st_le (bs := bs) k).2
    show Part 0 (if (bs.getD k noB).rest then ((stA bs k).1 ++ [((stA bs k).2, k)], k + 1) else stA bs k).1 (if (bs.getD k noB).rest then ((stA bs k).1 ++ [((stA bs k).2, k)], k + 1) else stA bs k).2
    cases (bs.getD k noB).rest with
    | true => exact part_app ih le
    | false => exact ih
theorem part_prs {bs : List Bk} {k : Nat} : Part 0 (prs bs k) (k + 1) := part_app (part_st k) (st_le k).2
theorem part_ge : ∀ {l : List (Nat × Nat)} {s n : Nat} {r : Nat × Nat}, Part s l n → r ∈ l → s ≤ r.1
  | q :: l, s, n, r, ⟨h1, h2, h3⟩, hr => by
    rcases List.mem_cons.mp hr with rfl | hr
    · omega
    · have := part_ge h3 hr
      omega
theorem part_le : ∀ {l : List (Nat × Nat)} {s n : Nat}, Part s l n → s ≤ n
  | [], s, n, h => by have h : s = n := h; omega
  | q :: l, s, n, ⟨h1, h2, h3⟩ => by have := part_le h3; omega
theorem part_dis : ∀ {l : List (Nat × Nat)} {s n i : Nat} {r q : Nat × Nat}, Part s l n → r ∈ l → q ∈ l → r.1 ≤ i → i ≤ r.2 → q.1 ≤ i → i ≤ q.2 → r = q
  | p :: l, s, n, i, r, q, ⟨h1, h2, h3⟩, hr, hq, a, b, c, d => by
    rcases List.mem_cons.mp hr with e1 | hr2
    · rcases List.mem_cons.mp hq with e2 | hq2
      · rw [e1, e2]
      · subst e1
        have := part_ge h3 hq2; omega
    · rcases List.mem_cons.mp hq with e2 | hq2
      · subst e2
        have := part_ge h3 hr2; omega
      · exact part_dis h3 hr2 hq2 a b c d
theorem spn_len {ts : List Tm} {q : Nat × Nat} : (spn ts q).length = q.2 + 1 - q.1 := by unfold spn; rw [List.length_map, List.length_range]
theorem part_len {ts : List Tm} : ∀ {l : List (Nat × Nat)} {s n : Nat}, Part s l n → (l.flatMap (spn ts)).length = n - s
  | [], s, n, h => by have h : s = n := h; subst h; simp
  | q :: l, s, n, ⟨h1, h2, h3⟩ => by
    have ih := part_len (ts := ts) h3
    have := part_le h3
    rw [List.flatMap_cons, List.length_append, ih, spn_len]
    omega
def spE (ts : List Tm) (r i : Nat) : Dt := .tuple [.int ((ts.getD i noT).2 - (ts.getD r noT).1), .int ((ts.getD i noT).2 - (ts.getD 0 noT).1)]
theorem part_at : ∀ {l : List (Nat × Nat)} {s n i : Nat}, Part s l n → i < n - s → ∃ r ∈ l, r.1 ≤ s + i ∧ s + i ≤ r.2 ∧ ∀ ts, (l.flatMap (spn ts))[i]? = some (spE ts r.1 (s + i))
  | [], s, n, i, h, hi => by have h : s = n := h; omega
  | q :: l, s, n, i, ⟨h1, h2, h3⟩, hi => by
    by_cases e : i < q.2 + 1 - q.1
    · refine ⟨q, List.mem_cons_self .., by omega, by omega, fun ts => ?_⟩
      rw [List.flatMap_cons, List.getElem?_append_left (by rw [spn_len]; exact e)]
      unfold spn
      rw [List.getElem?_map, List.getElem?_range e]
      subst h1
      rfl
    · obtain ⟨r, hr, a, b, g⟩ := part_at (i := i - (q.2 + 1 - q.1)) h3 (by omega)
      have es : q.2 + 1 + (i - (q.2 + 1 - q.1)) = s + i := by omega
      rw [es] at a b
      refine ⟨r, List.mem_cons_of_mem _ hr, a, b, fun ts => ?_⟩
      rw [List.flatMap_cons, List.getElem?_append_right (by rw [spn_len]; omega), spn_len, g ts, es]
theorem span_at {x : Duty} (ok : x.ok) {i : Nat} (hi : i < x.ps.length) : ∃ r ∈ prs x.bs x.bs.length, r.1 ≤ i ∧ i ≤ r.2 ∧ ∀ ts, (spanD x ts)[i]? = some (spE ts r.1 i) := by
  have bl := ok.bl
  obtain ⟨r, hr, a, b, g⟩ := part_at (i := i) (part_prs (bs := x.bs) (k := x.bs.length)) (by omega)
  rw [Nat.zero_add] at a b
  exact ⟨r, hr, a, b, fun ts => by have := g ts; rw [Nat.zero_add] at this; exact this⟩
theorem span_n {x : Duty} (ok : x.ok) (ts : List Tm) : (spanD x ts).length = x.ps.length := by
  have bl := ok.bl
  have := part_len (ts := ts) (part_prs (bs := x.bs) (k := x.bs.length))
  unfold spanD
  omega
def movT (m : Int) (t : Tm) : Tm := (t.1 + m, t.2 + m)
theorem getD_mov {ts : List Tm} {m : Int} {i : Nat} (h : i < ts.length) : (ts.map (movT m)).getD i noT = movT m (ts.getD i noT) := by
  rw [List.getD_eq_getElem?_getD, List.getD_eq_getElem?_getD, List.getElem?_map, List.getElem?_eq_getElem h]; rfl
theorem span_mov {x : Duty} (ok : x.ok) {ts : List Tm} (tl : ts.length = x.ps.length) (m : Int) : spanD x (ts.map (movT m)) = spanD x ts := by
  apply List.ext_getElem?
  intro i
  by_cases hi : i < x.ps.length
  · obtain ⟨r, hr, a, b, g⟩ := span_at ok hi
    rw [g, g]
    unfold spE
    rw [getD_mov (by omega), getD_mov (by omega), getD_mov (by omega)]
    show some (PyData.tuple [.int (_ + m - (_ + m)), .int (_ + m - (_ + m))]) = _
    rw [Int.add_sub_add_right, Int.add_sub_add_right]
  · rw [List.getElem?_eq_none (by rw [span_n ok]; omega), List.getElem?_eq_none (by rw [span_n ok]; omega)]
def lateT (ts : List Tm) (b : Nat) (l : Int) : List Tm := ts.set b ((ts.getD b noT).1 + l, (ts.getD b noT).2)
theorem getD_late {ts : List Tm} {b i : Nat} {l : Int} (hb : b < ts.length) : (lateT ts b l).getD i noT = if i = b then ((ts.getD b noT).1 + l, (ts.getD b noT).2) else ts.getD i noT := by
  unfold lateT
  rw [List.getD_eq_getElem?_getD, List.getElem?_set]
  by_cases e : i = b
  · subst e
    rw [if_pos rfl, if_pos rfl, if_pos hb]; rfl
  · rw [if_neg e, if_neg (fun h => e h.symm), List.getD_eq_getElem?_getD]
theorem late_len {ts : List Tm} {b : Nat} {l : Int} : (lateT ts b l).length = ts.length := by unfold lateT; rw [List.length_set]
theorem late_tb {ts : List Tm} {b : Nat} {l : Int} (hb : b < ts.length) (tb : ∀ t ∈ ts, 0 ≤ t.1 ∧ t.1 ≤ t.2) (l0 : 0 ≤ l) (l1 : l ≤ (ts.getD b noT).2 - (ts.getD b noT).1) : ∀ t ∈ lateT ts b l, 0 ≤ t.1 ∧ t.1 ≤ t.2 := fun t ht => by
  rcases List.mem_or_eq_of_mem_set ht with h | h
  · exact tb t h
  · have := tb _ (List.mem_of_getElem? (tm_at hb))
    subst h
    exact ⟨show 0 ≤ (ts.getD b noT).1 + l by omega, show (ts.getD b noT).1 + l ≤ (ts.getD b noT).2 by omega⟩
theorem late_it {x : Duty} {ts : List Tm} {b : Nat} {l : Int} (hb : b < ts.length) (it : inTime x ts) (l0 : 0 ≤ l) : inTime x (lateT ts b l) := fun p hp => by
  rw [late_len] at hp
  have h := it p hp
  rw [getD_late hb, getD_late hb]
  by_cases e1 : p = b
  · rw [if_pos e1, if_neg (by omega)]
    subst e1
    exact h
  · rw [if_neg e1]
    by_cases e2 : p + 1 = b
    · rw [if_pos e2]
      subst e2
      show _ ≤ _ + l
      omega
    · rw [if_neg e2]; exact h
theorem mov_it {x : Duty} {ts : List Tm} {m : Int} (it : inTime x ts) : inTime x (ts.map (movT m)) := fun p hp => by
  rw [List.length_map] at hp
  rw [getD_mov (by omega), getD_mov hp]
  have := it p hp
  show _ + m + _ ≤ _ + m
  omega
def begV (x : Duty) (i : Nat) : Nat := ((prs x.bs x.bs.length).find? fun r => decide (r.1 ≤ i) && decide (i ≤ r.2)).elim 0 (·.1)
theorem beg_of {x : Duty} {i : Nat} {r : Nat × Nat} (hr : r ∈ prs x.bs x.bs.length) (a : r.1 ≤ i) (b : i ≤ r.2) : begV x i = r.1 := by
  unfold begV
  cases h : (prs x.bs x.bs.length).find? fun r => decide (r.1 ≤ i) && decide (i ≤ r.2) with
  | none =>
    have := List.find?_eq_none.mp h r hr
    simp [a, b] at this
  | some q =>
    have h1 := List.find?_some h
    have h2 := List.mem_of_find?_eq_some h
    simp only [Bool.and_eq_true, decide_eq_true_eq] at h1
    rw [part_dis part_prs hr h2 a b h1.1 h1.2]
    rfl
theorem span_map {x : Duty} (ok : x.ok) {ts : List Tm} : spanD x ts = (List.range x.ps.length).map fun i => spE ts (begV x i) i := by
  apply List.ext_getElem?
  intro i
  by_cases hi : i < x.ps.length
  · obtain ⟨r, hr, a, b, g⟩ := span_at ok hi
    rw [g, List.getElem?_map, List.getElem?_range hi, ← beg_of hr a b]; rfl
  · rw [List.getElem?_eq_none (by rw [span_n ok]; omega), List.getElem?_eq_none (by rw [List.length_map, List.length_range]; omega)]
theorem beg_in {x : Duty} (ok : x.ok) {i : Nat} (hi : i < x.ps.length) {q : Nat × Nat} (hq : q ∈ prs x.bs x.bs.length) : begV x i = q.1 ↔ q.1 ≤ i ∧ i ≤ q.2 := by
  obtain ⟨r, hr, a, b, g⟩ := span_at ok hi
  rw [beg_of hr a b]
  constructor
  · intro e
    have ql := prs_le q hq
    have rl := prs_le r hr
    have := part_dis part_prs hr hq (i := r.1) (Nat.le_refl _) rl.1 (by omega) (by omega)
    subst this
    exact ⟨a, b⟩
  · intro ⟨c, d⟩
    rw [part_dis part_prs hr hq a b c d]
theorem rr_any {q : Nat × Nat} {i : Nat} : ((rr q).any fun z => PyData.eqv z (.int ((i : Nat) : Int))) = (decide (q.1 ≤ i) && decide (i ≤ q.2)) := by
  unfold rr
  rw [List.any_map, Bool.eq_iff_iff, List.any_eq_true, Bool.and_eq_true, decide_eq_true_eq, decide_eq_true_eq]
  constructor
  · intro ⟨j, hj, e⟩
    have hj := List.mem_range.mp hj
    have e : decide ((((q.1 + j : Nat) : Nat) : Int) = ((i : Nat) : Int)) = true := by simpa [PyData.eqv] using e
    have e := of_decide_eq_true e
    omega
  · intro ⟨a, b⟩
    refine ⟨i - q.1, List.mem_range.mpr (by omega), ?_⟩
    rw [Function.comp_apply, show q.1 + (i - q.1) = i by omega]
    simp [PyData.eqv]
end K24

set_option linter.all false
set_option maxRecDepth 100000
set_option maxHeartbeats 4000000
namespace K24
open PySem PySem.Spec PyProof.Rows L2 RZ Dv
theorem rr_last {q : Nat × Nat} (h : q.1 ≤ q.2) : atI (rr q) (-1) = some (.int ((q.2 : Nat) : Int)) := by
  obtain ⟨y, h1, h2⟩ := at_m1g (ys := rr q) (n := q.2 - q.1) (by rw [rr_len]; omega)
  rw [rr_at (by omega)] at h2
  cases h2
  rw [h1, show q.1 + (q.2 - q.1) = q.2 by omega]
theorem okd_str24 {x : Duty} (ok : x.ok) : OkD (.list (strD x)) 12000 2 := by
  have pl := prs_len (bs := x.bs) (k := x.bs.length)
  have bl := ok.bl
  have n2 := ok.n2
  have e : strD x = ((prs x.bs x.bs.length).map fun q => (((q.1 : Nat) : Int), ((q.2 : Nat) : Int))).map fun e => PyData.tuple [.int e.1, .int e.2] := by unfold strD; rw [List.map_map]; rfl
  rw [e]
  refine okd_pairs (fun e he => ?_) (by rw [List.length_map]; omega)
  obtain ⟨q, hq, rfl⟩ := List.mem_map.mp he
  have := prs_le q hq
  exact ⟨show (((q.1 : Nat) : Int)).natAbs < _ by omega, show (((q.2 : Nat) : Int)).natAbs < _ by omega⟩
theorem shaped_none : SeqAt.shaped .none = true := by decide +kernel
theorem shaped_rides {x : Duty} : SeqAt.shaped (.list (ridesD x)) = true := by
  have h : ∀ ds : List Dt, (∀ d ∈ ds, ∃ i j : Int, d = .tuple [.int i, .int j]) → PyData.canLayAll0 ds = true ∧ PyData.depthAll ds ≤ 1 := fun ds => by
    induction ds with
    | nil => exact fun _ => ⟨by simp [PyData.canLayAll0], by simp [PyData.depthAll]⟩
    | cons d r ih =>
      intro h
      obtain ⟨i, j, rfl⟩ := h d (List.mem_cons_self ..)
      obtain ⟨k1, k2⟩ := ih fun y hy => h y (List.mem_cons_of_mem _ hy)
      exact ⟨by simp [PyData.canLayAll0, PyData.canLay0, k1], by simp [PyData.depthAll, PyData.depth]; omega⟩
  obtain ⟨k1, k2⟩ := h (ridesD x) fun d hd => by
    obtain ⟨p, hp, hd⟩ := List.mem_flatMap.mp hd
    obtain ⟨k, hk, rfl⟩ := List.mem_map.mp hd
    exact ⟨_, _, rfl⟩
  unfold SeqAt.shaped
  simp only [PyData.canLay0, PyData.depth, k1, Bool.true_and]
  exact decide_eq_true (by omega)
theorem none_in {x : Duty} : ((ridesD x).any fun z => PyData.eqv z .none) = false := by
  rw [List.any_eq_false]
  intro d hd
  obtain ⟨p, hp, hd⟩ := List.mem_flatMap.mp hd
  obtain ⟨k, hk, rfl⟩ := List.mem_map.mp hd
  simp [PyData.eqv]
theorem br_fl {c : Bool} {A B : Prop} (h : c = false) (a : A) : (c = false → A) ∧ (c = true → B) := ⟨fun _ => a, fun z => (by rw [h] at z; cases z)⟩
def TsP (x : Duty) (d : Dt) : Prop := ∃ ts : List Tm, d = .list (ts.map Tm.d) ∧ ts.length = x.ps.length ∧ (∀ t ∈ ts, 0 ≤ t.1 ∧ t.1 ≤ t.2) ∧ (∀ t ∈ ts, t.2 ≤ 10 ^ 24 + 18000) ∧ inTime x ts ∧ ∀ t ∈ ts, t.2 ≤ t.1 + 70
theorem okd_times {ts : List Tm} (tb : ∀ t ∈ ts, 0 ≤ t.1 ∧ t.1 ≤ t.2) (th : ∀ t ∈ ts, t.2 ≤ 10 ^ 26) (hl : ts.length ≤ 60) : OkD (.list (ts.map Tm.d)) 12000 2 :=
  okd_pairs (es := ts) (fun e he => by have := tb e he; have := th e he; omega) (by omega)
theorem tm_mem {ts : List Tm} {i : Nat} (h : i < ts.length) : ts.getD i noT ∈ ts := List.mem_of_getElem? (tm_at h)
theorem okd_spans {x : Duty} {ts : List Tm} (ok : x.ok) (tl : ts.length = x.ps.length) (tb : ∀ t ∈ ts, 0 ≤ t.1 ∧ t.1 ≤ t.2) (th : ∀ t ∈ ts, t.2 ≤ 10 ^ 26) : OkD (.list (spanD x ts)) 12000 2 := (okd_list (n := 60) (b := 2) (k := 1) (fun d hd => by
  obtain ⟨i, hi⟩ := List.getElem?_of_mem hd
  have h1 := (List.getElem?_eq_some_iff.mp hi).1
  rw [span_n ok] at h1
  obtain ⟨r, hr, a, b, g⟩ := span_at ok h1
  rw [g] at hi
  cases hi
  have m1 := tm_mem (ts := ts) (i := i) (by omega)
  have m2 := tm_mem (ts := ts) (i := r.1) (by omega)
  have m3 := tm_mem (ts := ts) (i := 0) (by omega)
  have := tb _ m1
  have := tb _ m2
  have := tb _ m3
  have := th _ m1
  have := th _ m2
  have := th _ m3
  exact okd_pair (by omega) (by omega)) (by rw [span_n ok]; exact ok.n2)).mono
theorem enD_span {x : Duty} {ts : List Tm} (ok : x.ok) : enD (spanD x ts) = (List.range x.ps.length).map fun i => PyData.tuple [.int ((i : Nat) : Int), .tuple [.int ((ts.getD i noT).2 - (ts.getD (begV x i) noT).1), .int ((ts.getD i noT).2 - (ts.getD 0 noT).1)]] := by
  apply List.ext_getElem?
  intro i
  by_cases hi : i < x.ps.length
  · rw [List.getElem?_map, List.getElem?_range hi, enD_get (d := spE ts (begV x i) i) (by rw [span_map ok, List.getElem?_map, List.getElem?_range hi]; rfl)]; rfl
  · rw [List.getElem?_eq_none (by rw [enD_length, span_n ok]; omega), List.getElem?_eq_none (by rw [List.length_map, List.length_range]; omega)]
theorem eqv_self {d : Dt} (h : SeqAt.shaped d = true) : PyData.eqv d d = true := by
  unfold SeqAt.shaped at h
  rw [Bool.and_eq_true] at h
  exact SeqAt.eqv_refl d h.1
theorem shaped_rr {q : Nat × Nat} : SeqAt.shaped (.list (rr q)) = true := by
  have := shaped_ints ((List.range (q.2 + 1 - q.1)).map fun j => (((q.1 + j : Nat) : Nat) : Int))
  rw [List.map_map] at this
  exact this
theorem late_2 {ts : List Tm} {b i : Nat} {l : Int} (hb : b < ts.length) : ((lateT ts b l).getD i noT).2 = (ts.getD i noT).2 := by
  rw [getD_late hb]
  by_cases e : i = b
  · rw [if_pos e, e]
  · rw [if_neg e]
theorem late_1 {ts : List Tm} {b i : Nat} {l : Int} (hb : b < ts.length) : ((lateT ts b l).getD i noT).1 = (ts.getD i noT).1 + if i = b then l else 0 := by
  rw [getD_late hb]
  by_cases e : i = b
  · rw [if_pos e, if_pos e, e]
  · rw [if_neg e, if_neg e, Int.add_zero]
section
variable {P : Program} {w : World} {K : Fg} {mg : Str → Option Value} {base : Heap} {f : Addr} {fd : FuncData}
abbrev NSr : List Str := ["pot", "duty", "own", "some", "due", "one", "times", "told", "shown", "more", "less", "late", "driven", "near", "far", "place"]
theorem scLSpR : FnScope NSr ["pot", "duty"] (defScope sLSpR) := ⟨rfl, rfl, rfl, by decide +kernel, rfl, by decide +kernel, by decide +kernel⟩
def rLSpR (ds : List Dt) (U : Dt → Prop) : Prop := ∃ x : Duty, x.ok ∧ ds = [x.d] ∧ U = fun d => d = .bool true
theorem f_lspr (T : Free mg) (C1 : Cal P w K mg base 1 "_law_draw" ["pot", "many"] sLDraw (spP K rLDraw)) (C2 : Cal P w K mg base 2 "_law_pick" ["pot", "some"] sLPick (spP K rLPick)) (C3 : Cal P w K mg base 1 "_law_stretches" ["duty"] sLStr (spD K rLStr)) (C4 : Cal P w K mg base 6 "stretches" ["duty"] sStretches (spO K rStretches)) (C5 : Cal P w K mg base 6 "duty_rides" ["duty"] sRides (spO K rRides)) (C6 : Cal P w K mg base 3 "_law_times" ["pot", "duty", "begin"] sLTimes (spP K rLTimes)) (C7 : Cal P w K mg base 2 "_law_spans" ["duty", "times"] sLSpans (spD K rLSpans)) (C8 : Cal P w K mg base 7 "spans" ["duty", "times"] sSpans (spD K rSpans)) (F : Fun K "_law_spans_right" "_law_spans_right" sLSpR f fd) : FnG P w K mg base 8 f fd ["pot", "duty"] (spP K rLSpR) := by
  refine fn_pot F scLSpR (fun ds U ⟨_, _, e, _⟩ => by subst e; rfl) fun cdv A outer s H E hr hgd hu ds U h => ?_
  obtain ⟨x, ok, rfl, rfl⟩ := h
  have hN := scLSpR.nd
  have C4d := C4.ofO
  have C5d := C5.ofO
  have bl := ok.bl
  have n1 := ok.n1
  have n2 := ok.n2
  have pl := prs_len (bs := x.bs) (k := x.bs.length)
  refine s_st (by repeat (first | exact StR.nil | apply StR.d | apply StR.no)) ?_
  refine s_eq (by conv => { lhs; whnf }) ?_
  refine s_let (i := 2) (F := fun d => [.pot, .d x.d, .d d, .no, .no, .no, .no, .no, .no, .no, .no, .no, .no, .no, .no, .no]) (by repeat (first | exact Nx.z | apply Nx.s)) (by intro _; repeat (first | exact SetR.z | apply SetR.s)) ?_
  refine c_call C3 ?_
  iterate 3 infer_instance
  refine ⟨_, ⟨x, ok, rfl, rfl⟩, ?_⟩
  refine s_eq (by conv => { lhs; whnf }) ?_
  refine s_letC (i := 4) (F := fun d => [.pot, .d x.d, .d (lstD x), .no, .d d, .no, .no, .no, .no, .no, .no, .no, .no, .no, .no, .no]) (by repeat (first | exact Nx.z | apply Nx.s)) (by intro _; repeat (first | exact SetR.z | apply SetR.s)) ?_
  refine lco_fun (α := Nat × Nat) [("some", 3)] (blkOk_by (N := NSr) (sc := defScope sLSpR) (by decide +kernel)) ?_
  refine i_seq ?_
  and_intros
  refine ⟨prs x.bs x.bs.length, fun q => .list (rr q), fun q => .tuple [.int ((q.1 : Nat) : Int), .int ((q.2 : Nat) : Int)], rfl, by omega, fun i q hq => ⟨_, fun s H C cl fp => by nofun, fun s H C cl fp => ?_⟩, ?_⟩
  · have ql := prs_le q (List.mem_of_getElem? hq)
    and_intros
    refine ip_list (atI_nat (rr_at (q := q) (j := 0) (by omega))) ?_
    and_intros
    refine ip_list (rr_last ql.1) ?_
    and_intros
    exact ⟨by simp, rfl⟩
  have okst := okd_two (okd_str24 ok) (okd_str24 ok) (by omega) (by omega)
  show SsD _ _ [.pot, .d x.d, .d (lstD x), .no, .d (.list (strD x)), .no, .no, .no, .no, .no, .no, .no, .no, .no, .no, .no] _
  and_intros
  refine ⟨_, ⟨_, ⟨x, ok, rfl, rfl⟩, rfl⟩, ?_⟩
  and_intros
  refine c_callK (ks := ["duty"]) [0] C4d (kw_c ?_) (fun _ _ _ _ _ _ us hl => match us, hl with | [_], _ => rfl)
  and_intros
  refine kw_n ⟨rfl, _, ⟨_, ⟨x, ok, rfl, rfl⟩, rfl⟩, ?_⟩
  and_intros
  refine ⟨by simp, f_repr hgd hu okst ?_⟩
  and_intros
  refine ⟨by simp, f_repr hgd hu okst ?_⟩
  and_intros
  refine br_ff ne_self ?_
  refine ss_nil ?_
  refine s_eq (by conv => { lhs; whnf }) ?_
  refine s_forNew2 (i := 5) (ds1 := strD x) (ds2 := ridesD x) (by repeat (first | exact Nx.z | apply Nx.s)) (by repeat (first | exact SetR.z | apply SetR.s)) ?_ ?_ (fun ds => ?_) ?_ ?_ ?_
  · refine o_call C4 ?_
    iterate 3 infer_instance
    exact ⟨_, ⟨x, ok, rfl, rfl⟩, rfl⟩
  · refine o_call C5 ?_
    iterate 3 infer_instance
    exact ⟨_, ⟨x, ok, rfl, rfl⟩, rfl⟩
  · refine c_not (c_val (c_frz 5 rfl ?_))
    exact c_isiL (c_var (i := 5) (by repeat (first | exact Nx.z | apply Nx.s)) rfl ⟨trivial, true, rfl, rfl⟩)
  · unfold strD; rw [List.length_map]; omega
  · have := rides_len ok.pk
    unfold ridesD; omega
  refine s_eq (by conv => { lhs; whnf }) ?_
  have hu2 : (xc P w K mg base NSr ("_law_spans_right") sLSpR f cdv A outer s H E).A.units + 65 < cLine := by have := hr.un; omega
  and_intros
  refine ⟨_, ⟨_, ⟨x, ok, rfl, rfl⟩, rfl⟩, ?_⟩
  refine f_repr hgd hu (okd_str24 ok).mono ?_
  and_intros
  refine f_repr hgd hu (okd_str24 ok).mono ?_
  and_intros
  refine br_fl ne_self ?_
  refine w_o1 ?_
  refine c_cmp rfl ?_
  and_intros
  refine ⟨_, ⟨_, ⟨x, ok, rfl, rfl⟩, rfl⟩, ?_⟩
  refine cp_inD hu2 shaped_none shaped_rides ?_
  rw [none_in]
  and_intros
  refine XD.mono (U1 := TsP x) ?_ fun d hd => ?_
  · refine c_pot C6 (i := 0) (by repeat (first | exact Nx.z | apply Nx.s)) rfl ?_
    iterate 3 infer_instance
    refine c_pot C2 (i := 0) (by repeat (first | exact Nx.z | apply Nx.s)) rfl ?_
    and_intros
    refine c_pot C1 (i := 0) (by repeat (first | exact Nx.z | apply Nx.s)) rfl ?_
    and_intros
    refine ⟨_, ⟨1500, by omega, by omega, rfl, rfl⟩, fun d ⟨g, e, g0, g1⟩ => ?_⟩
    subst e
    and_intros
    refine bp_pow (by unfold CPow; decide) ?_
    and_intros
    refine ⟨by simp, ?_⟩
    and_intros
    refine ⟨fun d => ∃ b : Int, 0 ≤ b ∧ b ≤ 10 ^ 24 ∧ d = .int b, ⟨_, by simp, by simp, rfl, fun d hd => ?_⟩, fun d ⟨b, b0, b1, e⟩ => ?_⟩
    · simp only [List.mem_cons, List.not_mem_nil, or_false] at hd
      rcases hd with rfl | rfl | rfl | rfl
      · exact ⟨0, by omega, by omega, rfl⟩
      · exact ⟨300, by omega, by omega, rfl⟩
      · exact ⟨g, g0, by omega, rfl⟩
      · exact ⟨10 ^ 24, by omega, by omega, rfl⟩
    subst e
    and_intros
    exact ⟨_, ⟨x, b, ok, b0, rfl, rfl⟩, fun d ⟨ts, e, tl, tb, th, it, du⟩ => ⟨ts, e, tl, tb, fun t ht => by have := th t ht; omega, it, du⟩⟩
  obtain ⟨ts, rfl, tl, tb, th, it, du⟩ := hd
  have okT := okd_times (ts := ts) tb (fun t ht => by have := th t ht; omega) (by omega)
  have okS := okd_spans ok tl tb (fun t ht => by have := th t ht; omega)
  have okSS := okd_two okS okS (by omega) (by omega)
  have sq : seqV (.list (ts.map Tm.d)) ts := .inl rfl
  have sqT : seqV (.tuple (ts.map Tm.d)) ts := .inr rfl
  refine s_two (i := 7) (j := 8) (F := fun d => [.pot, .d x.d, .d (lstD x), .no, .d (.list (strD x)), .no, .d (.list (ts.map Tm.d)), .d d, .no, .no, .no, .no, .no, .no, .no, .no]) (G := fun d d2 => [.pot, .d x.d, .d (lstD x), .no, .d (.list (strD x)), .no, .d (.list (ts.map Tm.d)), .d d, .d d2, .no, .no, .no, .no, .no, .no, .no]) (by repeat (first | exact Nx.z | apply Nx.s)) (by repeat (first | exact Nx.z | apply Nx.s)) (by intro _; repeat (first | exact SetR.z | apply SetR.s)) (by intro _ _; repeat (first | exact SetR.z | apply SetR.s)) ?_
  refine c_call C7 ?_
  iterate 5 infer_instance
  refine ⟨_, ⟨x, _, ts, ok, tl, sq, rfl, rfl⟩, ?_⟩
  and_intros
  refine f_repr hgd hu okT.mono ?_
  and_intros
  refine ⟨_, ⟨x, _, ts, ok, tl, sq, tb, it, rfl, rfl⟩, ?_⟩
  and_intros
  refine c_callK (ks := ["times", "duty"]) [1, 0] C8 (kw_c ?_) (fun _ _ _ _ _ _ us hl => match us, hl with | [_, _], _ => rfl)
  and_intros
  refine kw_c ?_
  and_intros
  refine kw_n ⟨rfl, _, ⟨x, _, ts, ok, tl, sqT, tb, it, rfl, rfl⟩, ?_⟩
  and_intros
  refine ⟨by simp, f_repr hgd hu okSS ?_⟩
  and_intros
  refine ⟨by simp, f_repr hgd hu okSS ?_⟩
  and_intros
  refine br_fl ne_self ?_
  and_intros
  refine f_repr hgd hu okT.mono ?_
  and_intros
  refine br_ff ne_self ?_
  refine ss_nil ?_
  refine s_eq (by conv => { lhs; whnf }) ?_
  infer_instance
  refine XD.mono (U1 := fun d => ∃ m : Int, 0 ≤ m ∧ m ≤ 10 ^ 24 ∧ d = .int m) ?_ fun d hd => ?_
  · refine c_pot C2 (i := 0) (by repeat (first | exact Nx.z | apply Nx.s)) rfl ?_
    and_intros
    refine bp_pow (by unfold CPow; decide) ?_
    and_intros
    refine ⟨by simp, ?_⟩
    and_intros
    refine ⟨fun d => ∃ b : Int, 0 ≤ b ∧ b ≤ 10 ^ 24 ∧ d = .int b, ⟨_, by simp, by simp, rfl, fun d hd => ?_⟩, fun d h => h⟩
    simp only [List.mem_cons, List.not_mem_nil, or_false] at hd
    rcases hd with rfl | rfl | rfl
    · exact ⟨1, by omega, by omega, rfl⟩
    · exact ⟨1440, by omega, by omega, rfl⟩
    · exact ⟨10 ^ 24, by omega, by omega, rfl⟩
  obtain ⟨m, m0, m1, rfl⟩ := hd
  and_intros
  refine c_comp (α := Tm) [("near", 13), ("far", 14)] (blkOk_by (N := NSr) (sc := defScope sLSpR) (by decide +kernel)) ?_
  and_intros
  refine ⟨ts, fun t => .tuple [.int t.1, .int t.2], fun t => (movT m t).d, rfl, by omega, fun i t ht => ⟨_, fun s H C cl fp => by nofun, fun s H C cl fp => ?_⟩, ?_⟩
  · and_intros
    exact ⟨by simp, rfl⟩
  rw [show (ts.map fun t => (movT m t).d) = (ts.map (movT m)).map Tm.d by rw [List.map_map]; rfl]
  and_intros
  refine ⟨_, ⟨x, _, ts.map (movT m), ok, by rw [List.length_map]; exact tl, .inl rfl, fun t ht => ?_, mov_it it, rfl, rfl⟩, ?_⟩
  · obtain ⟨u, hu', rfl⟩ := List.mem_map.mp ht
    have := tb u hu'
    exact ⟨show 0 ≤ u.1 + m by omega, show u.1 + m ≤ u.2 + m by omega⟩
  rw [span_mov ok tl]
  refine f_repr hgd hu okS.mono ?_
  and_intros
  refine f_repr hgd hu okS.mono ?_
  and_intros
  refine br_ff ne_self ?_
  refine ss_nil ?_
  refine s_eq (by conv => { lhs; whnf }) ?_
  infer_instance
  refine XD.mono (U1 := fun d => ∃ q ∈ prs x.bs x.bs.length, d = .list (rr q)) ?_ fun d hd => ?_
  · refine c_pot C2 (i := 0) (by repeat (first | exact Nx.z | apply Nx.s)) rfl ?_
    and_intros
    refine ⟨fun d => ∃ q ∈ prs x.bs x.bs.length, d = .list (rr q), ⟨_, ?_, ?_, rfl, fun d hd => ?_⟩, fun d h => h⟩
    · rw [List.length_map]; unfold prs; rw [List.length_append]; simp
    · rw [List.length_map]; omega
    · obtain ⟨q, hq, rfl⟩ := List.mem_map.mp hd
      exact ⟨q, hq, rfl⟩
  obtain ⟨q, hq, rfl⟩ := hd
  have ql := prs_le q hq
  have r0 : (rr q)[0]? = some (.int ((q.1 : Nat) : Int)) := rr_at (q := q) (j := 0) (by omega)
  have qn : q.1 < ts.length := by omega
  have tq := tm_mem qn
  have q1 := tb _ tq
  have q2 := du _ tq
  infer_instance
  refine XD.mono (U1 := fun d => ∃ l : Int, 0 ≤ l ∧ l ≤ (ts.getD q.1 noT).2 - (ts.getD q.1 noT).1 ∧ d = .int l) ?_ fun d hd => ?_
  · refine c_pot C1 (i := 0) (by repeat (first | exact Nx.z | apply Nx.s)) rfl ?_
    and_intros
    refine ip_list (atI_nat r0) ?_
    refine ix_seq sq qn ?_
    and_intros
    refine ip_list (atI_nat r0) ?_
    refine ix_seq sq qn ?_
    and_intros
    exact ⟨_, ⟨(ts.getD q.1 noT).2 - (ts.getD q.1 noT).1 + 1, by omega, by omega, rfl, rfl⟩, fun d ⟨l, e, l0, l1⟩ => ⟨l, l0, by omega, e⟩⟩
  obtain ⟨l, l0, l1, rfl⟩ := hd
  infer_instance
  refine XD.mono (U1 := fun d => d = .list ((lateT ts q.1 l).map Tm.d)) ?_ fun d hd => ?_
  · and_intros
    refine ip_list (atI_nat r0) ⟨_, rfl, sl_l ?_⟩
    rw [Dv.cut_hi]
    and_intros
    refine ip_list (atI_nat r0) ?_
    refine ix_seq sq qn ?_
    and_intros
    refine ip_list (atI_nat r0) ?_
    refine ix_seq sq qn ?_
    and_intros
    refine ⟨by simp, ?_⟩
    and_intros
    refine ⟨by simp, bp_cat (by rw [List.length_map, List.length_take]; simp; omega) ?_⟩
    and_intros
    refine ip_list (atI_nat r0) ?_
    and_intros
    rw [show ((q.1 : Nat) : Int) + 1 = (((q.1 + 1 : Nat) : Nat) : Int) by omega, Dv.cut_lo]
    refine bp_cat (by rw [List.length_append, List.length_map, List.length_take, List.length_map, List.length_drop]; simp; omega) ?_
    show PyData.list _ = PyData.list _
    unfold lateT
    rw [List.set_eq_take_append_cons_drop, if_pos qn, List.map_append, List.map_cons, List.append_assoc]
    rfl
  subst hd
  have ll := late_len (ts := ts) (b := q.1) (l := l)
  have ltb := late_tb qn tb l0 l1
  have lit := late_it qn it l0
  have lth : ∀ t ∈ lateT ts q.1 l, t.2 ≤ 10 ^ 24 + 18000 := fun t ht => by
    rcases List.mem_or_eq_of_mem_set ht with h | h
    · exact th t h
    · have := th _ tq
      subst h
      exact this
  have okL := okd_spans ok (by rw [ll]; exact tl) ltb (fun t ht => by have := lth t ht; omega)
  have lq : seqV (.list ((lateT ts q.1 l).map Tm.d)) (lateT ts q.1 l) := .inl rfl
  and_intros
  refine ⟨_, ⟨x, _, lateT ts q.1 l, ok, by rw [ll]; exact tl, lq, ltb, lit, rfl, rfl⟩, ?_⟩
  refine f_repr hgd hu okL.mono ?_
  and_intros
  refine ⟨_, ⟨x, _, lateT ts q.1 l, ok, by rw [ll]; exact tl, lq, rfl, rfl⟩, ?_⟩
  refine f_repr hgd hu okL.mono ?_
  and_intros
  refine br_ff ne_self ?_
  refine ss_nil ?_
  refine s_eq (by conv => { lhs; whnf }) ?_
  refine s_letC (i := 12) (F := fun d => [.pot, .d x.d, .d (lstD x), .d (.list (rr q)), .d (.list (strD x)), .no, .d (.list (ts.map Tm.d)), .d (.list (spanD x ts)), .d (.str (PyData.list (ts.map Tm.d)).shown), .d (.int m), .d (.int l), .d (.list ((lateT ts q.1 l).map Tm.d)), .d d, .no, .no, .no]) (by repeat (first | exact Nx.z | apply Nx.s)) (by intro _; repeat (first | exact SetR.z | apply SetR.s)) ?_
  refine lco_fun (α := Nat) [("one", 5)] (blkOk_by (N := NSr) (sc := defScope sLSpR) (by decide +kernel)) ?_
  refine i_seq ?_
  refine c_call C8 ?_
  iterate 5 infer_instance
  refine ⟨_, ⟨x, _, lateT ts q.1 l, ok, by rw [ll]; exact tl, lq, ltb, lit, rfl, rfl⟩, ?_⟩
  rw [span_map ok]
  refine seq_l ⟨List.range x.ps.length, fun i => .tuple [.int (((lateT ts q.1 l).getD i noT).2 - ((lateT ts q.1 l).getD (begV x i) noT).1), .int (((lateT ts q.1 l).getD i noT).2 - ((lateT ts q.1 l).getD 0 noT).1)], fun i => .int (((lateT ts q.1 l).getD i noT).2 - ((lateT ts q.1 l).getD (begV x i) noT).1), rfl, by rw [List.length_range]; omega, fun i y hy => ⟨_, fun s H C cl fp => by nofun, fun s H C cl fp => ?_⟩, ?_⟩
  · and_intros
    rfl
  refine s_eq (by conv => { lhs; whnf }) ?_
  refine s_ret' ?_
  refine c_cmpV (nomark _) ?_
  infer_instance
  refine c_comp (α := Nat) [("place", 15), ("one", 5)] (blkOk_by (N := NSr) (sc := defScope sLSpR) (by decide +kernel)) ?_
  refine i_enumB (v := .list (spanD x ts)) (.inl rfl) (pd_v 7) ?_
  rw [enD_span ok]
  refine ⟨List.range x.ps.length, fun i => PyData.tuple [.int ((i : Nat) : Int), .tuple [.int ((ts.getD i noT).2 - (ts.getD (begV x i) noT).1), .int ((ts.getD i noT).2 - (ts.getD 0 noT).1)]], fun i => .int ((ts.getD i noT).2 - (ts.getD (begV x i) noT).1 - l * (if (decide (q.1 ≤ i) && decide (i ≤ q.2)) then 1 else 0)), rfl, by rw [List.length_range]; omega, fun i y hy => ⟨_, fun s H C cl fp => by nofun, fun s H C cl fp => ?_⟩, ?_⟩
  · and_intros
    refine c_intc ?_
    refine c_cmpV rfl ?_
    and_intros
    refine cp_inD hu2 (by rfl) shaped_rr ?_
    rw [rr_any]
    refine f_intB ?_
    refine bp_mul (by unfold CMul; omega) ?_
    and_intros
    rfl
  have e : ((List.range x.ps.length).map fun i => PyData.int ((ts.getD i noT).2 - (ts.getD (begV x i) noT).1 - l * (if (decide (q.1 ≤ i) && decide (i ≤ q.2)) then 1 else 0))) = (List.range x.ps.length).map fun i => PyData.int (((lateT ts q.1 l).getD i noT).2 - ((lateT ts q.1 l).getD (begV x i) noT).1) := by
    refine List.map_congr_left fun i hi => ?_
    have hi := List.mem_range.mp hi
    congr 1
    rw [late_2 qn, late_1 qn]
    have b := beg_in ok hi hq
    by_cases z : begV x i = q.1
    · rw [if_pos z, if_pos (by rw [decide_eq_true (b.mp z).1, decide_eq_true (b.mp z).2]; rfl)]
      omega
    · rw [if_neg z, if_neg (fun w => z (b.mpr (by simpa using w)))]
      omega
  rw [e]
  have sh : SeqAt.shaped (.list ((List.range x.ps.length).map fun i => PyData.int (((lateT ts q.1 l).getD i noT).2 - ((lateT ts q.1 l).getD (begV x i) noT).1))) = true := by
    have := shaped_ints ((List.range x.ps.length).map fun i => ((lateT ts q.1 l).getD i noT).2 - ((lateT ts q.1 l).getD (begV x i) noT).1)
    rw [List.map_map] at this
    exact this
  refine cp_eqD hu sh sh ?_
  rw [eqv_self sh]
end
end K24

set_option linter.all false
set_option maxRecDepth 100000
set_option maxHeartbeats 4000000
namespace K24
open PySem PySem.Spec PyProof.Rows L2 RZ Dv
abbrev sLRight : Stmt := at_def "_law_right"
abbrev sLaw : Stmt := at_def "law"
theorem okd_word (r : Bool) : OkD (.str (wordOf r)) 10 0 := by
  cases r
  · exact (okd_str (x := "walk") (by decide +kernel)).mono (by decide +kernel) (by omega)
  · exact (okd_str (x := "rest") (by decide +kernel)).mono (by decide +kernel) (by omega)
theorem okd_duty {x : Duty} (ok : x.ok) : OkD x.d 390000 40 := (okd_tuple (n := 3) (b := 2000) (k := 2) fun d hd => by
  simp only [List.mem_cons, List.not_mem_nil, or_false] at hd
  rcases hd with rfl | rfl | rfl
  · exact (okd_str (x := "duty") (by decide +kernel)).mono (by decide +kernel) (by omega)
  · refine (okd_tuple (n := 60) (b := 3) (k := 1) (fun d hd => ?_) (by rw [List.length_map]; exact ok.n2)).mono
    obtain ⟨p, hp, rfl⟩ := List.mem_map.mp hd
    have pk := ok.pk p hp
    have := pk.t0
    have := pk.t1
    have := pk.f0
    have := pk.fl
    have := pk.l6
    refine (okd_tuple (n := 3) (b := 0) (k := 0) fun d hd => ?_).mono
    simp only [List.mem_cons, List.not_mem_nil, or_false] at hd
    rcases hd with rfl | rfl | rfl
    · exact okd_int (by omega)
    · exact okd_int (by omega)
    · exact okd_int (by omega)
  · refine (okd_tuple (n := 60) (b := 30) (k := 1) (fun d hd => ?_) (by rw [List.length_map]; have := ok.bl; have := ok.n2; omega)).mono
    obtain ⟨p, hp, rfl⟩ := List.mem_map.mp hd
    have pk := ok.bk p hp
    have b0 : 0 ≤ p.m := by have := pk.m0; split at this <;> omega
    have := pk.m1
    refine (okd_tuple (n := 2) (b := 10) (k := 0) fun d hd => ?_).mono
    simp only [List.mem_cons, List.not_mem_nil, or_false] at hd
    rcases hd with rfl | rfl
    · exact okd_word _
    · exact (okd_int (by omega)).mono).mono
section
variable {P : Program} {w : World} {K : Fg} {mg : Str → Option Value} {base : Heap} {f : Addr} {fd : FuncData}
abbrev NRt : List Str := ["pot", "many", "one", "duties", "shown"]
theorem scLRight : FnScope NRt ["pot"] (defScope sLRight) := ⟨rfl, rfl, rfl, by decide +kernel, rfl, by decide +kernel, by decide +kernel⟩
def rLRight (ds : List Dt) (U : Dt → Prop) : Prop := ds = [] ∧ U = fun d => d = .bool true
theorem f_lright (T : Free mg) (C1 : Cal P w K mg base 1 "_law_draw" ["pot", "many"] sLDraw (spP K rLDraw)) (C2 : Cal P w K mg base 2 "_law_pick" ["pot", "some"] sLPick (spP K rLPick)) (C3 : Cal P w K mg base 3 "_law_duty" ["pot", "many", "first"] sLDuty (spP K rLDuty)) (C4 : Cal P w K mg base 7 "_law_places_right" ["duties"] sLPlaces (spD K rLPlaces)) (C5 : Cal P w K mg base 7 "_law_there_right" ["pot", "duty"] sLThere (spP K rLThere)) (C6 : Cal P w K mg base 8 "_law_spans_right" ["pot", "duty"] sLSpR (spP K rLSpR)) (F : Fun K "_law_right" "_law_right" sLRight f fd) : FnG P w K mg base 9 f fd ["pot"] (spP K rLRight) := by
  refine fn_pot F scLRight (fun ds U ⟨e, _⟩ => by subst e; rfl) fun cdv A outer s H E hr hgd hu ds U h => ?_
  obtain ⟨rfl, rfl⟩ := h
  have hN := scLRight.nd
  refine s_st (by repeat (first | exact StR.nil | apply StR.d | apply StR.no)) ?_
  refine s_eq (by conv => { lhs; whnf }) ?_
  infer_instance
  refine XD.mono (U1 := fun d => ∃ n : Nat, 1 ≤ n ∧ n ≤ 60 ∧ d = .int ((n : Nat) : Int)) ?_ fun d hd => ?_
  · refine c_pot C2 (i := 0) (by repeat (first | exact Nx.z | apply Nx.s)) rfl ?_
    and_intros
    refine ⟨by simp, ?_⟩
    and_intros
    refine ⟨fun d => ∃ n : Nat, 1 ≤ n ∧ n ≤ 60 ∧ d = .int ((n : Nat) : Int), ⟨_, by simp, by simp, rfl, fun d hd => ?_⟩, fun d h => h⟩
    simp only [List.mem_cons, List.not_mem_nil, or_false] at hd
    rcases hd with rfl | rfl | rfl | rfl | rfl | rfl | rfl <;> first | exact ⟨1, by omega, by omega, rfl⟩ | exact ⟨2, by omega, by omega, rfl⟩ | exact ⟨3, by omega, by omega, rfl⟩ | exact ⟨4, by omega, by omega, rfl⟩ | exact ⟨5, by omega, by omega, rfl⟩ | exact ⟨8, by omega, by omega, rfl⟩ | exact ⟨60, by omega, by omega, rfl⟩
  obtain ⟨m, m1, m60, rfl⟩ := hd
  infer_instance
  refine XD.mono (U1 := DutyP m 0) ?_ fun d hd => ?_
  · refine c_pot C3 (i := 0) (by repeat (first | exact Nx.z | apply Nx.s)) rfl ?_
    and_intros
    exact ⟨_, ⟨m, 0, m1, m60, by omega, by omega, rfl, rfl⟩, fun d h => h⟩
  obtain ⟨one, D1, rfl⟩ := hd
  have okR := okd_duty D1.ok
  refine s_eq (by conv => { lhs; whnf }) ?_
  refine s_two (i := 3) (j := 4) (F := fun d => [.pot, .d (.int ((m : Nat) : Int)), .d one.d, .d d, .no]) (G := fun d d2 => [.pot, .d (.int ((m : Nat) : Int)), .d one.d, .d d, .d d2]) (by repeat (first | exact Nx.z | apply Nx.s)) (by repeat (first | exact Nx.z | apply Nx.s)) (by intro _; repeat (first | exact SetR.z | apply SetR.s)) (by intro _ _; repeat (first | exact SetR.z | apply SetR.s)) ?_
  refine XD.mono (U1 := fun d => ∃ (two : Duty) (m2 : Nat), m2 ≤ 3 ∧ DutyI two m2 300 ∧ d = .tuple [one.d, two.d]) ?_ fun d hd => ?_
  · and_intros
    refine c_pot C3 (i := 0) (by repeat (first | exact Nx.z | apply Nx.s)) rfl ?_
    and_intros
    refine c_pot C1 (i := 0) (by repeat (first | exact Nx.z | apply Nx.s)) rfl ?_
    and_intros
    refine ⟨_, ⟨3, by omega, by omega, rfl, rfl⟩, fun d ⟨i, e, g1, g2⟩ => ?_⟩
    subst e
    obtain ⟨p, rfl⟩ := Int.eq_ofNat_of_zero_le g1
    and_intros
    rw [show (1 : Int) + ((p : Nat) : Int) = ((1 + p : Nat) : Int) by omega]
    refine ⟨_, ⟨1 + p, 300, by omega, by omega, by omega, by omega, rfl, rfl⟩, fun d ⟨two, D2, e⟩ => ?_⟩
    subst e
    and_intros
    exact ⟨by simp, two, 1 + p, by omega, D2, rfl⟩
  obtain ⟨two, m2, m3, D2, rfl⟩ := hd
  and_intros
  refine f_repr hgd hu okR ?_
  and_intros
  refine ⟨_, ⟨one, two, m, m2, ⟨D1, D2, m60, m3⟩, rfl, rfl⟩, true, rfl, fun _ => ?_, fun z => (by cases z)⟩
  refine w_o1 (c_not (c_val ?_))
  refine c_pot C5 (i := 0) (by repeat (first | exact Nx.z | apply Nx.s)) rfl ?_
  and_intros
  refine ⟨_, ⟨one, D1.ok, rfl, rfl⟩, fun d e => ⟨true, e, br_ff rfl (ss_nil ?_)⟩⟩
  refine s_eq (by conv => { lhs; whnf }) ?_
  refine s_ret' ?_
  infer_instance
  refine c_pot C6 (i := 0) (by repeat (first | exact Nx.z | apply Nx.s)) rfl ?_
  and_intros
  refine ⟨_, ⟨one, D1.ok, rfl, rfl⟩, fun d e => ⟨true, e, fun _ => ?_, fun z => (by cases z)⟩⟩
  infer_instance
  refine c_pot C6 (i := 0) (by repeat (first | exact Nx.z | apply Nx.s)) rfl ?_
  and_intros
  refine ⟨_, ⟨two, D2.ok, rfl, rfl⟩, fun d e => ⟨true, e, fun _ => ?_, fun z => (by cases z)⟩⟩
  and_intros
  refine f_repr hgd hu okR ?_
  and_intros
  exact congrArg PyData.bool (decide_eq_true rfl)
theorem scLaw : FnScope ["script", "k"] ["script"] (defScope sLaw) := ⟨rfl, rfl, rfl, by decide +kernel, rfl, by decide +kernel, by decide +kernel⟩
theorem f_law (T : T0 K mg) (C1 : Cal P w K mg base 9 "_law_right" ["pot"] sLRight (spP K rLRight)) (C2 : Cal P w K mg base 1 "_law_pot" ["script", "k"] sLPot (spO K rLPot)) (F : Fun K "law" "law" sLaw f fd) : FnG P w K mg base 10 f fd ["script"] (spD K (rLaw 63)) := by
  refine fn_data F scLaw (fun ds d ⟨_, _, e, _⟩ => by subst e; rfl) fun cdv A outer s H E hr hgd hu ds d h => ?_
  obtain ⟨ns, hn, rfl, rfl⟩ := h
  refine s_ret ((pd_all (bs := (List.range (max 1 (min 3 (((ns.map PyData.int).length : Nat) : Int))).toNat).map fun _ => true) rfl T.all (pa_c ((pd_map (xs := List.range (max 1 (min 3 (((ns.map PyData.int).length : Nat) : Int))).toNat) (enc := fun i : Nat => .int (0 + (i : Int))) (F := fun _ => .bool true) (own := [("k", 1)]) rfl scLaw.nd
      (i_rng1 (pa_c (pd_max2 rfl T.max (pa_c pd_int (pa_c (pd_min2 rfl T.min (pa_c pd_int (pa_c (pd_len_list T.len (pa_c (pd_v 0) pa_n)) pa_n))) pa_n))) pa_n) T.range (by omega)) (blkOk_by (N := ["script", "k"]) (sc := defScope sLaw) (by decide +kernel)) (by rw [List.length_range]; omega)
      (fun d => [.d (.list (ns.map PyData.int)), .d d]) (fun s H C cl fp i y hy => tg_name 1 scLaw.nd) (fun s H C cl fp i y hy => xd_potNew C1 C2 (pa_c (pd_v 0) (pa_c (pd_v 1) pa_n)) ⟨rfl, rfl⟩ ⟨ns, 0 + (y : Int), by omega, by have := List.mem_range.mp (List.mem_of_getElem? hy); omega, rfl, rfl⟩ (pot_ok ns _))).is (by rw [List.map_map]; rfl)) pa_n)).is ?_) rfl
  rw [all_true]
end
end K24

end
set_option linter.all false
set_option maxHeartbeats 8000000
open PySem PySem.Spec PyProof.Rows L2 Dv
theorem K24.all_mk {l : PySem.W.OpenLaw} {w : World} {K : Fg} {h : Heap} {mg : Str → Option Value} {fa : Addr} (X : K.In h) (G : h.Ns mainGlobals mg) (hfa : mg "law" = some (.ref fa))
    {t0 t1 t2 : _} (e_pieces : PySem.W.nsIn K mainGlobals "MOST_PIECES" = some (some (.int 60 t0))) (e_hop : PySem.W.nsIn K mainGlobals "LAST_HOP" = some (some (.int 6 t1))) (e_brk : PySem.W.nsIn K mainGlobals "LONGEST_BREAK" = some (some (.int 120 t2)))
    (z_isinstance : PySem.W.nsIn K mainGlobals "isinstance" = some none)
    (z_int : PySem.W.nsIn K mainGlobals "int" = some none)
    (z_bool : PySem.W.nsIn K mainGlobals "bool" = some none)
    (z_tuple : PySem.W.nsIn K mainGlobals "tuple" = some none)
    (z_list : PySem.W.nsIn K mainGlobals "list" = some none)
    (z_str : PySem.W.nsIn K mainGlobals "str" = some none)
    (z_len : PySem.W.nsIn K mainGlobals "len" = some none)
    (z_all : PySem.W.nsIn K mainGlobals "all" = some none)
    (z_any : PySem.W.nsIn K mainGlobals "any" = some none)
    (z_max : PySem.W.nsIn K mainGlobals "max" = some none)
    (z_min : PySem.W.nsIn K mainGlobals "min" = some none)
    (z_abs : PySem.W.nsIn K mainGlobals "abs" = some none)
    (z_sorted : PySem.W.nsIn K mainGlobals "sorted" = some none)
    (z_repr : PySem.W.nsIn K mainGlobals "repr" = some none)
    (z_range : PySem.W.nsIn K mainGlobals "range" = some none)
    (z_enumerate : PySem.W.nsIn K mainGlobals "enumerate" = some none)
    (z_divmod : PySem.W.nsIn K mainGlobals "divmod" = some none)
    (z_set : PySem.W.nsIn K mainGlobals "set" = some none)
    (z_sum : PySem.W.nsIn K mainGlobals "sum" = some none)
    (z_zip : PySem.W.nsIn K mainGlobals "zip" = some none)
    (z_dict : PySem.W.nsIn K mainGlobals "dict" = some none)
    (z_ValueError : PySem.W.nsIn K mainGlobals "ValueError" = some none)
    (z_ArithmeticError : PySem.W.nsIn K mainGlobals "ArithmeticError" = some none)
    (z_LookupError : PySem.W.nsIn K mainGlobals "LookupError" = some none)
    (d_law_draw : Df K "_law_draw" K24.sLDraw)
    (d_law_pick : Df K "_law_pick" K24.sLPick)
    (d_law_duty : Df K "_law_duty" K24.sLDuty)
    (d_is_integer : Df K "is_integer" K24.sInteger)
    (d_is_count : Df K "is_count" K24.sCount)
    (d_duty_place : Df K "duty_place" K24.sPlace)
    (d_is_tuple : Df K "is_tuple" K24.sTuple)
    (d_is_word : Df K "is_word" K24.sWord)
    (d_is_named : Df K "is_named" K24.sNamed)
    (d_is_within : Df K "is_within" K24.sWithin)
    (d_is_piece : Df K "is_piece" K24.sPiece)
    (d_is_break : Df K "is_break" K24.sBreak)
    (d_is_duty_form : Df K "is_duty_form" K24.sForm)
    (d_check_duty : Df K "check_duty" K24.sCkDuty)
    (d_rides_of : Df K "rides_of" K24.sRidesOf)
    (d_duty_rides : Df K "duty_rides" K24.sRides)
    (d_stretch_begins : Df K "stretch_begins" K24.sBegins)
    (d_stretches : Df K "stretches" K24.sStretches)
    (d_law_places_right : Df K "_law_places_right" K24.sLPlaces)
    (d_there_at : Df K "there_at" K24.sThereAt)
    (d_there : Df K "there" K24.sThere)
    (d_law_there_right : Df K "_law_there_right" K24.sLThere)
    (d_law_stretches : Df K "_law_stretches" K24.sLStr)
    (d_law_times : Df K "_law_times" K24.sLTimes)
    (d_law_spans : Df K "_law_spans" K24.sLSpans)
    (d_is_list : Df K "is_list" K24.sList)
    (d_is_time : Df K "is_time" K24.sTime)
    (d_are_times : Df K "are_times" K24.sTimes)
    (d_is_driven_in_time : Df K "is_driven_in_time" K24.sDriven)
    (d_spans : Df K "spans" K24.sSpans)
    (d_law_spans_right : Df K "_law_spans_right" K24.sLSpR)
    (d_law_right : Df K "_law_right" K24.sLRight)
    (d_law_pot : Df K "_law_pot" K24.sLPot)
    (d_law : Df K "law" K24.sLaw)
    : ∃ fd : FuncData, (∀ (s : Shared) (v : Value), BindsTo s fd ⟨[v], []⟩ [("script", v)]) ∧ ∀ base : Heap, K.In base → base.Ns mainGlobals mg → FnG l.prog w K mg base 10 fa fd ["script"] (spD K (rLaw 63)) := by
  have T : Dv.Free mg := Dv.free_mk (PySem.W.mg_none_of X G z_isinstance) (PySem.W.mg_none_of X G z_int) (PySem.W.mg_none_of X G z_bool) (PySem.W.mg_none_of X G z_tuple) (PySem.W.mg_none_of X G z_list) (PySem.W.mg_none_of X G z_str) (PySem.W.mg_none_of X G z_len) (PySem.W.mg_none_of X G z_all) (PySem.W.mg_none_of X G z_any) (PySem.W.mg_none_of X G z_max) (PySem.W.mg_none_of X G z_min) (PySem.W.mg_none_of X G z_abs) (PySem.W.mg_none_of X G z_sorted) (PySem.W.mg_none_of X G z_repr) (PySem.W.mg_none_of X G z_range) (PySem.W.mg_none_of X G z_enumerate) (PySem.W.mg_none_of X G z_divmod) (PySem.W.mg_none_of X G z_set) (PySem.W.mg_none_of X G z_sum) (PySem.W.mg_none_of X G z_zip) (PySem.W.mg_none_of X G z_dict) (PySem.W.mg_none_of X G z_ValueError) (PySem.W.mg_none_of X G z_ArithmeticError) (PySem.W.mg_none_of X G z_LookupError)
  have T0 : K24.T0 K mg := K24.T0.of T
  have hz : mg "zip" = none := PySem.W.mg_none_of X G z_zip
  have cn : K24.Cn mg := ⟨⟨t0, PySem.W.mg_of X G e_pieces⟩, ⟨t1, PySem.W.mg_of X G e_hop⟩, ⟨t2, PySem.W.mg_of X G e_brk⟩⟩
  refine Df.law d_law X G hfa (fun _ _ _ _ _ _ us hl => match us, hl with | [_], _ => rfl) fun base f fd hK hn F => ?_
  have c_law_draw := d_law_draw.cal (P := l.prog) (w := w) (base := base) (ps := ["pot", "many"]) X G (fun _ _ _ _ _ _ us hl => match us, hl with | [_, _], _ => rfl) fun f fd F => K24.f_ldraw T0 F
  have c_law_pick := d_law_pick.cal (P := l.prog) (w := w) (base := base) (ps := ["pot", "some"]) X G (fun _ _ _ _ _ _ us hl => match us, hl with | [_, _], _ => rfl) fun f fd F => K24.f_lpick T0 c_law_draw F
  have c_law_duty := d_law_duty.cal (P := l.prog) (w := w) (base := base) (ps := ["pot", "many", "first"]) X G (fun _ _ _ _ _ _ us hl => match us, hl with | [_, _, _], _ => rfl) fun f fd F => K24.f_lduty T c_law_draw c_law_pick F
  have c_is_integer := d_is_integer.cal (P := l.prog) (w := w) (base := base) (ps := ["value"]) X G (fun _ _ _ _ _ _ us hl => match us, hl with | [_], _ => rfl) fun f fd F => K24.f_integer T F
  have c_is_count := d_is_count.cal (P := l.prog) (w := w) (base := base) (ps := ["value"]) X G (fun _ _ _ _ _ _ us hl => match us, hl with | [_], _ => rfl) fun f fd F => K24.f_count c_is_integer F
  have c_duty_place := d_duty_place.cal (P := l.prog) (w := w) (base := base) (ps := ["duties", "trip", "hop"]) X G (fun _ _ _ _ _ _ us hl => match us, hl with | [_, _, _], _ => rfl) fun f fd F => K24.f_place T c_is_count F
  have c_is_tuple := d_is_tuple.cal (P := l.prog) (w := w) (base := base) (ps := ["value", "least", "most"]) X G (fun _ _ _ _ _ _ us hl => match us, hl with | [_, _, _], _ => rfl) fun f fd F => K24.f_tuple T F
  have c_is_word := d_is_word.cal (P := l.prog) (w := w) (base := base) (ps := ["value", "words"]) X G (fun _ _ _ _ _ _ us hl => match us, hl with | [_, _], _ => rfl) fun f fd F => K24.f_word T F
  have c_is_named := d_is_named.cal (P := l.prog) (w := w) (base := base) (ps := ["value", "word", "many"]) X G (fun _ _ _ _ _ _ us hl => match us, hl with | [_, _, _], _ => rfl) fun f fd F => K24.f_named c_is_tuple c_is_word F
  have c_is_within := d_is_within.cal (P := l.prog) (w := w) (base := base) (ps := ["value", "least", "most"]) X G (fun _ _ _ _ _ _ us hl => match us, hl with | [_, _, _], _ => rfl) fun f fd F => K24.f_within c_is_integer F
  have c_is_piece := d_is_piece.cal (P := l.prog) (w := w) (base := base) (ps := ["value"]) X G (fun _ _ _ _ _ _ us hl => match us, hl with | [_], _ => rfl) fun f fd F => K24.f_piece cn c_is_tuple c_is_count c_is_within F
  have c_is_break := d_is_break.cal (P := l.prog) (w := w) (base := base) (ps := ["value"]) X G (fun _ _ _ _ _ _ us hl => match us, hl with | [_], _ => rfl) fun f fd F => K24.f_break cn c_is_tuple c_is_word c_is_within F
  have c_is_duty_form := d_is_duty_form.cal (P := l.prog) (w := w) (base := base) (ps := ["value"]) X G (fun _ _ _ _ _ _ us hl => match us, hl with | [_], _ => rfl) fun f fd F => K24.f_form T cn c_is_named c_is_tuple c_is_piece c_is_break F
  have c_check_duty := d_check_duty.cal (P := l.prog) (w := w) (base := base) (ps := ["duty"]) X G (fun _ _ _ _ _ _ us hl => match us, hl with | [_], _ => rfl) fun f fd F => K24.f_ckduty c_is_duty_form F
  have c_rides_of := d_rides_of.cal (P := l.prog) (w := w) (base := base) (ps := ["duty"]) X G (fun _ _ _ _ _ _ us hl => match us, hl with | [_], _ => rfl) fun f fd F => K24.f_ridesof T F
  have c_duty_rides := d_duty_rides.cal (P := l.prog) (w := w) (base := base) (ps := ["duty"]) X G (fun _ _ _ _ _ _ us hl => match us, hl with | [_], _ => rfl) fun f fd F => K24.f_rides c_check_duty c_rides_of F
  have c_stretch_begins := d_stretch_begins.cal (P := l.prog) (w := w) (base := base) (ps := ["duty"]) X G (fun _ _ _ _ _ _ us hl => match us, hl with | [_], _ => rfl) fun f fd F => K24.f_begins T F
  have c_stretches := d_stretches.cal (P := l.prog) (w := w) (base := base) (ps := ["duty"]) X G (fun _ _ _ _ _ _ us hl => match us, hl with | [_], _ => rfl) fun f fd F => K24.f_stretches T hz c_check_duty c_stretch_begins F
  have c_law_places_right := d_law_places_right.cal (P := l.prog) (w := w) (base := base) (ps := ["duties"]) X G (fun _ _ _ _ _ _ us hl => match us, hl with | [_], _ => rfl) fun f fd F => K24.f_lplaces T c_duty_place c_duty_rides c_stretches F
  have c_there_at := d_there_at.cal (P := l.prog) (w := w) (base := base) (ps := ["duty", "place", "arrival"]) X G (fun _ _ _ _ _ _ us hl => match us, hl with | [_, _, _], _ => rfl) fun f fd F => K24.f_thereat F
  have c_there := d_there.cal (P := l.prog) (w := w) (base := base) (ps := ["duty", "place", "arrival"]) X G (fun _ _ _ _ _ _ us hl => match us, hl with | [_, _, _], _ => rfl) fun f fd F => K24.f_there c_check_duty c_is_within c_is_count c_there_at T F
  have c_law_there_right := d_law_there_right.cal (P := l.prog) (w := w) (base := base) (ps := ["pot", "duty"]) X G (fun _ _ _ _ _ _ us hl => match us, hl with | [_, _], _ => rfl) fun f fd F => K24.f_lthere T c_law_draw c_there F
  have c_law_stretches := d_law_stretches.cal (P := l.prog) (w := w) (base := base) (ps := ["duty"]) X G (fun _ _ _ _ _ _ us hl => match us, hl with | [_], _ => rfl) fun f fd F => K24.f_lstr T F
  have c_law_times := d_law_times.cal (P := l.prog) (w := w) (base := base) (ps := ["pot", "duty", "begin"]) X G (fun _ _ _ _ _ _ us hl => match us, hl with | [_, _, _], _ => rfl) fun f fd F => K24.f_ltimes T c_law_draw c_law_pick F
  have c_law_spans := d_law_spans.cal (P := l.prog) (w := w) (base := base) (ps := ["duty", "times"]) X G (fun _ _ _ _ _ _ us hl => match us, hl with | [_, _], _ => rfl) fun f fd F => K24.f_lspans c_law_stretches F
  have c_is_list := d_is_list.cal (P := l.prog) (w := w) (base := base) (ps := ["value", "least", "most"]) X G (fun _ _ _ _ _ _ us hl => match us, hl with | [_, _, _], _ => rfl) fun f fd F => K24.f_list T F
  have c_is_time := d_is_time.cal (P := l.prog) (w := w) (base := base) (ps := ["value"]) X G (fun _ _ _ _ _ _ us hl => match us, hl with | [_], _ => rfl) fun f fd F => K24.f_time c_is_tuple c_is_count F
  have c_are_times := d_are_times.cal (P := l.prog) (w := w) (base := base) (ps := ["value", "many"]) X G (fun _ _ _ _ _ _ us hl => match us, hl with | [_, _], _ => rfl) fun f fd F => K24.f_times T c_is_list c_is_time F
  have c_is_driven_in_time := d_is_driven_in_time.cal (P := l.prog) (w := w) (base := base) (ps := ["duty", "times"]) X G (fun _ _ _ _ _ _ us hl => match us, hl with | [_, _], _ => rfl) fun f fd F => K24.f_driven T c_there_at F
  have c_spans := d_spans.cal (P := l.prog) (w := w) (base := base) (ps := ["duty", "times"]) X G (fun _ _ _ _ _ _ us hl => match us, hl with | [_, _], _ => rfl) fun f fd F => K24.f_spans T c_check_duty c_are_times c_is_driven_in_time c_stretches F
  have c_law_spans_right := d_law_spans_right.cal (P := l.prog) (w := w) (base := base) (ps := ["pot", "duty"]) X G (fun _ _ _ _ _ _ us hl => match us, hl with | [_, _], _ => rfl) fun f fd F => K24.f_lspr T c_law_draw c_law_pick c_law_stretches c_stretches c_duty_rides c_law_times c_law_spans c_spans F
  have c_law_right := d_law_right.cal (P := l.prog) (w := w) (base := base) (ps := ["pot"]) X G (fun _ _ _ _ _ _ us hl => match us, hl with | [_], _ => rfl) fun f fd F => K24.f_lright T c_law_draw c_law_pick c_law_duty c_law_places_right c_law_there_right c_law_spans_right F
  have c_law_pot := d_law_pot.cal (P := l.prog) (w := w) (base := base) (ps := ["script", "k"]) X G (fun _ _ _ _ _ _ us hl => match us, hl with | [_, _], _ => rfl) fun f fd F => K24.f_lpot T0 F
  exact K24.f_law T0 c_law_right c_law_pot F
open PySem PySem.W PyProof.Rows in
set_option maxRecDepth 100000 in
set_option maxHeartbeats 0 in
theorem PySem.Challenge.cw_citylines_k24_stretches_spans_and_places_holds : PySem.Challenge.rw_citylines_k24_stretches_spans_and_places.Holds := by
  w_on; o_law; k_head; (case hw => w_witness2)
  k_fill
  refine Dv.walkG (l := PySem.Challenge.rw_citylines_k24_stretches_spans_and_places) (n := 63) (k := 10) (x := "script") rfl (by decide) rfl ⟨rfl, by decide, by decide⟩ (fun w h Y => PySem.W.kIn_of Y) ?F
  case F =>
    intro w mg fa h KX G hmg
    refine' K24.all_mk KX G hmg ?e_pieces ?e_hop ?e_brk ?z_isinstance ?z_int ?z_bool ?z_tuple ?z_list ?z_str ?z_len ?z_all ?z_any ?z_max ?z_min ?z_abs ?z_sorted ?z_repr ?z_range ?z_enumerate ?z_divmod ?z_set ?z_sum ?z_zip ?z_dict ?z_ValueError ?z_ArithmeticError ?z_LookupError ?d_law_draw ?d_law_pick ?d_law_duty ?d_is_integer ?d_is_count ?d_duty_place ?d_is_tuple ?d_is_word ?d_is_named ?d_is_within ?d_is_piece ?d_is_break ?d_is_duty_form ?d_check_duty ?d_rides_of ?d_duty_rides ?d_stretch_begins ?d_stretches ?d_law_places_right ?d_there_at ?d_there ?d_law_there_right ?d_law_stretches ?d_law_times ?d_law_spans ?d_is_list ?d_is_time ?d_are_times ?d_is_driven_in_time ?d_spans ?d_law_spans_right ?d_law_right ?d_law_pot ?d_law
    (case e_pieces => k_is)
    (case e_hop => k_is)
    (case e_brk => k_is)
    (case z_isinstance => k_is)
    (case z_int => k_is)
    (case z_bool => k_is)
    (case z_tuple => k_is)
    (case z_list => k_is)
    (case z_str => k_is)
    (case z_len => k_is)
    (case z_all => k_is)
    (case z_any => k_is)
    (case z_max => k_is)
    (case z_min => k_is)
    (case z_abs => k_is)
    (case z_sorted => k_is)
    (case z_repr => k_is)
    (case z_range => k_is)
    (case z_enumerate => k_is)
    (case z_divmod => k_is)
    (case z_set => k_is)
    (case z_sum => k_is)
    (case z_zip => k_is)
    (case z_dict => k_is)
    (case z_ValueError => k_is)
    (case z_ArithmeticError => k_is)
    (case z_LookupError => k_is)
    (case d_law_draw => (refine' Dv.df_mk ?a ?l ?c ?k; (case a => k_is); (case l => k_is); (case c => k_is); (case k => k_is)))
    (case d_law_pick => (refine' Dv.df_mk ?a ?l ?c ?k; (case a => k_is); (case l => k_is); (case c => k_is); (case k => k_is)))
    (case d_law_duty => (refine' Dv.df_mk ?a ?l ?c ?k; (case a => k_is); (case l => k_is); (case c => k_is); (case k => k_is)))
    (case d_is_integer => (refine' Dv.df_mk ?a ?l ?c ?k; (case a => k_is); (case l => k_is); (case c => k_is); (case k => k_is)))
    (case d_is_count => (refine' Dv.df_mk ?a ?l ?c ?k; (case a => k_is); (case l => k_is); (case c => k_is); (case k => k_is)))
    (case d_duty_place => (refine' Dv.df_mk ?a ?l ?c ?k; (case a => k_is); (case l => k_is); (case c => k_is); (case k => k_is)))
    (case d_is_tuple => (refine' Dv.df_mk ?a ?l ?c ?k; (case a => k_is); (case l => k_is); (case c => k_is); (case k => k_is)))
    (case d_is_word => (refine' Dv.df_mk ?a ?l ?c ?k; (case a => k_is); (case l => k_is); (case c => k_is); (case k => k_is)))
    (case d_is_named => (refine' Dv.df_mk ?a ?l ?c ?k; (case a => k_is); (case l => k_is); (case c => k_is); (case k => k_is)))
    (case d_is_within => (refine' Dv.df_mk ?a ?l ?c ?k; (case a => k_is); (case l => k_is); (case c => k_is); (case k => k_is)))
    (case d_is_piece => (refine' Dv.df_mk ?a ?l ?c ?k; (case a => k_is); (case l => k_is); (case c => k_is); (case k => k_is)))
    (case d_is_break => (refine' Dv.df_mk ?a ?l ?c ?k; (case a => k_is); (case l => k_is); (case c => k_is); (case k => k_is)))
    (case d_is_duty_form => (refine' Dv.df_mk ?a ?l ?c ?k; (case a => k_is); (case l => k_is); (case c => k_is); (case k => k_is)))
    (case d_check_duty => (refine' Dv.df_mk ?a ?l ?c ?k; (case a => k_is); (case l => k_is); (case c => k_is); (case k => k_is)))
    (case d_rides_of => (refine' Dv.df_mk ?a ?l ?c ?k; (case a => k_is); (case l => k_is); (case c => k_is); (case k => k_is)))
    (case d_duty_rides => (refine' Dv.df_mk ?a ?l ?c ?k; (case a => k_is); (case l => k_is); (case c => k_is); (case k => k_is)))
    (case d_stretch_begins => (refine' Dv.df_mk ?a ?l ?c ?k; (case a => k_is); (case l => k_is); (case c => k_is); (case k => k_is)))
    (case d_stretches => (refine' Dv.df_mk ?a ?l ?c ?k; (case a => k_is); (case l => k_is); (case c => k_is); (case k => k_is)))
    (case d_law_places_right => (refine' Dv.df_mk ?a ?l ?c ?k; (case a => k_is); (case l => k_is); (case c => k_is); (case k => k_is)))
    (case d_there_at => (refine' Dv.df_mk ?a ?l ?c ?k; (case a => k_is); (case l => k_is); (case c => k_is); (case k => k_is)))
    (case d_there => (refine' Dv.df_mk ?a ?l ?c ?k; (case a => k_is); (case l => k_is); (case c => k_is); (case k => k_is)))
    (case d_law_there_right => (refine' Dv.df_mk ?a ?l ?c ?k; (case a => k_is); (case l => k_is); (case c => k_is); (case k => k_is)))
    (case d_law_stretches => (refine' Dv.df_mk ?a ?l ?c ?k; (case a => k_is); (case l => k_is); (case c => k_is); (case k => k_is)))
    (case d_law_times => (refine' Dv.df_mk ?a ?l ?c ?k; (case a => k_is); (case l => k_is); (case c => k_is); (case k => k_is)))
    (case d_law_spans => (refine' Dv.df_mk ?a ?l ?c ?k; (case a => k_is); (case l => k_is); (case c => k_is); (case k => k_is)))
    (case d_is_list => (refine' Dv.df_mk ?a ?l ?c ?k; (case a => k_is); (case l => k_is); (case c => k_is); (case k => k_is)))
    (case d_is_time => (refine' Dv.df_mk ?a ?l ?c ?k; (case a => k_is); (case l => k_is); (case c => k_is); (case k => k_is)))
    (case d_are_times => (refine' Dv.df_mk ?a ?l ?c ?k; (case a => k_is); (case l => k_is); (case c => k_is); (case k => k_is)))
    (case d_is_driven_in_time => (refine' Dv.df_mk ?a ?l ?c ?k; (case a => k_is); (case l => k_is); (case c => k_is); (case k => k_is)))
    (case d_spans => (refine' Dv.df_mk ?a ?l ?c ?k; (case a => k_is); (case l => k_is); (case c => k_is); (case k => k_is)))
    (case d_law_spans_right => (refine' Dv.df_mk ?a ?l ?c ?k; (case a => k_is); (case l => k_is); (case c => k_is); (case k => k_is)))
    (case d_law_right => (refine' Dv.df_mk ?a ?l ?c ?k; (case a => k_is); (case l => k_is); (case c => k_is); (case k => k_is)))
    (case d_law_pot => (refine' Dv.df_mk ?a ?l ?c ?k; (case a => k_is); (case l => k_is); (case c => k_is); (case k => k_is)))
    (case d_law => (refine' Dv.df_mk ?a ?l ?c ?k; (case a => k_is); (case l => k_is); (case c => k_is); (case k => k_is)))

