import PyProof.Rows.All
import Wide.All
import OpenK.AllK
import Wide.FinOn
import HandS.ForMost
import HandS.Style
import HandS.IsInst
import HandS.Defaults
import PyProof.ReprRoads
import PyProof.ReprBulk
import PyProof.Rows.SortShellAny
import KE.GoesMore
import HandS.Conv
import HandS.SetFor
import HandS.Zip
import HandS.TupAny
import HandS.Deep
import KE.DataMinMax
import HandS.TupMul
import HandS.ForSpec
import HandS.ExcIs
import HandS.ExcField
import PySem.Challenge.RW_citylines_k11_any_value_as_city
set_option Elab.async false
set_option linter.all false
set_option maxRecDepth 100000
set_option maxHeartbeats 2000000
/-! Dv: readings of pure code by data. G: the part of the heap that is data (never changed); B: what stood when the def began (but for a pot). -/
namespace Dv
open PySem L2
abbrev Fg := PySem.W.Frag
abbrev Dt := PyData
def Ex (H H' : Hp) : Prop := ∀ a o, H a = some o → H' a = some o
theorem Ex.refl (H : Hp) : Ex H H := fun _ _ h => h
theorem Ex.trans {H H1 H2 : Hp} (a : Ex H H1) (b : Ex H1 H2) : Ex H H2 := fun x o h => b x o (a x o h)
theorem Ex.new {H : Hp} {p : Addr} {o : HO} (h : H p = none) : Ex H (upd H p o) := fun a u e => by
  rw [upd_ne (ne_of_none e h)]; exact e
theorem Ex.mut {H H' : Hp} {p : Addr} {o : HO} (e : Ex H H') (h : H p = none) : Ex H (upd H' p o) := fun a u ha => by
  rw [upd_ne (ne_of_none ha h)]; exact e a u ha
theorem Ex.both {H H' : Hp} {p : Addr} {o : HO} (e : Ex H H') : Ex (upd H p o) (upd H' p o) := fun a u ha => by
  by_cases h : a = p
  · subst h; rw [upd_same] at ha ⊢; exact ha
  · rw [upd_ne h] at ha ⊢; exact e a u ha
theorem Ex.free {H H' : Hp} {p : Addr} (e : Ex H H') (h : H' p = none) : H p = none := by
  cases h1 : H p with
  | none => rfl
  | some o => rw [e p o h1] at h; cases h
theorem ex_rd {H H' : Hp} {a : Addr} {u : HO} (e : Ex H H') (h : Rd H a u) : Rd H' a u := by
  rcases h with h | ⟨o, h⟩
  · exact .inl (e a _ h)
  · exact .inr ⟨o, e a _ h⟩
theorem ex_l {K : Fg} {H H' : Hp} {a : Addr} {xs : List V} (e : Ex H H') (h : SqL K H a xs) : SqL K H' a xs := by
  rcases h with h | h
  · exact .inl (ex_rd e h)
  · exact .inr h
theorem ex_t {K : Fg} {H H' : Hp} {a : Addr} {xs : List V} (e : Ex H H') (h : SqT K H a xs) : SqT K H' a xs := by
  rcases h with h | h
  · exact .inl (ex_rd e h)
  · exact .inr h
/-- a list that is tracked or locked, or a plain list of the module -/
def SqX (K : Fg) (H : Hp) (a : Addr) (xs : List V) : Prop := Rd H a (.lst xs) ∨ ∃ (its : List Value) (n : Nat), K.lookup a = some { cls := .type "list", data := .seq its.toArray n } ∧ its.length ≤ sizeLine ∧ Vals xs its
theorem ex_x {K : Fg} {H H' : Hp} {a : Addr} {xs : List V} (e : Ex H H') (h : SqX K H a xs) : SqX K H' a xs := by
  rcases h with h | h
  · exact .inl (ex_rd e h)
  · exact .inr h
theorem sqx_l {K : Fg} {H : Hp} {a : Addr} {xs : List V} (h : SqX K H a xs) : SqL K H a xs := by
  rcases h with h | ⟨its, n, h1, h2, h3⟩
  · exact .inl h
  · exact .inr ⟨_, its.toArray, n, h1, rfl, rfl, rfl, by simpa using h2, by simpa using h3⟩
theorem exl {K : Fg} {H H' : Hp} {a : Addr} {xs : List V} (e : Ex H H') (h : SqX K H a xs) : SqL K H' a xs := sqx_l (ex_x e h)
/-! a value that reads as data; lists are tracked (or locked), tuples may stand in the written part -/
mutual
inductive Dz (K : Fg) (H : Hp) : V → PyData → Prop
  | non : Dz K H .non .none
  | bl (b : Bool) : Dz K H (.bl b) (.bool b)
  | int (i : Int) : Dz K H (.int i) (.int i)
  | str (x : Str) : Dz K H (.str x) (.str x)
  | lst {a : Addr} {xs : List V} {ds : List PyData} : SqX K H a xs → DzAll K H xs ds → Dz K H (.ref a) (.list ds)
  | tup {a : Addr} {xs : List V} {ds : List PyData} : SqT K H a xs → DzAll K H xs ds → Dz K H (.ref a) (.tuple ds)
  | dct {a : Addr} : Rd H a (.dK []) → Dz K H (.ref a) (.dict [])
inductive DzAll (K : Fg) (H : Hp) : List V → List PyData → Prop
  | nil : DzAll K H [] []
  | cons {v : V} {vs : List V} {d : PyData} {ds : List PyData} : Dz K H v d → DzAll K H vs ds → DzAll K H (v :: vs) (d :: ds)
end
mutual
theorem dz_dp {K : Fg} {H : Hp} : ∀ (d : PyData) (v : V), d.hasDict = false → Dz K H v d → Dp K H v d
  | .none, _, _, h => by cases h; exact .non
  | .bool b, _, _, h => by cases h; exact .bl b
  | .int i, _, _, h => by cases h; exact .int i
  | .str x, _, _, h => by cases h; exact .str x
  | .list ds, _, n, h => by
    cases h with
    | lst hs ha => exact .lst (sqx_l hs) (dzAll_dp ds _ (by simpa only [PyData.hasDict] using n) ha)
  | .tuple ds, _, n, h => by
    cases h with
    | tup hs ha => exact .tup hs (dzAll_dp ds _ (by simpa only [PyData.hasDict] using n) ha)
  | .dict _, _, n, _ => by simp [PyData.hasDict] at n
theorem dzAll_dp {K : Fg} {H : Hp} : ∀ (ds : List PyData) (vs : List V), PyData.hasDictAll ds = false → DzAll K H vs ds → DpAll K H vs ds
  | [], _, _, h => by cases h; exact .nil
  | d :: ds, _, n, h => by
    cases h with
    | cons h1 h2 =>
      simp only [PyData.hasDictAll, Bool.or_eq_false_iff] at n
      exact .cons (dz_dp d _ n.1 h1) (dzAll_dp ds _ n.2 h2)
end
theorem nds {d : PyData} (h : SeqAt.shaped d = true) : d.hasDict = false := PyData.hasDict_of_canLay d (SeqAt.canLay_of_shaped h)
section
variable {K : Fg} {H H' : Hp}
mutual
theorem dp_ex (e : Ex H H') : ∀ (d : Dt) (v : V), Dz K H v d → Dz K H' v d
  | .none, _, h => by cases h; exact .non
  | .bool b, _, h => by cases h; exact .bl b
  | .int i, _, h => by cases h; exact .int i
  | .str x, _, h => by cases h; exact .str x
  | .list ds, _, h => by
    cases h with
    | lst hs ha => exact .lst (ex_x e hs) (dpAll_ex e ds _ ha)
  | .tuple ds, _, h => by
    cases h with
    | tup hs ha => exact .tup (ex_t e hs) (dpAll_ex e ds _ ha)
  | .dict _, _, h => by
    cases h with
    | dct hr => exact .dct (ex_rd e hr)
theorem dpAll_ex (e : Ex H H') : ∀ (ds : List Dt) (vs : List V), DzAll K H vs ds → DzAll K H' vs ds
  | [], _, h => by cases h; exact .nil
  | d :: ds, _, h => by
    cases h with
    | cons h1 h2 => exact .cons (dp_ex e d _ h1) (dpAll_ex e ds _ h2)
end
theorem dpAll_length : ∀ {vs : List V} {ds : List Dt}, DzAll K H vs ds → vs.length = ds.length
  | _, [], h => by cases h; rfl
  | _, _ :: _, h => by
    cases h with
    | cons h1 h2 => rw [List.length_cons, List.length_cons, dpAll_length h2]
theorem dpAll_get : ∀ {vs : List V} {ds : List Dt} {i : Nat} {d : Dt}, DzAll K H vs ds → ds[i]? = some d → ∃ v, vs[i]? = some v ∧ Dz K H v d
  | _, [], _, _, _, e => by simp at e
  | _, _ :: _, 0, _, h, e => by
    cases h with
    | cons h1 h2 => simp at e; subst e; exact ⟨_, rfl, h1⟩
  | _, _ :: _, i + 1, d, h, e => by
    cases h with
    | cons h1 h2 =>
      obtain ⟨v, q1, q2⟩ := dpAll_get (i := i) (d := d) h2 (by simpa using e)
      exact ⟨v, by simpa using q1, q2⟩
theorem dpAll_get' : ∀ {vs : List V} {ds : List Dt} {i : Nat} {v : V}, DzAll K H vs ds → vs[i]? = some v → ∃ d, ds[i]? = some d ∧ Dz K H v d
  | _, [], _, _, h, e => by cases h; simp at e
  | _, _ :: _, 0, _, h, e => by
    cases h with
    | cons h1 h2 => simp at e; subst e; exact ⟨_, rfl, h1⟩
  | _, _ :: _, i + 1, v, h, e => by
    cases h with
    | cons h1 h2 =>
      obtain ⟨d, q1, q2⟩ := dpAll_get' (i := i) (v := v) h2 (by simpa using e)
      exact ⟨d, by simpa using q1, q2⟩
theorem dpAll_append : ∀ {vs ws : List V} {ds es : List Dt}, DzAll K H vs ds → DzAll K H ws es → DzAll K H (vs ++ ws) (ds ++ es)
  | _, _, [], _, h, g => by cases h; exact g
  | _, _, _ :: _, _, h, g => by
    cases h with
    | cons h1 h2 => exact .cons h1 (dpAll_append h2 g)
theorem dpAll_take : ∀ {vs : List V} {ds : List Dt} (n : Nat), DzAll K H vs ds → DzAll K H (vs.take n) (ds.take n)
  | _, _, 0, _ => by simpa using (.nil : DzAll K H [] [])
  | _, [], n + 1, h => by cases h; exact .nil
  | _, _ :: _, n + 1, h => by
    cases h with
    | cons h1 h2 => exact .cons h1 (dpAll_take n h2)
theorem dpAll_drop : ∀ {vs : List V} {ds : List Dt} (n : Nat), DzAll K H vs ds → DzAll K H (vs.drop n) (ds.drop n)
  | _, _, 0, h => h
  | _, [], n + 1, h => by cases h; exact .nil
  | _, _ :: _, n + 1, h => by
    cases h with
    | cons h1 h2 => exact dpAll_drop n h2
theorem dpAll_reverse : ∀ {vs : List V} {ds : List Dt}, DzAll K H vs ds → DzAll K H vs.reverse ds.reverse
  | _, [], h => by cases h; exact .nil
  | _, _ :: _, h => by
    cases h with
    | cons h1 h2 => rw [List.reverse_cons, List.reverse_cons]; exact dpAll_append (dpAll_reverse h2) (.cons h1 .nil)
theorem dpAll_ints : ∀ {vs : List V} {ns : List Int}, DzAll K H vs (ns.map PyData.int) → vs = ns.map V.int
  | _, [], h => by cases h; rfl
  | _, n :: ns, h => by
    cases h with
    | cons h1 h2 => cases h1; rw [dpAll_ints h2]; rfl
theorem dpAll_bools : ∀ {vs : List V} {ns : List Bool}, DzAll K H vs (ns.map PyData.bool) → vs = ns.map V.bl
  | _, [], h => by cases h; rfl
  | _, n :: ns, h => by
    cases h with
    | cons h1 h2 => cases h1; rw [dpAll_bools h2]; rfl
theorem dpAll_of_ints : ∀ (ns : List Int), DzAll K H (ns.map V.int) (ns.map PyData.int)
  | [] => .nil
  | n :: ns => .cons (.int n) (dpAll_of_ints ns)
end

/-! ### what the slots hold. p: the pot's address, if there is a pot -/
inductive En where
  | no | d (x : Dt) | own (ds : List Dt) | own2 (as : List Addr) (dss : List (List Dt)) | pot | rng (lo hi : Int)
abbrev De := List En
def potOk (a b : Int) : Prop := 0 ≤ a ∧ 0 ≤ b ∧ b ≤ 2147483588
def PotI (p : Option Addr) (B G H : Hp) : Prop := ∀ q, p = some q → B q = none ∧ G q = none ∧ ∃ a b, H q = some (.lst [.int a, .int b]) ∧ potOk a b
structure I3 (p : Option Addr) (B G H : Hp) : Prop where
  bh : Ex B H
  gh : Ex G H
  pot : PotI p B G H
/-- of the def's own alone: not there at its begin, no data, not the pot -/
def Fr (p : Option Addr) (B G : Hp) (a : Addr) : Prop := B a = none ∧ G a = none ∧ p ≠ some a
def En.isOwn : En → Prop
  | .own _ => True
  | .own2 _ _ => True
  | _ => False
def En.inner : En → List Addr
  | .own2 as _ => as
  | _ => []
/-- the addresses that a slot alone may write to -/
def Foot (e : En) (o : Option V) (a : Addr) : Prop := (e.isOwn ∧ o = some (.ref a)) ∨ a ∈ e.inner
def Slot (K : Fg) (p : Option Addr) (B G H : Hp) : En → Option V → Prop
  | .no, _ => True
  | .d x, o => ∃ v, o = some v ∧ Dz K G v x
  | .own ds, o => ∃ l xs, o = some (.ref l) ∧ B l = none ∧ G l = none ∧ p ≠ some l ∧ H l = some (.lst xs) ∧ DzAll K G xs ds
  | .own2 as dss, o => ∃ l, o = some (.ref l) ∧ Fr p B G l ∧ H l = some (.lst (as.map V.ref)) ∧ (l :: as).Nodup ∧ as.length = dss.length ∧ ∀ (i : Nat) a ds, as[i]? = some a → dss[i]? = some ds → Fr p B G a ∧ ∃ xs, H a = some (.lst xs) ∧ DzAll K G xs ds
  | .pot, o => ∃ q, o = some (.ref q) ∧ p = some q
  | .rng lo hi, o => ∃ a, o = some (.ref a) ∧ p ≠ some a ∧ H a = some (.rng lo hi)
structure EnvD (K : Fg) (p : Option Addr) (B G H : Hp) (σ : L2.St) (δ : De) : Prop where
  len : σ.length = δ.length
  slot : ∀ (i : Nat) en, δ[i]? = some en → ∃ o, σ[i]? = some o ∧ Slot K p B G H en o
  apart : ∀ (i j : Nat) e f oi oj a, i ≠ j → δ[i]? = some e → δ[j]? = some f → σ[i]? = some oi → σ[j]? = some oj → Foot e oi a → Foot f oj a → False
def del (p : Option Addr) (H : Hp) : Hp := fun a => if p = some a then none else H a
theorem del_none (H : Hp) : del none H = H := by funext a; unfold del; simp
theorem del_ne {p : Option Addr} {H : Hp} {a : Addr} (h : p ≠ some a) : del p H a = H a := by unfold del; rw [if_neg h]
theorem del_le {p : Option Addr} {H : Hp} {a : Addr} {o : HO} (h : del p H a = some o) : H a = some o ∧ p ≠ some a := by
  unfold del at h
  by_cases q : p = some a
  · rw [if_pos q] at h; cases h
  · rw [if_neg q] at h; exact ⟨h, q⟩
def Step (B G G' : Hp) : Prop := Ex G G' ∧ ∀ a, B a ≠ none → G a = none → G' a = none
theorem Step.refl (B G : Hp) : Step B G G := ⟨Ex.refl G, fun _ _ h => h⟩
theorem Step.trans {B G G1 G2 : Hp} (h : Step B G G1) (k : Step B G1 G2) : Step B G G2 := ⟨h.1.trans k.1, fun a b c => k.2 a b (h.2 a b c)⟩
theorem nn {o : Option HO} {u : HO} (h : o = some u) : o ≠ none := by rw [h]; intro z; cases z
theorem Step.le {B B' G G' : Hp} (h : Step B' G G') (e : ∀ a, B a ≠ none → B' a ≠ none) : Step B G G' := ⟨h.1, fun a b c => h.2 a (e a b) c⟩
/-- from (G, H) on: all but the pot stands; what is new in G' was not there -/
structure Nxt (p : Option Addr) (G H G' H' : Hp) : Prop where
  st : Step H G G'
  ex : Ex (del p H) H'
  gh : Ex G' H'
  pot : ∀ q, p = some q → ∃ a b, H' q = some (.lst [.int a, .int b]) ∧ potOk a b
theorem Nxt.dom {p : Option Addr} {G H G' H' : Hp} (n : Nxt p G H G' H') : ∀ a, H a ≠ none → H' a ≠ none := fun a h => by
  by_cases q : p = some a
  · obtain ⟨x, y, e, _⟩ := n.pot a q
    exact nn e
  · cases e : H a with
    | none => exact absurd e h
    | some o => exact nn (n.ex a o (by rw [del_ne q]; exact e))
theorem Nxt.exd {p : Option Addr} {G H G' H' : Hp} (n : Nxt p G H G' H') : Ex (del p H) (del p H') := fun a o h => by
  obtain ⟨_, q⟩ := del_le h
  rw [del_ne q]
  exact n.ex a o h
theorem Nxt.trans {p : Option Addr} {G H G1 H1 G2 H2 : Hp} (a : Nxt p G H G1 H1) (b : Nxt p G1 H1 G2 H2) : Nxt p G H G2 H2 :=
  ⟨a.st.trans (b.st.le a.dom), a.exd.trans b.ex, b.gh, b.pot⟩
theorem Nxt.refl {p : Option Addr} {B G H : Hp} (i : I3 p B G H) : Nxt p G H G H :=
  ⟨Step.refl _ _, fun a o h => (del_le h).1, i.gh, fun q e => (i.pot q e).2.2⟩
theorem I3.nxt {p : Option Addr} {B G H G' H' : Hp} (i : I3 p B G H) (n : Nxt p G H G' H') : I3 p B G' H' := by
  refine ⟨fun a o h => ?_, n.gh, fun q e => ?_⟩
  · have h1 := i.bh a o h
    by_cases q : p = some a
    · rw [(i.pot a q).1] at h; cases h
    · exact n.ex a o (by rw [del_ne q]; exact h1)
  · obtain ⟨h1, h2, x, y, h3, _⟩ := i.pot q e
    exact ⟨h1, n.st.2 q (nn h3) h2, n.pot q e⟩
/-- a new object, data or not -/
theorem Nxt.new {p : Option Addr} {B G H : Hp} (i : I3 p B G H) {a : Addr} (o : HO) (h : H a = none) : Nxt p G H (upd G a o) (upd H a o) := by
  refine ⟨⟨Ex.new (i.gh.free h), fun b hb hg => ?_⟩, fun b u hu => ?_, i.gh.both, fun q e => ?_⟩
  · have : b ≠ a := fun z => hb (z ▸ h)
    rw [upd_ne this]; exact hg
  · obtain ⟨h1, _⟩ := del_le hu
    rw [upd_ne (ne_of_none h1 h)]; exact h1
  · obtain ⟨_, _, x, y, h3, h4⟩ := i.pot q e
    exact ⟨x, y, by rw [upd_ne (ne_of_none h3 h)]; exact h3, h4⟩
theorem Nxt.newH {p : Option Addr} {B G H : Hp} (i : I3 p B G H) {a : Addr} (o : HO) (h : H a = none) : Nxt p G H G (upd H a o) := by
  refine ⟨Step.refl _ _, fun b u hu => ?_, i.gh.trans (Ex.new h), fun q e => ?_⟩
  · obtain ⟨h1, _⟩ := del_le hu
    rw [upd_ne (ne_of_none h1 h)]; exact h1
  · obtain ⟨_, _, x, y, h3, h4⟩ := i.pot q e
    exact ⟨x, y, by rw [upd_ne (ne_of_none h3 h)]; exact h3, h4⟩
theorem Slot.nxt {K : Fg} {p : Option Addr} {B G H G' H' : Hp} {en : En} {o : Option V} (h : Slot K p B G H en o) (n : Nxt p G H G' H') : Slot K p B G' H' en o := by
  cases en with
  | no => trivial
  | d x => obtain ⟨v, a, b⟩ := h; exact ⟨v, a, dp_ex n.st.1 _ _ b⟩
  | own ds => obtain ⟨l, xs, a, b, c, e, d, f⟩ := h; exact ⟨l, xs, a, b, n.st.2 l (nn d) c, e, n.ex _ _ (by rw [del_ne e]; exact d), dpAll_ex n.st.1 _ _ f⟩
  | own2 as dss =>
    obtain ⟨l, a, ⟨b1, b2, b3⟩, c, d, e, f⟩ := h
    refine ⟨l, a, ⟨b1, n.st.2 l (nn c) b2, b3⟩, n.ex _ _ (by rw [del_ne b3]; exact c), d, e, fun i x ds h1 h2 => ?_⟩
    obtain ⟨⟨k1, k2, k3⟩, xs, k4, k5⟩ := f i x ds h1 h2
    exact ⟨⟨k1, n.st.2 x (nn k4) k2, k3⟩, xs, n.ex _ _ (by rw [del_ne k3]; exact k4), dpAll_ex n.st.1 _ _ k5⟩
  | pot => exact h
  | rng lo hi => obtain ⟨a, b, c, d⟩ := h; exact ⟨a, b, c, n.ex _ _ (by rw [del_ne c]; exact d)⟩
theorem EnvD.nxt {K : Fg} {p : Option Addr} {B G H G' H' : Hp} {σ : L2.St} {δ : De} (h : EnvD K p B G H σ δ) (n : Nxt p G H G' H') : EnvD K p B G' H' σ δ :=
  ⟨h.len, fun i en q => let ⟨o, a, b⟩ := h.slot i en q; ⟨o, a, b.nxt n⟩, h.apart⟩
section
variable {K : Fg} {p : Option Addr} {B G H : Hp} {σ σ' : L2.St} {δ : De}
/-- what a slot may write to is there, and nobody else's -/
theorem foot_of {e : En} {o : Option V} {a : Addr} (h : Slot K p B G H e o) (f : Foot e o a) : Fr p B G a ∧ ∃ xs, H a = some (.lst xs) := by
  cases e with
  | no => rcases f with ⟨z, _⟩ | z <;> cases z
  | d x => rcases f with ⟨z, _⟩ | z <;> cases z
  | pot => rcases f with ⟨z, _⟩ | z <;> cases z
  | rng lo hi => rcases f with ⟨z, _⟩ | z <;> cases z
  | own ds =>
    obtain ⟨l, xs, e1, h1, h2, h3, h4, _⟩ := h
    rcases f with ⟨_, z⟩ | z
    · rw [e1] at z; cases z; exact ⟨⟨h1, h2, h3⟩, xs, h4⟩
    · cases z
  | own2 as dss =>
    obtain ⟨l, e1, h1, h2, _, h5, h6⟩ := h
    rcases f with ⟨_, z⟩ | z
    · rw [e1] at z; cases z; exact ⟨h1, _, h2⟩
    · obtain ⟨i, hi, ei⟩ := List.getElem_of_mem z
      have hi2 : i < dss.length := by rw [← h5]; exact hi
      obtain ⟨k1, xs, k2, _⟩ := h6 i a dss[i] (by rw [← ei]; exact List.getElem?_eq_getElem hi) (List.getElem?_eq_getElem hi2)
      exact ⟨k1, xs, k2⟩
/-- a slot is set -/
theorem EnvD.put (h : EnvD K p B G H σ δ) {i : Nat} {o : Option V} {en : En} (hv : Slot K p B G H en o) (ha : ∀ a, Foot en o a → ∀ (j : Nat) f oj, j ≠ i → δ[j]? = some f → σ[j]? = some oj → Foot f oj a → False) : EnvD K p B G H (σ.set i o) (δ.set i en) := by
  refine ⟨by rw [List.length_set, List.length_set]; exact h.len, fun j e q => ?_, fun j k e f oj ok a hjk q1 q2 r1 r2 f1 f2 => ?_⟩
  · by_cases hj : i = j
    · subst hj
      have hl : i < (δ.set i en).length := (List.getElem?_eq_some_iff.mp q).1
      rw [List.length_set] at hl
      rw [List.getElem?_set_self hl] at q
      cases q
      exact ⟨o, List.getElem?_set_self (by rw [h.len]; exact hl), hv⟩
    · rw [List.getElem?_set_ne hj] at q ⊢
      exact h.slot j e q
  · by_cases hj : i = j
    · subst hj
      have hl : i < (δ.set i en).length := (List.getElem?_eq_some_iff.mp q1).1
      rw [List.length_set] at hl
      rw [List.getElem?_set_self hl] at q1
      rw [List.getElem?_set_self (by rw [h.len]; exact hl)] at r1
      rw [List.getElem?_set_ne hjk] at q2 r2
      cases q1; cases r1
      exact ha a f1 k f ok (Ne.symm hjk) q2 r2 f2
    · by_cases hk : i = k
      · subst hk
        have hl : i < (δ.set i en).length := (List.getElem?_eq_some_iff.mp q2).1
        rw [List.length_set] at hl
        rw [List.getElem?_set_self hl] at q2
        rw [List.getElem?_set_self (by rw [h.len]; exact hl)] at r2
        rw [List.getElem?_set_ne hj] at q1 r1
        cases q2; cases r2
        exact ha a f2 j e oj hjk q1 r1 f1
      · rw [List.getElem?_set_ne hj] at q1 r1
        rw [List.getElem?_set_ne hk] at q2 r2
        exact h.apart j k e f oj ok a hjk q1 q2 r1 r2 f1 f2
theorem foot_no {o : Option V} {a : Addr} (h : Foot .no o a) : False := by rcases h with ⟨z, _⟩ | z <;> cases z
theorem foot_d {x : Dt} {o : Option V} {a : Addr} (h : Foot (.d x) o a) : False := by rcases h with ⟨z, _⟩ | z <;> cases z
theorem foot_pot {o : Option V} {a : Addr} (h : Foot .pot o a) : False := by rcases h with ⟨z, _⟩ | z <;> cases z
theorem EnvD.set (h : EnvD K p B G H σ δ) {i : Nat} {v : V} {x : Dt} (hv : Dz K G v x) : EnvD K p B G H (σ.set i (some v)) (δ.set i (.d x)) :=
  h.put (en := .d x) ⟨v, rfl, hv⟩ fun a z => (foot_d z).elim
theorem EnvD.wipe (h : EnvD K p B G H σ δ) (i : Nat) : EnvD K p B G H (σ.set i none) (δ.set i .no) := h.put (en := .no) (by trivial) fun a z => (foot_no z).elim
/-- a slot takes things that were not there before -/
theorem EnvD.putNew (h : EnvD K p B G H σ δ) {G' H' : Hp} (n : Nxt p G H G' H') {i : Nat} {o : Option V} {en : En} (hv : Slot K p B G' H' en o) (hf : ∀ a, Foot en o a → H a = none) : EnvD K p B G' H' (σ.set i o) (δ.set i en) :=
  (h.nxt n).put hv fun a fa j f oj hj q r fb => by
    obtain ⟨o2, e1, e2⟩ := h.slot j f q
    rw [r] at e1
    cases e1
    obtain ⟨_, xs, hx⟩ := foot_of e2 fb
    rw [hf a fa] at hx
    cases hx
theorem EnvD.putOwn (h : EnvD K p B G H σ δ) (i3 : I3 p B G H) {G' H' : Hp} {l : Addr} {xs : List V} {ds : List Dt} (n : Nxt p G H G' H') (h0 : H l = none) (g : G' l = none) (pl : p ≠ some l) (hl : H' l = some (.lst xs)) (ha : DzAll K G' xs ds) (i : Nat) :
    EnvD K p B G' H' (σ.set i (some (.ref l))) (δ.set i (.own ds)) := h.putNew n (en := .own ds) ⟨l, xs, rfl, i3.bh.free h0, g, pl, hl, ha⟩ fun a fa => by
  rcases fa with ⟨_, z⟩ | z
  · cases z; exact h0
  · cases z
/-- one slot's things are written to, and its reading is another one -/
theorem EnvD.write2 (h : EnvD K p B G H σ δ) {H' : Hp} {i : Nat} {e e' : En} {o : Option V} (hs : δ[i]? = some e) (hσ : σ[i]? = some o) (he : ∀ a, ¬ Foot e o a → H a ≠ none → H' a = H a) (hv : Slot K p B G H' e' o) (hf : ∀ a, Foot e' o a → Foot e o a ∨ ∀ (j : Nat) f oj, j ≠ i → δ[j]? = some f → σ[j]? = some oj → ¬ Foot f oj a) : EnvD K p B G H' σ (δ.set i e') := by
  have hil : i < δ.length := (List.getElem?_eq_some_iff.mp hs).1
  refine ⟨by rw [List.length_set]; exact h.len, fun j f qj => ?_, fun j k e1 f1 oj ok a hjk q1 q2 r1 r2 g1 g2 => ?_⟩
  · by_cases hj : i = j
    · subst hj
      rw [List.getElem?_set_self hil] at qj
      cases qj
      exact ⟨o, hσ, hv⟩
    · rw [List.getElem?_set_ne hj] at qj
      obtain ⟨o2, b1, b2⟩ := h.slot j f qj
      refine ⟨o2, b1, ?_⟩
      have same : ∀ a, Foot f o2 a → H' a = H a := fun a fa => he a (fun fb => h.apart i j e f o o2 a hj hs qj hσ b1 fb fa) (by obtain ⟨_, xs, hx⟩ := foot_of b2 fa; exact nn hx)
      cases f with
      | no => trivial
      | d y => exact b2
      | pot => exact b2
      | rng lo hi =>
        obtain ⟨a, c1, c2, c3⟩ := b2
        obtain ⟨oe, g1, g2⟩ := h.slot i e hs
        rw [hσ] at g1
        cases g1
        refine ⟨a, c1, c2, ?_⟩
        rw [he a (fun fe => by obtain ⟨_, xs, hx⟩ := foot_of g2 fe; rw [c3] at hx; cases hx) (nn c3)]
        exact c3
      | own fs =>
        obtain ⟨l2, zs, c1, c2, c3, c4, c5, c6⟩ := b2
        exact ⟨l2, zs, c1, c2, c3, c4, by rw [same l2 (.inl ⟨trivial, c1⟩)]; exact c5, c6⟩
      | own2 as dss =>
        obtain ⟨l2, c1, c2, c3, c4, c5, c6⟩ := b2
        refine ⟨l2, c1, c2, by rw [same l2 (.inl ⟨trivial, c1⟩)]; exact c3, c4, c5, fun n a ds k1 k2 => ?_⟩
        obtain ⟨m1, xs, m2, m3⟩ := c6 n a ds k1 k2
        exact ⟨m1, xs, by rw [same a (.inr (List.mem_of_getElem? k1))]; exact m2, m3⟩
  · by_cases hj : i = j
    · subst hj
      rw [List.getElem?_set_self hil] at q1
      rw [List.getElem?_set_ne hjk] at q2
      cases q1
      rw [hσ] at r1
      cases r1
      rcases hf a g1 with z | z
      · exact h.apart i k e f1 o ok a hjk hs q2 hσ r2 z g2
      · exact z k f1 ok (Ne.symm hjk) q2 r2 g2
    · rw [List.getElem?_set_ne hj] at q1
      by_cases hk : i = k
      · subst hk
        rw [List.getElem?_set_self hil] at q2
        cases q2
        rw [hσ] at r2
        cases r2
        rcases hf a g2 with z | z
        · exact h.apart j i e1 e oj o a hjk q1 hs r1 hσ g1 z
        · exact z j e1 oj hjk q1 r1 g1
      · rw [List.getElem?_set_ne hk] at q2
        exact h.apart j k e1 f1 oj ok a hjk q1 q2 r1 r2 g1 g2
theorem EnvD.write (h : EnvD K p B G H σ δ) {H' : Hp} {i : Nat} {e e' : En} {o : Option V} (hs : δ[i]? = some e) (hσ : σ[i]? = some o) (he : ∀ a, ¬ Foot e o a → H' a = H a) (hv : Slot K p B G H' e' o) (hf : ∀ a, Foot e' o a → Foot e o a) : EnvD K p B G H' σ (δ.set i e') :=
  h.write2 hs hσ (fun a na _ => he a na) hv fun a fa => .inl (hf a fa)
theorem EnvD.app (h : EnvD K p B G H σ δ) {i : Nat} {l : Addr} {ys : List V} {ds es : List Dt} (hs : δ[i]? = some (.own ds)) (h1 : σ[i]? = some (some (.ref l))) (ha : DzAll K G ys es) : EnvD K p B G (upd H l (.lst ys)) σ (δ.set i (.own es)) := by
  obtain ⟨o, q1, l2, xs, q2, b, g, pp, _, _⟩ := h.slot i _ hs
  rw [h1] at q1
  cases q1
  cases q2
  exact h.write hs h1 (fun a na => upd_ne fun z => na (.inl ⟨trivial, by rw [z]⟩)) (e' := .own es) ⟨l, ys, rfl, b, g, pp, upd_same, ha⟩ fun a fa => by
    rcases fa with ⟨_, z⟩ | z
    · exact .inl ⟨trivial, z⟩
    · cases z
/-- σ may be otherwise where δ says nothing -/
theorem EnvD.other (h : EnvD K p B G H σ δ) (hl : σ'.length = σ.length) (hs : ∀ (i : Nat) en, δ[i]? = some en → en ≠ .no → σ'[i]? = σ[i]?) : EnvD K p B G H σ' δ := by
  refine ⟨by rw [hl]; exact h.len, fun j en q => ?_, fun j k e f oj ok a hjk q1 q2 r1 r2 f1 f2 => ?_⟩
  · obtain ⟨o, a, b⟩ := h.slot j en q
    by_cases hn : en = .no
    · subst hn
      have hj : j < σ'.length := by rw [hl]; exact (List.getElem?_eq_some_iff.mp a).1
      exact ⟨σ'[j], List.getElem?_eq_getElem hj, trivial⟩
    · exact ⟨o, by rw [hs j en q hn]; exact a, b⟩
  · have n1 : e ≠ .no := fun z => by subst z; exact foot_no f1
    have n2 : f ≠ .no := fun z => by subst z; exact foot_no f2
    rw [hs j e q1 n1] at r1
    rw [hs k f q2 n2] at r2
    exact h.apart j k e f oj ok a hjk q1 q2 r1 r2 f1 f2
end
end Dv

set_option linter.all false
set_option maxRecDepth 100000
set_option maxHeartbeats 2000000
namespace Dv
open PySem L2
/-! ### the judgements -/
def rX (K : Fg) (δ : De) (R : Dt → Prop) : TE := fun σ H Q => ∃ p B G, I3 p B G H ∧ EnvD K p B G H σ δ ∧ ∀ v d G' H', R d → Nxt p G H G' H' → Dz K G' v d → Q v H'
def rA (K : Fg) (δ : De) (R : List Dt → Prop) : TA := fun σ H Q => ∃ p B G, I3 p B G H ∧ EnvD K p B G H σ δ ∧ ∀ vs ds G' H', R ds → Nxt p G H G' H' → DzAll K G' vs ds → Q vs H'
def rT (K : Fg) (δ : De) (R : Bool → Prop) : TT := fun σ H Q => ∃ p B G, I3 p B G H ∧ EnvD K p B G H σ δ ∧ ∀ c G' H', R c → Nxt p G H G' H' → Q c H'
def XD (X : Cx) (e : Expr) (δ : De) (R : Dt → Prop) : Prop := PE X e (rX X.K δ R)
structure XA (X : Cx) (es : List Expr) (δ : De) (R : List Dt → Prop) : Prop where
  pa : PA X es (rA X.K δ R)
  pl : starEach es X.env = es.map fun e => (false, eval e X.env)
theorem XA.he {X : Cx} {e : Expr} {es : List Expr} {δ : De} {R : List Dt → Prop} (h : XA X (e :: es) δ R) : starEach (e :: es) X.env = (false, eval e X.env) :: (es.map fun e => (false, eval e X.env)) := h.pl
theorem back_plain {X : Cx} {es : List Expr} {pos : Pos} (h : starEach es X.env = es.map fun e => (false, eval e X.env)) : (backTo pos (starEach es X.env)).any (·.1) = false := by
  rw [h]
  unfold backTo
  rw [List.map_map, List.any_map]
  exact List.any_eq_false.mpr fun e _ => by simp
def XT (X : Cx) (e : Expr) (δ : De) (R : Bool → Prop) : Prop := PT X e (rT X.K δ R)
def XW (X : Cx) (e : Expr) (δ : De) (R : Bool → Prop) : Prop := PW X e (rT X.K δ R)
abbrev PD (X : Cx) (e : Expr) (δ : De) (d : Dt) : Prop := XD X e δ (fun x => x = d)
abbrev PAD (X : Cx) (es : List Expr) (δ : De) (ds : List Dt) : Prop := XA X es δ (fun x => x = ds)
abbrev PTD (X : Cx) (e : Expr) (δ : De) (c : Bool) : Prop := XT X e δ (fun x => x = c)
abbrev PWD (X : Cx) (e : Expr) (δ : De) (c : Bool) : Prop := XW X e δ (fun x => x = c)

theorem PE.imp {X : Cx} {e : Expr} {t t' : TE} (h : PE X e t) (k : ∀ σ H Q, t' σ H Q → t σ H Q) : PE X e t' := ⟨fun pins s σ H Q I q => h.run pins s σ H Q I (k σ H Q q)⟩
theorem PA.imp {X : Cx} {e : List Expr} {t t' : TA} (h : PA X e t) (k : ∀ σ H Q, t' σ H Q → t σ H Q) : PA X e t' := ⟨fun pos pins s σ H Q I q => h.run pos pins s σ H Q I (k σ H Q q)⟩
theorem PT.imp {X : Cx} {e : Expr} {t t' : TT} (h : PT X e t) (k : ∀ σ H Q, t' σ H Q → t σ H Q) : PT X e t' := ⟨fun pins s σ H Q I q => h.run pins s σ H Q I (k σ H Q q)⟩
theorem PW.imp {X : Cx} {e : Expr} {t t' : TT} (h : PW X e t) (k : ∀ σ H Q, t' σ H Q → t σ H Q) : PW X e t' := ⟨fun w pins s σ H Q I q => h.run w pins s σ H Q I (k σ H Q q)⟩
theorem PS.imp {X : Cx} {e : Stmt} {t t' : TS} (h : PS X e t) (k : ∀ D σ H, t' D σ H → t D σ H) : PS X e t' := ⟨fun pins s σ H Q I q => h.run pins s σ H Q I (k Q σ H q)⟩
theorem PSs.imp {X : Cx} {e : List Stmt} {t t' : TS} (h : PSs X e t) (k : ∀ D σ H, t' D σ H → t D σ H) : PSs X e t' := ⟨fun pins s σ H Q I q => h.run pins s σ H Q I (k Q σ H q)⟩
section
variable {X : Cx} {a b c e : Expr} {es : List Expr} {δ : De} {pos : Pos} {R U1 U2 : Dt → Prop} {d x y : Dt} {ds : List Dt}
theorem XD.mono (h : XD X e δ U1) (k : ∀ d, U1 d → R d) : XD X e δ R := PE.imp h fun σ H Q ⟨p, B, G, i, en, q⟩ => ⟨p, B, G, i, en, fun v d G' H' r => q v d G' H' (k d r)⟩
theorem XT.mono {U1 R : Bool → Prop} (h : XT X e δ U1) (k : ∀ d, U1 d → R d) : XT X e δ R := PT.imp h fun σ H Q ⟨p, B, G, i, en, q⟩ => ⟨p, B, G, i, en, fun c G' H' r => q c G' H' (k c r)⟩
theorem XA.mono {U1 R : List Dt → Prop} (h : XA X es δ U1) (k : ∀ d, U1 d → R d) : XA X es δ R := ⟨PA.imp h.pa fun σ H Q ⟨p, B, G, i, en, q⟩ => ⟨p, B, G, i, en, fun v d G' H' r => q v d G' H' (k d r)⟩, h.pl⟩
theorem PD.is (h : PD X e δ x) (k : x = d) : PD X e δ d := k ▸ h
theorem pd_v (i : Nat) {x : Str} (hs : δ[i]? = some (.d d) := by rfl) (hN : X.N[i]? = some x := by rfl) (hv : Vis X.env.scope x := by first | exact Or.inl rfl | exact Or.inr (Or.inl rfl) | exact Or.inr (Or.inr rfl)) (hd : (x == ("__debug__" : Str)) = false := by decide)
    (hcd : (x == ("__classdict__" : Str)) = false := by decide) : PD X (.Name x pos) δ d := PE.imp (pe_var hN hv hd hcd) fun σ H Q ⟨p, B, G, i3, en, q⟩ => by
  obtain ⟨o, h1, v, rfl, h2⟩ := en.slot i _ hs
  exact ⟨v, h1, q v d G H rfl (.refl i3) h2⟩
theorem pd_int {i : Int} {j} : PD X (.Constant (.int i) j pos) δ (.int i) := PE.imp pe_int fun σ H Q ⟨p, B, G, i3, en, q⟩ => q _ _ G H rfl (.refl i3) (.int i)
theorem pd_bl {i : Bool} {j} : PD X (.Constant (.bool i) j pos) δ (.bool i) := PE.imp pe_bl fun σ H Q ⟨p, B, G, i3, en, q⟩ => q _ _ G H rfl (.refl i3) (.bl i)
theorem pd_str {i : Str} {j} : PD X (.Constant (.str i) j pos) δ (.str i) := PE.imp pe_str fun σ H Q ⟨p, B, G, i3, en, q⟩ => q _ _ G H rfl (.refl i3) (.str i)
theorem pd_non {j} : PD X (.Constant .none j pos) δ .none := PE.imp pe_non fun σ H Q ⟨p, B, G, i3, en, q⟩ => q _ _ G H rfl (.refl i3) .non
/-- a constant of the module -/
theorem pd_glob {x : Str} {v : V} {u : Value} (hg : Gl X x) (hm : X.mg x = some u) (r : RelV v u) (hv : ∀ G, Dz X.K G v d) (hd : (x == ("__debug__" : Str)) = false := by decide) : PD X (.Name x pos) δ d :=
  PE.imp (pe_glob hg hm r hd) fun σ H Q ⟨p, B, G, i3, en, q⟩ => q _ _ G H rfl (.refl i3) (hv G)
/-- two in a row -/
theorem two {U1 U2 : Dt → Prop} {K : Fg} {p : Option Addr} {B G H : Hp} {σ : L2.St} {Q : V → V → Hp → Prop} (i3 : I3 p B G H) (en : EnvD K p B G H σ δ)
    (k : ∀ v w d1 d2 G' H', U1 d1 → U2 d2 → Nxt p G H G' H' → I3 p B G' H' → Dz K G' v d1 → Dz K G' w d2 → Q v w H') : rX K δ U1 σ H fun v H1 => rX K δ U2 σ H1 fun w H2 => Q v w H2 :=
  ⟨p, B, G, i3, en, fun v d1 G1 H1 r1 n1 h1 => ⟨p, B, G1, i3.nxt n1, en.nxt n1, fun w d2 G2 H2 r2 n2 h2 => k v w d1 d2 G2 H2 r1 r2 (n1.trans n2) (i3.nxt (n1.trans n2)) (dp_ex n2.st.1 _ _ h1) h2⟩⟩
/-- what a relation of two values gives -/
def RD (K : Fg) (r : R2) (x y : Dt) (R : Dt → Prop) : Prop := ∀ p B G H v w, I3 p B G H → Dz K G v x → Dz K G w y → ∀ Q : VK, (∀ u d G' H', R d → Nxt p G H G' H' → Dz K G' u d → Q u H') → r v w H Q
theorem xd_op {op : Operator} {r : R2} (ho : OpR X (binaryOp op) r) (ha : XD X a δ U1) (hb : XD X b δ U2) (hr : ∀ x y, U1 x → U2 y → RD X.K r x y R) : XD X (.BinOp a op b pos) δ R :=
  PE.imp (pe_op ho ha hb) fun σ H Q ⟨p, B, G, i3, en, q⟩ => two i3 en fun v w d1 d2 G' H' r1 r2 n i' h1 h2 => hr d1 d2 r1 r2 p B G' H' v w i' h1 h2 Q fun u d G2 H2 rr n2 hu => q u d G2 H2 rr (n.trans n2) hu
theorem xd_cmp {op : CmpOp} {r : R2} (ho : OpR X (compareOp op) r) (ha : XD X a δ U1) (hb : XD X b δ U2) (hm : behindInMarks op b = false) (hr : ∀ x y, U1 x → U2 y → RD X.K r x y R) : XD X (.Compare a [op] [b] pos) δ R :=
  PE.imp (pe_cmpR ho ha hb hm) fun σ H Q ⟨p, B, G, i3, en, q⟩ => two i3 en fun v w d1 d2 G' H' r1 r2 n i' h1 h2 => hr d1 d2 r1 r2 p B G' H' v w i' h1 h2 Q fun u d G2 H2 rr n2 hu => q u d G2 H2 rr (n.trans n2) hu
theorem xd_ix {r : R2} (ho : IxR X r) (ha : XD X a δ U1) (hb : XD X b δ U2) (hs : PlainIx b) (hr : ∀ x y, U1 x → U2 y → RD X.K r x y R) : XD X (.Subscript a b pos) δ R :=
  PE.imp (pe_ix ho ha hb hs) fun σ H Q ⟨p, B, G, i3, en, q⟩ => two i3 en fun v w d1 d2 G' H' r1 r2 n i' h1 h2 => hr d1 d2 r1 r2 p B G' H' v w i' h1 h2 Q fun u d G2 H2 rr n2 hu => q u d G2 H2 rr (n.trans n2) hu
theorem rd_i {g : Int → Int → Int} {i j : Int} (hR : R (.int (g i j))) {K : Fg} : RD K (rI0 fun i j => .int (g i j)) (.int i) (.int j) R := by
  intro p B G H v w i3 h1 h2 Q q
  cases h1; cases h2
  exact ⟨i, j, rfl, rfl, q _ _ G H hR (.refl i3) (.int _)⟩
theorem rd_b {g : Int → Int → Bool} {i j : Int} (hR : R (.bool (g i j))) {K : Fg} : RD K (rI0 fun i j => .bl (g i j)) (.int i) (.int j) R := by
  intro p B G H v w i3 h1 h2 Q q
  cases h1; cases h2
  exact ⟨i, j, rfl, rfl, q _ _ G H hR (.refl i3) (.bl _)⟩
theorem rd_c {C : Int → Int → Prop} {g : Int → Int → Int} {i j : Int} (hc : C i j) (hR : R (.int (g i j))) {K : Fg} : RD K (rI C fun i j => .int (g i j)) (.int i) (.int j) R := by
  intro p B G H v w i3 h1 h2 Q q
  cases h1; cases h2
  exact ⟨i, j, rfl, rfl, hc, q _ _ G H hR (.refl i3) (.int _)⟩
variable {i j : Int}
theorem pd_add (ha : PD X a δ (.int i)) (hb : PD X b δ (.int j)) : PD X (.BinOp a .Add b pos) δ (.int (i + j)) := xd_op op_add ha hb fun x y e1 e2 => by subst e1; subst e2; (refine rd_i ?_; rfl)
theorem pd_sub (ha : PD X a δ (.int i)) (hb : PD X b δ (.int j)) : PD X (.BinOp a .Sub b pos) δ (.int (i - j)) := xd_op op_sub ha hb fun x y e1 e2 => by subst e1; subst e2; (refine rd_i ?_; rfl)
theorem pd_mul (ha : PD X a δ (.int i)) (hb : PD X b δ (.int j)) (hc : CMul i j) : PD X (.BinOp a .Mult b pos) δ (.int (i * j)) := xd_op op_mul ha hb fun x y e1 e2 => by subst e1; subst e2; (refine rd_c ?_ ?_; exact hc; rfl)
theorem pd_mod (ha : PD X a δ (.int i)) (hb : PD X b δ (.int j)) (hc : 0 < j) : PD X (.BinOp a .Mod b pos) δ (.int (i % j)) := xd_op op_mod ha hb fun x y e1 e2 => by subst e1; subst e2; (refine rd_c ?_ ?_; exact hc; rfl)
theorem pd_fdiv (ha : PD X a δ (.int i)) (hb : PD X b δ (.int j)) (hc : CDiv i j) : PD X (.BinOp a .FloorDiv b pos) δ (.int (i / j)) := xd_op op_fdiv ha hb fun x y e1 e2 => by subst e1; subst e2; (refine rd_c ?_ ?_; exact hc; rfl)
theorem pd_pow (ha : PD X a δ (.int i)) (hb : PD X b δ (.int j)) (hc : CPow i j) : PD X (.BinOp a .Pow b pos) δ (.int (i ^ j.toNat)) := xd_op op_pow ha hb fun x y e1 e2 => by subst e1; subst e2; (refine rd_c ?_ ?_; exact hc; rfl)
theorem pd_lt (ha : PD X a δ (.int i)) (hb : PD X b δ (.int j)) : PD X (.Compare a [.Lt] [b] pos) δ (.bool (decide (i < j))) := xd_cmp op_lt ha hb (nomark _) fun x y e1 e2 => by subst e1; subst e2; (refine rd_b ?_; rfl)
theorem pd_le (ha : PD X a δ (.int i)) (hb : PD X b δ (.int j)) : PD X (.Compare a [.LtE] [b] pos) δ (.bool (decide (i ≤ j))) := xd_cmp op_le ha hb (nomark _) fun x y e1 e2 => by subst e1; subst e2; (refine rd_b ?_; rfl)
theorem pd_gt (ha : PD X a δ (.int i)) (hb : PD X b δ (.int j)) : PD X (.Compare a [.Gt] [b] pos) δ (.bool (decide (j < i))) := xd_cmp op_gt ha hb (nomark _) fun x y e1 e2 => by subst e1; subst e2; (refine rd_b ?_; rfl)
theorem pd_ge (ha : PD X a δ (.int i)) (hb : PD X b δ (.int j)) : PD X (.Compare a [.GtE] [b] pos) δ (.bool (decide (j ≤ i))) := xd_cmp op_ge ha hb (nomark _) fun x y e1 e2 => by subst e1; subst e2; (refine rd_b ?_; rfl)
theorem pd_eqI (ha : PD X a δ (.int i)) (hb : PD X b δ (.int j)) : PD X (.Compare a [.Eq] [b] pos) δ (.bool (decide (i = j))) := xd_cmp op_eq ha hb (nomark _) fun x y e1 e2 => by
  subst e1; subst e2
  intro p B G H v w i3 h1 h2 Q q
  cases h1; cases h2
  refine ⟨rfl, q _ _ G H rfl (.refl i3) ?_⟩
  have : decide (V.int i = V.int j) = decide (i = j) := by rw [dec_int]; rfl
  rw [this]; exact .bl _
theorem pd_neI (ha : PD X a δ (.int i)) (hb : PD X b δ (.int j)) : PD X (.Compare a [.NotEq] [b] pos) δ (.bool (!decide (i = j))) := xd_cmp op_ne ha hb (nomark _) fun x y e1 e2 => by
  subst e1; subst e2
  intro p B G H v w i3 h1 h2 Q q
  cases h1; cases h2
  refine ⟨rfl, q _ _ G H rfl (.refl i3) ?_⟩
  have : decide (V.int i = V.int j) = decide (i = j) := by rw [dec_int]; rfl
  rw [this]; exact .bl _
theorem pd_eqS {i j : Str} (ha : PD X a δ (.str i)) (hb : PD X b δ (.str j)) : PD X (.Compare a [.Eq] [b] pos) δ (.bool (decide (i = j))) := xd_cmp op_eq ha hb (nomark _) fun x y e1 e2 => by
  subst e1; subst e2
  intro p B G H v w i3 h1 h2 Q q
  cases h1; cases h2
  refine ⟨rfl, q _ _ G H rfl (.refl i3) ?_⟩
  have : decide (V.str i = V.str j) = decide (i = j) := by by_cases h : i = j <;> simp [h]
  rw [this]; exact .bl _
theorem pd_neS {i j : Str} (ha : PD X a δ (.str i)) (hb : PD X b δ (.str j)) : PD X (.Compare a [.NotEq] [b] pos) δ (.bool (!decide (i = j))) := xd_cmp op_ne ha hb (nomark _) fun x y e1 e2 => by
  subst e1; subst e2
  intro p B G H v w i3 h1 h2 Q q
  cases h1; cases h2
  refine ⟨rfl, q _ _ G H rfl (.refl i3) ?_⟩
  have : decide (V.str i = V.str j) = decide (i = j) := by by_cases h : i = j <;> simp [h]
  rw [this]; exact .bl _
theorem pd_eqB {i j : Bool} (ha : PD X a δ (.bool i)) (hb : PD X b δ (.bool j)) : PD X (.Compare a [.Eq] [b] pos) δ (.bool (decide (i = j))) := xd_cmp op_eq ha hb (nomark _) fun x y e1 e2 => by
  subst e1; subst e2
  intro p B G H v w i3 h1 h2 Q q
  cases h1; cases h2
  refine ⟨rfl, q _ _ G H rfl (.refl i3) ?_⟩
  have : decide (V.bl i = V.bl j) = decide (i = j) := by by_cases h : i = j <;> simp [h]
  rw [this]; exact .bl _
theorem pd_neB {i j : Bool} (ha : PD X a δ (.bool i)) (hb : PD X b δ (.bool j)) : PD X (.Compare a [.NotEq] [b] pos) δ (.bool (!decide (i = j))) := xd_cmp op_ne ha hb (nomark _) fun x y e1 e2 => by
  subst e1; subst e2
  intro p B G H v w i3 h1 h2 Q q
  cases h1; cases h2
  refine ⟨rfl, q _ _ G H rfl (.refl i3) ?_⟩
  have : decide (V.bl i = V.bl j) = decide (i = j) := by by_cases h : i = j <;> simp [h]
  rw [this]; exact .bl _
/-- == and != of data -/
theorem pd_eqD (hu : X.A.units + 64 < cLine) (ha : PD X a δ x) (hb : PD X b δ y) (hx : SeqAt.shaped x = true) (hy : SeqAt.shaped y = true) : PD X (.Compare a [.Eq] [b] pos) δ (.bool (PyData.eqv x y)) := xd_cmp (op_eqD hu) ha hb (nomark _) fun x y e1 e2 => by
  subst e1; subst e2
  intro p B G H v w i3 h1 h2 Q q
  exact ⟨_, _, dz_dp _ _ (nds hx) (dp_ex i3.gh _ _ h1), dz_dp _ _ (nds hy) (dp_ex i3.gh _ _ h2), hx, hy, q _ _ G H rfl (.refl i3) (.bl _)⟩
theorem pd_neD (hu : X.A.units + 64 < cLine) (ha : PD X a δ x) (hb : PD X b δ y) (hx : SeqAt.shaped x = true) (hy : SeqAt.shaped y = true) : PD X (.Compare a [.NotEq] [b] pos) δ (.bool (!PyData.eqv x y)) := xd_cmp (op_neD hu) ha hb (nomark _) fun x y e1 e2 => by
  subst e1; subst e2
  intro p B G H v w i3 h1 h2 Q q
  exact ⟨_, _, dz_dp _ _ (nds hx) (dp_ex i3.gh _ _ h1), dz_dp _ _ (nds hy) (dp_ex i3.gh _ _ h2), hx, hy, q _ _ G H rfl (.refl i3) (.bl _)⟩
theorem pd_isN {c : Bool} (ha : PD X a δ x) (hb : PD X b δ .none) (hc : c = (match x with | .none => true | _ => false) := by rfl) : PD X (.Compare a [.Is] [b] pos) δ (.bool c) := xd_cmp op_isN ha hb (nomark _) fun x y e1 e2 => by
  subst e1; subst e2
  intro p B G H v w i3 h1 h2 Q q
  cases h2
  refine ⟨rfl, q _ _ G H rfl (.refl i3) ?_⟩
  subst hc
  cases h1 <;> exact .bl _
theorem pd_notN {c : Bool} (ha : PD X a δ x) (hb : PD X b δ .none) (hc : c = (match x with | .none => false | _ => true) := by rfl) : PD X (.Compare a [.IsNot] [b] pos) δ (.bool c) := xd_cmp op_notN ha hb (nomark _) fun x y e1 e2 => by
  subst e1; subst e2
  intro p B G H v w i3 h1 h2 Q q
  cases h2
  refine ⟨rfl, q _ _ G H rfl (.refl i3) ?_⟩
  subst hc
  cases h1 <;> exact .bl _
/-! places -/
theorem atI_all {K : Fg} {G : Hp} {xs : List V} {ds : List Dt} {i : Int} {d : Dt} (h : DzAll K G xs ds) (e : atI ds i = some d) : ∃ v, atI xs i = some v ∧ Dz K G v d := by
  unfold atI at e ⊢
  rw [← dpAll_length h] at e
  cases q : ixN xs.length i with
  | none => rw [q] at e; cases e
  | some j => rw [q] at e; exact dpAll_get h e
theorem rd_ixT {K : Fg} {i : Int} (h : ∃ d, atI ds i = some d ∧ R d) : RD K (rIxT K) (.tuple ds) (.int i) R := by
  intro p B G H v w i3 h1 h2 Q q
  cases h2
  cases h1 with
  | tup hs ha =>
    obtain ⟨d, e, hR⟩ := h
    obtain ⟨u, e1, e2⟩ := atI_all ha e
    exact ⟨_, _, i, u, rfl, rfl, ex_t i3.gh hs, e1, q u d G H hR (.refl i3) e2⟩
theorem rd_ixL {K : Fg} {i : Int} (h : ∃ d, atI ds i = some d ∧ R d) : RD K (rIxL K) (.list ds) (.int i) R := by
  intro p B G H v w i3 h1 h2 Q q
  cases h2
  cases h1 with
  | lst hs ha =>
    obtain ⟨d, e, hR⟩ := h
    obtain ⟨u, e1, e2⟩ := atI_all ha e
    exact ⟨_, _, i, u, rfl, rfl, exl i3.gh hs, e1, q u d G H hR (.refl i3) e2⟩
theorem pd_ixT (ha : PD X a δ (.tuple ds)) (hb : PD X b δ (.int i)) (h : atI ds i = some d) (hs : PlainIx b := by exact fun _ _ => rfl) : PD X (.Subscript a b pos) δ d := xd_ix ix_tup ha hb hs fun x y e1 e2 => by subst e1; subst e2; exact rd_ixT ⟨d, h, rfl⟩
theorem pd_ixL (ha : PD X a δ (.list ds)) (hb : PD X b δ (.int i)) (h : atI ds i = some d) (hs : PlainIx b := by exact fun _ _ => rfl) : PD X (.Subscript a b pos) δ d := xd_ix ix_list ha hb hs fun x y e1 e2 => by subst e1; subst e2; exact rd_ixL ⟨d, h, rfl⟩
/-! bool values, conditional expressions -/
theorem pd_not {c : Bool} (ha : PD X a δ (.bool c)) : PD X (.UnaryOp .Not a pos) δ (.bool (!c)) := PE.imp (pe_not ha) fun σ H Q ⟨p, B, G, i3, en, q⟩ => ⟨p, B, G, i3, en, fun v d G' H' r n h => by
  subst r; cases h; exact ⟨c, rfl, q _ _ G' H' rfl n (.bl _)⟩⟩
theorem pd_one {op} (h : XD X a δ R) : XD X (.BoolOp op [a] pos) δ R := pe_one h
theorem pd_and {rest : List Expr} {u w : Bool} (ha : PD X a δ (.bool u)) (hb : u = true → PD X (.BoolOp .And (b :: rest) pos) δ (.bool w)) : PD X (.BoolOp .And (a :: b :: rest) pos) δ (.bool (u && w)) := by
  cases u with
  | true => exact PE.imp (pe_and ha (hb rfl)) fun σ H Q ⟨p, B, G, i3, en, q⟩ => ⟨p, B, G, i3, en, fun v d G' H' r n h => by
      subst r; cases h
      exact ⟨true, rfl, iteT ⟨p, B, G', i3.nxt n, en.nxt n, fun v2 d2 G2 H2 r2 n2 h2 => by subst r2; exact q v2 _ G2 H2 rfl (n.trans n2) h2⟩⟩⟩
  | false =>
    have hz : PE X (.BoolOp .And (b :: rest) pos) (fun _ _ _ => False) := ⟨fun _ _ _ _ _ _ z => z.elim⟩
    exact PE.imp (pe_and ha hz) fun σ H Q ⟨p, B, G, i3, en, q⟩ => ⟨p, B, G, i3, en, fun v d G' H' r n h => by
      subst r; cases h
      exact ⟨false, rfl, iteF (q _ _ G' H' rfl n (.bl _))⟩⟩
theorem pd_or {rest : List Expr} {u w : Bool} (ha : PD X a δ (.bool u)) (hb : u = false → PD X (.BoolOp .Or (b :: rest) pos) δ (.bool w)) : PD X (.BoolOp .Or (a :: b :: rest) pos) δ (.bool (u || w)) := by
  cases u with
  | false => exact PE.imp (pe_or ha (hb rfl)) fun σ H Q ⟨p, B, G, i3, en, q⟩ => ⟨p, B, G, i3, en, fun v d G' H' r n h => by
      subst r; cases h
      exact ⟨false, rfl, iteF ⟨p, B, G', i3.nxt n, en.nxt n, fun v2 d2 G2 H2 r2 n2 h2 => by subst r2; exact q v2 _ G2 H2 rfl (n.trans n2) h2⟩⟩⟩
  | true =>
    have hz : PE X (.BoolOp .Or (b :: rest) pos) (fun _ _ _ => False) := ⟨fun _ _ _ _ _ _ z => z.elim⟩
    exact PE.imp (pe_or ha hz) fun σ H Q ⟨p, B, G, i3, en, q⟩ => ⟨p, B, G, i3, en, fun v d G' H' r n h => by
      subst r; cases h
      exact ⟨true, rfl, iteT (q _ _ G' H' rfl n (.bl _))⟩⟩
/-! tests -/
theorem xt_val {R : Bool → Prop} (h : XD X e δ fun d => ∃ c, d = .bool c ∧ R c) (he : ∀ whole, isTrue e X.env whole = (do let v ← whole; standAt e.pos; holding [v] (truthy v)) := by intro _; rfl) : XT X e δ R := PT.imp (pt_val h he) fun σ H Q ⟨p, B, G, i3, en, q⟩ =>
  ⟨p, B, G, i3, en, fun v d G' H' ⟨c, r, rc⟩ n hv => by subst r; cases hv; exact ⟨c, rfl, q c G' H' rc n⟩⟩
theorem pt_v {u : Bool} (h : PD X e δ (.bool u)) (he : ∀ whole, isTrue e X.env whole = (do let v ← whole; standAt e.pos; holding [v] (truthy v)) := by intro _; rfl) : PTD X e δ u := xt_val (h.mono fun d e => ⟨u, e, rfl⟩) he
theorem xt_cmp {op : CmpOp} {r : R2} {R : Bool → Prop} (ho : OpR X (compareOp op) r) (ha : XD X a δ U1) (hb : XD X b δ U2) (hm : behindInMarks op b = false) (hr : ∀ x y, U1 x → U2 y → RD X.K r x y fun d => ∃ c, d = .bool c ∧ R c) : XT X (.Compare a [op] [b] pos) δ R :=
  PT.imp (pt_cmpR ho ha hb hm) fun σ H Q ⟨p, B, G, i3, en, q⟩ => two i3 en fun v w d1 d2 G' H' r1 r2 n i' h1 h2 => hr d1 d2 r1 r2 p B G' H' v w i' h1 h2 _ fun u d G2 H2 ⟨c, rr, rc⟩ n2 hu => by
    subst rr; cases hu; exact ⟨c, rfl, q c G2 H2 rc (n.trans n2)⟩
theorem xt_not {R : Bool → Prop} (h : XT X e δ fun c => R (!c)) : XT X (.UnaryOp .Not e pos) δ R := PT.imp (pt_not h) fun σ H Q ⟨p, B, G, i3, en, q⟩ => ⟨p, B, G, i3, en, fun c G' H' r n => q _ G' H' r n⟩
theorem pt_n {u : Bool} (h : PTD X e δ u) : PTD X (.UnaryOp .Not e pos) δ (!u) := xt_not (h.mono fun c e => by rw [e])
theorem XW.pt {R : Bool → Prop} (h : XW X e δ R) : XT X e δ R := L2.PW.pt h
theorem pw_a1 {R : Bool → Prop} (h : XT X a δ R) : XW X (.BoolOp .And [a] pos) δ R := pw_and1 h
theorem pw_o1 {R : Bool → Prop} (h : XT X a δ R) : XW X (.BoolOp .Or [a] pos) δ R := pw_or1 h
theorem pw_a {rest : List Expr} {u w : Bool} (ha : PTD X a δ u) (hb : u = true → PWD X (.BoolOp .And (b :: rest) pos) δ w) : PWD X (.BoolOp .And (a :: b :: rest) pos) δ (u && w) := by
  cases u with
  | true => exact PW.imp (pw_and ha (hb rfl)) fun σ H Q ⟨p, B, G, i3, en, q⟩ => ⟨p, B, G, i3, en, fun c G' H' r n => by
      subst r
      exact iteT ⟨p, B, G', i3.nxt n, en.nxt n, fun c2 G2 H2 r2 n2 => by subst r2; exact q _ G2 H2 rfl (n.trans n2)⟩⟩
  | false =>
    have hz : PW X (.BoolOp .And (b :: rest) pos) (fun _ _ _ => False) := ⟨fun _ _ _ _ _ _ _ z => z.elim⟩
    exact PW.imp (pw_and ha hz) fun σ H Q ⟨p, B, G, i3, en, q⟩ => ⟨p, B, G, i3, en, fun c G' H' r n => by
      subst r
      exact iteF (q _ G' H' rfl n)⟩
theorem pw_o {rest : List Expr} {u w : Bool} (ha : PTD X a δ u) (hb : u = false → PWD X (.BoolOp .Or (b :: rest) pos) δ w) : PWD X (.BoolOp .Or (a :: b :: rest) pos) δ (u || w) := by
  cases u with
  | false => exact PW.imp (pw_or ha (hb rfl)) fun σ H Q ⟨p, B, G, i3, en, q⟩ => ⟨p, B, G, i3, en, fun c G' H' r n => by
      subst r
      exact iteF ⟨p, B, G', i3.nxt n, en.nxt n, fun c2 G2 H2 r2 n2 => by subst r2; exact q _ G2 H2 rfl (n.trans n2)⟩⟩
  | true =>
    have hz : PW X (.BoolOp .Or (b :: rest) pos) (fun _ _ _ => False) := ⟨fun _ _ _ _ _ _ _ z => z.elim⟩
    exact PW.imp (pw_or ha hz) fun σ H Q ⟨p, B, G, i3, en, q⟩ => ⟨p, B, G, i3, en, fun c G' H' r n => by
      subst r
      exact iteT (q _ G' H' rfl n)⟩
/-- conditional expressions -/
theorem xd_if {S : Bool → Prop} (hc : XT X c δ S) (ha : S true → XD X a δ R) (hb : S false → XD X b δ R) : XD X (.IfExp c a b pos) δ R := by
  have za : PE X a (fun σ H Q => S true ∧ rX X.K δ R σ H Q) := ⟨fun pins s σ H Q I h => (ha h.1).run pins s σ H Q I h.2⟩
  have zb : PE X b (fun σ H Q => S false ∧ rX X.K δ R σ H Q) := ⟨fun pins s σ H Q I h => (hb h.1).run pins s σ H Q I h.2⟩
  exact PE.imp (pe_ifExp hc za zb) fun σ H Q ⟨p, B, G, i3, en, q⟩ => ⟨p, B, G, i3, en, fun k G' H' r n => by
    cases k with
    | true => exact iteT ⟨r, p, B, G', i3.nxt n, en.nxt n, fun v d G2 H2 r2 n2 h2 => q v d G2 H2 r2 (n.trans n2) h2⟩
    | false => exact iteF ⟨r, p, B, G', i3.nxt n, en.nxt n, fun v d G2 H2 r2 n2 h2 => q v d G2 H2 r2 (n.trans n2) h2⟩⟩
theorem pd_if {k : Bool} (hc : PTD X c δ k) (ha : k = true → PD X a δ d) (hb : k = false → PD X b δ d) : PD X (.IfExp c a b pos) δ d := xd_if hc (fun h => ha h.symm) fun h => hb h.symm
/-! argument lists, displays -/
theorem xa_nil : XA X [] δ (fun ds => ds = []) := ⟨PA.imp pa_nil fun σ H Q ⟨p, B, G, i3, en, q⟩ => q [] [] G H rfl (.refl i3) .nil, rfl⟩
theorem xa_cons {S T : List Dt → Prop} (ha : XD X e δ R) (hr : XA X es δ S) (hT : ∀ d ds, R d → S ds → T (d :: ds)) (hs : starEach (e :: es) X.env = (false, eval e X.env) :: starEach es X.env := by rfl) : XA X (e :: es) δ T :=
  ⟨PA.imp (pa_cons ha hr.pa hs) fun σ H Q ⟨p, B, G, i3, en, q⟩ => ⟨p, B, G, i3, en, fun v d G1 H1 r1 n1 h1 => ⟨p, B, G1, i3.nxt n1, en.nxt n1, fun vs ds G2 H2 r2 n2 h2 => q (v :: vs) (d :: ds) G2 H2 (hT d ds r1 r2) (n1.trans n2) (.cons (dp_ex n2.st.1 _ _ h1) h2)⟩⟩, by rw [hs, hr.pl]; rfl⟩
theorem pa_n : PAD X [] δ [] := xa_nil
theorem pa_c (ha : PD X e δ d) (hr : PAD X es δ ds) (hs : starEach (e :: es) X.env = (false, eval e X.env) :: starEach es X.env := by rfl) : PAD X (e :: es) δ (d :: ds) := xa_cons ha hr (fun a b h1 h2 => by rw [h1, h2]) hs
theorem xd_tup {S : List Dt → Prop} {k} (h : XA X es δ S) (hl : es.length ≤ 1000) (hS : ∀ ds, S ds → R (.tuple ds) ∧ ds.length ≤ 100000) : XD X (.Tuple es k pos) δ R := PE.imp (pe_tup h.pa) fun σ H Q ⟨p, B, G, i3, en, q⟩ => ⟨p, B, G, i3, en, fun vs ds G' H' r n h' =>
  ⟨by rw [dpAll_length h']; exact Nat.le_trans (hS ds r).2 (by decide), fun a ha => q (.ref a) _ _ _ (hS ds r).1 (n.trans (.new (i3.nxt n) (.tup vs) ha)) (.tup (.inl (.inl upd_same)) (dpAll_ex (Ex.new ((i3.nxt n).gh.free ha)) _ _ h'))⟩⟩
theorem xd_lst {S : List Dt → Prop} (h : XA X es δ S) (hS : ∀ ds, S ds → R (.list ds) ∧ ds.length ≤ 100000) : XD X (.List es pos) δ R := PE.imp (pe_lst h.pa) fun σ H Q ⟨p, B, G, i3, en, q⟩ => ⟨p, B, G, i3, en, fun vs ds G' H' r n h' =>
  ⟨by rw [dpAll_length h']; exact Nat.le_trans (hS ds r).2 (by decide), fun a ha => q (.ref a) _ _ _ (hS ds r).1 (n.trans (.new (i3.nxt n) (.lst vs) ha)) (.lst (.inl (.inl upd_same)) (dpAll_ex (Ex.new ((i3.nxt n).gh.free ha)) _ _ h'))⟩⟩
theorem pd_tup {k} (h : PAD X es δ ds) (hl : ds.length ≤ 100000 := by first | decide | simp) : PD X (.Tuple es k pos) δ (.tuple ds) := PE.imp (pe_tup h.pa) fun σ H Q ⟨p, B, G, i3, en, q⟩ => ⟨p, B, G, i3, en, fun vs ds G' H' r n h' =>
  ⟨by rw [dpAll_length h', r]; exact Nat.le_trans hl (by decide), fun a ha => q (.ref a) _ _ _ (by rw [r]) (n.trans (.new (i3.nxt n) (.tup vs) ha)) (.tup (.inl (.inl upd_same)) (dpAll_ex (Ex.new ((i3.nxt n).gh.free ha)) _ _ h'))⟩⟩
theorem pd_lst (h : PAD X es δ ds) (hl : ds.length ≤ 100000 := by first | decide | simp) : PD X (.List es pos) δ (.list ds) := xd_lst h fun ds' e => by subst e; exact ⟨rfl, hl⟩
end
end Dv

set_option linter.all false
set_option maxRecDepth 100000
set_option maxHeartbeats 2000000
namespace Dv
open PySem PySem.Spec PyProof.Rows L2
/-! ### defs, where no repr is under way -/
structure FnG (P : Program) (w : World) (K : Fg) (mg : Str → Option Value) (base : Heap) (k : Nat) (f : Addr) (fd : FuncData) (ps : List Str) (sp : Sp) : Prop where
  len : ∀ vs H Q E, sp vs H Q E → vs.length = ps.length
  run : ∀ (A : Around) (outer : List Env) (s : Shared) (H : Hp) (args : Args) (us : List Value) (vs : List V) (Q : VK) (E : XK),
    Room k A → A.guards = some [] → Env0 P w K mg base A outer s H → BindsTo s fd args (ps.zip us) → Vals vs us → sp vs H Q E →
      codeAny (model P w) A (.call (.ref f) args) (CR CX0 outer P w H s Q E) s
section
variable {P : Program} {w : World} {K : Fg} {mg : Str → Option Value} {base : Heap}
abbrev xc (P : Program) (w : World) (K : Fg) (mg : Str → Option Value) (base : Heap) (N : List Str) (x : Str) (st : Stmt) (f : Addr) (cdv : Value) (A : Around) (outer : List Env) (s : Shared) (H : Hp) (E : XK) : Cx :=
  (cxOf CX0 P w K mg base N x (defScope st) f cdv A outer s H E).nox
theorem fnG_of {x : Str} {st : Stmt} {f : Addr} {fd : FuncData} {N ps : List Str} {k : Nat} {sp : Sp} (F : Fun K x x st f fd) (S : FnScope N ps (defScope st)) (len : ∀ vs H Q E, sp vs H Q E → vs.length = ps.length)
    (body : ∀ (cdv : Value) (A : Around) (outer : List Env) (s : Shared) (H : Hp) (vs : List V) (Q : VK) (E : XK), Room k (A.deeper (envOfC x (defScope st) s.heap.objs.size f cdv)) → A.guards = some [] → sp vs H Q E →
      ∃ t, PSs (xc P w K mg base N x st f cdv A outer s H E) (defBody st) t ∧ t { nx := fun _ H' => Q .non H', rt := Q } (start N vs) H) : FnG P w K mg base (k + 1) f fd ps sp := by
  obtain ⟨oc, od, kV, doc, pm, an, cdv, ct, osl, rfl, lk, hcd⟩ := F.ex
  refine ⟨len, fun A outer s H args us vs Q E hr hg e0 hb r hsp => ?_⟩
  have hl := len _ _ _ _ hsp
  have KX : K.In s.heap := e0.mod.kin.keeps fun b o e => (e0.bs b o e).1
  have lim : s.heap.NoLimit := e0.mod.nolimit.keeps fun b o e => (e0.bs b o e).1
  refine codeAny_call_function hr.depth (KX _ _ lk) rfl S.co S.gen rfl (PySem.W.codeRec_of KX hcd) (hb _ _ _ _ ?_)
  refine wpAny_newFunctionEnv_cells S.kind (fun ⟨n, v⟩ hy => ?_) fun env he s1 z => ?_
  · rcases S.par n (List.of_mem_zip hy).1 with q | q
    · exact .inl q
    · exact .inr ⟨q, PySem.W.cellsFrom_some _ _ _ (.inl q)⟩
  · subst he
    refine ⟨lim.keeps z.toInCall.keep, codeAny_func ?_⟩
    obtain ⟨t, ht, hq⟩ := body cdv A outer s H vs Q E (hr.deeper _) hg hsp
    have I : Inv (cxOf CX0 P w K mg base N x (defScope st) f cdv A outer s H E) [] (start N vs) H s1 := inv_start S hr.hd e0 hl r z
    refine wpAny_mono (ht.nox.run [] s1 (start N vs) H _ I hq) (fun fl s' hs => ?_) fun e s' hs => hs
    cases fl with
    | ret u => obtain ⟨v, σ', H', J, rv, q⟩ := hs; exact ⟨v, H', J.os, J.bare, J.base, J.hok, rv, q⟩
    | next => obtain ⟨σ', H', J, q⟩ := hs; exact ⟨V.non, H', J.os, J.bare, J.base, J.hok, rfl, q⟩
    | brk => obtain ⟨_, _, _, q⟩ := hs; exact False.elim q
    | cont => obtain ⟨_, _, _, q⟩ := hs; exact False.elim q
end
section
variable {X : Cx} {k n : Nat} {f : Addr} {fd : FuncData} {ps ks : List Str} {sp : Sp} {x : Str} {p pos : Pos} {e : Expr} {es : List Expr} {t tk : TA} {kws : List Keyword} {g : List Value → List Value → List Value} {gV : List V → List V → List V}
theorem fnG_end {pins : List (Addr × Obj)} {σ : L2.St} {H : Hp} {s s' : Shared} {Q : VK} {E : XK} {r : Result} (I : Inv X pins σ H s) (hq : CR CX0 X.stack X.prog X.w H s Q E r s') : match r with
    | .ok (.ret u) => EP X pins σ Q u s'
    | .ok _ => False
    | .error e => X.xe e s' := by
  cases r with
  | error e => exact False.elim hq
  | ok fl =>
    cases fl with
    | ret u => exact I.after hq
    | next => exact False.elim hq
    | brk => exact False.elim hq
    | cont => exact False.elim hq
theorem run_g {pins : List (Addr × Obj)} {σ : L2.St} {H : Hp} {s : Shared} {Q : VK} {us : List Value} {vs : List V} (F : FnG X.prog X.w X.K X.mg X.base k f fd ps sp) (hr : Room k X.A) (hgd : X.A.guards = some []) (hb : Binds X.K fd ps [])
    (I : Inv X pins σ H s) (r : Vals vs us) (h : sp vs H Q E0) : wpAny (model X.prog X.w) X.A (call (.ref f) us) (EP X pins σ Q) X.xe s := by
  have hl : (us ++ []).length = ps.length := by rw [List.append_nil, ← r.length]; exact F.len _ _ _ _ h
  have hb' := hb s us I.kIn hl
  rw [List.append_nil] at hb'
  refine wpAny_call (codeAny_mono (F.run X.A X.stack s H ⟨us, []⟩ us vs Q E0 hr hgd I.env0 hb' r h) fun r s' hq => ?_)
  have z := fnG_end I hq
  cases r with
  | error e => exact z
  | ok fl => cases fl <;> first | exact z | exact False.elim z
theorem pe_g (F : FnG X.prog X.w X.K X.mg X.base k f fd ps sp) (hr : Room k X.A) (hgd : X.A.guards = some []) (hg : Gl X x) (hm : X.mg x = some (.ref f)) (hk : PySem.W.keepIn X.K (.ref f) = true) (hb : Binds X.K fd ps [])
    (ha : PA X (e :: es) t) (hdb : (x == ("__debug__" : Str)) = false := by decide) (he : starEach (e :: es) X.env = (false, eval e X.env) :: starEach es X.env := by rfl) (hpl : (backTo pos (starEach es X.env)).any (·.1) = false := by rfl) :
    PE X (.Call (.Name x p) (e :: es) [] pos) (fun σ H Q => t σ H fun vs H1 => sp vs H1 Q E0) := by
  refine ⟨fun pins s σ H Q I h => ?_⟩
  refine wpAny_Call_Name_kw (ld_glob I hg hm ?_ hdb)
  refine PySem.W.callWith_K (h₀ := X.base) I.ok.mod.kin hk (thn (ha.run pos pins s σ H _ I h) fun us s1 ⟨vs, H1, I1, r, q⟩ => ⟨I1.kIn, ?_⟩) he hpl
  exact run_g F hr hgd hb I1 r q
theorem pe_g0 (F : FnG X.prog X.w X.K X.mg X.base k f fd ps sp) (hr : Room k X.A) (hgd : X.A.guards = some []) (hg : Gl X x) (hm : X.mg x = some (.ref f)) (hk : PySem.W.keepIn X.K (.ref f) = true) (hb : Binds X.K fd ps [])
    (hdb : (x == ("__debug__" : Str)) = false := by decide) : PE X (.Call (.Name x p) [] [] pos) (fun σ H Q => sp [] H Q E0) := by
  refine ⟨fun pins s σ H Q I h => ?_⟩
  refine wpAny_Call_Name_kw (ld_glob I hg hm ?_ hdb)
  exact PySem.W.callWith_K0 I.kIn hk (run_g (us := []) F hr hgd hb I .nil h)
end
end Dv

set_option linter.all false
set_option maxRecDepth 100000
set_option maxHeartbeats 2000000
namespace Dv
open PySem PySem.Spec PyProof.Rows L2
/-! ### what is walked -/
def Yld (K : Fg) (J : It) (G : Hp) (ds : List Dt) : Prop := ∀ p B G1 H1, Ex G G1 → I3 p B G1 H1 → ∀ i : Nat,
  (i < ds.length → J.go i H1 ∧ ∀ x H2, J.yld i H1 x H2 → ∃ G2 d, ds[i]? = some d ∧ Nxt p G1 H1 G2 H2 ∧ Dz K G2 x d) ∧ (i = ds.length → J.stop i H1)
def rI (K : Fg) (δ : De) (S : List Dt → Prop) : TI := fun σ H R => ∃ p B G, I3 p B G H ∧ EnvD K p B G H σ δ ∧ ∀ J ds G' H', S ds → Nxt p G H G' H' → Yld K J G' ds → R J H'
def XI (X : Cx) (tg e : Expr) (δ : De) (S : List Dt → Prop) : Prop := PI X tg e (rI X.K δ S)
abbrev ID (X : Cx) (tg e : Expr) (δ : De) (ds : List Dt) : Prop := XI X tg e δ (fun x => x = ds)
theorem PI.imp {X : Cx} {tg e : Expr} {t t' : TI} (h : PI X tg e t) (k : ∀ σ H Q, t' σ H Q → t σ H Q) : PI X tg e t' := ⟨fun pins s σ H Q I q => h.run pins s σ H Q I (k σ H Q q)⟩
theorem yld_list {K : Fg} {G : Hp} {a : Addr} {xs : List V} {ds : List Dt} (hs : SqX K G a xs) (ha : DzAll K G xs ds) (inj : ∀ H, Ex G H → ∀ ys, SqL K H a ys → True := by intros; trivial) : Yld K (Itl K a) G ds := by
  intro p B G1 H1 e i3 i
  have h1 : SqL K H1 a xs := exl (e.trans i3.gh) hs
  refine ⟨fun hi => ?_, fun hi => ⟨xs, h1, by rw [dpAll_length ha]; omega⟩⟩
  obtain ⟨v, hv, hd⟩ := dpAll_get (i := i) (d := ds[i]) ha (List.getElem?_eq_getElem hi)
  refine ⟨⟨xs, v, h1, hv⟩, fun x H2 ⟨e2, hx⟩ => ?_⟩
  subst e2
  have := hx xs h1
  rw [hv] at this
  cases this
  exact ⟨G1, ds[i], List.getElem?_eq_getElem hi, .refl i3, dp_ex e _ _ hd⟩
theorem yld_tup {K : Fg} {G : Hp} {a : Addr} {xs : List V} {ds : List Dt} (hs : SqT K G a xs) (ha : DzAll K G xs ds) : Yld K (Itt K a) G ds := by
  intro p B G1 H1 e i3 i
  have h1 : SqT K H1 a xs := ex_t (e.trans i3.gh) hs
  refine ⟨fun hi => ?_, fun hi => ⟨xs, h1, by rw [dpAll_length ha]; omega⟩⟩
  obtain ⟨v, hv, hd⟩ := dpAll_get (i := i) (d := ds[i]) ha (List.getElem?_eq_getElem hi)
  refine ⟨⟨xs, v, h1, hv⟩, fun x H2 ⟨e2, hx⟩ => ?_⟩
  subst e2
  have := hx xs h1
  rw [hv] at this
  cases this
  exact ⟨G1, ds[i], List.getElem?_eq_getElem hi, .refl i3, dp_ex e _ _ hd⟩
def rngD (lo : Int) (n : Nat) : List Dt := (List.range n).map fun i => .int (lo + (i : Nat))
theorem rngD_get {lo : Int} {n i : Nat} (h : i < n) : (rngD lo n)[i]? = some (.int (lo + (i : Nat))) := by
  unfold rngD
  rw [List.getElem?_map, List.getElem?_range h]; rfl
theorem rngD_length {lo : Int} {n : Nat} : (rngD lo n).length = n := by unfold rngD; rw [List.length_map, List.length_range]
theorem yld_rng {K : Fg} {G : Hp} {lo : Int} {n : Nat} : Yld K (Itr lo n) G (rngD lo n) := by
  intro p B G1 H1 e i3 i
  rw [rngD_length]
  refine ⟨fun hi => ⟨hi, fun x H2 ⟨e2, hx⟩ => ?_⟩, fun hi => Nat.le_of_eq hi.symm⟩
  subst e2; subst hx
  exact ⟨G1, _, rngD_get hi, .refl i3, .int _⟩
def enD (ds : List Dt) : List Dt := ds.zipIdx.map fun q => .tuple [.int ((q.2 : Nat) : Int), q.1]
theorem enD_length {ds : List Dt} : (enD ds).length = ds.length := by unfold enD; rw [List.length_map, List.length_zipIdx]
theorem enD_get {ds : List Dt} {i : Nat} {d : Dt} (h : ds[i]? = some d) : (enD ds)[i]? = some (.tuple [.int ((i : Nat) : Int), d]) := by
  unfold enD
  rw [List.getElem?_map, List.getElem?_zipIdx, h]
  simp
theorem yld_enum {K : Fg} {G : Hp} {a : Addr} {xs : List V} {ds : List Dt} (hs : SqX K G a xs) (ha : DzAll K G xs ds) : Yld K (Ite K a) G (enD ds) := by
  intro p B G1 H1 e i3 i
  rw [enD_length]
  have h1 : SqL K H1 a xs := exl (e.trans i3.gh) hs
  refine ⟨fun hi => ?_, fun hi => ⟨xs, h1, by rw [dpAll_length ha]; omega⟩⟩
  obtain ⟨v, hv, hd⟩ := dpAll_get (i := i) (d := ds[i]) ha (List.getElem?_eq_getElem hi)
  refine ⟨⟨xs, v, h1, hv⟩, fun x H2 ⟨T, z, e1, hT, e2, hx⟩ => ?_⟩
  subst e1; subst e2
  have := hx xs h1
  rw [hv] at this
  cases this
  exact ⟨_, _, enD_get (List.getElem?_eq_getElem hi), .new i3 _ hT, .tup (.inl (.inl upd_same)) (.cons (.int _) (.cons (dp_ex (e.trans (Ex.new (i3.gh.free hT))) _ _ hd) .nil))⟩
section
variable {X : Cx} {tg e a b : Expr} {es : List Expr} {δ : De} {ds : List Dt} {p pos tpos : Pos} {S : List Dt → Prop} {R : Dt → Prop}
theorem xi_list (h : XD X e δ fun d => ∃ ds, d = .list ds ∧ S ds) : XI X tg e δ S := PI.imp (pi_list h) fun σ H Q ⟨p, B, G, i3, en, q⟩ => ⟨p, B, G, i3, en, fun v d G' H' ⟨ds, e1, s⟩ n hv => by
  subst e1
  cases hv with
  | lst hs ha => exact ⟨_, rfl, ⟨_, exl n.gh hs⟩, q _ ds G' H' s n (yld_list hs ha)⟩⟩
theorem xi_tup (h : XD X e δ fun d => ∃ ds, d = .tuple ds ∧ S ds) : XI X tg e δ S := PI.imp (pi_tup h) fun σ H Q ⟨p, B, G, i3, en, q⟩ => ⟨p, B, G, i3, en, fun v d G' H' ⟨ds, e1, s⟩ n hv => by
  subst e1
  cases hv with
  | tup hs ha => exact ⟨_, rfl, ⟨_, ex_t n.gh hs⟩, q _ ds G' H' s n (yld_tup hs ha)⟩⟩
theorem i_list (h : PD X e δ (.list ds)) : ID X tg e δ ds := xi_list (h.mono fun d e => ⟨ds, e, rfl⟩)
theorem i_tup (h : PD X e δ (.tuple ds)) : ID X tg e δ ds := xi_tup (h.mono fun d e => ⟨ds, e, rfl⟩)
theorem i_rng1 {j : Int} (h : PAD X [e] δ [.int j]) (hm : X.mg "range" = none) (hj : -(2 ^ 62) ≤ j ∧ j < 2 ^ 62) (hg : Gl X "range" := by rfl) : ID X tg (.Call (.Name "range" p) [e] [] pos) δ (rngD 0 j.toNat) :=
  PI.imp (pi_range1 hg hm h.pa h.pl) fun σ H Q ⟨p, B, G, i3, en, q⟩ => ⟨p, B, G, i3, en, fun v d G' H' r n hv => by
    subst r
    cases hv with
    | cons h1 h2 => cases h2; cases h1; exact ⟨j, rfl, hj.1, hj.2, q _ _ G' H' rfl n yld_rng⟩⟩
theorem i_rng2 {i j : Int} (h : PAD X [a, b] δ [.int i, .int j]) (hm : X.mg "range" = none) (hj : (-(2 ^ 62) ≤ i ∧ i < 2 ^ 62 ∧ -(2 ^ 62) ≤ j ∧ j < 2 ^ 62)) (hg : Gl X "range" := by rfl) (hs2 : starEach [b] X.env = [(false, eval b X.env)] := by rfl) : ID X tg (.Call (.Name "range" p) [a, b] [] pos) δ (rngD i (j - i).toNat) :=
  PI.imp (pi_range2 hg hm h.pa h.pl hs2) fun σ H Q ⟨p, B, G, i3, en, q⟩ => ⟨p, B, G, i3, en, fun v d G' H' r n hv => by
    subst r
    cases hv with
    | cons h1 h2 => cases h2 with
      | cons h2 h3 => cases h3; cases h1; cases h2; exact ⟨i, j, rfl, hj, q _ _ G' H' rfl n yld_rng⟩⟩
theorem i_enum {elts : List Expr} {kk : Nat} (h : PAD X [e] δ [.list ds]) (hm : X.mg "enumerate" = none) (hg : Gl X "enumerate" := by rfl) : ID X (.Tuple elts kk tpos) (.Call (.Name "enumerate" p) [e] [] pos) δ (enD ds) :=
  PI.imp (pi_enum hg hm h.pa h.pl) fun σ H Q ⟨p, B, G, i3, en, q⟩ => ⟨p, B, G, i3, en, fun v d G' H' r n hv => by
    subst r
    cases hv with
    | cons h1 h2 => cases h2; cases h1 with
      | lst hs ha => exact ⟨_, _, rfl, exl n.gh hs, q _ _ G' H' rfl n (yld_enum hs ha)⟩⟩
end

/-! ### targets: js, the slots that are set -/
def rG (K : Fg) (js : List Nat) (d : Dt) (δ δ' : De) : TG := fun v σ H Q => ∃ p B G, I3 p B G H ∧ EnvD K p B G H σ δ ∧ Dz K G v d ∧ ∀ σ', EnvD K p B G H σ' δ' → σ'.length = σ.length ∧ (∀ i, i ∉ js → σ'[i]? = σ[i]?) → Q σ' H
def rGs (K : Fg) (js : List Nat) (ds : List Dt) (δ δ' : De) : TGs := fun vs σ H Q => ∃ p B G, I3 p B G H ∧ EnvD K p B G H σ δ ∧ DzAll K G vs ds ∧ ∀ σ', EnvD K p B G H σ' δ' → σ'.length = σ.length ∧ (∀ i, i ∉ js → σ'[i]? = σ[i]?) → Q σ' H
def TgD (X : Cx) (tg : Expr) (js : List Nat) (d : Dt) (δ δ' : De) : Prop := PG X tg (rG X.K js d δ δ')
def TgsD (X : Cx) (tg : List Expr) (js : List Nat) (d : List Dt) (δ δ' : De) : Prop := PGs X tg (rGs X.K js d δ δ')
theorem PG.imp {X : Cx} {tg : Expr} {t t' : TG} (h : PG X tg t) (k : ∀ v σ H Q, t' v σ H Q → t v σ H Q) : PG X tg t' := ⟨fun pins s σ H v u Q I r q => h.run pins s σ H v u Q I r (k v σ H Q q)⟩
theorem PGs.imp {X : Cx} {tg : List Expr} {t t' : TGs} (h : PGs X tg t) (k : ∀ v σ H Q, t' v σ H Q → t v σ H Q) : PGs X tg t' := ⟨fun pins s σ H v u Q I r q => h.run pins s σ H v u Q I r (k v σ H Q q)⟩
section
variable {X : Cx} {pos : Pos} {δ δ1 δ2 : De} {d : Dt} {ds : List Dt} {js ks : List Nat}
theorem tg_name (i : Nat) {x : Str} (hN : X.N.Nodup) (hi : X.N[i]? = some x := by rfl) (hx : Loc X.env.scope x := by first | exact Or.inl rfl | exact Or.inr rfl) (hf : X.fn x = true ∨ X.env.scope.names.lookup x = some .local := by first | exact .inl rfl | exact .inr rfl | assumption) : TgD X (.Name x pos) [i] d δ (δ.set i (.d d)) :=
  PG.imp (pg_name hN hi hx hf) fun v σ H Q ⟨p, B, G, i3, en, hv, q⟩ => q _ (en.set hv) ⟨by rw [List.length_set], fun j hj => by
    have : i ≠ j := fun e => hj (by simp [e])
    rw [List.getElem?_set_ne this]⟩
theorem tgs_nil : TgsD X [] [] [] δ δ := PGs.imp pgs_nil fun v σ H Q ⟨p, B, G, i3, en, hv, q⟩ => by
  cases hv
  exact ⟨rfl, q σ en ⟨rfl, fun _ _ => rfl⟩⟩
theorem tgs_cons {e : Expr} {es : List Expr} (h1 : TgD X e js d δ δ1) (h2 : TgsD X es ks ds δ1 δ2) (hs : (assignEach (e :: es) X.env).map (·.2) = assign e X.env :: (assignEach es X.env).map (·.2) := by rfl) : TgsD X (e :: es) (js ++ ks) (d :: ds) δ δ2 :=
  PGs.imp (pgs_cons h1 h2 hs) fun v σ H Q ⟨p, B, G, i3, en, hv, q⟩ => by
    cases hv with
    | cons a b =>
      refine ⟨_, _, rfl, p, B, G, i3, en, a, fun σ1 en1 ⟨l1, k1⟩ => ⟨p, B, G, i3, en1, b, fun σ2 en2 ⟨l2, k2⟩ => q σ2 en2 ⟨l2.trans l1, fun i hi => ?_⟩⟩⟩
      rw [List.mem_append, not_or] at hi
      rw [k2 i hi.2, k1 i hi.1]
theorem tg_tup {es : List Expr} {k : Nat} (hc : X.calm = true) (h : TgsD X es js ds δ δ1) (hn : (assignEach es X.env).length = ds.length := by rfl) (hst : (assignEach es X.env).findIdx? (·.1) = none := by rfl) : TgD X (.Tuple es k pos) js (.tuple ds) δ δ1 :=
  PG.imp (pg_tup hc h hn hst) fun v σ H Q ⟨p, B, G, i3, en, hv, q⟩ => by
    cases hv with
    | tup hs ha => exact ⟨_, _, rfl, ex_t i3.gh hs, dpAll_length ha, p, B, G, i3, en, ha, q⟩
end

/-! ### list comprehensions of one clause -/
def wipeD (δ : De) : List Nat → De
  | [] => δ
  | v :: vs => (wipeD δ vs).set v .no
theorem EnvD.wipes {K : Fg} {p : Option Addr} {B G H : Hp} {σ : L2.St} {δ : De} (h : EnvD K p B G H σ δ) : ∀ vs : List Nat, EnvD K p B G H (L2.wipe σ vs) (wipeD δ vs)
  | [] => h
  | v :: vs => (h.wipes vs).wipe v
theorem wipe_in {σ : L2.St} {i : Nat} : ∀ {vs : List Nat}, i ∈ vs → i < σ.length → (wipe σ vs)[i]? = some none
  | v :: vs, h, hl => by
    unfold wipe
    by_cases e : v = i
    · subst e; rw [List.getElem?_set_self (by rw [wipe_length]; exact hl)]
    · rw [List.getElem?_set_ne e]
      exact wipe_in (by rcases List.mem_cons.mp h with z | z; exact absurd z.symm e; exact z) hl
theorem wipe_same {σ σ' : L2.St} {vs : List Nat} (hl : σ'.length = σ.length) (h : ∀ i, i ∉ vs → σ'[i]? = (wipe σ vs)[i]?) : wipe σ' vs = wipe σ vs := by
  refine List.ext_getElem? fun i => ?_
  by_cases hi : i ∈ vs
  · by_cases hb : i < σ.length
    · rw [wipe_in hi hb, wipe_in hi (by rw [hl]; exact hb)]
    · rw [List.getElem?_eq_none (by rw [wipe_length, hl]; omega), List.getElem?_eq_none (by rw [wipe_length]; omega)]
  · rw [wipe_out hi, h i hi]
structure Makes (K : Fg) (p : Option Addr) (G H : Hp) (D : Addr) (out : List Dt → Prop) (n : Nat) (H' : Hp) : Prop where
  ex : ∃ G' acc os, Nxt p G H G' H' ∧ G' D = none ∧ H' D = some (.lst acc) ∧ DzAll K G' acc os ∧ out os ∧ os.length ≤ n
abbrev bX (X : Cx) (sc : Scope) (s : Shared) (H : Hp) (C : Addr) (cl : List (Str × Addr)) (fp : List Addr) : Cx := X.blk s H sc (compEnvC sc cl C X.env) fp
def rPs (K : Fg) (δ : De) (R : Bool → Prop) : TT := rT K δ R
def XPs (X : Cx) (ifs : List Expr) (δ : De) (R : Bool → Prop) : Prop := PTs X ifs (rT X.K δ R)
theorem PTs.imp {X : Cx} {e : List Expr} {t t' : TT} (h : PTs X e t) (k : ∀ σ H Q, t' σ H Q → t σ H Q) : PTs X e t' := ⟨fun pins s σ H Q I q => h.run pins s σ H Q I (k σ H Q q)⟩
section
variable {X : Cx} {elt tg iter : Expr} {ifs : List Expr} {scope : Scope} {own : List (Str × Nat)} {pos : Pos} {δ : De} {S : List Dt → Prop} {R : Dt → Prop}
/-- a comprehension's parts, and what it makes -/
structure Lc (X : Cx) (elt tg iter : Expr) (ifs : List Expr) (scope : Scope) (δ : De) (R : Dt → Prop) : Prop where
  ex : ∃ (own : List (Str × Nat)) (wi : TI) (g : TG) (tt : TT) (te : TE), PI X tg iter wi ∧ BlkOk X.N X.env.scope scope own ∧ (∀ s H C cl fp, PG (bX X scope s H C cl fp) tg g) ∧ (∀ s H C cl fp, PTs (bX X scope s H C cl fp) ifs tt) ∧ (∀ s H C cl fp, PE (bX X scope s H C cl fp) elt te) ∧
    ∀ σ H Q, rX X.K δ R σ H Q → tLc wi g tt te (own.map (·.2)) σ H Q
/-- Iv: what has been made behind so many turns -/
theorem lc_of (hi : XI X tg iter δ S) (ok : BlkOk X.N X.env.scope scope own) (hS : ∀ ds, S ds → ds.length ≤ 100000)
    (Iv : List Dt → Nat → List Dt → Prop) (h0 : ∀ ds, S ds → Iv ds 0 []) (hR : ∀ ds out, S ds → Iv ds ds.length out → R (.list out))
    (δt : Dt → De) (T : List Dt → Nat → Dt → Bool → Prop)
    (hg : ∀ s H C cl fp ds (i : Nat) d, S ds → ds[i]? = some d → TgD (bX X scope s H C cl fp) tg (own.map (·.2)) d (wipeD δ (own.map (·.2))) (δt d))
    (ht : ∀ s H C cl fp ds (i : Nat) d, S ds → ds[i]? = some d → XPs (bX X scope s H C cl fp) ifs (δt d) (T ds i d))
    (hf : ∀ ds (i : Nat) d out, S ds → ds[i]? = some d → T ds i d false → Iv ds i out → Iv ds (i + 1) out)
    (he : ∀ s H C cl fp ds (i : Nat) d, S ds → ds[i]? = some d → T ds i d true → XD (bX X scope s H C cl fp) elt (δt d) fun y => ∀ out, Iv ds i out → Iv ds (i + 1) (out ++ [y])) : Lc X elt tg iter ifs scope δ R := by
  have pg : ∀ s H C cl fp, PG (bX X scope s H C cl fp) tg (fun v σ H Q => ∃ ds, ∃ (i : Nat), ∃ d, S ds ∧ ds[i]? = some d ∧ rG X.K (own.map (·.2)) d (wipeD δ (own.map (·.2))) (δt d) v σ H Q) := fun s H C cl fp =>
    ⟨fun pins s1 σ H1 v u Q I r ⟨ds, i, d, a, b, q⟩ => (hg s H C cl fp ds i d a b).run pins s1 σ H1 v u Q I r q⟩
  have pt : ∀ s H C cl fp, PTs (bX X scope s H C cl fp) ifs (fun σ H Q => ∃ ds, ∃ (i : Nat), ∃ d, S ds ∧ ds[i]? = some d ∧ rT X.K (δt d) (T ds i d) σ H Q) := fun s H C cl fp =>
    ⟨fun pins s1 σ H1 Q I ⟨ds, i, d, a, b, q⟩ => (ht s H C cl fp ds i d a b).run pins s1 σ H1 Q I q⟩
  have pe : ∀ s H C cl fp, PE (bX X scope s H C cl fp) elt (fun σ H Q => ∃ ds, ∃ (i : Nat), ∃ d, S ds ∧ ds[i]? = some d ∧ T ds i d true ∧ rX X.K (δt d) (fun y => ∀ out, Iv ds i out → Iv ds (i + 1) (out ++ [y])) σ H Q) := fun s H C cl fp =>
    ⟨fun pins s1 σ H1 Q I ⟨ds, i, d, a, b, c, q⟩ => (he s H C cl fp ds i d a b c).run pins s1 σ H1 Q I q⟩
  refine ⟨own, _, _, _, _, hi, ok, pg, pt, pe, fun σ H Q ⟨p, B, G, i3, en, q⟩ => ⟨p, B, G, i3, en, fun J ds G1 H1 s n yl Dl hD => ?_⟩⟩
  have i31 := i3.nxt n
  have en1 := en.nxt n
  have gD : G1 Dl = none := i31.gh.free hD
  have pD : p ≠ some Dl := fun z => by
    obtain ⟨_, _, _, _, h3, _⟩ := i31.pot Dl z
    rw [hD] at h3; cases h3
  refine ⟨fun i m H' => m = ds.length - i ∧ i ≤ ds.length ∧ Makes X.K p G1 H1 Dl (Iv ds i) i H', ⟨_, rfl, Nat.zero_le _, ⟨G1, [], [], .newH i31 _ hD, gD, upd_same, .nil, h0 ds s, Nat.le_refl _⟩⟩, ?_⟩
  rintro i m H' ⟨em, hle, ⟨G', acc, os, n', gd, hd, ha, iv, hl⟩⟩
  have i3' := i31.nxt n'
  by_cases hlt : i < ds.length
  · obtain ⟨go, yd⟩ := (yl p B G' H' n'.st.1 i3' i).1 hlt
    refine .inr ⟨go, fun H'' => Makes X.K p G1 H1 Dl (Iv ds (i + 1)) (i + 1) H'', fun H'' k => ⟨_, by omega, rfl, by omega, k⟩, fun x H2 hy => ?_⟩
    obtain ⟨G2, d, e2, n2, hx⟩ := yd x H2 hy
    have n12 := n'.trans n2
    have gd2 : G2 Dl = none := n2.st.2 Dl (nn hd) gd
    have hd2 : H2 Dl = some (.lst acc) := n2.ex Dl _ (by rw [del_ne pD]; exact hd)
    refine ⟨ds, i, d, s, e2, p, B, G2, i31.nxt n12, (en1.nxt n12).wipes _, hx, fun σ2 en2 ⟨ks', ks⟩ => ⟨?_, ds, i, d, s, e2, p, B, G2, i31.nxt n12, en2, fun c G3 H3 hc3 n3 => ?_⟩⟩
    · refine wipe_same ?_ ks
      rw [ks', wipe_length]
    · have n13 := n12.trans n3
      have gd3 : G3 Dl = none := n3.st.2 Dl (nn hd2) gd2
      have hd3 : H3 Dl = some (.lst acc) := n3.ex Dl _ (by rw [del_ne pD]; exact hd2)
      have ha3 := dpAll_ex (n2.st.1.trans n3.st.1) _ _ ha
      cases c with
      | false => exact iteF ⟨G3, acc, os, n13, gd3, hd3, ha3, hf ds i d os s e2 hc3 iv, by omega⟩
      | true =>
        refine iteT ⟨ds, i, d, s, e2, hc3, p, B, G3, i31.nxt n13, en2.nxt n3, fun y dy G4 H4 ry n4 hy4 => ?_⟩
        have n14 := n13.trans n4
        have gd4 : G4 Dl = none := n4.st.2 Dl (nn hd3) gd3
        have hd4 : H4 Dl = some (.lst acc) := n4.ex Dl _ (by rw [del_ne pD]; exact hd3)
        have ha4 := dpAll_ex n4.st.1 _ _ ha3
        refine ⟨acc, hd4, ?_, ⟨G4, acc ++ [y], os ++ [dy], ⟨⟨n14.st.1, n14.st.2⟩, fun a o h => ?_, n14.gh.mut gd4, fun z hz => ?_⟩, gd4, upd_same, dpAll_append ha4 (.cons hy4 .nil), ry os iv, by rw [List.length_append, List.length_singleton]; omega⟩⟩
        · rw [dpAll_length ha4]
          exact Nat.lt_of_le_of_lt (Nat.le_trans hl (Nat.le_trans hle (hS ds s))) (by decide)
        · have : a ≠ Dl := ne_of_none (del_le h).1 hD
          rw [upd_ne this]; exact n14.ex a o h
        · have : z ≠ Dl := fun w => pD (by rw [hz, w])
          rw [upd_ne this]; exact n14.pot z hz
  · have e : i = ds.length := by omega
    subst e
    refine .inl ⟨(yl p B G' H' n'.st.1 i3' _).2 rfl, q (.ref Dl) (.list os) (upd G' Dl (.lst acc)) H' (hR ds os s iv) (n.trans ⟨⟨n'.st.1.mut gD, fun a h1 h2 => ?_⟩, n'.ex, fun a o h => ?_, n'.pot⟩) (.lst (.inl (.inl upd_same)) (dpAll_ex (Ex.new gd) _ _ ha))⟩
    · have : a ≠ Dl := fun z => h1 (z ▸ hD)
      rw [upd_ne this]; exact n'.st.2 a h1 h2
    · by_cases z : a = Dl
      · subst z; rw [upd_same] at h; cases h; exact hd
      · rw [upd_ne z] at h; exact n'.gh a o h
theorem Lc.xd (h : Lc X elt tg iter ifs scope δ R) (hN : X.N.Nodup) (hc : X.calm = true := by rfl) (hs : ∀ x, foldedSetIterable iter X.env x = pure x := by intro _; rfl) : XD X (.ListComp elt [⟨tg, iter, ifs, 0⟩] scope pos) δ R := by
  obtain ⟨own, wi, g, tt, te, a1, a2, a3, a4, a5, a6⟩ := h.ex
  exact PE.imp (pe_lc hc hN a1 a2 a3 a4 a5 hs) a6
end
end Dv

set_option linter.all false
set_option maxRecDepth 100000
set_option maxHeartbeats 2000000
namespace Dv
open PySem PySem.Spec PyProof.Rows L2
/-! ### built-in functions -/
def RC (K : Fg) (r : List V → Hp → VK → Prop) (ds : List Dt) (R : Dt → Prop) : Prop := ∀ p B G H vs, I3 p B G H → DzAll K G vs ds → ∀ Q : VK, (∀ u d G' H', R d → Nxt p G H G' H' → Dz K G' u d → Q u H') → r vs H Q
section
variable {X : Cx} {a b c e : Expr} {es : List Expr} {δ : De} {p pos : Pos} {R : Dt → Prop} {S : List Dt → Prop} {d : Dt} {ds : List Dt} {i j : Int} {x T id : String} {r : List V → Hp → VK → Prop}
theorem xd_cb {x : Str} (hc : CallR X (.builtin id) r) (hg : Gl X x) (hm : X.mg x = none) (hv : bootBuiltins x = some (.builtin id)) (ha : XA X (e :: es) δ S) (hr : ∀ ds, S ds → RC X.K r ds R) (hpl : starEach es X.env = es.map fun e => (false, eval e X.env) := by rfl) (hn : x ≠ "__name__" := by decide) (hdb : (x == ("__debug__" : Str)) = false := by decide) : XD X (.Call (.Name x p) (e :: es) [] pos) δ R :=
  PE.imp (pe_callB hc hg hm hv ha.pa hn hdb (by rw [hpl]; exact ha.pl) (back_plain hpl)) fun σ H Q ⟨p, B, G, i3, en, q⟩ => ⟨p, B, G, i3, en, fun vs ds G' H' s n hv => hr ds s p B G' H' vs (i3.nxt n) hv Q fun u d G2 H2 rr n2 hu => q u d G2 H2 rr (n.trans n2) hu⟩
theorem xd_ct {x : Str} (hc : CallR X (.type T) r) (hg : Gl X x) (hm : X.mg x = none) (hv : bootBuiltins x = some (.type T)) (ha : XA X (e :: es) δ S) (hr : ∀ ds, S ds → RC X.K r ds R) (hpl : starEach es X.env = es.map fun e => (false, eval e X.env) := by rfl) (hn : x ≠ "__name__" := by decide) (hdb : (x == ("__debug__" : Str)) = false := by decide) : XD X (.Call (.Name x p) (e :: es) [] pos) δ R :=
  PE.imp (pe_callTy hc hg hm hv ha.pa hn hdb (by rw [hpl]; exact ha.pl) (back_plain hpl)) fun σ H Q ⟨p, B, G, i3, en, q⟩ => ⟨p, B, G, i3, en, fun vs ds G' H' s n hv => hr ds s p B G' H' vs (i3.nxt n) hv Q fun u d G2 H2 rr n2 hu => q u d G2 H2 rr (n.trans n2) hu⟩
theorem one_of {K : Fg} {G : Hp} {vs : List V} (h : DzAll K G vs [d]) : ∃ v, vs = [v] ∧ Dz K G v d := by
  cases h with
  | cons a b => cases b; exact ⟨_, rfl, a⟩
theorem two_of {K : Fg} {G : Hp} {d d' : Dt} {vs : List V} (h : DzAll K G vs [d, d']) : ∃ v w, vs = [v, w] ∧ Dz K G v d ∧ Dz K G w d' := by
  cases h with
  | cons a b => obtain ⟨w, e, f⟩ := one_of b; exact ⟨_, w, by rw [e], a, f⟩
theorem pd_len_list (hm : X.mg "len" = none) (ha : PAD X [e] δ [.list ds]) (hg : Gl X "len" := by rfl) : PD X (.Call (.Name "len" p) [e] [] pos) δ (.int (ds.length : Int)) :=
  xd_cb call_len_seq hg hm PySem.boot_len ha fun ds' e p B G H vs i3 hv Q q => by
    subst e
    obtain ⟨v, rfl, h⟩ := one_of hv
    cases h with
    | lst hs ha => exact ⟨_, _, rfl, .inl (exl i3.gh hs), q _ _ G H (by rw [dpAll_length ha]) (.refl i3) (.int _)⟩
theorem pd_len_tup (hm : X.mg "len" = none) (ha : PAD X [e] δ [.tuple ds]) (hg : Gl X "len" := by rfl) : PD X (.Call (.Name "len" p) [e] [] pos) δ (.int (ds.length : Int)) :=
  xd_cb call_len_seq hg hm PySem.boot_len ha fun ds' e p B G H vs i3 hv Q q => by
    subst e
    obtain ⟨v, rfl, h⟩ := one_of hv
    cases h with
    | tup hs ha => exact ⟨_, _, rfl, .inr (ex_t i3.gh hs), q _ _ G H (by rw [dpAll_length ha]) (.refl i3) (.int _)⟩
theorem pd_abs (hm : X.mg "abs" = none) (ha : PAD X [e] δ [.int i]) (hg : Gl X "abs" := by rfl) : PD X (.Call (.Name "abs" p) [e] [] pos) δ (.int (if i < 0 then -i else i)) :=
  xd_cb call_abs hg hm (by decide +kernel) ha fun ds' e p B G H vs i3 hv Q q => by
    subst e
    obtain ⟨v, rfl, h⟩ := one_of hv
    cases h
    exact ⟨i, rfl, q _ _ G H rfl (.refl i3) (.int _)⟩
theorem pd_max2 (hc : X.calm = true) (hm : X.mg "max" = none) (ha : PAD X [a, b] δ [.int i, .int j]) (hg : Gl X "max" := by rfl) (hpl : starEach [b] X.env = [(false, eval b X.env)] := by rfl) : PD X (.Call (.Name "max" p) [a, b] [] pos) δ (.int (max i j)) :=
  xd_cb (call_max2 hc) hg hm (by decide +kernel) ha (fun ds' e p B G H vs i3 hv Q q => by
    subst e
    obtain ⟨v, w, rfl, h1, h2⟩ := two_of hv
    cases h1; cases h2
    refine ⟨i, j, rfl, q _ _ G H rfl (.refl i3) ?_⟩
    have : (if j > i then j else i) = max i j := by omega
    rw [this]; exact .int _) (hpl := hpl)
theorem pd_min2 (hc : X.calm = true) (hm : X.mg "min" = none) (ha : PAD X [a, b] δ [.int i, .int j]) (hg : Gl X "min" := by rfl) (hpl : starEach [b] X.env = [(false, eval b X.env)] := by rfl) : PD X (.Call (.Name "min" p) [a, b] [] pos) δ (.int (min i j)) :=
  xd_cb (call_min2 hc) hg hm (by decide +kernel) ha (fun ds' e p B G H vs i3 hv Q q => by
    subst e
    obtain ⟨v, w, rfl, h1, h2⟩ := two_of hv
    cases h1; cases h2
    refine ⟨i, j, rfl, q _ _ G H rfl (.refl i3) ?_⟩
    have : (if j < i then j else i) = min i j := by omega
    rw [this]; exact .int _) (hpl := hpl)
theorem xd_int {S : Int → Prop} (hm : X.mg "int" = none) (ha : XA X [e] δ fun ds => ∃ i, ds = [.int i] ∧ S i) (hg : Gl X "int" := by rfl) : XD X (.Call (.Name "int" p) [e] [] pos) δ fun d => ∃ i, d = .int i ∧ S i :=
  xd_ct call_int1 hg hm (by decide +kernel) ha fun ds' ⟨i, e, s⟩ p B G H vs i3 hv Q q => by
    subst e
    obtain ⟨v, rfl, h⟩ := one_of hv
    cases h
    exact .inl ⟨i, rfl, q _ _ G H ⟨i, rfl, s⟩ (.refl i3) (.int _)⟩
theorem pd_int1 (hm : X.mg "int" = none) (ha : PAD X [e] δ [.int i]) (hg : Gl X "int" := by rfl) : PD X (.Call (.Name "int" p) [e] [] pos) δ (.int i) :=
  (xd_int (S := fun j => j = i) hm (ha.mono fun ds e => ⟨i, e, rfl⟩) hg).mono fun d ⟨j, e, f⟩ => by rw [e, f]
theorem pd_maxL {ns : List Int} {m : Int} (hc : X.calm = true) (hm : X.mg "max" = none) (ha : PAD X [e] δ [.list (ns.map PyData.int)]) (h1 : m ∈ ns) (h2 : ∀ y ∈ ns, y ≤ m) (hg : Gl X "max" := by rfl) : PD X (.Call (.Name "max" p) [e] [] pos) δ (.int m) :=
  xd_cb (cr_max hc) hg hm (by decide +kernel) ha fun ds' e p B G H vs i3 hv Q q => by
    subst e
    obtain ⟨v, rfl, h⟩ := one_of hv
    cases h with
    | lst hs ha =>
      have e := dpAll_ints ha
      subst e
      refine ⟨_, ns, rfl, exl i3.gh hs, List.length_pos_of_mem h1, fun k k1 k2 => q _ _ G H rfl (.refl i3) ?_⟩
      have : k = m := Int.le_antisymm (h2 k k1) (k2 m h1)
      rw [this]; exact .int _
theorem pd_any {bs : List Bool} (hc : X.calm = true) (hm : X.mg "any" = none) (ha : PAD X [e] δ [.list (bs.map PyData.bool)]) (hg : Gl X "any" := by rfl) : PD X (.Call (.Name "any" p) [e] [] pos) δ (.bool (bs.any _root_.id)) :=
  xd_cb (cr_any hc) hg hm (by decide +kernel) ha fun ds' e p B G H vs i3 hv Q q => by
    subst e
    obtain ⟨v, rfl, h⟩ := one_of hv
    cases h with
    | lst hs ha =>
      have e := dpAll_bools ha
      subst e
      exact ⟨_, bs, rfl, exl i3.gh hs, q _ _ G H rfl (.refl i3) (.bl _)⟩
theorem xd_all {S : List Bool → Prop} {R : Bool → Prop} (hc : X.calm = true) (hm : X.mg "all" = none) (ha : XA X [e] δ fun ds => ∃ bs : List Bool, ds = [.list (bs.map PyData.bool)] ∧ S bs) (hR : ∀ bs, S bs → R (bs.all _root_.id)) (hg : Gl X "all" := by rfl) : XD X (.Call (.Name "all" p) [e] [] pos) δ (fun d => ∃ b, d = .bool b ∧ R b) :=
  xd_cb (cr_all hc) hg hm (by decide +kernel) ha fun ds' ⟨bs, e, sb⟩ p B G H vs i3 hv Q q => by
    subst e
    obtain ⟨v, rfl, h⟩ := one_of hv
    cases h with
    | lst hs ha =>
      have e := dpAll_bools ha
      subst e
      exact ⟨_, bs, rfl, exl i3.gh hs, q _ _ G H ⟨_, rfl, hR bs sb⟩ (.refl i3) (.bl _)⟩
theorem pd_all {bs : List Bool} (hc : X.calm = true) (hm : X.mg "all" = none) (ha : PAD X [e] δ [.list (bs.map PyData.bool)]) (hg : Gl X "all" := by rfl) : PD X (.Call (.Name "all" p) [e] [] pos) δ (.bool (bs.all _root_.id)) :=
  (xd_all (S := fun x => x = bs) (R := fun c => c = bs.all _root_.id) hc hm (ha.mono fun ds e => ⟨bs, e, rfl⟩) (fun x e => by rw [e]) hg).mono fun d ⟨b, e, f⟩ => by rw [e, f]
/-- sorted of whole numbers, any number of them -/
def rSortA (K : Fg) : List V → Hp → VK → Prop := fun vs H Q => ∃ (a : Addr) (ns : List Int), vs = [V.ref a] ∧ SqL K H a (ns.map V.int) ∧
  ∀ (ms : List Int) (p : Addr), ms.Perm ns → ms.Pairwise (· ≤ ·) → H p = none → Q (.ref p) (upd H p (.lst (ms.map V.int)))
theorem cr_sortA : CallR X (.builtin "sorted") (rSortA X.K) := by
  intro pins s σ H vs us Q I r h
  obtain ⟨a, ns, rfl, hs, q⟩ := h
  obtain ⟨its, rv, hl, hz⟩ := I.list hs
  rw [Vals.ref1 r]
  have hi := rv.ints
  have hz' : its.length ≤ sizeLine := by rw [← rv.length]; exact hz
  refine PyProof.Rows.sorted_intsAny hl.isList hi hz' fun out ms h1 h2 h3 => ?_
  obtain ⟨ep, he⟩ := PyProof.Rows.sortedAll_at s.heap its out
  have hlen : (ms.map V.int).length ≤ sizeLine := by rw [List.length_map, h2.length_eq, ← List.length_map (f := V.int)]; exact hz
  exact ⟨.ref _, upd H (s.heap.objs.size + 1) (.lst (ms.map V.int)), I.laid (t' := s.toks) (fun _ _ => PyProof.Rows.sortedAll_old) (Nat.le_succ _) ⟨hlen, out.toList, ep, vals_of_ints h1, he⟩, rfl, q ms _ h2 h3 (I.hok.fresh (Nat.le_succ _))⟩
theorem pd_sorted {ns ms : List Int} (hm : X.mg "sorted" = none) (ha : PAD X [e] δ [.list (ns.map PyData.int)]) (hp : ms.Perm ns) (hw : ms.Pairwise (· ≤ ·)) (hg : Gl X "sorted" := by rfl) : PD X (.Call (.Name "sorted" p) [e] [] pos) δ (.list (ms.map PyData.int)) :=
  xd_cb cr_sortA hg hm (by decide +kernel) ha fun ds' e p B G H vs i3 hv Q q => by
    subst e
    obtain ⟨v, rfl, h⟩ := one_of hv
    cases h with
    | lst hs ha =>
      have e := dpAll_ints ha
      subst e
      refine ⟨_, ns, rfl, exl i3.gh hs, fun ks l k1 k2 hl => ?_⟩
      have : ks = ms := List.Perm.eq_of_pairwise (fun a b _ _ h1 h2 => Int.le_antisymm h1 h2) k2 hw (k1.trans hp.symm)
      subst this
      exact q _ _ _ _ rfl (.new i3 _ hl) (.lst (.inl (.inl upd_same)) (dpAll_of_ints ks))
/-- list(..), tuple(..) -/
theorem pd_tuple_of (hm : X.mg "tuple" = none) (ha : PAD X [e] δ [.list ds]) (hg : Gl X "tuple" := by rfl) : PD X (.Call (.Name "tuple" p) [e] [] pos) δ (.tuple ds) :=
  xd_ct call_tuple_of hg hm (by decide +kernel) ha fun ds' e p B G H vs i3 hv Q q => by
    subst e
    obtain ⟨v, rfl, h⟩ := one_of hv
    cases h with
    | lst hs ha => exact ⟨_, _, rfl, .inl ⟨exl i3.gh hs, fun l hl => q _ _ _ _ rfl (.new i3 _ hl) (.tup (.inl (.inl upd_same)) (dpAll_ex (Ex.new (i3.gh.free hl)) _ _ ha))⟩⟩
/-! repr -/
structure OkD (d : Dt) (b k : Nat) : Prop where
  sh : d.leavesShort 40 = true
  ok : d.showable = true
  dp : d.depth ≤ k
  bk : d.bulk ≤ b
theorem OkD.mono {b k b' k' : Nat} (h : OkD d b k) (hb : b ≤ b' := by omega) (hk : k ≤ k' := by omega) : OkD d b' k' := ⟨h.sh, h.ok, Nat.le_trans h.dp hk, Nat.le_trans h.bk hb⟩
theorem okd_bool {c : Bool} : OkD (.bool c) 0 0 := ⟨by simp [PyData.leavesShort], by simp [PyData.showable], by simp [PyData.depth], by simp [PyData.bulk]⟩
theorem okd_none : OkD .none 0 0 := ⟨by simp [PyData.leavesShort], by simp [PyData.showable], by simp [PyData.depth], by simp [PyData.bulk]⟩
theorem okd_int (h : i.natAbs < 10 ^ 38) : OkD (.int i) 0 0 := by
  refine ⟨?_, ?_, by simp [PyData.depth], by simp [PyData.bulk]⟩
  · simp only [PyData.leavesShort, decide_eq_true_eq]
    have e := int_text_length_le10 (k := 38) (by decide) h
    show (Str.ofString (toString i)).length ≤ 40
    rw [PySem.ofString_length]; omega
  · simp only [PyData.showable, decide_eq_true_eq]
    by_cases z : i.natAbs = 0
    · rw [z]; decide
    · have h2 : i.natAbs.log2 < 127 := (Nat.log2_lt z).mpr (Nat.lt_of_lt_of_le h (by decide))
      omega
theorem okd_str {x : Str} (h : (x.cps.toList.all fun c => decide (c < 16 ^ 8)) = true) : OkD (.str x) x.cps.size 0 := ⟨by simpa [PyData.leavesShort] using h, by simp [PyData.showable], by simp [PyData.depth], by simp [PyData.bulk]⟩
theorem okd_all {b k : Nat} : ∀ {ds : List Dt}, (∀ d ∈ ds, OkD d b k) → PyData.leavesShortAll 40 ds = true ∧ PyData.showableAll ds = true ∧ PyData.depthAll ds ≤ k ∧ PyData.bulkAll ds ≤ ds.length * (b + 1)
  | [], _ => ⟨by simp [PyData.leavesShortAll], by simp [PyData.showableAll], by simp [PyData.depthAll], by simp [PyData.bulkAll]⟩
  | d :: ds, h => by
    obtain ⟨h1, h2, h4, h5⟩ := okd_all fun x hx => h x (List.mem_cons_of_mem _ hx)
    have g := h d List.mem_cons_self
    refine ⟨by simp [PyData.leavesShortAll, g.sh, h1], by simp [PyData.showableAll, g.ok, h2], ?_, ?_⟩
    · simp only [PyData.depthAll]; exact Nat.max_le.mpr ⟨g.dp, h4⟩
    · simp only [PyData.bulkAll, List.length_cons]
      have := g.bk
      rw [Nat.add_mul]; omega
theorem okd_list {b k n : Nat} (h : ∀ d ∈ ds, OkD d b k) (hn : ds.length ≤ n := by simp) : OkD (.list ds) (n * (b + 1)) (k + 1) := by
  obtain ⟨h1, h2, h4, h5⟩ := okd_all h
  exact ⟨by simp only [PyData.leavesShort]; exact h1, by simp only [PyData.showable]; exact h2, by simp only [PyData.depth]; omega, by simp only [PyData.bulk]; exact Nat.le_trans h5 (Nat.mul_le_mul_right _ hn)⟩
theorem okd_tuple {b k n : Nat} (h : ∀ d ∈ ds, OkD d b k) (hn : ds.length ≤ n := by simp) : OkD (.tuple ds) (n * (b + 1)) (k + 1) := by
  obtain ⟨h1, h2, h4, h5⟩ := okd_all h
  exact ⟨by simp only [PyData.leavesShort]; exact h1, by simp only [PyData.showable]; exact h2, by simp only [PyData.depth]; omega, by simp only [PyData.bulk]; exact Nat.le_trans h5 (Nat.mul_le_mul_right _ hn)⟩
theorem OkD.fits (h : OkD d 390000 40) : d.shown.length ≤ sizeLine := by
  have h1 := PyData.shown_le_bulk 40 (by decide) d h.sh
  have h2 := h.bk
  rw [sizeLine_eq]
  omega
theorem okd_dict : OkD (.dict []) 0 1 := ⟨by simp [PyData.leavesShort, PyData.leavesShortKv], by simp [PyData.showable, PyData.showableKv], by simp [PyData.depth, PyData.depthKv], by simp [PyData.bulk, PyData.bulkKv]⟩
/-! a reading in which the dicts are empty ones of ours: no other address is asked about -/
mutual
inductive Rx (h : Heap) : Value → PyData → List Addr → Prop
  | non : Rx h .none .none []
  | bl (b : Bool) : Rx h (.bool b) (.bool b) []
  | num (i : Int) (t : Tok) : Rx h (.int i t) (.int i) []
  | txt (x : Str) (t : Tok) : Rx h (.str x t) (.str x) []
  | lst {a : Addr} {o : Obj} {vs : Array Value} {n : Nat} {xs : List PyData} {as : List Addr} : h.get? a = some o → o.cls = .type "list" → o.data = .seq vs n → RxAll h vs.toList xs as → Rx h (.ref a) (.list xs) (a :: as)
  | tup {a : Addr} {o : Obj} {vs : Array Value} {n : Nat} {xs : List PyData} {as : List Addr} : h.get? a = some o → o.cls = .type "tuple" → o.data = .seq vs n → RxAll h vs.toList xs as → Rx h (.ref a) (.tuple xs) as
  | dct {a : Addr} {o : Obj} {es : Array DictEntry} {n : Nat} : h.get? a = some o → o.cls = .type "dict" → o.data = .dict es n → es.toList = [] → (a == sysModules) = false → Rx h (.ref a) (.dict []) [a]
inductive RxAll (h : Heap) : List Value → List PyData → List Addr → Prop
  | nil : RxAll h [] [] []
  | cons {v : Value} {vs : List Value} {d : PyData} {ds : List PyData} {as bs : List Addr} : Rx h v d as → RxAll h vs ds bs → RxAll h (v :: vs) (d :: ds) (as ++ bs)
end
section
variable {prog : Program} {w : World} {h : Heap}
mutual
theorem Rx.rd : ∀ {v : Value} {d : PyData} {as : List Addr}, Rx h v d as → Reads h v d as
  | _, _, _, .non => .none
  | _, _, _, .bl b => .bool b
  | _, _, _, .num i t => .int i t
  | _, _, _, .txt x t => .str x t
  | _, _, _, .lst p q r s => .list p q r s.rd
  | _, _, _, .tup p q r s => .tuple p q r s.rd
  | _, _, _, .dct p q r s _ => .dict (kvs := []) (as := []) (bs := []) p q r (by rw [s]; exact .nil) (by rw [s]; exact .nil)
theorem RxAll.rd : ∀ {vs : List Value} {ds : List PyData} {as : List Addr}, RxAll h vs ds as → ReadsAll h vs ds as
  | _, _, _, .nil => .nil
  | _, _, _, .cons r rs => .cons r.rd rs.rd
end
theorem rx_ents {es : Array DictEntry} {bs : List Addr} {n : Nat} (e : es.toList = []) : ReprEntriesK prog w bs h n es.toList (PyData.shownKv []) := by rw [e]; simp only [PyData.shownKv]; exact .nil
mutual
theorem Rx.sh : ∀ {v : Value} {d : PyData} {as : List Addr}, Rx h v d as → d.showable = true → d.shown.length ≤ sizeLine → ∃ bs, ReadAtMost h d.depth bs ∧ ReprK prog w bs h d.depth v d.shown
  | _, _, _, .non, _, _ => ⟨[], (fun _ z => nomatch z), by simp only [PyData.shown]; exact .of_is .none _ _ _⟩
  | _, _, _, .bl b, _, _ => ⟨[], (fun _ z => nomatch z), by simp only [PyData.shown]; exact .of_is (.bool b) _ _ _⟩
  | _, _, _, .num i t, k, _ => ⟨[], (fun _ z => nomatch z), by simp only [PyData.shown]; exact .of_is (.int t (of_decide_eq_true (by simpa only [PyData.showable] using k))) _ _ _⟩
  | _, _, _, .txt x t, _, z => ⟨[], (fun _ z => nomatch z), by simp only [PyData.shown] at z ⊢; exact .of_is (.str x t z) _ _ _⟩
  | _, _, _, .lst (a := b) (vs := ws) (xs := ys) p q r s, k, z => by
    simp only [PyData.shown] at z
    simp only [PyData.showable] at k
    obtain ⟨cs, u1, u2⟩ := s.sh k fun t m => Nat.le_trans (listText_mem_le m) z
    have rr := (Rx.lst p q r s).rd
    have out := not_mem_of_deeper rr (n := PyData.depthAll ys) (by simp only [PyData.depth]; exact Nat.lt_succ_self _) u1
    refine ⟨b :: cs, .cons rr (n := PyData.depthAll ys) (by simp only [PyData.depth]; exact Nat.le_succ _) u1, ?_⟩
    simp only [PyData.shown, PyData.depth]
    match ws, s, u2, r with
    | ⟨[]⟩, s, _, r => cases s; simp only [PyData.shownAll, listText_nil]; exact .listEmpty p q r
    | ⟨_ :: _⟩, _, u2, r => exact .list p q r out (by simpa using u2.length_eq) fun i y m => u2.item i y (by simpa using m)
  | _, _, _, .tup (a := b) (xs := ys) p q r s, k, z => by
    simp only [PyData.shown] at z
    simp only [PyData.showable] at k
    obtain ⟨cs, u1, u2⟩ := s.sh k fun t m => Nat.le_trans (tupleText_mem_le m) z
    have rr := (Rx.tup p q r s).rd
    have out := not_mem_of_deeper rr (n := PyData.depthAll ys) (by simp only [PyData.depth]; exact Nat.lt_succ_self _) u1
    refine ⟨b :: cs, .cons rr (n := PyData.depthAll ys) (by simp only [PyData.depth]; exact Nat.le_succ _) u1, ?_⟩
    simp only [PyData.shown, PyData.depth]
    exact .tuple p q r out u2
  | _, _, _, .dct (a := b) p q r s y, _, _ => by
    have rr := (Rx.dct p q r s y).rd
    refine ⟨[b], .cons rr (n := 0) (Nat.zero_le _) (fun _ z => nomatch z), ?_⟩
    simp only [PyData.shown, PyData.depth, PyData.depthKv]
    exact .dict p q r y (fun z => nomatch z) (rx_ents s)
theorem RxAll.sh : ∀ {vs : List Value} {ds : List PyData} {as : List Addr}, RxAll h vs ds as → PyData.showableAll ds = true → (∀ t ∈ PyData.shownAll ds, t.length ≤ sizeLine) → ∃ bs, ReadAtMost h (PyData.depthAll ds) bs ∧ ReprAllK prog w bs h (PyData.depthAll ds) vs (PyData.shownAll ds)
  | _, _, _, .nil, _, _ => ⟨[], (fun _ z => nomatch z), by simp only [PyData.shownAll]; exact .nil⟩
  | _, _, _, .cons r rs, k, z => by
    simp only [PyData.showableAll, Bool.and_eq_true] at k
    simp only [PyData.shownAll] at z ⊢
    obtain ⟨c1, u1, v1⟩ := r.sh k.1 (z _ List.mem_cons_self)
    obtain ⟨c2, u2, v2⟩ := rs.sh k.2 fun t m => z t (List.mem_cons_of_mem _ m)
    simp only [PyData.depthAll]
    exact ⟨c1 ++ c2, (u1.mono (Nat.le_max_left _ _)).append (u2.mono (Nat.le_max_right _ _)), .cons ((v1.more fun y m => List.mem_append_left _ m).level_le (Nat.le_max_left _ _)) (v2.more_le (fun y m => List.mem_append_right _ m) (Nat.le_max_right _ _))⟩
end
end
/-- repr of a value that reads as data -/
def rRepr (K : Fg) : List V → Hp → VK → Prop := fun vs H Q => ∃ v d, vs = [v] ∧ Dz K H v d ∧ OkD d 390000 40 ∧ Q (.str d.shown) H
section
variable {pins : List (Addr × Obj)} {σ : L2.St} {H : Hp} {s : Shared}
mutual
theorem dz_rx (I : L2.Inv X pins σ H s) : ∀ (d : PyData) (v : V) (u : Value), Dz X.K H v d → RelV v u → ∃ as, Rx s.heap u d as
  | .none, _, _, h, r => by cases h; cases r; exact ⟨_, .non⟩
  | .bool b, _, _, h, r => by cases h; cases r; exact ⟨_, .bl b⟩
  | .int i, _, _, h, r => by
    cases h
    obtain ⟨t, rfl⟩ := r
    exact ⟨_, .num i t⟩
  | .str x, _, _, h, r => by
    cases h
    obtain ⟨t, rfl⟩ := r
    exact ⟨_, .txt x t⟩
  | .list ds, _, _, h, r => by
    cases h with
    | lst hs ha =>
      cases r
      obtain ⟨its, rv, ⟨o, n, ho, hc, _, hd⟩, _⟩ := I.list (sqx_l hs)
      obtain ⟨as, hr⟩ := dzAll_rx I ds _ its ha rv
      exact ⟨_, .lst ho hc hd hr⟩
  | .tuple ds, _, _, h, r => by
    cases h with
    | tup hs ha =>
      cases r
      obtain ⟨its, rv, ⟨o, ho, hc, n, hd⟩, _⟩ := I.tuple hs
      obtain ⟨as, hr⟩ := dzAll_rx I ds _ its ha rv
      exact ⟨_, .tup ho hc hd hr⟩
  | .dict _, _, _, h, r => by
    cases h with
    | dct hr =>
      cases r
      obtain ⟨_, hsm, vs, rv, o, es, ep, ho, hx, hd, _, hp, _⟩ := dk_rd I.hok hr
      have ev : vs = [] := by cases rv; rfl
      subst ev
      have ee : es.toList = [] := by
        cases q : es.toList with
        | nil => rfl
        | cons y ys => rw [q] at hp; cases hp
      exact ⟨_, .dct ho hx.1 hd ee hsm⟩
theorem dzAll_rx (I : L2.Inv X pins σ H s) : ∀ (ds : List PyData) (vs : List V) (us : List Value), DzAll X.K H vs ds → Vals vs us → ∃ as, RxAll s.heap us ds as
  | [], _, _, h, r => by cases h; cases r; exact ⟨_, .nil⟩
  | d :: ds, _, _, h, r => by
    cases h with
    | cons h1 h2 =>
      cases r with
      | cons r1 r2 =>
        obtain ⟨as, q1⟩ := dz_rx I d _ _ h1 r1
        obtain ⟨bs, q2⟩ := dzAll_rx I ds _ _ h2 r2
        exact ⟨_, .cons q1 q2⟩
end
end
theorem cr_repr (hg : X.A.guards = some []) (hu : X.A.units + 64 < cLine) : CallR X (.builtin "repr") (rRepr X.K) := by
  intro pins s σ H vs us Q I r h
  obtain ⟨v, d, rfl, hd, ok, q⟩ := h
  obtain ⟨u, rfl, ru⟩ := r.one
  obtain ⟨as, rx⟩ := dz_rx I d v u hd ru
  have fin : ∀ (h' : Heap) (t : Tok) (k : Nat), (∀ b o, s.heap.get? b = some o → h'.get? b = some o) → EP X pins σ Q (.str d.shown t) { s with heap := h', toks := k } := fun h' t k kp => ⟨.str d.shown, H, I.kept (t' := k) kp, ⟨t, rfl⟩, q⟩
  have hsz := ok.fits
  have hdp := ok.dp
  cases rx with
  | non => exact PySem.P.repr_of_none (fin s.heap _ _ fun _ _ e => e)
  | bl b => exact PySem.P.repr_of_bool (fin s.heap _ _ fun _ _ e => e)
  | num i t => exact PySem.P.repr_of_int (by simpa [PyData.showable] using ok.ok) (fin s.heap _ _ fun _ _ e => e)
  | txt x t => exact PySem.P.repr_of_str (fin s.heap _ _ fun _ _ e => e) hsz
  | @lst a o ws n ys as p c dt rs =>
    have rr := (Rx.lst p c dt rs).rd
    have kk := ok.ok
    simp only [PyData.showable] at kk
    simp only [PyData.shown] at hsz
    simp only [PyData.depth] at hdp
    obtain ⟨cs, u1, u2⟩ := rs.sh (prog := X.prog) (w := X.w) kk fun t m => Nat.le_trans (listText_mem_le m) hsz
    have out := not_mem_of_deeper rr (n := PyData.depthAll ys) (by simp only [PyData.depth]; exact Nat.lt_succ_self _) u1
    refine call_repr_slot (by omega) ⟨o, p, c⟩ F.slot_list_repr.toG ?_
    match ws, rs, u2, dt with
    | ⟨[]⟩, rs, _, dt =>
      cases rs
      exact call_list_repr_empty ⟨o, p, c⟩ p dt ⟨_, _, rfl, by have := fin s.heap s.toks (s.toks + 1) fun _ _ e => e; simpa only [PyData.shown, PyData.shownAll, listText_nil] using this⟩
    | ⟨_ :: _⟩, _, u2, dt => exact call_list_reprK p c dt out (by simpa using u2.length_eq) (fun i y m => u2.item i y (by simpa using m)) hg (fun b _ => Clear.nil b) (by show X.A.units + 1 + _ < _; omega) (fun _ _ e => e) (fun h' u tk kp => ⟨_, _, rfl, by have := fin h' u tk kp; simpa only [PyData.shown] using this⟩) hsz
  | @tup a o ws n ys as p c dt rs =>
    have rr := (Rx.tup p c dt rs).rd
    have kk := ok.ok
    simp only [PyData.showable] at kk
    simp only [PyData.shown] at hsz
    simp only [PyData.depth] at hdp
    obtain ⟨cs, u1, u2⟩ := rs.sh (prog := X.prog) (w := X.w) kk fun t m => Nat.le_trans (tupleText_mem_le m) hsz
    have out := not_mem_of_deeper rr (n := PyData.depthAll ys) (by simp only [PyData.depth]; exact Nat.lt_succ_self _) u1
    refine call_repr_slot (by omega) ⟨o, p, c⟩ F.slot_tuple_repr ?_
    exact call_tuple_reprK p c dt out u2 hg (fun b _ => Clear.nil b) (by show X.A.units + 1 + _ < _; omega) (fun _ _ e => e) (fun h' u tk kp => ⟨_, _, rfl, by have := fin h' u tk kp; simpa only [PyData.shown] using this⟩) hsz
  | @dct a o es n p c dt e0 y =>
    simp only [PyData.depth, PyData.depthKv] at hdp
    refine call_repr_slot (by omega) ⟨o, p, c⟩ F.slot_dict_repr ?_
    exact call_dict_reprK (as := []) p c dt y (fun z => nomatch z) (rx_ents e0) hg (fun b _ => Clear.nil b) (by show X.A.units + 1 + (0 + 1) < _; omega) (fun _ _ e => e) (fun h' u tk kp => ⟨_, _, rfl, by have := fin h' u tk kp; simpa only [PyData.shown] using this⟩) (by simpa only [PyData.shown] using hsz)
theorem pd_repr (hgd : X.A.guards = some []) (hu : X.A.units + 64 < cLine) (hm : X.mg "repr" = none) (ha : PAD X [e] δ [d]) (ok : OkD d 390000 40) (hg : Gl X "repr" := by rfl) : PD X (.Call (.Name "repr" p) [e] [] pos) δ (.str d.shown) :=
  xd_cb (cr_repr hgd hu) hg hm (by decide +kernel) ha fun ds' e p B G H vs i3 hv Q q => by
    subst e
    obtain ⟨v, rfl, h⟩ := one_of hv
    exact ⟨v, _, rfl, dp_ex i3.gh _ _ h, ok, q _ _ G H rfl (.refl i3) (.str _)⟩
/-- isinstance against a built-in class -/
def tyD : Dt → String
  | .none => "NoneType"
  | .bool _ => "bool"
  | .int _ => "int"
  | .str _ => "str"
  | .list _ => "list"
  | .tuple _ => "tuple"
  | .dict _ => "dict"
theorem dz_ty {K : Fg} {G H : Hp} {v : V} (h : Dz K G v d) (ex : Ex G H) : TyX K H v (.type (tyD d)) := by
  cases h with
  | non => exact .base .non
  | bl b => exact .base (.bl b)
  | int i => exact .base (.int i)
  | str x => exact .base (.str x)
  | lst hs _ =>
    rcases ex_x ex hs with (h | ⟨o, h⟩) | ⟨its, n, h, _⟩
    · exact .base (.lst h)
    · exact .base (.frz h)
    · exact .kList h rfl
  | tup hs _ =>
    rcases ex_t ex hs with (h | ⟨o, h⟩) | ⟨o, its, n, h1, h2, _⟩
    · exact .base (.tup h)
    · exact .fTuple h
    · exact .kTuple h1 h2
  | dct hr =>
    rcases ex_rd ex hr with h | ⟨o, h⟩
    · exact .base (.dK h)
    · exact .fDict h
theorem pd_isi (t T : String) (c : Bool) {tn : Str} {p2 : Pos} (hm : X.mg "isinstance" = none) (hmT : X.mg tn = none) (he : PD X e δ d) (ht : tyD d = t := by rfl) (hk : kitB t T = some c := by decide +kernel) (hv : bootBuiltins tn = some (.type T) := by decide +kernel) (hgT : Gl X tn := by rfl) (hg : Gl X "isinstance" := by rfl)
    (hn : tn ≠ "__name__" := by decide) (hd : (tn == ("__debug__" : Str)) = false := by decide) (hs1 : starEach [.Name tn p2] X.env = [(false, eval (.Name tn p2) X.env)] := by rfl) (hs : starEach [e, .Name tn p2] X.env = (false, eval e X.env) :: starEach [.Name tn p2] X.env := by rfl) :
    PD X (.Call (.Name "isinstance" p) [e, .Name tn p2] [] pos) δ (.bool c) := by
  refine PE.imp (pe_callB call_isi hg hm (by decide +kernel) (pa_cons he (pa_cons (pe_bltn (v := .ty T) hgT hmT hv rfl hn hd) pa_nil (by rw [hs1]; rfl)) hs) (he := hs) (hpl := by rw [hs1]; rfl)) fun σ H Q ⟨p, B, G, i3, en, q⟩ => ⟨p, B, G, i3, en, fun v d' G' H' r n hv' => ?_⟩
  subst r
  exact ⟨v, .ty T, _, _, c, rfl, .ty T, dz_ty hv' n.gh, kit_ty (ht.symm ▸ hk), q _ _ G' H' rfl n (.bl _)⟩
theorem pd_isi2 (t T U : String) (c c2 : Bool) {tn un : Str} {p2 p3 p4 : Pos} {k : Nat} (hm : X.mg "isinstance" = none) (hmT : X.mg tn = none) (hmU : X.mg un = none) (he : PD X e δ d) (ht : tyD d = t := by rfl) (hk : kitB t T = some c := by decide +kernel) (hkU : kitB t U = some c2 := by decide +kernel) (hv : bootBuiltins tn = some (.type T) := by decide +kernel) (hvU : bootBuiltins un = some (.type U) := by decide +kernel)
    (hgT : Gl X tn := by rfl) (hgU : Gl X un := by rfl) (hg : Gl X "isinstance" := by rfl) (hn : tn ≠ "__name__" := by decide) (hd : (tn == ("__debug__" : Str)) = false := by decide) (hn2 : un ≠ "__name__" := by decide) (hd2 : (un == ("__debug__" : Str)) = false := by decide)
    (hs1 : starEach [.Tuple [.Name tn p2, .Name un p3] k p4] X.env = [(false, eval (.Tuple [.Name tn p2, .Name un p3] k p4) X.env)] := by rfl) (hs : starEach [e, .Tuple [.Name tn p2, .Name un p3] k p4] X.env = (false, eval e X.env) :: starEach [.Tuple [.Name tn p2, .Name un p3] k p4] X.env := by rfl) (ht2 : starEach [.Name un p3] X.env = [(false, eval (.Name un p3) X.env)] := by rfl) (ht : starEach [.Name tn p2, .Name un p3] X.env = (false, eval (.Name tn p2) X.env) :: starEach [.Name un p3] X.env := by rfl) :
    PD X (.Call (.Name "isinstance" p) [e, .Tuple [.Name tn p2, .Name un p3] k p4] [] pos) δ (.bool (c || c2)) := by
  refine PE.imp (pe_callB call_isiT hg hm (by decide +kernel) (pa_cons he (pa_cons (pe_tup (pa_cons (pe_bltn (v := .ty T) hgT hmT hv rfl hn hd) (pa_cons (pe_bltn (v := .ty U) hgU hmU hvU rfl hn2 hd2) pa_nil (by rw [ht2]; rfl)) ht)) pa_nil (by rw [hs1]; rfl)) hs) (he := hs) (hpl := by rw [hs1]; rfl)) fun σ H Q ⟨p, B, G, i3, en, q⟩ => ⟨p, B, G, i3, en, fun v d' G' H' r n hv' => ?_⟩
  subst r
  have i3' := i3.nxt n
  refine ⟨by show 2 ≤ sizeLine; decide, fun l hl => ?_⟩
  have n2 := Nxt.newH i3' (.tup [.ty T, .ty U]) hl
  refine ⟨v, l, _, _, [.type T, .type U], c || c2, rfl, upd_same, .cons (.ty T) (.cons (.ty U) .nil), dz_ty hv' n2.gh, kitAny_cons (kit_ty (ht.symm ▸ hk)) (fun hc => kitAny_cons (kit_ty (ht.symm ▸ hkU)) (fun h2 => ?_) (fun h2 => ?_)) (fun hc => ?_), q _ _ _ _ rfl (n.trans n2) (.bl _)⟩
  · rw [hc, h2]; rfl
  · rw [hc, h2]; rfl
  · rw [hc]; rfl
/-- x in (..), texts -/
theorem dz_strs {K : Fg} {G : Hp} : ∀ {xs : List V} {ss : List Str}, DzAll K G xs (ss.map PyData.str) → xs = ss.map V.str
  | _, [], h => by cases h; rfl
  | _, n :: ns, h => by
    cases h with
    | cons h1 h2 => cases h1; rw [dz_strs h2]; rfl
theorem pd_inS {ss : List Str} {x : Str} (ha : PD X a δ (.str x)) (hb : PD X b δ (.tuple (ss.map PyData.str))) (hmk : behindInMarks .In b = false := by rfl) : PD X (.Compare a [.In] [b] pos) δ (.bool (ss.any fun y => y == x)) :=
  xd_cmp op_in_seq ha hb hmk fun d1 d2 e1 e2 => by
    subst e1; subst e2
    intro p B G H v w i3 h1 h2 Q q
    cases h1
    cases h2 with
    | tup hs ha =>
      have e := dz_strs ha
      subst e
      refine ⟨_, _, rfl, .inr (ex_t i3.gh hs), rfl, ?_, q _ _ G H rfl (.refl i3) ?_⟩
      · rw [List.all_map]; exact List.all_eq_true.mpr fun _ _ => rfl
      · have : inV (V.str x) (ss.map V.str) = ss.any fun y => y == x := by unfold inV; rw [List.any_map]; rfl
        show Dz _ _ (V.bl (inV (V.str x) (ss.map V.str))) _
        rw [this]; exact .bl _
/-! slices, sums of lists -/
def cutD (ds : List Dt) (lo hi : Option Int) : List Dt := (ds.drop (HT.sIx ds.length 0 lo)).take (HT.sIx ds.length ds.length hi - HT.sIx ds.length 0 lo)
theorem dz_cut {K : Fg} {G : Hp} {xs : List V} {lo hi : Option Int} (h : DzAll K G xs ds) : DzAll K G (cutV xs lo hi) (cutD ds lo hi) := by
  unfold cutV cutD
  rw [dpAll_length h]
  exact dpAll_take _ (dpAll_drop _ h)
def rO (K : Fg) (δ : De) (o : Option Int) : TO := fun σ H Q => ∃ p B G, I3 p B G H ∧ EnvD K p B G H σ δ ∧ ∀ G' H', Nxt p G H G' H' → Q o H'
def OD (X : Cx) (e : Option Expr) (δ : De) (o : Option Int) : Prop := PO X e (rO X.K δ o)
theorem PO.imp {X : Cx} {e : Option Expr} {t t' : TO} (h : PO X e t) (k : ∀ σ H Q, t' σ H Q → t σ H Q) : PO X e t' := ⟨fun pins s σ H Q I q => h.run pins s σ H Q I (k σ H Q q)⟩
theorem od_none : OD X none δ none := PO.imp po_none fun σ H Q ⟨p, B, G, i3, en, q⟩ => q G H (.refl i3)
theorem od_some (h : PD X e δ (.int i)) : OD X (some e) δ (some i) := PO.imp (po_some h) fun σ H Q ⟨p, B, G, i3, en, q⟩ => ⟨p, B, G, i3, en, fun v d G' H' r n hv => by subst r; cases hv; exact ⟨i, rfl, q G' H' n⟩⟩
theorem pd_slL {lo hi : Option Expr} {l u : Option Int} {p2 : Pos} (he : PD X e δ (.list ds)) (hl : OD X lo δ l) (hu : OD X hi δ u) : PD X (.Subscript e (.Slice lo hi none p2) pos) δ (.list (cutD ds l u)) :=
  PE.imp (pe_slice sl_list he hl hu) fun σ H Q ⟨p, B, G, i3, en, q⟩ => ⟨p, B, G, i3, en, fun v d G1 H1 r n1 hv => ⟨p, B, G1, i3.nxt n1, en.nxt n1, fun G2 H2 n2 => ⟨p, B, G2, i3.nxt (n1.trans n2), en.nxt (n1.trans n2), fun G3 H3 n3 => by
    subst r
    have n := (n1.trans n2).trans n3
    have i3' := i3.nxt n
    cases dp_ex (n2.st.1.trans n3.st.1) _ _ hv with
    | lst hs ha => exact ⟨_, _, rfl, exl i3'.gh hs, fun l hl => q _ _ _ _ rfl (n.trans (.new i3' _ hl)) (.lst (.inl (.inl upd_same)) (dpAll_ex (Ex.new (i3'.gh.free hl)) _ _ (dz_cut ha)))⟩⟩⟩⟩
theorem pd_rev {k : Nat} {p1 p2 p3 : Pos} (he : PD X e δ (.list ds)) : PD X (.Subscript e (.Slice none none (some (.UnaryOp .USub (.Constant (.int 1) k p1) p2)) p3) pos) δ (.list ds.reverse) :=
  PE.imp (pe_revL he) fun σ H Q ⟨p, B, G, i3, en, q⟩ => ⟨p, B, G, i3, en, fun v d G' H' r n hv => by
    subst r
    have i3' := i3.nxt n
    cases hv with
    | lst hs ha => exact ⟨_, _, rfl, exl i3'.gh hs, fun l hl => q _ _ _ _ rfl (n.trans (.new i3' _ hl)) (.lst (.inl (.inl upd_same)) (dpAll_ex (Ex.new (i3'.gh.free hl)) _ _ (dpAll_reverse ha)))⟩⟩
def rCatR (K : Fg) : R2 := fun x y H Q => ∃ l b xs zs, x = .ref l ∧ y = .ref b ∧ SqX K H l xs ∧ SqX K H b zs ∧ xs.length + zs.length ≤ sizeLine ∧ ∀ p, H p = none → Q (.ref p) (upd H p (.lst (xs ++ zs)))
theorem rd_lst {pins : List (Addr × Obj)} {σ : L2.St} {H : Hp} {s : Shared} {l : Addr} {xs : List V} (I : Inv X pins σ H s) (h : SqX X.K H l xs) : ∃ its n, Vals xs its ∧ s.heap.get? l = some { cls := .type "list", data := .seq its.toArray n } := by
  rcases h with h | ⟨its, n, h1, _, h3⟩
  case inr => exact ⟨its, n, h3, I.kIn l _ h1⟩
  obtain ⟨_, its, n, r, e⟩ := (show ObjOk X.prog X.w H s.heap l (.lst xs) from h.ok I.hok)
  exact ⟨its, n, r, e⟩
theorem op_catR : OpR X (binaryOp .Add) (rCatR X.K) := by
  intro pins s σ H x y v u Q I rx ry h
  obtain ⟨l, b, xs, zs, rfl, rfl, hH, hB, hz, q⟩ := h
  cases rx
  cases ry
  obtain ⟨its, n, r, e⟩ := rd_lst I hH
  obtain ⟨its2, n2, r2, e2⟩ := rd_lst I hB
  refine PySem.P.add_list e e2 ?_ (by rw [List.size_toArray, List.size_toArray, ← r.length, ← r2.length]; exact hz)
  have ea : its.toArray ++ its2.toArray = (its ++ its2).toArray := by simp
  rw [ea]
  exact ⟨.ref _, _, I.lnew (t' := s.toks) (r.append r2) (by rw [List.length_append]; exact hz), rfl, q _ I.fresh⟩
theorem pd_cat {es fs : List Dt} (ha : PD X a δ (.list es)) (hb : PD X b δ (.list fs)) (hl : es.length + fs.length ≤ 100000) : PD X (.BinOp a .Add b pos) δ (.list (es ++ fs)) := xd_op op_catR ha hb fun x y e1 e2 => by
  subst e1; subst e2
  intro p B G H v w i3 h1 h2 Q q
  cases h1 with
  | lst hs ha => cases h2 with
    | lst hs2 ha2 =>
      exact ⟨_, _, _, _, rfl, rfl, ex_x i3.gh hs, ex_x i3.gh hs2, by rw [dpAll_length ha, dpAll_length ha2]; exact Nat.le_trans hl (by decide), fun l hl => q _ _ _ _ rfl (.new i3 _ hl) (.lst (.inl (.inl upd_same)) (dpAll_ex (Ex.new (i3.gh.free hl)) _ _ (dpAll_append ha ha2)))⟩
end
end Dv

namespace Dv
open PySem PySem.Spec PyProof.Rows L2
section
variable {X : Cx} {a b c e : Expr} {δ : De} {pos : Pos} {x y : Dt} {i j : Int}
/-- comparisons as tests -/
theorem ptc {op : CmpOp} {r : R2} {k : Bool} (ho : OpR X (compareOp op) r) (ha : PD X a δ x) (hb : PD X b δ y) (hm : behindInMarks op b = false) (hr : RD X.K r x y fun d => d = .bool k) : PTD X (.Compare a [op] [b] pos) δ k :=
  xt_cmp ho ha hb hm fun x' y' e1 e2 => by
    subst e1; subst e2
    intro p B G H v w i3 h1 h2 Q q
    exact hr p B G H v w i3 h1 h2 Q fun u d G' H' e => q u d G' H' ⟨k, e, rfl⟩
theorem pt_lt (ha : PD X a δ (.int i)) (hb : PD X b δ (.int j)) : PTD X (.Compare a [.Lt] [b] pos) δ (decide (i < j)) := ptc op_lt ha hb (nomark _) (by refine rd_b ?_; rfl)
theorem pt_le (ha : PD X a δ (.int i)) (hb : PD X b δ (.int j)) : PTD X (.Compare a [.LtE] [b] pos) δ (decide (i ≤ j)) := ptc op_le ha hb (nomark _) (by refine rd_b ?_; rfl)
theorem pt_gt (ha : PD X a δ (.int i)) (hb : PD X b δ (.int j)) : PTD X (.Compare a [.Gt] [b] pos) δ (decide (j < i)) := ptc op_gt ha hb (nomark _) (by refine rd_b ?_; rfl)
theorem pt_ge (ha : PD X a δ (.int i)) (hb : PD X b δ (.int j)) : PTD X (.Compare a [.GtE] [b] pos) δ (decide (j ≤ i)) := ptc op_ge ha hb (nomark _) (by refine rd_b ?_; rfl)
theorem pt_eqI {i j : Int} (ha : PD X a δ (.int i)) (hb : PD X b δ (.int j)) : PTD X (.Compare a [.Eq] [b] pos) δ (decide (i = j)) := ptc op_eq ha hb (nomark _) (by
  intro p B G H v w i3 h1 h2 Q q
  cases h1; cases h2
  refine ⟨rfl, q _ _ G H rfl (.refl i3) ?_⟩
  have : decide (V.int i = V.int j) = decide (i = j) := by by_cases h : i = j <;> simp [h]
  rw [this]; exact .bl _)
theorem pt_neI {i j : Int} (ha : PD X a δ (.int i)) (hb : PD X b δ (.int j)) : PTD X (.Compare a [.NotEq] [b] pos) δ (!decide (i = j)) := ptc op_ne ha hb (nomark _) (by
  intro p B G H v w i3 h1 h2 Q q
  cases h1; cases h2
  refine ⟨rfl, q _ _ G H rfl (.refl i3) ?_⟩
  have : decide (V.int i = V.int j) = decide (i = j) := by by_cases h : i = j <;> simp [h]
  rw [this]; exact .bl _)
theorem pt_eqS {i j : Str} (ha : PD X a δ (.str i)) (hb : PD X b δ (.str j)) : PTD X (.Compare a [.Eq] [b] pos) δ (decide (i = j)) := ptc op_eq ha hb (nomark _) (by
  intro p B G H v w i3 h1 h2 Q q
  cases h1; cases h2
  refine ⟨rfl, q _ _ G H rfl (.refl i3) ?_⟩
  have : decide (V.str i = V.str j) = decide (i = j) := by by_cases h : i = j <;> simp [h]
  rw [this]; exact .bl _)
theorem pt_neS {i j : Str} (ha : PD X a δ (.str i)) (hb : PD X b δ (.str j)) : PTD X (.Compare a [.NotEq] [b] pos) δ (!decide (i = j)) := ptc op_ne ha hb (nomark _) (by
  intro p B G H v w i3 h1 h2 Q q
  cases h1; cases h2
  refine ⟨rfl, q _ _ G H rfl (.refl i3) ?_⟩
  have : decide (V.str i = V.str j) = decide (i = j) := by by_cases h : i = j <;> simp [h]
  rw [this]; exact .bl _)
theorem pt_eqB {i j : Bool} (ha : PD X a δ (.bool i)) (hb : PD X b δ (.bool j)) : PTD X (.Compare a [.Eq] [b] pos) δ (decide (i = j)) := ptc op_eq ha hb (nomark _) (by
  intro p B G H v w i3 h1 h2 Q q
  cases h1; cases h2
  refine ⟨rfl, q _ _ G H rfl (.refl i3) ?_⟩
  have : decide (V.bl i = V.bl j) = decide (i = j) := by by_cases h : i = j <;> simp [h]
  rw [this]; exact .bl _)
theorem pt_neB {i j : Bool} (ha : PD X a δ (.bool i)) (hb : PD X b δ (.bool j)) : PTD X (.Compare a [.NotEq] [b] pos) δ (!decide (i = j)) := ptc op_ne ha hb (nomark _) (by
  intro p B G H v w i3 h1 h2 Q q
  cases h1; cases h2
  refine ⟨rfl, q _ _ G H rfl (.refl i3) ?_⟩
  have : decide (V.bl i = V.bl j) = decide (i = j) := by by_cases h : i = j <;> simp [h]
  rw [this]; exact .bl _)

theorem pt_isN {c : Bool} (ha : PD X a δ x) (hb : PD X b δ .none) (hc : c = (match x with | .none => true | _ => false) := by rfl) : PTD X (.Compare a [.Is] [b] pos) δ c := ptc op_isN ha hb (nomark _) (by
  intro p B G H v w i3 h1 h2 Q q
  cases h2
  refine ⟨rfl, q _ _ G H rfl (.refl i3) ?_⟩
  subst hc
  cases h1 <;> exact .bl _)
theorem pt_notN {c : Bool} (ha : PD X a δ x) (hb : PD X b δ .none) (hc : c = (match x with | .none => false | _ => true) := by rfl) : PTD X (.Compare a [.IsNot] [b] pos) δ c := ptc op_notN ha hb (nomark _) (by
  intro p B G H v w i3 h1 h2 Q q
  cases h2
  refine ⟨rfl, q _ _ G H rfl (.refl i3) ?_⟩
  subst hc
  cases h1 <;> exact .bl _)
theorem pt_eqD (hu : X.A.units + 64 < cLine) (ha : PD X a δ x) (hb : PD X b δ y) (hx : SeqAt.shaped x = true) (hy : SeqAt.shaped y = true) : PTD X (.Compare a [.Eq] [b] pos) δ (PyData.eqv x y) := ptc (op_eqD hu) ha hb (nomark _) (by
  intro p B G H v w i3 h1 h2 Q q
  exact ⟨_, _, dz_dp _ _ (nds hx) (dp_ex i3.gh _ _ h1), dz_dp _ _ (nds hy) (dp_ex i3.gh _ _ h2), hx, hy, q _ _ G H rfl (.refl i3) (.bl _)⟩)
theorem pt_neD (hu : X.A.units + 64 < cLine) (ha : PD X a δ x) (hb : PD X b δ y) (hx : SeqAt.shaped x = true) (hy : SeqAt.shaped y = true) : PTD X (.Compare a [.NotEq] [b] pos) δ (!PyData.eqv x y) := ptc (op_neD hu) ha hb (nomark _) (by
  intro p B G H v w i3 h1 h2 Q q
  exact ⟨_, _, dz_dp _ _ (nds hx) (dp_ex i3.gh _ _ h1), dz_dp _ _ (nds hy) (dp_ex i3.gh _ _ h2), hx, hy, q _ _ G H rfl (.refl i3) (.bl _)⟩)
end
end Dv

set_option linter.all false
set_option maxRecDepth 100000
set_option maxHeartbeats 2000000
namespace Dv
open PySem PySem.Spec PyProof.Rows L2
/-! ### statements -/
structure Out where
  nx : De → Prop := fun _ => False
  rt : Dt → Prop := fun _ => False
  bk : De → Prop := fun _ => False
  ct : De → Prop := fun _ => False
  ro : List Dt → Prop := fun _ => False
/-- what is wanted, from (B, G) on -/
structure Post (K : Fg) (p : Option Addr) (B G : Hp) (D : Ends) (o : Out) : Prop where
  nx : ∀ δ σ G' H', o.nx δ → Step B G G' → I3 p B G' H' → EnvD K p B G' H' σ δ → D.nx σ H'
  rt : ∀ d v G' H', o.rt d → Step B G G' → I3 p B G' H' → Dz K G' v d → D.rt v H'
  bk : ∀ δ σ G' H', o.bk δ → Step B G G' → I3 p B G' H' → EnvD K p B G' H' σ δ → D.bk σ H'
  ct : ∀ δ σ G' H', o.ct δ → Step B G G' → I3 p B G' H' → EnvD K p B G' H' σ δ → D.ct σ H'
  ro : ∀ ds l xs G' H', o.ro ds → Step B G G' → I3 p B G' H' → B l = none → G' l = none → p ≠ some l → H' l = some (.lst xs) → DzAll K G' xs ds → D.rt (.ref l) H'
def rS (K : Fg) (δ : De) (o : Out) : TS := fun D σ H => ∃ p B G, I3 p B G H ∧ EnvD K p B G H σ δ ∧ Post K p B G D o
def SD (X : Cx) (st : Stmt) (δ : De) (o : Out) : Prop := PS X st (rS X.K δ o)
def SsD (X : Cx) (st : List Stmt) (δ : De) (o : Out) : Prop := PSs X st (rS X.K δ o)
theorem Post.step {K : Fg} {p : Option Addr} {B G G' : Hp} {D : Ends} {o : Out} (h : Post K p B G D o) (s : Step B G G') : Post K p B G' D o :=
  ⟨fun δ σ G2 H2 a b => h.nx δ σ G2 H2 a (s.trans b), fun d v G2 H2 a b => h.rt d v G2 H2 a (s.trans b), fun δ σ G2 H2 a b => h.bk δ σ G2 H2 a (s.trans b), fun δ σ G2 H2 a b => h.ct δ σ G2 H2 a (s.trans b), fun ds l xs G2 H2 a b => h.ro ds l xs G2 H2 a (s.trans b)⟩
theorem Nxt.stepB {p : Option Addr} {B G H G' H' : Hp} (i : I3 p B G H) (n : Nxt p G H G' H') : Step B G G' := n.st.le fun a h => by
  cases q : B a with
  | none => exact absurd q h
  | some o => exact nn (i.bh a o q)
section
variable {X : Cx} {st : Stmt} {sts tss : List Stmt} {a b c e : Expr} {es : List Expr} {δ δ' : De} {o : Out} {d : Dt} {ds : List Dt} {pos p : Pos} {R : Dt → Prop}
theorem SD.mono {o1 : Out} (h : SD X st δ o1) (h1 : ∀ x, o1.nx x → o.nx x) (h2 : ∀ x, o1.rt x → o.rt x) (h3 : ∀ x, o1.bk x → o.bk x) (h4 : ∀ x, o1.ct x → o.ct x) (h5 : ∀ x, o1.ro x → o.ro x) : SD X st δ o := PS.imp h fun D σ H ⟨p, B, G, i3, en, q⟩ =>
  ⟨p, B, G, i3, en, fun δ σ G2 H2 a => q.nx δ σ G2 H2 (h1 _ a), fun d v G2 H2 a => q.rt d v G2 H2 (h2 _ a), fun δ σ G2 H2 a => q.bk δ σ G2 H2 (h3 _ a), fun δ σ G2 H2 a => q.ct δ σ G2 H2 (h4 _ a), fun ds l xs G2 H2 a => q.ro ds l xs G2 H2 (h5 _ a)⟩
theorem ss_nil (h : o.nx δ) : SsD X [] δ o := PSs.imp pss_nil fun D σ H ⟨p, B, G, i3, en, q⟩ => q.nx δ σ G H h (.refl _ _) i3 en
/-- a statement, then the rest from whatever it may leave -/
theorem ss_seq {N : De → Prop} (h : SD X st δ { o with nx := N }) (k : ∀ δ', N δ' → SsD X sts δ' o) : SsD X (st :: sts) δ o := by
  have hk : PSs X sts (fun D σ H => ∃ δ', N δ' ∧ rS X.K δ' o D σ H) := ⟨fun pins s σ H D I ⟨δ', n, q⟩ => (k δ' n).run pins s σ H D I q⟩
  exact PSs.imp (pss_cons h hk) fun D σ H ⟨p, B, G, i3, en, q⟩ => ⟨p, B, G, i3, en, fun δ1 σ1 G1 H1 a s i en1 => ⟨δ1, a, p, B, G1, i, en1, q.step s⟩, q.rt, q.bk, q.ct, q.ro⟩
theorem ss_to (h : SD X st δ { o with nx := fun x => x = δ' }) (k : SsD X sts δ' o) : SsD X (st :: sts) δ o := ss_seq h fun _ e => e ▸ k
/-- a statement that does not go on -/
theorem ss_end (h : SD X st δ { o with nx := fun _ => False }) : SsD X (st :: sts) δ o := ss_seq h fun _ z => z.elim
theorem sd_ret (h : XD X e δ R) (hR : ∀ d, R d → o.rt d) : SD X (.Return (some e) pos) δ o := PS.imp (ps_ret h) fun D σ H ⟨p, B, G, i3, en, q⟩ => ⟨p, B, G, i3, en, fun v d G' H' r n hv => q.rt d v G' H' (hR d r) (n.stepB i3) (i3.nxt n) hv⟩
theorem s_ret (h : PD X e δ d) (hR : o.rt d) : SsD X (.Return (some e) pos :: sts) δ o := ss_end (sd_ret h fun x e => e ▸ hR)
/-- x = e -/
theorem sd_set (i : Nat) {x : Str} {N : De → Prop} {pos' : Pos} (hN : X.N.Nodup) (he : XD X e δ R) (hR : ∀ d, R d → N (δ.set i (.d d))) (hi : X.N[i]? = some x := by rfl) (hx : Loc X.env.scope x := by first | exact Or.inl rfl | exact Or.inr rfl)
    (hs : swapsWith e (some (.Name x pos')) pos.line X.env = pure false := by rfl) (hf : X.fn x = true ∨ X.env.scope.names.lookup x = some .local := by first | exact .inl rfl | exact .inr rfl | assumption) : SD X (.Assign [.Name x pos'] e pos) δ { o with nx := N } :=
  PS.imp (ps_set hN hi hx he hs hf) fun D σ H ⟨p, B, G, i3, en, q⟩ => ⟨p, B, G, i3, en, fun v d G' H' r n hv => q.nx _ _ G' H' (hR d r) (n.stepB i3) (i3.nxt n) ((en.nxt n).set hv)⟩
theorem s_set (i : Nat) {x : Str} {pos' : Pos} (hN : X.N.Nodup) (he : PD X e δ d) (k : SsD X sts (δ.set i (.d d)) o) (hi : X.N[i]? = some x := by rfl) (hx : Loc X.env.scope x := by first | exact Or.inl rfl | exact Or.inr rfl)
    (hs : swapsWith e (some (.Name x pos')) pos.line X.env = pure false := by rfl) (hf : X.fn x = true ∨ X.env.scope.names.lookup x = some .local := by first | exact .inl rfl | exact .inr rfl | assumption) : SsD X (.Assign [.Name x pos'] e pos :: sts) δ o :=
  ss_to (sd_set i hN he (fun x e => by rw [e]) hi hx hs hf) k
/-- a, b, .. = e -/
theorem sd_asg {tg : Expr} {js : List Nat} {N : De → Prop} (he : XD X e δ R) (F : Dt → De) (hg : ∀ d, R d → TgD X tg js d δ (F d)) (hR : ∀ d, R d → N (F d)) (hs : swapsWithSole [tg] e pos.line X.env = pure false := by rfl) (hw : swappedStores [tg] e X.env = pure none := by rfl)
    (h1 : (assignEach [tg] X.env).map (·.2) = [assign tg X.env] := by rfl) : SD X (.Assign [tg] e pos) δ { o with nx := N } := by
  have pg : PG X tg (fun v σ H Q => ∃ d, R d ∧ rG X.K js d δ (F d) v σ H Q) := ⟨fun pins s σ H v u Q I r ⟨d, a, q⟩ => (hg d a).run pins s σ H v u Q I r q⟩
  exact PS.imp (ps_asg he pg hs hw h1) fun D σ H ⟨p, B, G, i3, en, q⟩ => ⟨p, B, G, i3, en, fun v d G' H' r n hv => ⟨d, r, p, B, G', i3.nxt n, en.nxt n, hv, fun σ' en' _ => q.nx _ _ G' H' (hR d r) (n.stepB i3) (i3.nxt n) en'⟩⟩
theorem s_asg {tg : Expr} {js : List Nat} (he : PD X e δ d) (hg : TgD X tg js d δ δ') (k : SsD X sts δ' o) (hs : swapsWithSole [tg] e pos.line X.env = pure false := by rfl) (hw : swappedStores [tg] e X.env = pure none := by rfl)
    (h1 : (assignEach [tg] X.env).map (·.2) = [assign tg X.env] := by rfl) : SsD X (.Assign [tg] e pos :: sts) δ o :=
  ss_to (sd_asg he (fun _ => δ') (fun x e => by rw [e]; exact hg) (fun _ _ => rfl) hs hw h1) k
/-- an expression alone -/
theorem sd_expr {N : De → Prop} (he : XD X e δ R) (hR : ∀ d, R d → N δ) (hs : swapsWith e none pos.line X.env = pure false := by rfl) : SD X (.Expr e pos) δ { o with nx := N } :=
  PS.imp (ps_expr he hs) fun D σ H ⟨p, B, G, i3, en, q⟩ => ⟨p, B, G, i3, en, fun v d G' H' r n hv => q.nx _ _ G' H' (hR d r) (n.stepB i3) (i3.nxt n) (en.nxt n)⟩
theorem s_expr (he : PD X e δ d) (k : SsD X sts δ o) (hs : swapsWith e none pos.line X.env = pure false := by rfl) : SsD X (.Expr e pos :: sts) δ o := ss_to (sd_expr he (fun _ _ => rfl) hs) k
/-- if -/
theorem sd_if {S : Bool → Prop} (hc : XT X c δ S) (h1 : S true → SsD X sts δ o) (h2 : S false → SsD X tss δ o) : SD X (.If c sts tss pos) δ o := by
  have z1 : PSs X sts (fun D σ H => S true ∧ rS X.K δ o D σ H) := ⟨fun pins s σ H D I h => (h1 h.1).run pins s σ H D I h.2⟩
  have z2 : PSs X tss (fun D σ H => S false ∧ rS X.K δ o D σ H) := ⟨fun pins s σ H D I h => (h2 h.1).run pins s σ H D I h.2⟩
  exact PS.imp (ps_if hc z1 z2) fun D σ H ⟨p, B, G, i3, en, q⟩ => ⟨p, B, G, i3, en, fun k G' H' r n => by
    cases k with
    | true => exact iteT ⟨r, p, B, G', i3.nxt n, en.nxt n, q.step (n.stepB i3)⟩
    | false => exact iteF ⟨r, p, B, G', i3.nxt n, en.nxt n, q.step (n.stepB i3)⟩⟩
/-- if c: .. that ends; then the rest -/
theorem s_if {k : Bool} (hc : PTD X c δ k) (h1 : k = true → SsD X sts δ { o with nx := fun _ => False }) (h2 : k = false → SsD X tss δ o) : SsD X (.If c sts [] pos :: tss) δ o :=
  ss_seq (N := fun x => k = false ∧ x = δ) (sd_if hc (fun h => PSs.imp (h1 h.symm) fun D σ H ⟨p, B, G, i3, en, q⟩ => ⟨p, B, G, i3, en, fun _ _ _ _ z => z.elim, q.rt, q.bk, q.ct, q.ro⟩) fun h => ss_nil ⟨h.symm, rfl⟩) fun x ⟨h, e⟩ => e ▸ h2 h
/-- a test known to be false -/
theorem s_if0 (hc : PTD X c δ false) (h2 : SsD X tss δ o) : SsD X (.If c sts [] pos :: tss) δ o := s_if hc (fun h => Bool.noConfusion h) fun _ => h2
/-- for -/
theorem sd_for {tg iter : Expr} {js : List Nat} {S : List Dt → Prop} {N : De → Prop} (hp : PassesOwn (model X.prog X.w) X.A X.env X.xe) (hc : X.calm = true) (hi : XI X tg iter δ S) (Iv : List Dt → Nat → De → Prop) (h0 : ∀ ds, S ds → Iv ds 0 δ)
    (F : Dt → De → De) (hg : ∀ ds (i : Nat) d δ', S ds → ds[i]? = some d → Iv ds i δ' → TgD X tg js d δ' (F d δ'))
    (hb : ∀ ds (i : Nat) d δ', S ds → ds[i]? = some d → Iv ds i δ' → SsD X sts (F d δ') { nx := Iv ds (i + 1), rt := o.rt, ro := o.ro, bk := N, ct := Iv ds (i + 1) })
    (hd : ∀ ds δ', S ds → Iv ds ds.length δ' → N δ') (hs : ∀ x, foldedSetIterable iter X.env x = pure x := by intro _; rfl) : SD X (.For tg iter sts [] pos) δ { o with nx := N } := by
  have pg : PG X tg (fun v σ H Q => ∃ ds, ∃ (i : Nat), ∃ d δ', S ds ∧ ds[i]? = some d ∧ Iv ds i δ' ∧ rG X.K js d δ' (F d δ') v σ H Q) := ⟨fun pins s σ H v u Q I r ⟨ds, i, d, δ', a, b, c, q⟩ => (hg ds i d δ' a b c).run pins s σ H v u Q I r q⟩
  have pb : PSs X sts (fun D σ H => ∃ ds, ∃ (i : Nat), ∃ d δ', S ds ∧ ds[i]? = some d ∧ Iv ds i δ' ∧ rS X.K (F d δ') { nx := Iv ds (i + 1), rt := o.rt, ro := o.ro, bk := N, ct := Iv ds (i + 1) } D σ H) := ⟨fun pins s σ H D I ⟨ds, i, d, δ', a, b, c, q⟩ => (hb ds i d δ' a b c).run pins s σ H D I q⟩
  refine PS.imp (ps_for hp hc hi pg pb (hs := hs)) fun D σ H ⟨p, B, G, i3, en, q⟩ => ⟨p, B, G, i3, en, fun J ds G1 H1 s n yl => ?_⟩
  have st1 := n.stepB i3
  refine ⟨fun i m σ' H' => m = ds.length - i ∧ i ≤ ds.length ∧ ∃ G' δ', Step B G1 G' ∧ I3 p B G' H' ∧ EnvD X.K p B G' H' σ' δ' ∧ Iv ds i δ', ⟨_, rfl, Nat.zero_le _, G1, δ, .refl _ _, i3.nxt n, en.nxt n, h0 ds s⟩, ?_⟩
  rintro i m σ' H' ⟨em, hle, G', δ', st', i3', en', iv⟩
  by_cases hlt : i < ds.length
  · obtain ⟨go, yd⟩ := (yl p B G' H' st'.1 i3' i).1 hlt
    refine .inr ⟨go, fun σ2 H2 => ∃ G2 δ2, Step B G1 G2 ∧ I3 p B G2 H2 ∧ EnvD X.K p B G2 H2 σ2 δ2 ∧ Iv ds (i + 1) δ2, fun σ2 H2 ⟨G2, δ2, a1, a2, a3, a4⟩ => ⟨_, by omega, rfl, by omega, G2, δ2, a1, a2, a3, a4⟩, fun x H2 hy => ?_⟩
    obtain ⟨G2, d, e2, n2, hx⟩ := yd x H2 hy
    refine ⟨ds, i, d, δ', s, e2, iv, p, B, G2, i3'.nxt n2, en'.nxt n2, hx, fun σ2 en2 _ => ⟨ds, i, d, δ', s, e2, iv, p, B, G2, i3'.nxt n2, en2, ?_⟩⟩
    have st2 := st'.trans (n2.stepB i3')
    exact ⟨fun δ3 σ3 G3 H3 a b c e => ⟨G3, δ3, st2.trans b, c, e, a⟩, fun d3 v3 G3 H3 a b => q.rt d3 v3 G3 H3 a ((st1.trans st2).trans b), fun δ3 σ3 G3 H3 a b => q.nx δ3 σ3 G3 H3 a ((st1.trans st2).trans b), fun δ3 σ3 G3 H3 a b c e => ⟨G3, δ3, st2.trans b, c, e, a⟩, fun ds3 l3 xs3 G3 H3 a b => q.ro ds3 l3 xs3 G3 H3 a ((st1.trans st2).trans b)⟩
  · have e : i = ds.length := by omega
    subst e
    exact .inl ⟨(yl p B G' H' st'.1 i3' _).2 rfl, q.nx δ' σ' G' H' (hd ds δ' s iv) (st1.trans st') i3' en'⟩
/-- while -/
theorem sd_while {N : De → Prop} (hp : PassesOwn (model X.prog X.w) X.A X.env X.xe) (Iv : Nat → De → Prop) (m0 : Nat) (h0 : Iv m0 δ) (T : Nat → De → Bool → Prop) (hc : ∀ m δ', Iv m δ' → XT X c δ' (T m δ'))
    (hb : ∀ m δ', Iv m δ' → T m δ' true → SsD X sts δ' { nx := fun δ2 => ∃ m', m' < m ∧ Iv m' δ2, rt := o.rt, ro := o.ro, bk := N, ct := fun δ2 => ∃ m', m' < m ∧ Iv m' δ2 })
    (hd : ∀ m δ', Iv m δ' → T m δ' false → N δ') : SD X (.While c sts [] pos) δ { o with nx := N } := by
  have pc : PT X c (fun σ H Q => ∃ m δ', Iv m δ' ∧ rT X.K δ' (T m δ') σ H Q) := ⟨fun pins s σ H Q I ⟨m, δ', a, q⟩ => (hc m δ' a).run pins s σ H Q I q⟩
  have pb : PSs X sts (fun D σ H => ∃ m δ', Iv m δ' ∧ T m δ' true ∧ rS X.K δ' { nx := fun δ2 => ∃ m', m' < m ∧ Iv m' δ2, rt := o.rt, ro := o.ro, bk := N, ct := fun δ2 => ∃ m', m' < m ∧ Iv m' δ2 } D σ H) := ⟨fun pins s σ H D I ⟨m, δ', a, b, q⟩ => (hb m δ' a b).run pins s σ H D I q⟩
  refine PS.imp (ps_while hp pc pb) fun D σ H ⟨p, B, G, i3, en, q⟩ => ⟨fun m σ' H' => ∃ G' δ', Step B G G' ∧ I3 p B G' H' ∧ EnvD X.K p B G' H' σ' δ' ∧ Iv m δ', ⟨m0, G, δ, .refl _ _, i3, en, h0⟩, ?_⟩
  rintro m σ' H' ⟨G', δ', st', i3', en', iv⟩
  refine ⟨m, δ', iv, p, B, G', i3', en', fun k G2 H2 t n2 => ?_⟩
  have st2 := st'.trans (n2.stepB i3')
  cases k with
  | true => exact iteT ⟨fun σ3 H3 => ∃ m', m' < m ∧ ∃ G3 δ3, Step B G G3 ∧ I3 p B G3 H3 ∧ EnvD X.K p B G3 H3 σ3 δ3 ∧ Iv m' δ3, fun σ3 H3 h => h, m, δ', iv, t, p, B, G2, i3'.nxt n2, en'.nxt n2,
      fun δ3 σ3 G3 H3 ⟨m', a1, a2⟩ b c e => ⟨m', a1, G3, δ3, st2.trans b, c, e, a2⟩, fun d3 v3 G3 H3 a b => q.rt d3 v3 G3 H3 a (st2.trans b), fun δ3 σ3 G3 H3 a b => q.nx δ3 σ3 G3 H3 a (st2.trans b), fun δ3 σ3 G3 H3 ⟨m', a1, a2⟩ b c e => ⟨m', a1, G3, δ3, st2.trans b, c, e, a2⟩, fun ds3 l3 xs3 G3 H3 a b => q.ro ds3 l3 xs3 G3 H3 a (st2.trans b)⟩
  | false => exact iteF (q.nx δ' σ' G2 H2 (hd m δ' iv t) st2 (i3'.nxt n2) (en'.nxt n2))
/-- an if at the end -/
theorem s_when {k : Bool} (hc : PTD X c δ k) (h1 : k = true → SsD X sts δ o) (h2 : k = false → SsD X tss δ o) : SsD X [.If c sts tss pos] δ o :=
  ss_seq (N := o.nx) (sd_if hc (fun h => h1 h.symm) fun h => h2 h.symm) fun _ h => ss_nil h
end
end Dv

set_option linter.all false
set_option maxRecDepth 100000
set_option maxHeartbeats 2000000
namespace Dv
open PySem PySem.Spec PyProof.Rows L2
/-! ### promises by data: R: the arguments' data, the answer's -/
def spD (K : Fg) (R : List Dt → Dt → Prop) : Sp := fun vs H Q _ => ∃ G ds d, Ex G H ∧ DzAll K G vs ds ∧ R ds d ∧ ∀ v G' H', Step H G G' → Ex H H' → Ex G' H' → Dz K G' v d → Q v H'
/-- the answer is a new list, data of nobody's yet -/
def spO (K : Fg) (R : List Dt → List Dt → Prop) : Sp := fun vs H Q _ => ∃ G ds es, Ex G H ∧ DzAll K G vs ds ∧ R ds es ∧ ∀ l xs G' H', Step H G G' → Ex H H' → Ex G' H' → H l = none → G' l = none → H' l = some (.lst xs) → DzAll K G' xs es → Q (.ref l) H'
/-- with a pot as the first argument; S: what the answer may be -/
def spP (K : Fg) (R : List Dt → (Dt → Prop) → Prop) : Sp := fun vs H Q _ => ∃ B G q ws ds S, I3 (some q) B G H ∧ vs = V.ref q :: ws ∧ DzAll K G ws ds ∧ R ds S ∧ ∀ v d G' H', S d → Step B G G' → I3 (some q) B G' H' → Dz K G' v d → Q v H'
def stD (N : List Str) (es : List En) : De := es ++ List.replicate (N.length - es.length) .no
theorem env_start {K : Fg} {p : Option Addr} {B G H : Hp} {N : List Str} {vs : List V} {es : List En} (hl : vs.length = es.length) (h : ∀ (i : Nat) e, es[i]? = some e → ∃ v, vs[i]? = some v ∧ Slot K p B G H e (some v)) (no : ∀ e ∈ es, ∀ o a, ¬ Foot e o a) : EnvD K p B G H (L2.start N vs) (stD N es) := by
  have el : (L2.start N vs).length = (stD N es).length := by
    unfold L2.start stD
    simp only [List.length_append, List.length_map, List.length_replicate, hl]
  have at1 : ∀ (i : Nat) e, (stD N es)[i]? = some e → i < es.length ∧ es[i]? = some e ∨ e = .no := fun i e q => by
    unfold stD at q
    by_cases hi : i < es.length
    · rw [List.getElem?_append_left hi] at q; exact .inl ⟨hi, q⟩
    · rw [List.getElem?_append_right (by omega), List.getElem?_replicate] at q
      split at q
      · cases q; exact .inr rfl
      · cases q
  refine ⟨el, fun i e q => ?_, fun i j e f oi oj a _ q1 _ _ _ m1 => ?_⟩
  · rcases at1 i e q with ⟨hi, q'⟩ | rfl
    · obtain ⟨v, hv, s⟩ := h i e q'
      refine ⟨some v, ?_, s⟩
      unfold L2.start
      rw [List.getElem?_append_left (by rw [List.length_map, hl]; exact hi), List.getElem?_map, hv]; rfl
    · have hi : i < (L2.start N vs).length := by rw [el]; exact (List.getElem?_eq_some_iff.mp q).1
      exact ⟨_, List.getElem?_eq_getElem hi, trivial⟩
  · rcases at1 i e q1 with ⟨hi, q'⟩ | rfl
    · exact absurd m1 (no e (List.mem_of_getElem? q') _ _)
    · exact (foot_no m1).elim
theorem env_data {K : Fg} {p : Option Addr} {B G H : Hp} {N : List Str} {vs : List V} {ds : List Dt} (h : DzAll K G vs ds) : EnvD K p B G H (L2.start N vs) (stD N (ds.map .d)) :=
  env_start (by rw [List.length_map]; exact dpAll_length h) (fun i e q => by
    rw [List.getElem?_map] at q
    cases z : ds[i]? with
    | none => rw [z] at q; cases q
    | some d =>
      rw [z] at q
      cases q
      obtain ⟨v, a, b⟩ := dpAll_get h z
      exact ⟨v, a, v, rfl, b⟩) fun e he => by
    obtain ⟨d, _, rfl⟩ := List.mem_map.mp he
    exact fun o a => foot_d
theorem env_pot {K : Fg} {q : Addr} {B G H : Hp} {N : List Str} {vs : List V} {ds : List Dt} (h : DzAll K G vs ds) : EnvD K (some q) B G H (L2.start N (V.ref q :: vs)) (stD N (.pot :: ds.map .d)) :=
  env_start (by rw [List.length_cons, List.length_cons, List.length_map, dpAll_length h]) (fun i e z => by
    cases i with
    | zero => simp at z; subst z; exact ⟨_, rfl, q, rfl, rfl⟩
    | succ i =>
      rw [List.getElem?_cons_succ, List.getElem?_map] at z
      cases y : ds[i]? with
      | none => rw [y] at z; cases z
      | some d =>
        rw [y] at z
        cases z
        obtain ⟨v, a, b⟩ := dpAll_get h y
        exact ⟨v, by rw [List.getElem?_cons_succ]; exact a, v, rfl, b⟩) fun e he => by
    rcases List.mem_cons.mp he with rfl | he
    · exact fun o a => foot_pot
    · obtain ⟨d, _, rfl⟩ := List.mem_map.mp he
      exact fun o a => foot_d
/-- a def of the text, by what it does with data; k: its level -/
structure Cal (P : Program) (w : World) (K : Fg) (mg : Str → Option Value) (base : Heap) (k : Nat) (x : Str) (ps : List Str) (st : Stmt) (sp : Sp) : Prop where
  ex : ∃ f fd, FnG P w K mg base k f fd ps sp ∧ mg x = some (.ref f) ∧ PySem.W.keepIn K (.ref f) = true ∧ Binds K fd ps [] ∧ Fun K x x st f fd
section
variable {P : Program} {w : World} {K : Fg} {mg : Str → Option Value} {base : Heap} {x : Str} {st : Stmt} {f : Addr} {fd : FuncData} {N ps : List Str} {k : Nat} {R : List Dt → Dt → Prop}
theorem fn_data (F : Fun K x x st f fd) (S : FnScope N ps (defScope st)) (len : ∀ ds d, R ds d → ds.length = ps.length)
    (body : ∀ (cdv : Value) (A : Around) (outer : List Env) (s : Shared) (H : Hp) (E : XK), Room k (xc P w K mg base N x st f cdv A outer s H E).A → (xc P w K mg base N x st f cdv A outer s H E).A.guards = some [] → (xc P w K mg base N x st f cdv A outer s H E).A.units + 64 < cLine →
      ∀ ds d, R ds d → SsD (xc P w K mg base N x st f cdv A outer s H E) (defBody st) (stD N (ds.map .d)) { nx := fun _ => d = .none, rt := fun y => y = d }) : FnG P w K mg base (k + 1) f fd ps (spD K R) := by
  refine fnG_of F S (fun vs H Q E ⟨G, ds, d, _, h, r, _⟩ => by rw [dpAll_length h]; exact len ds d r) fun cdv A outer s H vs Q E hr hg ⟨G, ds, d, eg, h, r, q⟩ => ?_
  refine ⟨_, body cdv A outer s H E hr hg hr.units ds d r, none, H, G, ⟨Ex.refl H, eg, fun _ z => nomatch z⟩, env_data h, ?_, ?_, ?_, ?_, ?_⟩
  · intro δ σ G' H' e s' i en
    subst e
    exact q .non G' H' s' i.bh i.gh .non
  · intro d' v G' H' e s' i hv
    subst e
    exact q v G' H' s' i.bh i.gh hv
  · intro _ _ _ _ z; exact z.elim
  · intro _ _ _ _ z; exact z.elim
  · intro _ _ _ _ _ z; exact z.elim
/-- an own list as the answer -/
theorem fn_own {R : List Dt → List Dt → Prop} (F : Fun K x x st f fd) (S : FnScope N ps (defScope st)) (len : ∀ ds d, R ds d → ds.length = ps.length)
    (body : ∀ (cdv : Value) (A : Around) (outer : List Env) (s : Shared) (H : Hp) (E : XK), Room k (xc P w K mg base N x st f cdv A outer s H E).A → (xc P w K mg base N x st f cdv A outer s H E).A.guards = some [] → (xc P w K mg base N x st f cdv A outer s H E).A.units + 64 < cLine →
      ∀ ds es, R ds es → SsD (xc P w K mg base N x st f cdv A outer s H E) (defBody st) (stD N (ds.map .d)) { ro := fun y => y = es }) : FnG P w K mg base (k + 1) f fd ps (spO K R) := by
  refine fnG_of F S (fun vs H Q E ⟨G, ds, d, _, h, r, _⟩ => by rw [dpAll_length h]; exact len ds d r) fun cdv A outer s H vs Q E hr hg ⟨G, ds, es, eg, h, r, q⟩ => ?_
  refine ⟨_, body cdv A outer s H E hr hg hr.units ds es r, none, H, G, ⟨Ex.refl H, eg, fun _ z => nomatch z⟩, env_data h, ?_, ?_, ?_, ?_, ?_⟩
  · intro _ _ _ _ z; exact z.elim
  · intro _ _ _ _ z; exact z.elim
  · intro _ _ _ _ z; exact z.elim
  · intro _ _ _ _ z; exact z.elim
  · intro ds' l xs G' H' e s' i h1 h2 _ h3 h4
    subst e
    exact q l xs G' H' s' i.bh i.gh h1 h2 h3 h4
theorem fn_pot {R : List Dt → (Dt → Prop) → Prop} (F : Fun K x x st f fd) (S : FnScope N ps (defScope st)) (len : ∀ ds T, R ds T → ds.length + 1 = ps.length)
    (body : ∀ (cdv : Value) (A : Around) (outer : List Env) (s : Shared) (H : Hp) (E : XK), Room k (xc P w K mg base N x st f cdv A outer s H E).A → (xc P w K mg base N x st f cdv A outer s H E).A.guards = some [] → (xc P w K mg base N x st f cdv A outer s H E).A.units + 64 < cLine →
      ∀ ds T, R ds T → SsD (xc P w K mg base N x st f cdv A outer s H E) (defBody st) (stD N (.pot :: ds.map .d)) { nx := fun _ => T .none, rt := T }) : FnG P w K mg base (k + 1) f fd ps (spP K R) := by
  refine fnG_of F S (fun vs H Q E ⟨B, G, q, ws, ds, T, _, e, h, r, _⟩ => by rw [e, List.length_cons, dpAll_length h]; exact len ds T r) fun cdv A outer s H vs Q E hr hg ⟨B, G, q, ws, ds, T, i, e, h, r, qq⟩ => ?_
  subst e
  refine ⟨_, body cdv A outer s H E hr hg hr.units ds T r, some q, B, G, i, env_pot h, ?_, ?_, ?_, ?_, ?_⟩
  · intro δ σ G' H' t s' i' en
    exact qq .non .none G' H' t s' i' .non
  · intro d' v G' H' t s' i' hv
    exact qq v d' G' H' t s' i' hv
  · intro _ _ _ _ z; exact z.elim
  · intro _ _ _ _ z; exact z.elim
  · intro _ _ _ _ _ z; exact z.elim
end
section
variable {X : Cx} {k : Nat} {x : Str} {ps ks : List Str} {st : Stmt} {R : List Dt → Dt → Prop} {δ : De} {e : Expr} {es : List Expr} {ds : List Dt} {d : Dt} {p pos : Pos} {kws : List Keyword} {S : List Dt → Prop} {U : Dt → Prop}
theorem sp_use {K : Fg} {p : Option Addr} {B G H : Hp} {vs : List V} {Q : VK} (i3 : I3 p B G H) (hv : DzAll K G vs ds) (hR : R ds d) (q : ∀ v G' H', Nxt p G H G' H' → Dz K G' v d → Q v H') : spD K R vs H Q E0 :=
  ⟨G, ds, d, i3.gh, hv, hR, fun v G' H' s e g hd => q v G' H' ⟨s, fun a o h => e a o (del_le h).1, g, fun z hz => by
    obtain ⟨_, _, a, b, h3, h4⟩ := i3.pot z hz
    exact ⟨a, b, e _ _ h3, h4⟩⟩ hd⟩
theorem xd_call (C : Cal X.prog X.w X.K X.mg X.base k x ps st (spD X.K R)) (ha : XA X (e :: es) δ S) (hR : ∀ ds, S ds → ∃ d, R ds d ∧ U d) (hr : Room k X.A := by first | assumption | (refine Room.mono (by assumption) ?_; decide)) (hgd : X.A.guards = some [] := by assumption) (hg : Gl X x := by rfl)
    (hpl : starEach es X.env = es.map fun e => (false, eval e X.env) := by rfl) (hdb : (x == ("__debug__" : Str)) = false := by decide) : XD X (.Call (.Name x p) (e :: es) [] pos) δ U := by
  obtain ⟨f, fd, G, hm, hk, hb, _⟩ := C.ex
  exact PE.imp (pe_g G hr hgd hg hm hk hb ha.pa hdb (by rw [hpl]; exact ha.pl) (back_plain hpl)) fun σ H Q ⟨p, B, G, i3, en, q⟩ => ⟨p, B, G, i3, en, fun vs ds G' H' s n hv => by
    obtain ⟨d, h1, h2⟩ := hR ds s
    exact sp_use (i3.nxt n) hv h1 fun v G2 H2 n2 hd => q v d G2 H2 h2 (n.trans n2) hd⟩
theorem pd_call (C : Cal X.prog X.w X.K X.mg X.base k x ps st (spD X.K R)) (ha : PAD X (e :: es) δ ds) (hR : R ds d) (hr : Room k X.A := by first | assumption | (refine Room.mono (by assumption) ?_; decide)) (hgd : X.A.guards = some [] := by assumption) (hg : Gl X x := by rfl)
    (hpl : starEach es X.env = es.map fun e => (false, eval e X.env) := by rfl) (hdb : (x == ("__debug__" : Str)) = false := by decide) : PD X (.Call (.Name x p) (e :: es) [] pos) δ d :=
  xd_call C ha (fun y h => ⟨d, by rw [h]; exact hR, rfl⟩) hr hgd hg hpl hdb
theorem pd_call0 (C : Cal X.prog X.w X.K X.mg X.base k x ps st (spD X.K R)) (hR : R [] d) (hr : Room k X.A := by first | assumption | (refine Room.mono (by assumption) ?_; decide)) (hgd : X.A.guards = some [] := by assumption) (hg : Gl X x := by rfl)
    (hdb : (x == ("__debug__" : Str)) = false := by decide) : PD X (.Call (.Name x p) [] [] pos) δ d := by
  obtain ⟨f, fd, G, hm, hk, hb, _⟩ := C.ex
  exact PE.imp (pe_g0 G hr hgd hg hm hk hb hdb) fun σ H Q ⟨p, B, G, i3, en, q⟩ => sp_use i3 .nil hR fun v G2 H2 n2 hd => q v d G2 H2 rfl n2 hd
/-- a new list taken as data -/
theorem spO_data {K : Fg} {R : List Dt → List Dt → Prop} : ∀ vs H Q E, spD K (fun ds d => ∃ es, R ds es ∧ d = .list es) vs H Q E → spO K R vs H Q E := fun vs H Q E ⟨G, ds, d, e, h, ⟨es, r, ed⟩, q⟩ =>
  ⟨G, ds, es, e, h, r, fun l xs G' H' s e2 g hl gl hl' ha => by
    subst ed
    refine q (.ref l) (upd G' l (.lst xs)) H' ⟨s.1.mut (e.free hl), fun a h1 h2 => ?_⟩ e2 (fun a o ho => ?_) (.lst (.inl (.inl upd_same)) (dpAll_ex (Ex.new gl) _ _ ha))
    · have : a ≠ l := fun w => h1 (w ▸ hl)
      rw [upd_ne this]; exact s.2 a h1 h2
    · by_cases w : a = l
      · subst w; rw [upd_same] at ho; cases ho; exact hl'
      · rw [upd_ne w] at ho; exact g a o ho⟩
theorem FnG.imp {P : Program} {w : World} {K : Fg} {mg : Str → Option Value} {base : Heap} {k : Nat} {f : Addr} {fd : FuncData} {ps : List Str} {sp sp' : Sp} (F : FnG P w K mg base k f fd ps sp) (h : ∀ vs H Q E, sp' vs H Q E → sp vs H Q E) : FnG P w K mg base k f fd ps sp' :=
  ⟨fun vs H Q E z => F.len vs H Q E (h _ _ _ _ z), fun A outer s H args us vs Q E a b c d e z => F.run A outer s H args us vs Q E a b c d e (h _ _ _ _ z)⟩
theorem Cal.data {P : Program} {w : World} {K : Fg} {mg : Str → Option Value} {base : Heap} {k : Nat} {x : Str} {ps : List Str} {st : Stmt} {R : List Dt → List Dt → Prop} (C : Cal P w K mg base k x ps st (spO K R)) : Cal P w K mg base k x ps st (spD K fun ds d => ∃ es, R ds es ∧ d = .list es) := by
  obtain ⟨f, fd, G, r⟩ := C.ex
  exact ⟨f, fd, G.imp spO_data, r⟩
/-- a call with a pot as the first argument -/
theorem xd_pot {R : List Dt → (Dt → Prop) → Prop} (C : Cal X.prog X.w X.K X.mg X.base k x ps st (spP X.K R)) (i : Nat) {y : Str} {yp : Pos} (ha : XA X es δ S) (hR : ∀ ds, S ds → R ds U) (hs : δ[i]? = some .pot := by rfl) (hN : X.N[i]? = some y := by rfl)
    (hv : Vis X.env.scope y := by first | exact Or.inl rfl | exact Or.inr (Or.inl rfl) | exact Or.inr (Or.inr rfl)) (hr : Room k X.A := by first | assumption | (refine Room.mono (by assumption) ?_; decide)) (hgd : X.A.guards = some [] := by assumption) (hg : Gl X x := by rfl)
    (hp1 : starEach (.Name y yp :: es) X.env = (false, eval (.Name y yp) X.env) :: starEach es X.env := by rfl) (hdb : (x == ("__debug__" : Str)) = false := by decide) (hd : (y == ("__debug__" : Str)) = false := by decide) (hcd : (y == ("__classdict__" : Str)) = false := by decide) : XD X (.Call (.Name x p) (.Name y yp :: es) [] pos) δ U := by
  obtain ⟨f, fd, G, hm, hk, hb, _⟩ := C.ex
  refine PE.imp (pe_g G hr hgd hg hm hk hb (pa_cons (pe_var hN hv hd hcd) ha.pa hp1) hdb hp1 (back_plain ha.pl)) fun σ H Q ⟨p, B, G, i3, en, q⟩ => ?_
  obtain ⟨o, h1, z, rfl, rfl⟩ := en.slot i _ hs
  refine ⟨_, h1, some z, B, G, i3, en, fun vs ds G' H' s n hv => ?_⟩
  have i3' := i3.nxt n
  refine ⟨del (some z) H', G', z, vs, ds, U, ⟨fun a o h => (del_le h).1, i3'.gh, fun y hy => ?_⟩, rfl, hv, hR ds s, fun v d G2 H2 u st2 i2 hd => q v d G2 H2 u (n.trans ⟨⟨st2.1, fun a h1 h2 => ?_⟩, i2.bh, i2.gh, fun y hy => (i2.pot y hy).2.2⟩) hd⟩
  · cases hy
    obtain ⟨_, h2, h3⟩ := i3'.pot z rfl
    refine ⟨?_, h2, h3⟩
    unfold del; rw [if_pos rfl]
  · by_cases za : z = a
    · subst za; exact (i2.pot z rfl).2.1
    · exact st2.2 a (by rw [del_ne (fun w => za (Option.some.inj w))]; exact h1) h2
end
end Dv
namespace Dv
open PySem PySem.Spec PyProof.Rows L2
/-! ### calls by keywords alone: ix: where each parameter stands among them -/
def pick {α : Type} (ix : List Nat) (l : List α) : List α := ix.filterMap fun i => l[i]?
theorem pick_cons {α : Type} (i : Nat) (ix : List Nat) (l : List α) : pick (i :: ix) l = (match l[i]? with | some a => a :: pick ix l | none => pick ix l) := by
  unfold pick
  rw [List.filterMap_cons]
  cases l[i]? <;> rfl
theorem pick_vals {vs : List V} {us : List Value} (r : Vals vs us) : ∀ ix : List Nat, Vals (pick ix vs) (pick ix us)
  | [] => .nil
  | i :: ix => by
    rw [pick_cons, pick_cons]
    cases e : vs[i]? with
    | none => rw [r.none_of e]; exact pick_vals r ix
    | some v =>
      obtain ⟨u, e2, rv⟩ := r.get e
      rw [e2]
      exact .cons rv (pick_vals r ix)
theorem pick_dz {K : Fg} {G : Hp} {vs : List V} {ds : List Dt} (r : DzAll K G vs ds) : ∀ ix : List Nat, DzAll K G (pick ix vs) (pick ix ds)
  | [] => .nil
  | i :: ix => by
    rw [pick_cons, pick_cons]
    cases e : vs[i]? with
    | none =>
      have : ds[i]? = none := List.getElem?_eq_none (by rw [← dpAll_length r]; exact List.getElem?_eq_none_iff.mp e)
      rw [this]; exact pick_dz r ix
    | some v =>
      obtain ⟨d, e2, rv⟩ := dpAll_get' r e
      rw [e2]
      exact .cons rv (pick_dz r ix)
structure XK (X : Cx) (kws : List Keyword) (δ : De) (S : List Dt → Prop) : Prop where
  pk : PK X kws (rA X.K δ S)
theorem PK.imp {X : Cx} {e : List Keyword} {t t' : TA} (h : PK X e t) (k : ∀ σ H Q, t' σ H Q → t σ H Q) : PK X e t' := ⟨fun pos pins s σ H Q I q => h.run pos pins s σ H Q I (k σ H Q q)⟩
abbrev KD (X : Cx) (kws : List Keyword) (δ : De) (ds : List Dt) : Prop := XK X kws δ (fun x => x = ds)
section
variable {X : Cx} {k : Nat} {x : Str} {ps ks : List Str} {ix : List Nat} {st : Stmt} {R : List Dt → Dt → Prop} {δ : De} {e : Expr} {ds : List Dt} {d : Dt} {p pos kpos : Pos} {kws : List Keyword} {nm : Option Str}
theorem k_n : KD X [] δ [] := ⟨PK.imp pk_nil fun σ H Q ⟨p, B, G, i3, en, q⟩ => q [] [] G H rfl (.refl i3) .nil⟩
theorem k_c (ha : PD X e δ d) (hr : KD X kws δ ds) : KD X (⟨nm, e, kpos⟩ :: kws) δ (d :: ds) := ⟨PK.imp (pk_cons ha hr.pk) fun σ H Q ⟨p, B, G, i3, en, q⟩ => ⟨p, B, G, i3, en, fun v d1 G1 H1 r1 n1 h1 => ⟨p, B, G1, i3.nxt n1, en.nxt n1, fun vs ds2 G2 H2 r2 n2 h2 =>
  q (v :: vs) (d1 :: ds2) G2 H2 (by rw [r1, r2]) (n1.trans n2) (.cons (dp_ex n2.st.1 _ _ h1) h2)⟩⟩⟩
theorem pd_callK (ix : List Nat) (C : Cal X.prog X.w X.K X.mg X.base k x ps st (spD X.K R)) (ha : KD X kws δ ds) (hR : R (pick ix ds) d)
    (hb : ∀ (kV doc pm : Value) (an : Option Addr) (cdv ct : Value) (ws : List Value), ws.length = ks.length → bindArgs (PySem.W.fnOf x x (defArgs st) (defBody st) (defScope st) .none kV doc pm an cdv ct) ⟨[], ks.zip ws⟩ = pure (ps.zip (pick ix ws)))
    (hl : ds.length = ks.length := by rfl) (hall : (backToKw pos (keywordEach kws X.env)).all (·.1.isSome) = true := by rfl) (hks : (backToKw pos (keywordEach kws X.env)).filterMap (·.1) = ks := by rfl) (hpl : ((backTo pos (starEach [] X.env)).any (·.1) || (backToKw pos (keywordEach kws X.env)).any (·.1.isNone)) = false := by rfl)
    (hr : Room k X.A := by first | assumption | (refine Room.mono (by assumption) ?_; decide)) (hgd : X.A.guards = some [] := by assumption) (hg : Gl X x := by rfl) (hdb : (x == ("__debug__" : Str)) = false := by decide) : PD X (.Call (.Name x p) [] kws pos) δ d := by
  obtain ⟨f, fd, F, hm, hk, _, fn⟩ := C.ex
  obtain ⟨oc, od, kV, doc, pm, an, cdv, ct, osl, rfl, lk, hcd⟩ := fn.ex
  refine ⟨fun pins s σ H Q I ⟨p, B, G, i3, en, q⟩ => ?_⟩
  refine wpAny_Call_Name_kw (ld_glob I hg hm ?_ hdb)
  refine PySem.W.callWith_KW0 (h₀ := X.base) I.ok.mod.kin hk hall (thn (ha.pk.run pos pins s σ H (fun vs H1 => ∃ G1, Nxt p G H G1 H1 ∧ DzAll X.K G1 vs ds) I ⟨p, B, G, i3, en, fun vs ds' G1 H1 r n hv => ⟨G1, n, r ▸ hv⟩⟩) fun ws s1 ⟨zs, H1, I1, rz, G1, n, hv⟩ => ⟨I1.kIn, ?_⟩) hpl
  rw [hks]
  have hlw : ws.length = ks.length := by rw [← rz.length, dpAll_length hv]; exact hl
  have hsp : spD X.K R (pick ix zs) H1 Q E0 := sp_use (i3.nxt n) (pick_dz hv ix) hR fun v G2 H2 n2 hd => q v d G2 H2 rfl (n.trans n2) hd
  refine wpAny_call (codeAny_mono (F.run X.A X.stack s1 H1 ⟨[], ks.zip ws⟩ (pick ix ws) (pick ix zs) Q E0 hr hgd I1.env0 (.of_eq (hb kV doc pm an cdv ct ws hlw)) (pick_vals rz ix) hsp) fun r s' hq => ?_)
  have z := fnG_end I1 hq
  cases r with
  | error e => exact z
  | ok fl => cases fl <;> first | exact z | exact False.elim z
end
end Dv
namespace Dv
open PySem PySem.Spec PyProof.Rows L2
section
variable {X : Cx} {a b c : Expr} {δ : De} {i j k : Int} {pos : Pos}
/-- a <= b <= c -/
theorem pd_chain (ha : PD X a δ (.int i)) (hb : PD X b δ (.int j)) (hc : PD X c δ (.int k)) (hlm : lastMarks [CmpOp.LtE, CmpOp.LtE] [b, c] = false := by rfl) : PD X (.Compare a [.LtE, .LtE] [b, c] pos) δ (.bool (decide (i ≤ j) && decide (j ≤ k))) :=
  PE.imp (pe_chain op_le op_le ha hb hc (hm := hlm)) fun σ H Q ⟨p, B, G, i3, en, q⟩ => ⟨p, B, G, i3, en, fun v d G1 H1 r1 n1 h1 => ⟨p, B, G1, i3.nxt n1, en.nxt n1, fun w d2 G2 H2 r2 n2 h2 => by
    subst r1; subst r2
    cases h1; cases h2
    refine ⟨i, j, rfl, rfl, _, rfl, ?_⟩
    have n12 := n1.trans n2
    by_cases h : i ≤ j
    · rw [decide_eq_true h]
      refine iteT ⟨p, B, G2, i3.nxt n12, en.nxt n12, fun w' d3 G3 H3 r3 n3 h3 => ?_⟩
      subst r3
      cases h3
      exact ⟨j, k, rfl, rfl, q _ _ G3 H3 (by rw [decide_eq_true h]; rfl) (n12.trans n3) (.bl _)⟩
    · rw [decide_eq_false h]
      exact iteF (q _ _ G2 H2 (by rw [decide_eq_false h]; rfl) n12 (.bl _))⟩⟩
/-- a constant tuple of texts of the module -/
theorem dz_ktup {K : Fg} {a : Addr} {o : Obj} {its : Array Value} {n : Nat} {ss : List Str} (h : K.lookup a = some o) (hc : o.cls = .type "tuple") (hd : o.data = .seq its n) (hz : its.size ≤ sizeLine) (hv : Vals (ss.map V.str) its.toList) (G : Hp) : Dz K G (.ref a) (.tuple (ss.map PyData.str)) := by
  refine .tup (.inr ⟨o, its, n, h, hc, hd, hz, hv⟩) ?_
  clear hv
  induction ss with
  | nil => exact .nil
  | cons s r ih => exact .cons (.str s) ih
end
end Dv

set_option linter.all false
set_option maxRecDepth 100000
set_option maxHeartbeats 2000000
namespace Dv
open PySem PySem.Spec PyProof.Rows L2
/-! ### lists of the def's own -/
section
variable {X : Cx} {sts : List Stmt} {a b c e : Expr} {δ δ' : De} {o : Out} {d : Dt} {ds : List Dt} {pos p : Pos} {R : Dt → Prop}
theorem s_new (i : Nat) {x : Str} {pos' p2 : Pos} (hN : X.N.Nodup) (k : SsD X sts (δ.set i (.own [])) o) (hi : X.N[i]? = some x := by rfl) (hx : Loc X.env.scope x := by first | exact Or.inl rfl | exact Or.inr rfl)
    (hs : swapsWith (.List [] p2) (some (.Name x pos')) pos.line X.env = pure false := by rfl) (hf : X.fn x = true ∨ X.env.scope.names.lookup x = some .local := by first | exact .inl rfl | exact .inr rfl | assumption) : SsD X (.Assign [.Name x pos'] (.List [] p2) pos :: sts) δ o :=
  ss_to (PS.imp (ps_set hN hi hx (pe_lst pa_nil) hs hf) fun D σ H ⟨p, B, G, i3, en, q⟩ => ⟨Nat.zero_le _, fun l hl => by
    have n := Nxt.newH i3 (.lst []) hl
    have bl : B l = none := i3.bh.free hl
    have pl : p ≠ some l := fun z => by
      obtain ⟨_, _, _, _, h3, _⟩ := i3.pot l z
      rw [hl] at h3; cases h3
    exact q.nx _ _ G _ rfl (.refl _ _) (i3.nxt n) (en.putOwn i3 n hl (i3.gh.free hl) pl upd_same .nil i)⟩) k
theorem s_app (i : Nat) {x : Str} {apos cpos np : Pos} (hs : δ[i]? = some (.own ds)) (he : PD X e δ d) (k : SsD X sts (δ.set i (.own (ds ++ [d]))) o) (hz : ds.length < 100000) (hN : X.N[i]? = some x := by rfl)
    (hv : Vis X.env.scope x := by first | exact Or.inl rfl | exact Or.inr (Or.inl rfl) | exact Or.inr (Or.inr rfl)) (hd : (x == ("__debug__" : Str)) = false := by decide) (hcd : (x == ("__classdict__" : Str)) = false := by decide)
    (hbase : attributeBase (.Name x np) "append" X.env (eval (.Name x np) X.env) = eval (.Name x np) X.env := by rfl)
    (hfew : ((backTo cpos (starEach [e] X.env)).all (fun x => !x.1) && (backToKw cpos (keywordEach [] X.env)).all (fun x => x.1.isSome) && decide (([e] : List Expr).length + ([] : List Keyword).length + (if ([] : List Keyword).isEmpty then 0 else 1) < 30)) = true := by rfl)
    (hline : (apos.endLine == cpos.line) = true := by rfl) (hst : starEach [e] X.env = [(false, eval e X.env)] := by rfl) (hsw : swapsWith (.Call (.Attribute (.Name x np) "append" apos) [e] [] cpos) none pos.line X.env = pure false := by rfl) :
    SsD X (.Expr (.Call (.Attribute (.Name x np) "append" apos) [e] [] cpos) pos :: sts) δ o :=
  ss_to (PS.imp (ps_expr (pe_bm PySem.F.plainAttrs_list PySem.F.slot_list_append PySem.F.type_list_append mt_append (pe_var hN hv hd hcd) (pa_cons he pa_nil (by rw [hst]; rfl)) hbase hfew hline hst rfl) hsw) fun D σ H ⟨p, B, G, i3, en, q⟩ => by
    obtain ⟨o', h1, l, xs, rfl, h2, h3, h4, h5, h6⟩ := en.slot i _ hs
    refine ⟨_, h1, .inl ⟨rfl, xs, .inl (.inl h5)⟩, p, B, G, i3, en, fun v d' G' H' r n hv' => ?_⟩
    subst r
    have en' := en.nxt n
    have i3' := i3.nxt n
    have g' : G' l = none := n.st.2 l (nn h5) h3
    have h5' : H' l = some (.lst xs) := n.ex _ _ (by rw [del_ne h4]; exact h5)
    refine ⟨l, xs, v, rfl, rfl, h5', by rw [dpAll_length h6]; exact Nat.lt_of_lt_of_le hz (by decide), q.nx _ σ G' _ rfl (n.stepB i3) ⟨i3'.bh.mut h2, i3'.gh.mut g', fun z hz' => ?_⟩ (en'.app hs h1 (dpAll_append (dpAll_ex n.st.1 _ _ h6) (.cons hv' .nil)))⟩
    obtain ⟨a1, a2, a3, a4, a5, a6⟩ := i3'.pot z hz'
    have : z ≠ l := fun w => h4 (by rw [hz', w])
    exact ⟨a1, a2, a3, a4, by rw [upd_ne this]; exact a5, a6⟩) k
theorem s_retNew (i : Nat) {x : Str} {np : Pos} (hs : δ[i]? = some (.own ds)) (hR : o.ro ds) (hN : X.N[i]? = some x := by rfl) (hv : Vis X.env.scope x := by first | exact Or.inl rfl | exact Or.inr (Or.inl rfl) | exact Or.inr (Or.inr rfl)) (hd : (x == ("__debug__" : Str)) = false := by decide)
    (hcd : (x == ("__classdict__" : Str)) = false := by decide) : SsD X (.Return (some (.Name x np)) pos :: sts) δ o :=
  ss_end (PS.imp (ps_ret (pe_var hN hv hd hcd)) fun D σ H ⟨p, B, G, i3, en, q⟩ => by
    obtain ⟨o', h1, l, xs, rfl, h2, h3, h4, h5, h6⟩ := en.slot i _ hs
    exact ⟨_, h1, q.ro _ l xs G H hR (.refl _ _) i3 h2 h3 h4 h5 h6⟩)
/-- x = f(..), f's answer a new list: the def's own from here on -/
theorem s_own {k : Nat} {y : Str} {ps : List Str} {st : Stmt} {R : List Dt → List Dt → Prop} {es : List Expr} {ds' : List Dt} {p2 p3 : Pos} (i : Nat) {x : Str} {pos' : Pos} (hN : X.N.Nodup) (C : Cal X.prog X.w X.K X.mg X.base k y ps st (spO X.K R)) (ha : PAD X (e :: es) δ ds') (hR : R ds' ds) (go : SsD X sts (δ.set i (.own ds)) o)
    (hr : Room k X.A := by first | assumption | (refine Room.mono (by assumption) ?_; decide)) (hgd : X.A.guards = some [] := by assumption) (hg : Gl X y := by rfl) (hpl : starEach es X.env = es.map fun e => (false, eval e X.env) := by rfl) (hdb : (y == ("__debug__" : Str)) = false := by decide)
    (hi : X.N[i]? = some x := by rfl) (hx : Loc X.env.scope x := by first | exact Or.inl rfl | exact Or.inr rfl) (hs : swapsWith (.Call (.Name y p2) (e :: es) [] p3) (some (.Name x pos')) pos.line X.env = pure false := by rfl)
    (hf : X.fn x = true ∨ X.env.scope.names.lookup x = some .local := by first | exact .inl rfl | exact .inr rfl | assumption) : SsD X (.Assign [.Name x pos'] (.Call (.Name y p2) (e :: es) [] p3) pos :: sts) δ o := by
  obtain ⟨f, fd, F, hm, hk, hb, _⟩ := C.ex
  refine ss_to (PS.imp (ps_set hN hi hx (pe_g F hr hgd hg hm hk hb ha.pa hdb (by rw [hpl]; exact ha.pl) (back_plain hpl)) hs hf) fun D σ H ⟨p, B, G, i3, en, q⟩ => ⟨p, B, G, i3, en, fun vs dd G1 H1 r n hv => ?_⟩) go
  subst r
  have i31 := i3.nxt n
  refine ⟨G1, _, ds, i31.gh, hv, hR, fun l xs G2 H2 st2 e2 g2 hl gl hl2 ha2 => ?_⟩
  have n2 : Nxt p G1 H1 G2 H2 := ⟨st2, fun a o h => e2 a o (del_le h).1, g2, fun z hz => by
    obtain ⟨_, _, a, b, h3, h4⟩ := i31.pot z hz
    exact ⟨a, b, e2 _ _ h3, h4⟩⟩
  have pl : p ≠ some l := fun z => by
    obtain ⟨_, _, _, _, h3, _⟩ := i31.pot l z
    rw [hl] at h3; cases h3
  exact q.nx _ _ G2 H2 rfl ((n.trans n2).stepB i3) (i3.nxt (n.trans n2)) ((en.nxt n).putOwn i31 n2 hl gl pl hl2 ha2 i)
theorem s_retOwn (i : Nat) {x : Str} {np : Pos} (hs : δ[i]? = some (.own ds)) (hR : o.rt (.list ds)) (hN : X.N[i]? = some x := by rfl) (hv : Vis X.env.scope x := by first | exact Or.inl rfl | exact Or.inr (Or.inl rfl) | exact Or.inr (Or.inr rfl)) (hd : (x == ("__debug__" : Str)) = false := by decide)
    (hcd : (x == ("__classdict__" : Str)) = false := by decide) : SsD X (.Return (some (.Name x np)) pos :: sts) δ o :=
  ss_end (PS.imp (ps_ret (pe_var hN hv hd hcd)) fun D σ H ⟨p, B, G, i3, en, q⟩ => by
    obtain ⟨o', h1, l, xs, rfl, h2, h3, h4, h5, h6⟩ := en.slot i _ hs
    refine ⟨_, h1, q.rt _ _ (upd G l (.lst xs)) H hR ⟨Ex.new h3, fun y h7 h8 => ?_⟩ ⟨i3.bh, fun y u hu => ?_, fun z hz => ?_⟩ (.lst (.inl (.inl upd_same)) (dpAll_ex (Ex.new h3) _ _ h6))⟩
    · have : y ≠ l := fun w => h7 (w ▸ h2)
      rw [upd_ne this]; exact h8
    · by_cases w : y = l
      · subst w; rw [upd_same] at hu; cases hu; exact h5
      · rw [upd_ne w] at hu; exact i3.gh y u hu
    · obtain ⟨a1, a2, a3⟩ := i3.pot z hz
      have : z ≠ l := fun w => h4 (by rw [hz, w])
      exact ⟨a1, by rw [upd_ne this]; exact a2, a3⟩)
end
/-! ### a comprehension of plain elements -/
section
variable {X : Cx} {elt tg iter test : Expr} {scope : Scope} {own : List (Str × Nat)} {pos : Pos} {δ : De} {α : Type}
theorem take_succ' {β : Type} {xs : List β} {i : Nat} {x : β} (h : xs[i]? = some x) : xs.take (i + 1) = xs.take i ++ [x] := by
  rw [List.take_add_one, h]; rfl
theorem lc_map {xs : List α} {enc F : α → Dt} (hi : ID X tg iter δ (xs.map enc)) (ok : BlkOk X.N X.env.scope scope own) (hl : xs.length ≤ 100000) (δt : Dt → De)
    (hg : ∀ s H C cl fp (i : Nat) x, xs[i]? = some x → TgD (bX X scope s H C cl fp) tg (own.map (·.2)) (enc x) (wipeD δ (own.map (·.2))) (δt (enc x)))
    (he : ∀ s H C cl fp (i : Nat) x, xs[i]? = some x → PD (bX X scope s H C cl fp) elt (δt (enc x)) (F x)) : Lc X elt tg iter [] scope δ (fun d => d = .list (xs.map F)) := by
  have get : ∀ (i : Nat) d, (xs.map enc)[i]? = some d → ∃ x, xs[i]? = some x ∧ d = enc x := fun i d h => by
    rw [List.getElem?_map] at h
    cases e : xs[i]? with
    | none => rw [e] at h; cases h
    | some x => rw [e] at h; cases h; exact ⟨x, rfl, rfl⟩
  refine lc_of hi ok (fun ds e => by rw [e, List.length_map]; exact hl) (fun _ i out => out = (xs.take i).map F) (fun _ _ => rfl) (fun ds out e h => ?_) δt (fun _ _ _ b => b = true) (fun s H C cl fp ds i d e h => ?_) (fun s H C cl fp ds i d e h => PTs.imp pts_nil fun σ H Q ⟨p, B, G, i3, en, q⟩ => q true G H rfl (.refl i3)) (fun _ _ _ _ _ _ h => by cases h) (fun s H C cl fp ds i d e h _ => ?_)
  · rw [h, e, List.length_map, List.take_length]
  · subst e
    obtain ⟨x, hx, rfl⟩ := get i d h
    exact hg s H C cl fp i x hx
  · subst e
    obtain ⟨x, hx, rfl⟩ := get i d h
    refine XD.mono (he s H C cl fp i x hx) fun y ey out eo => ?_
    rw [ey, eo, take_succ' hx, List.map_append]; rfl
theorem pd_map {xs : List α} {enc F : α → Dt} (hc : X.calm = true) (hN : X.N.Nodup) (hi : ID X tg iter δ (xs.map enc)) (ok : BlkOk X.N X.env.scope scope own) (hl : xs.length ≤ 100000) (δt : Dt → De)
    (hg : ∀ s H C cl fp (i : Nat) x, xs[i]? = some x → TgD (bX X scope s H C cl fp) tg (own.map (·.2)) (enc x) (wipeD δ (own.map (·.2))) (δt (enc x)))
    (he : ∀ s H C cl fp (i : Nat) x, xs[i]? = some x → PD (bX X scope s H C cl fp) elt (δt (enc x)) (F x)) (hs : ∀ x, foldedSetIterable iter X.env x = pure x := by intro _; rfl) : PD X (.ListComp elt [⟨tg, iter, [], 0⟩] scope pos) δ (.list (xs.map F)) :=
  (lc_map hi ok hl δt hg he).xd hN hc hs
/-- with a test -/
theorem lc_mapIf {xs : List α} {enc F : α → Dt} {c : α → Bool} (hi : ID X tg iter δ (xs.map enc)) (ok : BlkOk X.N X.env.scope scope own) (hl : xs.length ≤ 100000) (δt : Dt → De)
    (hg : ∀ s H C cl fp (i : Nat) x, xs[i]? = some x → TgD (bX X scope s H C cl fp) tg (own.map (·.2)) (enc x) (wipeD δ (own.map (·.2))) (δt (enc x)))
    (ht : ∀ s H C cl fp (i : Nat) x, xs[i]? = some x → PTD (bX X scope s H C cl fp) test (δt (enc x)) (c x))
    (he : ∀ s H C cl fp (i : Nat) x, xs[i]? = some x → c x = true → PD (bX X scope s H C cl fp) elt (δt (enc x)) (F x)) : Lc X elt tg iter [test] scope δ (fun d => d = .list ((xs.filter c).map F)) := by
  have get : ∀ (i : Nat) d, (xs.map enc)[i]? = some d → ∃ x, xs[i]? = some x ∧ d = enc x := fun i d h => by
    rw [List.getElem?_map] at h
    cases e : xs[i]? with
    | none => rw [e] at h; cases h
    | some x => rw [e] at h; cases h; exact ⟨x, rfl, rfl⟩
  refine lc_of hi ok (fun ds e => by rw [e, List.length_map]; exact hl) (fun _ i out => out = ((xs.take i).filter c).map F) (fun _ _ => rfl) (fun ds out e h => ?_) δt (fun _ i d b => ∃ x, xs[i]? = some x ∧ d = enc x ∧ b = c x) (fun s H C cl fp ds i d e h => ?_) (fun s H C cl fp ds i d e h => ?_) (fun ds i d out e h ⟨x, hx, ed, eb⟩ eo => ?_) (fun s H C cl fp ds i d e h ⟨x, hx, ed, eb⟩ => ?_)
  · rw [h, e, List.length_map, List.take_length]
  · subst e
    obtain ⟨x, hx, rfl⟩ := get i d h
    exact hg s H C cl fp i x hx
  · subst e
    obtain ⟨x, hx, rfl⟩ := get i d h
    exact PTs.imp (pts_one (ht s H C cl fp i x hx)) fun σ H Q ⟨p, B, G, i3, en, q⟩ => ⟨p, B, G, i3, en, fun b G' H' e n => q b G' H' ⟨x, hx, rfl, e⟩ n⟩
  · rw [eo, take_succ' hx, List.filter_append, List.map_append, List.filter_cons, if_neg (by rw [← eb]; decide)]
    show _ = _ ++ ([] : List Dt)
    rw [List.append_nil]
  · subst ed
    refine XD.mono (he s H C cl fp i x hx eb.symm) fun y ey out eo => ?_
    rw [ey, eo, take_succ' hx, List.filter_append, List.map_append, List.filter_cons, if_pos eb.symm]; rfl
end
section
variable {X : Cx} {elt tg iter : Expr} {ifs : List Expr} {scope : Scope} {pos spos : Pos} {δ : De} {R : Dt → Prop} {o : Out} {N : De → Prop} {sts : List Stmt} {d : Dt}
/-- y = [..] on one line -/
theorem sd_lc (i : Nat) {y : Str} {py : Pos} (hN : X.N.Nodup) (h : Lc X elt tg iter ifs scope δ R) (hR : ∀ d, R d → N (δ.set i (.d d))) (hy : X.N[i]? = some y := by rfl) (hyl : X.env.scope.names.lookup y = some .local := by rfl)
    (hsw : swapsWith (.ListComp elt [⟨tg, iter, ifs, 0⟩] scope pos) (some (.Name y py)) spos.line X.env = pure true := by exact sw_true rfl rfl rfl (by decide +kernel)) (hc : X.calm = true := by rfl) (hs : ∀ x, foldedSetIterable iter X.env x = pure x := by intro _; rfl) :
    SD X (.Assign [.Name y py] (.ListComp elt [⟨tg, iter, ifs, 0⟩] scope pos) spos) δ { o with nx := N } := by
  obtain ⟨own, wi, g, tt, te, a1, a2, a3, a4, a5, a6⟩ := h.ex
  exact PS.imp (ps_setLc hc hN hy hyl hsw a1 a2 a3 a4 a5 hs) fun D σ H ⟨p, B, G, i3, en, q⟩ => a6 σ H _ ⟨p, B, G, i3, en, fun v d G' H' r n hv => q.nx _ _ G' H' (hR d r) (n.stepB i3) (i3.nxt n) ((en.nxt n).set hv)⟩
theorem s_lc (i : Nat) {y : Str} {py : Pos} (hN : X.N.Nodup) (h : Lc X elt tg iter ifs scope δ (fun x => x = d)) (k : SsD X sts (δ.set i (.d d)) o) (hy : X.N[i]? = some y := by rfl) (hyl : X.env.scope.names.lookup y = some .local := by rfl)
    (hsw : swapsWith (.ListComp elt [⟨tg, iter, ifs, 0⟩] scope pos) (some (.Name y py)) spos.line X.env = pure true := by exact sw_true rfl rfl rfl (by decide +kernel)) (hc : X.calm = true := by rfl) (hs : ∀ x, foldedSetIterable iter X.env x = pure x := by intro _; rfl) :
    SsD X (.Assign [.Name y py] (.ListComp elt [⟨tg, iter, ifs, 0⟩] scope pos) spos :: sts) δ o := ss_to (sd_lc i hN h (fun x e => by rw [e]) hy hyl hsw hc hs) k
end
end Dv

set_option linter.all false
set_option maxRecDepth 100000
set_option maxHeartbeats 4000000
namespace Dv
open PySem PySem.Spec PyProof.Rows L2
/-! ### enumerate of a tuple -/
theorem newEnumT (l : Addr) (items : Array Value) (n : Nat) (dct : Option Addr) (sl : Array (Option Value)) :
    Meets (Builtin.«enumerate.__new__» ⟨[.type "enumerate", .ref l], []⟩) (fun _ R s => s.heap.get? l = some { cls := .type "tuple", dict := dct, data := .seq items n, slots := sl } ∧
      R (.ok (.ret (.ref (s.heap.push { cls := .type "tuple_iterator", data := .fields #[.ref l, .int 0 0] }).objs.size)))
        { s with heap := (s.heap.push { cls := .type "tuple_iterator", data := .fields #[.ref l, .int 0 0] }).push { cls := .type "enumerate", data := .fields #[.none, .bool false, .ref s.heap.objs.size, rawInt 0, .none, .none] } }) :=
  .of_wp fun prog w A R s h => by
    obtain ⟨hp, g, d, tk, os⟩ := s
    obtain ⟨hl, h⟩ := h
    have hsub := sub_enumerate
    have hT : Heap.IsTuple (Shared.heap ⟨hp, g, d, tk, os⟩) l items := ⟨_, hl, rfl, n, rfl⟩
    wp_walk using AutoSeq1.wpAny_loadPart' hl
    refine wpAny_stack_any fun st => wpAny_pure ?_
    split
    · rename_i c _ _ _ _ _
      cases (c == Value.type "enumerate")
      · wp_walk using AutoSeq1.wpAny_loadPart' hl, wpAny_pyIter_tuple hT
        exact ⟨_, rfl, h⟩
      · wp_walk using AutoSeq1.wpAny_loadPart' hl, wpAny_pyIter_tuple hT
        exact ⟨_, rfl, h⟩
    · wp_walk using AutoSeq1.wpAny_loadPart' hl, wpAny_pyIter_tuple hT
      exact ⟨_, rfl, h⟩
theorem callEnumT {prog : Program} {w : World} {A : Around} {E : Value → Shared → Prop} {s : Shared} {l : Addr} {items : Array Value} {Q : Value → Shared → Prop} (hL : s.heap.IsTuple l items)
    (h : ∀ h', IsEnum h' (s.heap.objs.size + 1) s.heap.objs.size 0 .none → h'.IsTupleIter s.heap.objs.size l 0 → (∀ b o, s.heap.get? b = some o → h'.get? b = some o) → Q (.ref (s.heap.objs.size + 1)) { s with heap := h' }) :
    wpAny (model prog w) A (call (.type "enumerate") [.ref l]) Q E s := by
  obtain ⟨⟨c, dct, dt, sl⟩, hl, hc, n, hd⟩ := hL
  obtain rfl : c = .type "tuple" := hc
  obtain rfl : dt = .seq items n := hd
  refine callType_new F.called_enumerate (by decide) (F.typeCall_enumerate_1 _) (F.newCall_enumerate_1 _) (fun obj => F.args_object_init_2 obj _) F.entry_enumerate_new (newEnumT l items n dct sl) ⟨hl, ?_⟩
  have hz : (s.heap.push { cls := .type "tuple_iterator", data := .fields #[.ref l, .int 0 0] }).objs.size = s.heap.objs.size + 1 := Heap.size_push ..
  show _ ∧ _
  rw [hz]
  have he : IsEnum ((s.heap.push { cls := .type "tuple_iterator", data := .fields #[.ref l, .int 0 0] }).push { cls := .type "enumerate", data := .fields #[.none, .bool false, .ref s.heap.objs.size, rawInt 0, .none, .none] }) (s.heap.objs.size + 1) s.heap.objs.size 0 .none := by
    have q := Heap.get?_push_size (s.heap.push { cls := .type "tuple_iterator", data := .fields #[.ref l, .int 0 0] }) (o := { cls := .type "enumerate", data := .fields #[.none, .bool false, .ref s.heap.objs.size, rawInt 0, .none, .none] }) rfl
    rw [hz] at q
    exact q
  exact ⟨⟨_, he, rfl⟩, h _ he ⟨_, Heap.get?_push_of_some _ (Heap.get?_push_size _ rfl), rfl, rfl⟩ fun b o x => Heap.get?_push_of_some _ (Heap.get?_push_of_some _ x)⟩
def IteT (K : Fg) (a : Addr) : It :=
  ⟨fun i H => ∃ (xs : List V) (x : V), SqT K H a xs ∧ xs[i]? = some x, fun i H v H' => ∃ T x, v = .ref T ∧ H T = none ∧ H' = upd H T (.tup [.int (i : Nat), x]) ∧ ∀ xs, SqT K H a xs → xs[i]? = some x, fun i H => ∃ xs : List V, SqT K H a xs ∧ xs.length ≤ i⟩
theorem turnEnumT {P : Program} {w : World} {K : Fg} {elts : List Expr} {kk : Nat} {tpos : Pos} (a e it : Addr) :
    Turn P w K (.Tuple elts kk tpos) (IteT K a) [e, it] e (fun i h => (∃ old, IsEnum h e it ((i : Nat) : Int) old) ∧ h.IsTupleIter it a i ∧ e ≠ it ∧ a ≠ it ∧ e ≠ a) where
  mem := List.mem_cons_self
  obj := fun i h st b hb => by
    obtain ⟨⟨old, he⟩, ⟨o, ho, hc, hd⟩, _⟩ := st
    rcases List.mem_cons.mp hb with z | z
    · rw [z]; exact ⟨_, he, fun v q => nomatch q⟩
    · rw [List.mem_singleton.mp z]; exact ⟨o, ho, fun v q => by rw [hd] at q; cases q⟩
  keep := fun i h h' st k => by
    obtain ⟨⟨old, he⟩, hi, hne⟩ := st
    exact ⟨⟨old, k e List.mem_cons_self _ he⟩, hi.at fun o q => k it (List.mem_cons_of_mem _ (List.mem_singleton.mpr rfl)) o q, hne⟩
  item := by
    intro X hP hw hK hc i pins s σ H E I hf st hg
    subst hP hw hK
    obtain ⟨⟨old, he⟩, hit, hne, hna, hea⟩ := st
    obtain ⟨xs, x, hq, hx⟩ := hg
    obtain ⟨its, rv, p, hz⟩ := I.tuple hq
    obtain ⟨u, hu, ru⟩ := rv.get hx
    have hel : e < s.heap.objs.size := Heap.lt_size he
    have hil : it < s.heap.objs.size := by obtain ⟨_, q, _⟩ := hit; exact Heap.lt_size q
    have hT : s.heap.IsTuple a its.toArray := p
    have hlt : i < its.toArray.size := by
      rw [List.size_toArray]; exact (List.getElem?_eq_some_iff.mp hu).1
    refine wpAny_pyNext_enum_itemD (Draws.tuple (A := X.A.in1) (I.ok.hd hc) it a hna its.toArray) he ⟨hit, hT⟩ hlt hne (by
      intro z
      rcases List.mem_cons.mp z with z | z
      · exact hne z
      · exact hea (List.mem_singleton.mp z)) fun y h' tk hy ho hst hTup hsz hk => ?_
    have ey : y = u := by
      have q : its.toArray[i]? = some y := hy
      rw [show its.toArray[i]? = its[i]? by simp, hu] at q
      exact (Option.some.inj q).symm
    subst ey
    refine ⟨_, rfl, wpAny_letOwnedTupleGo_enum (s := { s with heap := h', toks := tk + 1 }) ho fun h'' he' sb => ?_⟩
    have hT2 : h''.get? s.heap.objs.size = some { cls := .type "tuple", data := .seq #[.int i tk, y] } := (sb.2 _ (Nat.ne_of_gt hel)).trans hTup
    have new : ObjOk X.prog X.w (upd H s.heap.objs.size (.tup [.int (i : Nat), x])) h'' s.heap.objs.size (.tup [.int (i : Nat), x]) :=
      ⟨by show 2 ≤ sizeLine; decide, [.int i tk, y], .cons ⟨_, rfl⟩ (.cons ru .nil), ⟨_, hT2, rfl, _, rfl⟩⟩
    have I1 : Inv X pins σ (upd H s.heap.objs.size (.tup [.int (i : Nat), x])) { s with heap := h'', toks := tk + 1 } :=
      I.turnedNew (ch := [e, it]) (fun b ob hb q => (sb.2 b (fun z => hb (by simp [z]))).trans (hk b ob (fun z => hb (by simp [z])) (fun z => hb (by simp [z])) q)) hf (Nat.le_refl _) new
    refine ⟨.ref s.heap.objs.size, _, I1, rfl, ⟨_, x, rfl, I.hok.fresh (Nat.le_refl _), rfl, fun ys hy => by rw [I.tuple_inj hy hq]; exact hx⟩, ⟨⟨y, ?_⟩, hst.1.at fun o q => (sb.2 it (Ne.symm hne)).trans q, hne, hna, hea⟩, fun b hb => ?_⟩
    · have e1 : ((i + 1 : Nat) : Int) = (i : Int) + 1 := by omega
      rw [e1]; exact he'
    · have hb' : b < s.heap.objs.size := by
        rcases List.mem_cons.mp hb with z | z
        · rw [z]; exact hel
        · rw [List.mem_singleton.mp z]; exact hil
      rw [upd_ne (Nat.ne_of_lt hb')]
      exact (hf b hb).1
  done := by
    intro X hP hw hK hc i pins s σ H E I hf st hg
    subst hP hw hK
    obtain ⟨⟨old, he⟩, hit, hne, hna, hea⟩ := st
    obtain ⟨xs, hq, hx⟩ := hg
    obtain ⟨its, rv, p, hz⟩ := I.tuple hq
    have hT : s.heap.IsTuple a its.toArray := p
    obtain ⟨f0, f1, f2, f3, f4, f5⟩ := hf it (List.mem_cons_of_mem _ (List.mem_singleton.mpr rfl))
    have hl := rv.length
    have D : Draws X.prog X.w X.A.in1 it [it, a] i (fun _ _ => True) (fun j h => j = i ∧ h.IsTupleIter it a j ∧ h.IsTuple a its.toArray) :=
      { live := fun _ _ st => let ⟨o, ho, _⟩ := st.2.1; ⟨o, ho⟩
        frame := fun _ _ _ st k => ⟨st.1, st.2.1.at fun o e => k it (by simp) o e, st.2.2.at fun o e => k a (by simp) o e⟩
        item := fun j s Q E hj st _ => absurd st.1 (Nat.ne_of_lt hj)
        done := fun s Q E st hE => wpAny_nextOf_tuple_end (I.ok.hd hc) st.2.1 st.2.2 (by simp; omega) hE }
    exact wpAny_pyNext_enum_endD D he ⟨rfl, hit, hT⟩ fun h' eb => ⟨rfl, I.turned (t' := s.toks) (fun b o hb q => eb b o hb q) f0 f1 f3 f4 f5⟩
  self := fun A i s Q E st h => by
    obtain ⟨⟨_, he⟩, _⟩ := st
    exact wpAny_pyIter_enum he h
theorem pi_enumT {X : Cx} {e : Expr} {ta : TA} {p pos tpos : Pos} {elts : List Expr} {kk : Nat} (hg : Gl X "enumerate") (hm : X.mg "enumerate" = none) (ha : PA X [e] ta) (hs : starEach [e] X.env = [(false, eval e X.env)] := by rfl) :
    PI X (.Tuple elts kk tpos) (.Call (.Name "enumerate" p) [e] [] pos) (fun σ H R => ta σ H fun vs H1 => ∃ a xs, vs = [.ref a] ∧ SqT X.K H1 a xs ∧ R (IteT X.K a) H1) := by
  refine ⟨fun pins s σ H R I h => ?_⟩
  refine Call_ (ld_blt I hg hm boot_enumerate (PyProof.Rows.callWith_type1 (thn (ha.run pos pins s σ H _ I h) fun us s1 ⟨vs, H1, I1, r1, q1⟩ => ?_) hs rfl))
  obtain ⟨a, xs, ex, hq, q⟩ := q1
  subst ex
  obtain ⟨u, rfl, ru⟩ := r1.one
  cases ru
  obtain ⟨its, rv, p', hz⟩ := I1.tuple hq
  have hTa : s1.heap.IsTuple a its.toArray := p'
  have hal : a < s1.heap.objs.size := by obtain ⟨_, z, _⟩ := hTa; exact Heap.lt_size z
  refine callEnumT hTa fun h' he hit hk => wpAny_pyIter_enum he ?_
  have I2 : Inv X pins σ H1 { s1 with heap := h' } := I1.kept (t' := s1.toks) hk
  refine ⟨s1.heap.objs.size + 1, [s1.heap.objs.size + 1, s1.heap.objs.size], _, _, H1, rfl, I2, turnEnumT a (s1.heap.objs.size + 1) s1.heap.objs.size, ⟨⟨.none, he⟩, hit, Nat.succ_ne_self _, Nat.ne_of_lt hal, Nat.ne_of_gt (Nat.lt_succ_of_lt hal)⟩, fun b hb => ?_, q⟩
  have hle : s1.heap.objs.size ≤ b := by
    rcases List.mem_cons.mp hb with z | z
    · rw [z]; exact Nat.le_succ _
    · rw [List.mem_singleton.mp z]; exact Nat.le_refl _
  exact I1.fpOk hle (I1.hok.fresh hle)
theorem yld_enumT {K : Fg} {G : Hp} {a : Addr} {xs : List V} {ds : List Dt} (hs : SqT K G a xs) (ha : DzAll K G xs ds) : Yld K (IteT K a) G (enD ds) := by
  intro p B G1 H1 e i3 i
  rw [enD_length]
  have h1 : SqT K H1 a xs := ex_t (e.trans i3.gh) hs
  refine ⟨fun hi => ?_, fun hi => ⟨xs, h1, by rw [dpAll_length ha]; omega⟩⟩
  obtain ⟨v, hv, hd⟩ := dpAll_get (i := i) (d := ds[i]) ha (List.getElem?_eq_getElem hi)
  refine ⟨⟨xs, v, h1, hv⟩, fun x H2 ⟨T, z, e1, hT, e2, hx⟩ => ?_⟩
  subst e1; subst e2
  have := hx xs h1
  rw [hv] at this
  cases this
  exact ⟨_, _, enD_get (List.getElem?_eq_getElem hi), .new i3 _ hT, .tup (.inl (.inl upd_same)) (.cons (.int _) (.cons (dp_ex (e.trans (Ex.new (i3.gh.free hT))) _ _ hd) .nil))⟩
theorem i_enumT {X : Cx} {e : Expr} {δ : De} {ds : List Dt} {p pos tpos : Pos} {elts : List Expr} {kk : Nat} (h : PAD X [e] δ [.tuple ds]) (hm : X.mg "enumerate" = none) (hg : Gl X "enumerate" := by rfl) : ID X (.Tuple elts kk tpos) (.Call (.Name "enumerate" p) [e] [] pos) δ (enD ds) :=
  PI.imp (pi_enumT hg hm h.pa h.pl) fun σ H Q ⟨p, B, G, i3, en, q⟩ => ⟨p, B, G, i3, en, fun v d G' H' r n hv => by
    subst r
    obtain ⟨v, rfl, h1⟩ := one_of hv
    cases h1 with
    | tup hs ha => exact ⟨_, _, rfl, ex_t n.gh hs, q _ _ G' H' rfl n (yld_enumT hs ha)⟩⟩
end Dv

set_option linter.all false
set_option maxRecDepth 100000
set_option maxHeartbeats 2000000
namespace Dv
open PySem PySem.Spec PyProof.Rows L2
section
variable {X : Cx} {sts : List Stmt} {a b c e : Expr} {δ δ' : De} {o : Out} {d d1 d2 d3 : Dt} {ds : List Dt} {pos p : Pos} {S : List Dt → Prop} {N : De → Prop}
/-- a, b = x, y and a, b, c = x, y, z with plain local names -/
theorem sd_par (i j : Nat) {x y : Str} {px py pt : Pos} {kt k2 pt2} (hN : X.N.Nodup) (hij : i ≠ j) (ha : XA X [a, b] δ S) (hS : ∀ ds, S ds → ∃ d1 d2, ds = [d1, d2] ∧ N ((δ.set i (.d d1)).set j (.d d2))) (hc : X.calm = true := by rfl) (hi : X.N[i]? = some x := by rfl) (hj : X.N[j]? = some y := by rfl) (hx : X.env.scope.names.lookup x = some .local := by rfl) (hy : X.env.scope.names.lookup y = some .local := by rfl)
    (hw : swappedStores [.Tuple [.Name x px, .Name y py] kt pt] (.Tuple [a, b] k2 pt2) X.env = pure (some [x, y]) := by rfl) (hs : swapsWithSole [.Tuple [.Name x px, .Name y py] kt pt] (.Tuple [a, b] k2 pt2) pos.line X.env = pure false := by rfl) :
    SD X (.Assign [.Tuple [.Name x px, .Name y py] kt pt] (.Tuple [a, b] k2 pt2) pos) δ { o with nx := N } :=
  PS.imp (ps_par hc hN hi hj hij hx hy ha.pa hw hs) fun D σ H ⟨p, B, G, i3, en, q⟩ => ⟨p, B, G, i3, en, fun vs ds G' H' r n hv => by
    obtain ⟨d1, d2, e, hn⟩ := hS ds r
    subst e
    obtain ⟨v, w, rfl, h1, h2⟩ := two_of hv
    exact ⟨v, w, rfl, q.nx _ _ G' H' hn (n.stepB i3) (i3.nxt n) (((en.nxt n).set h1).set h2)⟩⟩
theorem s_par (i j : Nat) {x y : Str} {px py pt : Pos} {kt k2 pt2} (hN : X.N.Nodup) (hij : i ≠ j) (ha : PAD X [a, b] δ [d1, d2]) (k : SsD X sts ((δ.set i (.d d1)).set j (.d d2)) o) (hc : X.calm = true := by rfl) (hi : X.N[i]? = some x := by rfl) (hj : X.N[j]? = some y := by rfl) (hx : X.env.scope.names.lookup x = some .local := by rfl) (hy : X.env.scope.names.lookup y = some .local := by rfl)
    (hw : swappedStores [.Tuple [.Name x px, .Name y py] kt pt] (.Tuple [a, b] k2 pt2) X.env = pure (some [x, y]) := by rfl) (hs : swapsWithSole [.Tuple [.Name x px, .Name y py] kt pt] (.Tuple [a, b] k2 pt2) pos.line X.env = pure false := by rfl) :
    SsD X (.Assign [.Tuple [.Name x px, .Name y py] kt pt] (.Tuple [a, b] k2 pt2) pos :: sts) δ o :=
  ss_to (sd_par i j hN hij ha (fun ds e => ⟨d1, d2, e, rfl⟩) hc hi hj hx hy hw hs) k
theorem three_of {K : Fg} {G : Hp} {vs : List V} (h : DzAll K G vs [d1, d2, d3]) : ∃ v w u, vs = [v, w, u] ∧ Dz K G v d1 ∧ Dz K G w d2 ∧ Dz K G u d3 := by
  cases h with
  | cons a b => obtain ⟨w, u, e, f, g⟩ := two_of b; exact ⟨_, w, u, by rw [e], a, f, g⟩
theorem sd_par3 (i j l : Nat) {x y z : Str} {px py pz pt : Pos} {kt k2 pt2} (hN : X.N.Nodup) (hij : i ≠ j) (hil : i ≠ l) (hjl : j ≠ l) (ha : XA X [a, b, c] δ S) (hS : ∀ ds, S ds → ∃ d1 d2 d3, ds = [d1, d2, d3] ∧ N (((δ.set i (.d d1)).set j (.d d2)).set l (.d d3))) (hc : X.calm = true := by rfl) (hi : X.N[i]? = some x := by rfl) (hj : X.N[j]? = some y := by rfl) (hl : X.N[l]? = some z := by rfl)
    (hx : X.env.scope.names.lookup x = some .local := by rfl) (hy : X.env.scope.names.lookup y = some .local := by rfl) (hz : X.env.scope.names.lookup z = some .local := by rfl)
    (hw : swappedStores [.Tuple [.Name x px, .Name y py, .Name z pz] kt pt] (.Tuple [a, b, c] k2 pt2) X.env = pure (some [x, y, z]) := by rfl) (hs : swapsWithSole [.Tuple [.Name x px, .Name y py, .Name z pz] kt pt] (.Tuple [a, b, c] k2 pt2) pos.line X.env = pure false := by rfl) :
    SD X (.Assign [.Tuple [.Name x px, .Name y py, .Name z pz] kt pt] (.Tuple [a, b, c] k2 pt2) pos) δ { o with nx := N } :=
  PS.imp (ps_par3 hc hN hi hj hl hij hil hjl hx hy hz ha.pa hw hs) fun D σ H ⟨p, B, G, i3, en, q⟩ => ⟨p, B, G, i3, en, fun vs ds G' H' r n hv => by
    obtain ⟨d1, d2, d3, e, hn⟩ := hS ds r
    subst e
    obtain ⟨v, w, u, rfl, h1, h2, h3⟩ := three_of hv
    exact ⟨v, w, u, rfl, q.nx _ _ G' H' hn (n.stepB i3) (i3.nxt n) ((((en.nxt n).set h1).set h2).set h3)⟩⟩
/-- two equal texts -/
theorem pt_neR {s : Str} (ha : PD X a δ (.str s)) (hb : PD X b δ (.str s)) : PTD X (.Compare a [.NotEq] [b] pos) δ false := by
  have h := pt_neS (pos := pos) ha hb
  rw [decide_eq_true rfl] at h
  exact h
theorem pd_eqR {s : Str} (ha : PD X a δ (.str s)) (hb : PD X b δ (.str s)) : PD X (.Compare a [.Eq] [b] pos) δ (.bool true) := by
  have h := pd_eqS (pos := pos) ha hb
  rw [decide_eq_true rfl] at h
  exact h
theorem pt_neIs {i : Int} (ha : PD X a δ (.int i)) (hb : PD X b δ (.int i)) : PTD X (.Compare a [.NotEq] [b] pos) δ false := by
  have h := pt_neI (pos := pos) ha hb
  rw [decide_eq_true rfl] at h
  exact h
theorem pt_neBs {i : Bool} (ha : PD X a δ (.bool i)) (hb : PD X b δ (.bool i)) : PTD X (.Compare a [.NotEq] [b] pos) δ false := by
  have h := pt_neB (pos := pos) ha hb
  rw [decide_eq_true rfl] at h
  exact h
theorem pt_neSame (hu : X.A.units + 64 < cLine) (ha : PD X a δ d) (hb : PD X b δ d) (hx : SeqAt.shaped d = true) : PTD X (.Compare a [.NotEq] [b] pos) δ false := by
  have h := pt_neD (pos := pos) hu ha hb hx hx
  unfold SeqAt.shaped at hx
  rw [Bool.and_eq_true] at hx
  rw [SeqAt.eqv_refl d hx.1] at h
  exact h
end
theorem shaped_ints (ns : List Int) : SeqAt.shaped (.list (ns.map PyData.int)) = true := by
  have h : PyData.canLayAll0 (ns.map PyData.int) = true ∧ PyData.depthAll (ns.map PyData.int) = 0 := by
    induction ns with
    | nil => exact ⟨by simp [PyData.canLayAll0], by simp [PyData.depthAll]⟩
    | cons n r ih => exact ⟨by simp [PyData.canLayAll0, PyData.canLay0, ih.1], by simp [PyData.depthAll, PyData.depth, ih.2]⟩
  unfold SeqAt.shaped
  simp only [PyData.canLay0, PyData.depth, h.1, h.2]
  decide
theorem at_map {α : Type} {xs : List α} {F : α → Dt} {i : Nat} {x : α} (h : xs[i]? = some x) : atI (xs.map F) ((i : Nat) : Int) = some (F x) := atI_nat (by rw [List.getElem?_map, h]; rfl)
theorem cut_lo {α : Type} {xs : List α} {F : α → Dt} {k : Nat} : cutD (xs.map F) (some ((k : Nat) : Int)) none = (xs.drop k).map F := by
  unfold cutD
  rw [HT.sIx_nat, HT.sIx_none, ← List.map_drop, ← List.map_take, List.length_map]
  by_cases h : k ≤ xs.length
  · rw [Nat.min_eq_left h, List.take_of_length_le (by rw [List.length_drop]; exact Nat.le_refl _)]
  · rw [Nat.min_eq_right (by omega), List.drop_of_length_le (Nat.le_refl _), List.drop_of_length_le (by omega), List.take_nil]
theorem cut_hi {α : Type} {xs : List α} {F : α → Dt} {k : Nat} : cutD (xs.map F) none (some ((k : Nat) : Int)) = (xs.take k).map F := by
  unfold cutD
  rw [HT.sIx_nat, HT.sIx_none, List.drop_zero, ← List.map_take, List.length_map, Nat.sub_zero]
  by_cases h : k ≤ xs.length
  · rw [Nat.min_eq_left h]
  · rw [Nat.min_eq_right (by omega), List.take_of_length_le (Nat.le_refl _), List.take_of_length_le (by omega)]
end Dv

set_option linter.all false
set_option maxRecDepth 100000
set_option maxHeartbeats 2000000
namespace Dv
open PySem PySem.Spec PyProof.Rows L2
/-! ### the pot -/
theorem Nxt.mut {q : Addr} {B G H : Hp} (i : I3 (some q) B G H) {a b : Int} (h : potOk a b) : Nxt (some q) G H G (upd H q (.lst [.int a, .int b])) := by
  obtain ⟨h1, h2, x, y, h3, _⟩ := i.pot q rfl
  refine ⟨Step.refl _ _, fun c u hu => ?_, fun c u hu => ?_, fun z hz => ?_⟩
  · obtain ⟨e1, e2⟩ := del_le hu
    have : c ≠ q := fun w => e2 (by rw [w])
    rw [upd_ne this]; exact e1
  · have : c ≠ q := fun w => by subst w; rw [h2] at hu; cases hu
    rw [upd_ne this]; exact i.gh c u hu
  · cases hz
    exact ⟨a, b, upd_same, h⟩
section
variable {X : Cx} {sts : List Stmt} {a b c e : Expr} {δ δ' : De} {o : Out} {d : Dt} {ds : List Dt} {pos p kp sp zp pt yp : Pos} {R : Dt → Prop} {N : De → Prop}
theorem xd_potAt (i : Nat) {y : Str} {k : Int} {j} (hk : k = 0 ∨ k = 1) (hs : δ[i]? = some .pot := by rfl) (hN : X.N[i]? = some y := by rfl) (hv : Vis X.env.scope y := by first | exact Or.inl rfl | exact Or.inr (Or.inl rfl) | exact Or.inr (Or.inr rfl)) (hd : (y == ("__debug__" : Str)) = false := by decide) (hcd : (y == ("__classdict__" : Str)) = false := by decide) :
    XD X (.Subscript (.Name y yp) (.Constant (.int k) j kp) pos) δ (fun d => ∃ n : Int, d = .int n ∧ 0 ≤ n ∧ (k = 1 → n ≤ 2147483588)) :=
  PE.imp (pe_ix ix_list (pe_var hN hv hd hcd) pe_int (fun _ _ => rfl)) fun σ H Q ⟨p, B, G, i3, en, q⟩ => by
    obtain ⟨o', h1, z, rfl, rfl⟩ := en.slot i _ hs
    obtain ⟨h2, h3, x, w, h4, h5, h6, h7⟩ := i3.pot z rfl
    refine ⟨_, h1, z, [.int x, .int w], k, .int (if k = 0 then x else w), rfl, rfl, .inl (.inl h4), ?_, q _ (.int (if k = 0 then x else w)) G H ⟨_, rfl, ?_, ?_⟩ (.refl i3) (.int _)⟩
    · rcases hk with rfl | rfl <;> rfl
    · split <;> omega
    · intro e; subst e; simpa using h7
theorem sd_potSet (i : Nat) {y : Str} {j} (he : XD X e δ fun d => ∃ n : Int, d = .int n ∧ 0 ≤ n ∧ n ≤ 2147483588) (hs : δ[i]? = some .pot := by rfl) (hN : X.N[i]? = some y := by rfl) (hv : Vis X.env.scope y := by first | exact Or.inl rfl | exact Or.inr (Or.inl rfl) | exact Or.inr (Or.inr rfl)) (hd : (y == ("__debug__" : Str)) = false := by decide) (hcd : (y == ("__classdict__" : Str)) = false := by decide)
    (h2 : swapsWithSole [.Subscript (.Name y yp) (.Constant (.int 1) j kp) sp] e pos.line X.env = pure false := by rfl) (hw : swappedStores [.Subscript (.Name y yp) (.Constant (.int 1) j kp) sp] e X.env = pure none := by rfl)
    (h1 : (assignEach [.Subscript (.Name y yp) (.Constant (.int 1) j kp) sp] X.env).map (·.2) = [assign (.Subscript (.Name y yp) (.Constant (.int 1) j kp) sp) X.env] := by rfl) : SD X (.Assign [.Subscript (.Name y yp) (.Constant (.int 1) j kp) sp] e pos) δ { o with nx := fun x => x = δ } :=
  PS.imp (ps_asg he (pg_sub (pe_var hN hv hd hcd) pe_int set_list) h2 hw h1) fun D σ H ⟨p, B, G, i3, en, q⟩ => ⟨p, B, G, i3, en, fun v d G' H' ⟨n, r, n0, n1⟩ nx hv' => by
    subst r
    cases hv'
    obtain ⟨o', h1, z, rfl, rfl⟩ := (en.nxt nx).slot i _ hs
    have i3' := i3.nxt nx
    obtain ⟨h2, h3, x, w, h4, h5, h6, h7⟩ := i3'.pot z rfl
    have m := Nxt.mut (a := x) (b := n) i3' ⟨h5, n0, n1⟩
    have mm := nx.trans m
    exact ⟨_, h1, z, _, 1, 1, rfl, rfl, h4, rfl, q.nx _ σ G' _ rfl (mm.stepB i3) (i3.nxt mm) (en.nxt mm)⟩⟩
theorem sd_potDiv (i l : Nat) {y x : Str} {j kt} {S : Int → Prop} (hX : X.N.Nodup) (he : XD X e δ fun d => ∃ u w : Int, d = .tuple [.int u, .int w] ∧ 0 ≤ u ∧ S w) (hR : ∀ w, S w → N (δ.set l (.d (.int w)))) (hc : X.calm = true := by rfl) (hs : δ[i]? = some .pot := by rfl) (hN : X.N[i]? = some y := by rfl) (hl : X.N[l]? = some x := by rfl) (hv : Vis X.env.scope y := by first | exact Or.inl rfl | exact Or.inr (Or.inl rfl) | exact Or.inr (Or.inr rfl)) (hd : (y == ("__debug__" : Str)) = false := by decide) (hcd : (y == ("__classdict__" : Str)) = false := by decide)
    (hx : Loc X.env.scope x := by first | exact Or.inl rfl | exact Or.inr rfl) (hf : X.fn x = true ∨ X.env.scope.names.lookup x = some .local := by first | exact .inl rfl | exact .inr rfl | assumption)
    (h2 : swapsWithSole [.Tuple [.Subscript (.Name y yp) (.Constant (.int 0) j kp) sp, .Name x zp] kt pt] e pos.line X.env = pure false := by rfl) (hw : swappedStores [.Tuple [.Subscript (.Name y yp) (.Constant (.int 0) j kp) sp, .Name x zp] kt pt] e X.env = pure none := by rfl)
    (h1 : (assignEach [.Tuple [.Subscript (.Name y yp) (.Constant (.int 0) j kp) sp, .Name x zp] kt pt] X.env).map (·.2) = [assign (.Tuple [.Subscript (.Name y yp) (.Constant (.int 0) j kp) sp, .Name x zp] kt pt) X.env] := by rfl)
    (h3 : (assignEach [.Subscript (.Name y yp) (.Constant (.int 0) j kp) sp, .Name x zp] X.env).map (·.2) = assign (.Subscript (.Name y yp) (.Constant (.int 0) j kp) sp) X.env :: (assignEach [.Name x zp] X.env).map (·.2) := by rfl)
    (h4 : (assignEach [.Name x zp] X.env).map (·.2) = assign (.Name x zp) X.env :: (assignEach [] X.env).map (·.2) := by rfl)
    (h5 : (assignEach [.Subscript (.Name y yp) (.Constant (.int 0) j kp) sp, .Name x zp] X.env).length = 2 := by rfl) (h6 : (assignEach [.Subscript (.Name y yp) (.Constant (.int 0) j kp) sp, .Name x zp] X.env).findIdx? (·.1) = none := by rfl) :
    SD X (.Assign [.Tuple [.Subscript (.Name y yp) (.Constant (.int 0) j kp) sp, .Name x zp] kt pt] e pos) δ { o with nx := N } :=
  PS.imp (ps_asg he (pg_tup hc (pgs_cons (pg_sub (pe_var hN hv hd hcd) pe_int set_list) (pgs_cons (pg_name hX hl hx hf) pgs_nil h4) h3) h5 h6) h2 hw h1) fun D σ H ⟨p, B, G, i3, en, q⟩ => ⟨p, B, G, i3, en, fun v d G' H' ⟨u, w, r, u0, sw⟩ nx hv' => by
    subst r
    obtain ⟨o', h1, z, rfl, rfl⟩ := (en.nxt nx).slot i _ hs
    have i3' := i3.nxt nx
    obtain ⟨h2, h3, x', w', h4, h5, h6, h7⟩ := i3'.pot z rfl
    have m := Nxt.mut (a := u) (b := w') i3' ⟨u0, h6, h7⟩
    have mm := nx.trans m
    cases hv' with
    | tup hq ha =>
      obtain ⟨v1, v2, rfl, e1, e2⟩ := two_of ha
      cases e1; cases e2
      refine ⟨_, [.int u, .int w], rfl, ex_t i3'.gh hq, rfl, .int u, [.int w], rfl, _, h1, z, _, 0, 0, rfl, rfl, h4, rfl, .int w, [], rfl, rfl, ?_⟩
      exact q.nx _ _ G' _ (hR w sw) (mm.stepB i3) (i3.nxt mm) ((en.nxt mm).set (.int w))⟩
theorem xd_divmod {S : Int → Int → Prop} (hm : X.mg "divmod" = none) (ha : XA X [a, b] δ fun ds => ∃ i j : Int, ds = [.int i, .int j] ∧ CDiv i j ∧ S i j) (hg : Gl X "divmod" := by rfl) (hpl : starEach [b] X.env = [(false, eval b X.env)] := by rfl) :
    XD X (.Call (.Name "divmod" p) [a, b] [] pos) δ fun d => ∃ i j : Int, d = .tuple [.int (i / j), .int (i % j)] ∧ S i j :=
  xd_cb call_divmod hg hm (by decide +kernel) ha (fun ds' ⟨i, j, e, hc, s⟩ p B G H vs i3 hv Q q => by
    subst e
    obtain ⟨v, w, rfl, h1, h2⟩ := two_of hv
    cases h1; cases h2
    exact ⟨i, j, rfl, hc, fun z hz => q (.ref z) _ _ _ ⟨i, j, rfl, s⟩ (.new i3 _ hz) (.tup (.inl (.inl upd_same)) (.cons (.int _) (.cons (.int _) .nil)))⟩) (hpl := hpl)
/-- ints in bounds -/
def IntP (S : Int → Prop) (d : Dt) : Prop := ∃ i, d = .int i ∧ S i
theorem xi_of {S : Int → Prop} {i : Int} (h : PD X a δ (.int i)) (hs : S i) : XD X a δ (IntP S) := h.mono fun d e => ⟨i, e, hs⟩
theorem xi_imp {S T : Int → Prop} (h : XD X a δ (IntP S)) (k : ∀ i, S i → T i) : XD X a δ (IntP T) := h.mono fun d ⟨i, e, s⟩ => ⟨i, e, k i s⟩
theorem xi_add {S T U : Int → Prop} (ha : XD X a δ (IntP S)) (hb : XD X b δ (IntP T)) (h : ∀ i j, S i → T j → U (i + j)) : XD X (.BinOp a .Add b pos) δ (IntP U) := xd_op op_add ha hb fun x y ⟨i, e1, s⟩ ⟨j, e2, t⟩ => by subst e1; subst e2; (refine rd_i ?_; exact ⟨_, rfl, h i j s t⟩)
theorem xi_sub {S T U : Int → Prop} (ha : XD X a δ (IntP S)) (hb : XD X b δ (IntP T)) (h : ∀ i j, S i → T j → U (i - j)) : XD X (.BinOp a .Sub b pos) δ (IntP U) := xd_op op_sub ha hb fun x y ⟨i, e1, s⟩ ⟨j, e2, t⟩ => by subst e1; subst e2; (refine rd_i ?_; exact ⟨_, rfl, h i j s t⟩)
theorem xi_mul {S T U : Int → Prop} (ha : XD X a δ (IntP S)) (hb : XD X b δ (IntP T)) (h : ∀ i j, S i → T j → CMul i j ∧ U (i * j)) : XD X (.BinOp a .Mult b pos) δ (IntP U) := xd_op op_mul ha hb fun x y ⟨i, e1, s⟩ ⟨j, e2, t⟩ => by subst e1; subst e2; (refine rd_c ?_ ?_; exact (h i j s t).1; exact ⟨_, rfl, (h i j s t).2⟩)
theorem xi_mod {S T U : Int → Prop} (ha : XD X a δ (IntP S)) (hb : XD X b δ (IntP T)) (h : ∀ i j, S i → T j → 0 < j ∧ U (i % j)) : XD X (.BinOp a .Mod b pos) δ (IntP U) := xd_op op_mod ha hb fun x y ⟨i, e1, s⟩ ⟨j, e2, t⟩ => by subst e1; subst e2; (refine rd_c ?_ ?_; exact (h i j s t).1; exact ⟨_, rfl, (h i j s t).2⟩)
theorem xi_fdiv {S T U : Int → Prop} (ha : XD X a δ (IntP S)) (hb : XD X b δ (IntP T)) (h : ∀ i j, S i → T j → CDiv i j ∧ U (i / j)) : XD X (.BinOp a .FloorDiv b pos) δ (IntP U) := xd_op op_fdiv ha hb fun x y ⟨i, e1, s⟩ ⟨j, e2, t⟩ => by subst e1; subst e2; (refine rd_c ?_ ?_; exact (h i j s t).1; exact ⟨_, rfl, (h i j s t).2⟩)
theorem xi_int {S : Int → Prop} (hm : X.mg "int" = none) (ha : XD X e δ (IntP S)) (hg : Gl X "int" := by rfl) (hs : starEach [e] X.env = (false, eval e X.env) :: starEach [] X.env := by rfl) : XD X (.Call (.Name "int" p) [e] [] pos) δ (IntP S) :=
  xd_int hm (xa_cons ha xa_nil (fun d ds ⟨i, e, s⟩ h => ⟨i, by rw [e, h], s⟩) hs) hg
theorem xt_gt {S T : Int → Prop} (ha : XD X a δ (IntP S)) (hb : XD X b δ (IntP T)) : XT X (.Compare a [.Gt] [b] pos) δ (fun _ => True) := xt_cmp op_gt ha hb (nomark _) fun x y ⟨i, e1, s⟩ ⟨j, e2, t⟩ => by subst e1; subst e2; (refine rd_b ?_; exact ⟨_, rfl, trivial⟩)
/-- some[i] -/
theorem xd_ixLP {S : Int → Prop} {T : Dt → Prop} (ha : PD X a δ (.list ds)) (hb : XD X b δ (IntP S)) (h : ∀ i, S i → ∃ d, atI ds i = some d ∧ T d) (hs : PlainIx b := by exact fun _ _ => rfl) : XD X (.Subscript a b pos) δ T := xd_ix ix_list ha hb hs fun x y e1 ⟨i, e2, s⟩ => by subst e1; subst e2; exact rd_ixL (h i s)
/-- an argument list: a known element, then the rest -/
theorem xa_pc {es : List Expr} {S : List Dt → Prop} (ha : PD X e δ d) (hr : XA X es δ S) (hs : starEach (e :: es) X.env = (false, eval e X.env) :: starEach es X.env := by rfl) : XA X (e :: es) δ (fun x => ∃ y, x = d :: y ∧ S y) := xa_cons ha hr (fun d' ds e1 h => ⟨ds, by rw [e1], h⟩) hs
theorem xa_xc {es : List Expr} {S : List Dt → Prop} {R : Dt → Prop} (ha : XD X e δ R) (hr : XA X es δ S) (hs : starEach (e :: es) X.env = (false, eval e X.env) :: starEach es X.env := by rfl) : XA X (e :: es) δ (fun x => ∃ d y, x = d :: y ∧ R d ∧ S y) := xa_cons ha hr (fun d' ds e1 h => ⟨d', ds, rfl, e1, h⟩) hs
theorem xi_max2 {S T U : Int → Prop} (hm : X.mg "max" = none) (ha : XD X a δ (IntP S)) (hb : XD X b δ (IntP T)) (h : ∀ i j, S i → T j → U (max i j)) (hc : X.calm = true := by rfl) (hg : Gl X "max" := by rfl) (hpl : starEach [b] X.env = [(false, eval b X.env)] := by rfl) (hs : starEach [a, b] X.env = (false, eval a X.env) :: starEach [b] X.env := by rfl) (hs2 : starEach [b] X.env = (false, eval b X.env) :: starEach [] X.env := by rfl) : XD X (.Call (.Name "max" p) [a, b] [] pos) δ (IntP U) :=
  xd_cb (call_max2 hc) hg hm (by decide +kernel) (xa_xc ha (xa_xc hb xa_nil hs2) hs) (fun ds' ⟨d1, y, e1, ⟨i, ei, si⟩, d2, y2, e2, ⟨j, ej, sj⟩, e3⟩ p B G H vs i3 hv Q q => by
    subst e3; subst e2; subst e1; subst ei; subst ej
    obtain ⟨v, w, rfl, h1, h2⟩ := two_of hv
    cases h1; cases h2
    refine ⟨i, j, rfl, q _ _ G H ⟨_, rfl, h i j si sj⟩ (.refl i3) ?_⟩
    have : (if j > i then j else i) = max i j := by omega
    rw [this]; exact .int _) (hpl := hpl)
end
end Dv

set_option linter.all false
set_option maxRecDepth 100000
set_option maxHeartbeats 2000000
namespace Dv
open PySem PySem.Spec PyProof.Rows L2
section
variable {X : Cx} {sts : List Stmt} {a b c e : Expr} {es fs : List Expr} {δ δ' : De} {o : Out} {d : Dt} {ds : List Dt} {pos p lp : Pos} {R : Dt → Prop} {N : De → Prop}
/-- return [..], a list of nobody's yet -/
theorem s_retLst (h : PAD X es δ ds) (hR : o.ro ds) (hl : ds.length ≤ 100000 := by first | decide | simp) : SsD X (.Return (some (.List es lp)) pos :: sts) δ o :=
  ss_end (PS.imp (ps_ret (pe_lst h.pa)) fun D σ H ⟨p, B, G, i3, en, q⟩ => ⟨p, B, G, i3, en, fun vs ds' G' H' r n h' => by
    subst r
    refine ⟨by rw [dpAll_length h']; exact Nat.le_trans hl (by decide), fun l hl => ?_⟩
    have i3' := i3.nxt n
    have n2 := n.trans (Nxt.newH i3' (.lst vs) hl)
    have pl : p ≠ some l := fun z => by
      obtain ⟨_, _, _, _, h3, _⟩ := i3'.pot l z
      rw [hl] at h3; cases h3
    exact q.ro _ l vs G' _ hR (n2.stepB i3) (i3.nxt n2) (i3'.bh.free hl) (i3'.gh.free hl) pl upd_same h'⟩)
/-- f(g(..)): g's answer, a new list of two numbers, is f's pot -/
theorem xd_potNew {k k2 : Nat} {x y : Str} {ps ps2 : List Str} {st st2 : Stmt} {R : List Dt → (Dt → Prop) → Prop} {R2 : List Dt → List Dt → Prop} {U : Dt → Prop} {u w : Int} {p2 p3 : Pos} (C : Cal X.prog X.w X.K X.mg X.base k x ps st (spP X.K R)) (D : Cal X.prog X.w X.K X.mg X.base k2 y ps2 st2 (spO X.K R2))
    (ha : PAD X (e :: es) δ ds) (hR : R [] U) (hR2 : R2 ds [.int u, .int w]) (hp : potOk u w) (hr : Room k X.A := by first | assumption | (refine Room.mono (by assumption) ?_; decide)) (hr2 : Room k2 X.A := by first | assumption | (refine Room.mono (by assumption) ?_; decide)) (hgd : X.A.guards = some [] := by assumption) (hg : Gl X x := by rfl) (hg2 : Gl X y := by rfl)
    (hpl : starEach es X.env = es.map fun e => (false, eval e X.env) := by rfl) (hs1 : starEach [.Call (.Name y p2) (e :: es) [] p3] X.env = (false, eval (.Call (.Name y p2) (e :: es) [] p3) X.env) :: starEach [] X.env := by rfl)
    (hdb : (x == ("__debug__" : Str)) = false := by decide) (hdb2 : (y == ("__debug__" : Str)) = false := by decide) : XD X (.Call (.Name x p) [.Call (.Name y p2) (e :: es) [] p3] [] pos) δ U := by
  obtain ⟨f, fd, F, hm, hk, hb, _⟩ := C.ex
  obtain ⟨f2, fd2, F2, hm2, hk2, hb2, _⟩ := D.ex
  refine PE.imp (pe_g F hr hgd hg hm hk hb (pa_cons (pe_g F2 hr2 hgd hg2 hm2 hk2 hb2 ha.pa hdb2 (by rw [hpl]; exact ha.pl) (back_plain hpl)) pa_nil hs1) hdb hs1 (back_plain (es := []) rfl)) fun σ H Q ⟨p, B, G, i3, en, q⟩ => ⟨p, B, G, i3, en, fun vs dd G1 H1 r n hv => ?_⟩
  subst r
  have i31 := i3.nxt n
  refine ⟨G1, _, _, i31.gh, hv, hR2, fun l xs G2 H2 s2 e2 g2 hl gl hl2 ha2 => ?_⟩
  have ex : xs = [V.int u, V.int w] := dpAll_ints (ns := [u, w]) ha2
  subst ex
  have nl : ∀ {a : Addr}, H1 a ≠ none → a ≠ l := fun h z => h (z ▸ hl)
  refine ⟨del (some l) H2, G2, l, [], [], U, ⟨fun a o h => (del_le h).1, g2, fun z hz => ?_⟩, rfl, .nil, hR, fun v d G3 H3 hu s3 i33 hd => q v d G3 H3 hu ⟨⟨(n.st.1.trans s2.1).trans s3.1, fun a h1 h2 => ?_⟩, fun a o h => ?_, i33.gh, fun z hz => ?_⟩ hd⟩
  · cases hz
    refine ⟨?_, gl, u, w, hl2, hp⟩
    unfold del; rw [if_pos rfl]
  · have h3 := n.dom a h1
    have h4 := nl h3
    refine s3.2 a ?_ (s2.2 a h3 (n.st.2 a h1 h2))
    rw [del_ne (fun z => h4 (Option.some.inj z).symm)]
    cases h5 : H1 a with
    | none => exact absurd h5 h3
    | some o => exact nn (e2 a o h5)
  · have h3 := n.ex a o h
    have h4 := nl (nn h3)
    exact i33.bh a o (by rw [del_ne (fun z => h4 (Option.some.inj z).symm)]; exact e2 a o h3)
  · obtain ⟨a, b, h3, h4⟩ := n.pot z hz
    have h5 := nl (nn h3)
    exact ⟨a, b, i33.bh z _ (by rw [del_ne (fun z => h5 (Option.some.inj z).symm)]; exact e2 z _ h3), h4⟩
end
/-! ### the law's call -/
theorem law_callG {P : Program} {w : World} {K : Fg} {mg mb : Str → Option Value} {k : Nat} {fa a : Addr} {fd : FuncData} {x : Str} {sp : Sp} {s₁ : Shared} {vs : List Value} {ns : List Int}
    (KX : K.In s₁.heap) (hns : s₁.heap.Ns mainGlobals mg) (hb : s₁.heap.Ns builtinsNs mb) (hbb : ∀ x : Str, x ≠ "__name__" → mb x = bootBuiltins x) (hlim : s₁.heap.NoLimit) (hg : s₁.gens = #[])
    (ha : s₁.heap.get? a = some { cls := .type "list", data := .seq vs.toArray }) (hi : IntsAre vs ns) (hl : ns.length ≤ sizeLine) (hr : Room k callerA)
    (F : ∀ base : Heap, K.In base → base.Ns mainGlobals mg → FnG P w K mg base k fa fd [x] sp) (hbind : ∀ (s : Shared) (u : Value), BindsTo s fd ⟨[u], []⟩ [(x, u)])
    (hsp : ∀ H : Hp, Only H → SqX K H a (ns.map V.int) → sp [.ref a] H (fun v _ => v = .bl true) E0) :
    codeAny (model P w) callerA (.call (.ref fa) ⟨[.ref a], []⟩) (fun r s' => r = .ok (.ret (.bool true)) ∧ OldK s₁.heap s'.heap ∧ s'.os = s₁.os ∧ AllBare s'.gens) s₁ := by
  have rv := vals_ints hi
  have lenV := hi.length
  have main : ∀ H : Hp, Only H → SqX K H a (ns.map V.int) → HOk P w H s₁.heap → (∀ b, H b ≠ none → b = a ∧ K.lookup a = none) →
      codeAny (model P w) callerA (.call (.ref fa) ⟨[.ref a], []⟩) (fun r s' => r = .ok (.ret (.bool true)) ∧ OldK s₁.heap s'.heap ∧ s'.os = s₁.os ∧ AllBare s'.gens) s₁ := by
    intro H hO hS hok hA
    have seen : ∀ {b : Addr} {o : Obj}, s₁.heap.get? b = some o → H b = none → (hidT s₁.heap H).get? b = some o := fun e n => hidT_get e n
    have free : ∀ {b : Addr} {o : Obj} {es : Array DictEntry} {ep : Nat}, s₁.heap.get? b = some o → o.data = .dict es ep → H b = none := fun {b o es ep} e d => by
      cases q : H b with
      | none => rfl
      | some u =>
        obtain ⟨z, _⟩ := hA b (nn q)
        subst z
        rw [ha] at e; cases e
        exact nomatch (show Data.seq vs.toArray _ = Data.dict es ep from d)
    have nsT : ∀ {b : Addr} {m : Str → Option Value}, s₁.heap.Ns b m → (hidT s₁.heap H).Ns b m := fun {b m} ⟨o, es, ep, e, d, r⟩ => ⟨o, es, ep, seen e (free e d), d, r⟩
    have hKb : K.In (hidT s₁.heap H) := fun b o e => seen (KX b o e) (by
      cases q : H b with
      | none => rfl
      | some u =>
        obtain ⟨z, z2⟩ := hA b (nn q)
        subst z
        rw [z2] at e; cases e)
    have hM : Mod K mg (hidT s₁.heap H) := ⟨hKb, nsT hns, ⟨mb, nsT hb, hbb⟩, let ⟨mc, h1, h2⟩ := hlim; ⟨mc, nsT h1, h2⟩⟩
    have e0 : Env0 P w K mg (hidT s₁.heap H) callerA [] s₁ H := ⟨rfl, hM, fun b o e => of_hidT e, Nat.le_of_eq (hidT_size _ _), trivial, fun b hb => absurd (show b ∈ ([] : List Addr) from hb) (by simp), hok, .of_eq hg⟩
    refine codeAny_mono ((F _ hKb (nsT hns)).run callerA [] s₁ H ⟨[.ref a], []⟩ [.ref a] [.ref a] _ _ hr rfl e0 (hbind s₁ (.ref a)) (.cons rfl .nil) (hsp H hO hS)) fun r s' h => ?_
    cases r with
    | error e => exact False.elim h
    | ok fl =>
      cases fl with
      | next => exact False.elim h
      | brk => exact False.elim h
      | cont => exact False.elim h
      | ret u =>
        obtain ⟨v, H', os, bare, un, hok', r', q⟩ := h
        have q' : v = .bl true := q
        subst q'
        obtain rfl : u = Value.bool true := r'
        refine ⟨rfl, OldK.of_keep fun b o e => ?_, os, bare⟩
        cases q : H b with
        | none => exact un.keep b o e q (by intro z; exact absurd (show b ∈ ([] : List Addr) from z) (by simp)) (by simp)
        | some u =>
          rcases hO b with z | ⟨ob, xs, z⟩
          · rw [q] at z; cases z
          · have z2 := un.frzs b ob _ z
            obtain ⟨e1, _⟩ := hok b _ z
            obtain ⟨e2, _⟩ := hok' b _ z2
            rw [e] at e1; cases e1
            exact e2
  cases hk : K.lookup a with
  | some o =>
    have e := KX a o hk
    rw [ha] at e
    cases e
    exact main (fun _ => none) (fun _ => .inl rfl) (.inr ⟨vs, _, hk, by rw [lenV]; exact hl, rv⟩) (fun b u z => nomatch (show (none : Option HO) = some u from z)) (fun b z => absurd rfl z)
  | none =>
    refine main (fun b => if b = a then some (.frz { cls := .type "list", data := .seq vs.toArray } (.lst (ns.map V.int))) else none) (fun b => ?_) (.inl (.inr ⟨{ cls := .type "list", data := .seq vs.toArray }, if_pos rfl⟩)) (fun b u z => ?_) (fun b z => ⟨?_, hk⟩)
    · by_cases hb : b = a
      · exact .inr ⟨_, _, if_pos hb⟩
      · exact .inl (if_neg hb)
    · by_cases hb : b = a
      · have z' := (if_pos hb).symm.trans z
        cases z'
        subst hb
        exact ⟨ha, by rw [List.length_map]; exact hl, vs, _, rv, ha⟩
      · have z' := (if_neg hb).symm.trans z
        cases z'
    · by_cases hb : b = a
      · exact hb
      · exact absurd (if_neg hb) z
/-- the promise of a law: every list of at most so many numbers is answered by True -/
def rLaw (n : Nat) (ds : List Dt) (d : Dt) : Prop := ∃ ns : List Int, ns.length ≤ n ∧ ds = [.list (ns.map PyData.int)] ∧ d = .bool true
theorem walkG {l : PySem.W.OpenLaw} {n k : Nat} {q : Program} {loose : List Str} {XP : (Str → Option Value) → Heap → Prop} {YP : World → Heap → Prop} {d : DefRec} {K : Params → PySem.W.Frag} {x : Str}
    (hn : l.most = some n) (hn2 : n ≤ sizeLine) (hdf : d.params.defaults = []) (hr : Room k callerA)
    (hY : ∀ (w : World) (h : Heap), YP w h → (K w.params).In h)
    (F : ∀ (w : World) (mg : Str → Option Value) (fa : Addr) (h : Heap), (K w.params).In h → h.Ns mainGlobals mg → mg d.name = some (.ref fa) →
      ∃ fd : FuncData, (∀ (s : Shared) (u : Value), BindsTo s fd ⟨[u], []⟩ [(x, u)]) ∧
        ∀ base : Heap, (K w.params).In base → base.Ns mainGlobals mg → FnG l.prog w (K w.params) mg base k fa fd [x] (spD (K w.params) (rLaw n))) :
    PySem.W.WalkO q loose XP YP l.row.toRowW d [] (fun f vs => PySem.call f vs) := by
  refine Att.attach_call hn hdf fun w s₀ s₁ mg mb fa o pm cd doc a vs ns G Y ho hd hcd hmg hobj hints hlen hg => ?_
  have KX := hY w _ Y
  obtain ⟨fd, hb, hF⟩ := F w mg fa _ KX G.T.g hmg
  refine law_callG KX G.T.g G.T.b G.T.builtins G.T.nolimit hg hobj hints (Nat.le_trans hlen hn2) hr hF hb fun H hO hS => ?_
  exact ⟨H, [.list (ns.map PyData.int)], .bool true, Ex.refl H, .cons (.lst hS (dpAll_of_ints ns)) .nil, ⟨ns, hlen, rfl, rfl⟩, fun v G' H' _ _ _ hv => by cases hv; rfl⟩
end Dv
namespace Dv
open PySem PySem.Spec PyProof.Rows L2
/-! ### what the top has written -/
structure Df (K : Fg) (x : Str) (st : Stmt) : Prop where
  ex : ∃ f fd, PySem.W.nsIn K mainGlobals x = some (some (.ref f)) ∧ PySem.W.keepIn K (.ref f) = true ∧ Fun K x x st f fd
theorem df_mk {K : Fg} {x : Str} {st : Stmt} {f : Addr} {od an : Option Addr} {sl : Array (Option Value)} {oc kV dc pm cd ct : Value} (a : PySem.W.nsIn K mainGlobals x = some (some (.ref f)))
    (l : K.lookup f = some ⟨oc, od, .func (PySem.W.fnOf x x (defArgs st) (defBody st) (defScope st) .none kV dc pm an cd ct), sl⟩) (c : PySem.W.codeIn K cd x = true) (k : PySem.W.keepIn K (.ref f) = true) : Df K x st := ⟨f, _, a, k, fun_mk (st := st) l c k⟩
theorem Df.cal {P : Program} {w : World} {K : Fg} {mg : Str → Option Value} {base h : Heap} {k : Nat} {x : Str} {ps : List Str} {st : Stmt} {sp : Sp} (D : Df K x st) (X : K.In h) (G : h.Ns mainGlobals mg)
    (hb : ∀ (kV doc pm : Value) (an : Option Addr) (cdv ct : Value) (us : List Value), us.length = ps.length → bindArgs (PySem.W.fnOf x x (defArgs st) (defBody st) (defScope st) .none kV doc pm an cdv ct) ⟨us, []⟩ = pure (ps.zip us))
    (F : ∀ f fd, Fun K x x st f fd → FnG P w K mg base k f fd ps sp) : Cal P w K mg base k x ps st sp := by
  obtain ⟨f, fd, a, hk, fn⟩ := D.ex
  exact ⟨f, fd, F f fd fn, PySem.W.mg_of X G a, hk, fn.binds hb, fn⟩
theorem Df.law {P : Program} {w : World} {K : Fg} {mg : Str → Option Value} {h : Heap} {k : Nat} {x y : Str} {st : Stmt} {sp : Sp} {fa : Addr} (D : Df K x st) (X : K.In h) (G : h.Ns mainGlobals mg) (hfa : mg x = some (.ref fa))
    (hb : ∀ (kV doc pm : Value) (an : Option Addr) (cdv ct : Value) (us : List Value), us.length = [y].length → bindArgs (PySem.W.fnOf x x (defArgs st) (defBody st) (defScope st) .none kV doc pm an cdv ct) ⟨us, []⟩ = pure ([y].zip us))
    (F : ∀ base f fd, K.In base → base.Ns mainGlobals mg → Fun K x x st f fd → FnG P w K mg base k f fd [y] sp) :
    ∃ fd : FuncData, (∀ (s : Shared) (u : Value), BindsTo s fd ⟨[u], []⟩ [(y, u)]) ∧ ∀ base : Heap, K.In base → base.Ns mainGlobals mg → FnG P w K mg base k fa fd [y] sp := by
  obtain ⟨f, fd, a, hk, fn⟩ := D.ex
  have e := hfa.symm.trans (PySem.W.mg_of X G a)
  cases e
  obtain ⟨oc, od, kV, doc, pm, an, cdv, ct, osl, e2, e3⟩ := id fn.ex
  exact ⟨fd, fun s u => by subst e2; exact .of_eq (hb kV doc pm an cdv ct [u] rfl), fun base hx hn => F base fa fd hx hn fn⟩
end Dv

set_option linter.all false
set_option maxRecDepth 100000
set_option maxHeartbeats 2000000
namespace Dv
open PySem PySem.Spec PyProof.Rows L2
section
variable {X : Cx} {sts : List Stmt} {a b c e : Expr} {es fs : List Expr} {δ δ' : De} {o : Out} {d : Dt} {ds : List Dt} {pos p p2 lp q : Pos} {R : Dt → Prop} {N : De → Prop}
theorem pd_minL {ns : List Int} {m : Int} (hc : X.calm = true) (hm : X.mg "min" = none) (ha : PAD X [e] δ [.list (ns.map PyData.int)]) (h1 : m ∈ ns) (h2 : ∀ y ∈ ns, m ≤ y) (hg : Gl X "min" := by rfl) : PD X (.Call (.Name "min" p) [e] [] pos) δ (.int m) :=
  xd_cb (cr_min hc) hg hm (by decide +kernel) ha fun ds' e p B G H vs i3 hv Q q => by
    subst e
    obtain ⟨v, rfl, h⟩ := one_of hv
    cases h with
    | lst hs ha =>
      have e := dpAll_ints ha
      subst e
      refine ⟨_, ns, rfl, exl i3.gh hs, List.length_pos_of_mem h1, fun k k1 k2 => q _ _ G H rfl (.refl i3) ?_⟩
      have : k = m := Int.le_antisymm (k2 m h1) (h2 k k1)
      rw [this]; exact .int _
theorem pd_listRg {i j : Int} {p3 p4 : Pos} (hl : X.mg "list" = none) (hm : X.mg "range" = none) (ha : PD X a δ (.int i)) (hb : PD X b δ (.int j)) (ok : RgOk i j) (hc : X.calm = true := by rfl) (hg : Gl X "list" := by rfl) (hg2 : Gl X "range" := by rfl)
    (hs : starEach [a, b] X.env = (false, eval a X.env) :: starEach [b] X.env := by rfl) (hs2 : starEach [b] X.env = (false, eval b X.env) :: starEach [] X.env := by rfl) (hs3 : starEach [.Call (.Name "range" p3) [a, b] [] p4] X.env = (false, eval (.Call (.Name "range" p3) [a, b] [] p4) X.env) :: starEach [] X.env := by rfl) :
    PD X (.Call (.Name "list" p) [.Call (.Name "range" p3) [a, b] [] p4] [] pos) δ (.list (rngD i (j - i).toNat)) :=
  PE.imp (pe_listRg hc hg hl (prg_2 hg2 hm ha hb hs hs2 (by rw [hs2]; rfl)) hs3) fun σ H Q ⟨p, B, G, i3, en, q⟩ => two (U1 := fun x => x = .int i) (U2 := fun x => x = .int j) i3 en fun v w d1 d2 G' H' r1 r2 n i' h1 h2 => by
    subst r1; subst r2
    cases h1; cases h2
    refine ⟨i, j, rfl, rfl, ok, fun l hl => q _ _ _ _ rfl (n.trans (.new i' _ hl)) (.lst (.inl (.inl upd_same)) ?_)⟩
    have e1 : rgV i j = ((List.range (j - i).toNat).map fun k : Nat => i + (k : Int)).map V.int := by unfold rgV; rw [List.map_map]; rfl
    have e2 : rngD i (j - i).toNat = ((List.range (j - i).toNat).map fun k : Nat => i + (k : Int)).map PyData.int := by unfold rngD; rw [List.map_map]; rfl
    rw [e1, e2]
    exact dpAll_of_ints _
def tLenSetT (K : Fg) (ta : TE) : TE := fun σ H Q => ta σ H fun x H1 => ∃ (l : Addr) (ns : List Int), x = .ref l ∧ SqT K H1 l (ns.map V.int) ∧ ns.Nodup ∧ ns.length ≤ 1000 ∧ Q (.int (ns.length : Nat)) H1
theorem pe_lenSetT {ta : TE} (hg : Gl X "len") (hm : X.mg "len" = none) (hg2 : Gl X "set") (hm2 : X.mg "set" = none) (ha : PE X a ta) (hc : X.calm = true := by rfl)
    (na : starEach [a] X.env = (false, eval a X.env) :: starEach [] X.env := by rfl) : PE X (.Call (.Name "len" p) [.Call (.Name "set" p2) [a] [] q] [] pos) (tLenSetT X.K ta) := by
  refine ⟨fun pins s σ H Q I h => Call_ (ld_blt I hg hm PySem.boot_len (callWith_builtin1 (args_cons (Call_ (ld_blt I hg2 hm2 boot_set (callWith_type1 (args_cons (thn (ha.run pins s σ H _ I h) fun v s1 ⟨x, H1, I1, r1, q1⟩ => args_nil ?_) na) na rfl))) rfl) rfl rfl))⟩
  obtain ⟨l, ns, rfl, hq, hnd, hl, q1⟩ := q1
  cases r1
  obtain ⟨its, r, pl, hz⟩ := I1.tuple hq
  have hi : IntsAre its.toArray.toList ns := by
    have z : ∀ {ns : List Int} {us : List Value}, Vals (ns.map V.int) us → IntsAre us ns := fun {ns} => by
      induction ns with
      | nil => intro us h; cases h; exact .nil
      | cons n t ih =>
        intro us h
        cases h with
        | cons h1 h2 => obtain ⟨k, rfl⟩ := h1; exact .cons n k (ih h2)
    simpa using z r
  refine call_set_tupI ns (I1.ok.hd hc) (show s1.heap.IsTuple l its.toArray from pl) hi (by unfold scanBound; omega) fun h' tk c R1 hcn k => args_nil ?_
  obtain ⟨o, es, ep, t, ho, hex, hdt, g, nd, hm3, hb, hf, hn, _, _⟩ := R1
  have I2 : Inv X pins σ H1 { s1 with heap := h', toks := tk } := I1.kept k
  have pm : (es.toList.map keyOf).Perm ns := (List.perm_ext_iff_of_nodup nd hnd).mpr fun j => by rw [← hm3 j, decide_eq_true_eq]
  have sz : es.size = ns.length := by
    have := pm.length_eq
    rw [List.length_map, Array.length_toList] at this
    exact this
  exact call_len_set ho hex hdt hf (by rw [sz]; omega) ⟨.int ns.length, H1, I2.tok _, ⟨_, by rw [sz]⟩, q1⟩
theorem pd_lenSetT {ns : List Int} (hm : X.mg "len" = none) (hm2 : X.mg "set" = none) (ha : PD X a δ (.tuple (ns.map PyData.int))) (nd : ns.Nodup) (hl : ns.length ≤ 1000) (hc : X.calm = true := by rfl) (hg : Gl X "len" := by rfl) (hg2 : Gl X "set" := by rfl) (na : starEach [a] X.env = (false, eval a X.env) :: starEach [] X.env := by rfl) :
    PD X (.Call (.Name "len" p) [.Call (.Name "set" p2) [a] [] q] [] pos) δ (.int ((ns.length : Nat) : Int)) :=
  PE.imp (pe_lenSetT hg hm hg2 hm2 ha hc na) fun σ H Q ⟨p, B, G, i3, en, q⟩ => ⟨p, B, G, i3, en, fun v d G' H' r n hv => by
    subst r
    cases hv with
    | tup hs ha =>
      have e := dpAll_ints ha
      subst e
      exact ⟨_, ns, rfl, ex_t n.gh hs, nd, hl, q _ _ G' H' rfl n (.int _)⟩⟩
/-! ### new lists of the def's own -/
def rOw (K : Fg) (δ : De) (R : List Dt → Prop) : TE := fun σ H Q => ∃ p B G, I3 p B G H ∧ EnvD K p B G H σ δ ∧ ∀ l xs ds G' H', R ds → Nxt p G H G' H' → H l = none → G' l = none → p ≠ some l → H' l = some (.lst xs) → DzAll K G' xs ds → Q (.ref l) H'
def XO (X : Cx) (e : Expr) (δ : De) (R : List Dt → Prop) : Prop := PE X e (rOw X.K δ R)
theorem pot_ne {p : Option Addr} {B G H : Hp} {l : Addr} (i3 : I3 p B G H) (hl : H l = none) : p ≠ some l := fun z => by
  obtain ⟨_, _, _, _, h3, _⟩ := i3.pot l z
  rw [hl] at h3; cases h3
theorem xo_lst {S : List Dt → Prop} (h : XA X es δ S) (hS : ∀ ds, S ds → ds.length ≤ 100000) : XO X (.List es lp) δ S := PE.imp (pe_lst h.pa) fun σ H Q ⟨p, B, G, i3, en, q⟩ => ⟨p, B, G, i3, en, fun vs ds G' H' r n h' =>
  ⟨by rw [dpAll_length h']; exact Nat.le_trans (hS ds r) (by decide), fun l hl => by
    have i3' := i3.nxt n
    have h0 : H l = none := by
      cases z : H l with
      | none => rfl
      | some w => exact absurd hl (n.dom l (nn z))
    exact q l vs ds G' _ r (n.trans (.newH i3' (.lst vs) hl)) h0 (i3'.gh.free hl) (pot_ne i3' hl) upd_same h'⟩⟩
theorem xo_call {k : Nat} {y : Str} {ps : List Str} {st : Stmt} {R : List Dt → List Dt → Prop} {ds' : List Dt} {p3 : Pos} (C : Cal X.prog X.w X.K X.mg X.base k y ps st (spO X.K R)) (ha : PAD X (e :: es) δ ds') (hR : R ds' ds)
    (hr : Room k X.A := by first | assumption | (refine Room.mono (by assumption) ?_; decide)) (hgd : X.A.guards = some [] := by assumption) (hg : Gl X y := by rfl) (hpl : starEach es X.env = es.map fun e => (false, eval e X.env) := by rfl) (hdb : (y == ("__debug__" : Str)) = false := by decide) :
    XO X (.Call (.Name y p2) (e :: es) [] p3) δ (fun x => x = ds) := by
  obtain ⟨f, fd, F, hm, hk, hb, _⟩ := C.ex
  refine PE.imp (pe_g F hr hgd hg hm hk hb ha.pa hdb (by rw [hpl]; exact ha.pl) (back_plain hpl)) fun σ H Q ⟨p, B, G, i3, en, q⟩ => ⟨p, B, G, i3, en, fun vs dd G1 H1 r n hv => ?_⟩
  subst r
  have i31 := i3.nxt n
  refine ⟨G1, _, ds, i31.gh, hv, hR, fun l xs G2 H2 st2 e2 g2 hl gl hl2 ha2 => ?_⟩
  have n2 : Nxt p G1 H1 G2 H2 := ⟨st2, fun a o h => e2 a o (del_le h).1, g2, fun z hz => by
    obtain ⟨_, _, a, b, h3, h4⟩ := i31.pot z hz
    exact ⟨a, b, e2 _ _ h3, h4⟩⟩
  have h0 : H l = none := by
    cases z : H l with
    | none => rfl
    | some w => exact absurd hl (n.dom l (nn z))
  exact q l xs ds G2 H2 rfl (n.trans n2) h0 gl (pot_ne i31 hl) hl2 ha2
theorem sd_own (i : Nat) {x : Str} {S : List Dt → Prop} {pos' : Pos} (hN : X.N.Nodup) (he : XO X e δ S) (hR : ∀ ds, S ds → N (δ.set i (.own ds))) (hi : X.N[i]? = some x := by rfl) (hx : Loc X.env.scope x := by first | exact Or.inl rfl | exact Or.inr rfl)
    (hs : swapsWith e (some (.Name x pos')) pos.line X.env = pure false := by rfl) (hf : X.fn x = true ∨ X.env.scope.names.lookup x = some .local := by first | exact .inl rfl | exact .inr rfl | assumption) : SD X (.Assign [.Name x pos'] e pos) δ { o with nx := N } :=
  PS.imp (ps_set hN hi hx he hs hf) fun D σ H ⟨p, B, G, i3, en, q⟩ => ⟨p, B, G, i3, en, fun l xs ds G' H' r n h0 g pl hl ha => q.nx _ _ G' H' (hR ds r) (n.stepB i3) (i3.nxt n) (en.putOwn i3 n h0 g pl hl ha i)⟩
/-- x, y = a, b where b is a new list of the def's own -/
theorem sd_parO (i j : Nat) {x y : Str} {S : List Dt → Prop} {px py pt : Pos} {kt k2 pt2} (hN : X.N.Nodup) (hij : i ≠ j) (ha : XD X a δ R) (hb : XO X b δ S) (hS : ∀ d ds, R d → S ds → N ((δ.set i (.d d)).set j (.own ds))) (hc : X.calm = true := by rfl) (hi : X.N[i]? = some x := by rfl) (hj : X.N[j]? = some y := by rfl) (hx : X.env.scope.names.lookup x = some .local := by rfl) (hy : X.env.scope.names.lookup y = some .local := by rfl)
    (hw : swappedStores [.Tuple [.Name x px, .Name y py] kt pt] (.Tuple [a, b] k2 pt2) X.env = pure (some [x, y]) := by rfl) (hs : swapsWithSole [.Tuple [.Name x px, .Name y py] kt pt] (.Tuple [a, b] k2 pt2) pos.line X.env = pure false := by rfl)
    (h1 : starEach [a, b] X.env = (false, eval a X.env) :: starEach [b] X.env := by rfl) (h2 : starEach [b] X.env = (false, eval b X.env) :: starEach [] X.env := by rfl) :
    SD X (.Assign [.Tuple [.Name x px, .Name y py] kt pt] (.Tuple [a, b] k2 pt2) pos) δ { o with nx := N } :=
  PS.imp (ps_par hc hN hi hj hij hx hy (pa_cons ha (pa_cons hb pa_nil h2) h1) hw hs) fun D σ H ⟨p, B, G, i3, en, q⟩ => ⟨p, B, G, i3, en, fun v d G1 H1 r1 n1 hv => ⟨p, B, G1, i3.nxt n1, en.nxt n1, fun l xs ds G' H' r n h0 g pl hl ha => by
    refine ⟨v, .ref l, rfl, q.nx _ _ G' H' (hS d ds r1 r) ((n1.trans n).stepB i3) (i3.nxt (n1.trans n)) ?_⟩
    have e1 := (en.nxt n1).set (i := i) hv
    exact e1.putOwn (i3.nxt n1) n h0 g pl hl ha j⟩⟩
/-- an element of an own list -/
theorem pd_ownAt (i : Nat) {x : Str} {k : Int} {np : Pos} (hs : δ[i]? = some (.own ds) := by rfl) (hk : PD X b δ (.int k)) (h : atI ds k = some d) (hN : X.N[i]? = some x := by rfl) (hv : Vis X.env.scope x := by first | exact Or.inl rfl | exact Or.inr (Or.inl rfl) | exact Or.inr (Or.inr rfl)) (hd : (x == ("__debug__" : Str)) = false := by decide)
    (hcd : (x == ("__classdict__" : Str)) = false := by decide) (hp : PlainIx b := by exact fun _ _ => rfl) : PD X (.Subscript (.Name x np) b pos) δ d :=
  PE.imp (pe_ix ix_list (pe_var hN hv hd hcd) hk hp) fun σ H Q ⟨p, B, G, i3, en, q⟩ => by
    obtain ⟨o', h1, l, xs, rfl, h2, h3, h4, h5, h6⟩ := en.slot i _ hs
    refine ⟨_, h1, p, B, G, i3, en, fun v dd G' H' r n hv' => ?_⟩
    subst r
    cases hv'
    have h5' : H' l = some (.lst xs) := n.ex _ _ (by rw [del_ne h4]; exact h5)
    obtain ⟨w, e1, e2⟩ := atI_all h6 h
    exact ⟨l, xs, k, w, rfl, rfl, .inl (.inl h5'), e1, q w d G' H' rfl n (dp_ex n.st.1 _ _ e2)⟩
/-- an own list becomes data for good -/
theorem frz_ok {K : Fg} {p : Option Addr} {B G H : Hp} {σ : L2.St} {i : Nat} (i3 : I3 p B G H) (en : EnvD K p B G H σ δ) (hs : δ[i]? = some (.own ds)) : ∃ G', Step B G G' ∧ I3 p B G' H ∧ EnvD K p B G' H σ (δ.set i (.d (.list ds))) := by
  obtain ⟨o', h1, l, xs, rfl, h2, h3, h4, h5, h6⟩ := en.slot i _ hs
  have gx : Ex G (upd G l (.lst xs)) := Ex.new h3
  refine ⟨upd G l (.lst xs), ⟨gx, fun y h7 h8 => ?_⟩, ⟨i3.bh, fun y u hu => ?_, fun z hz => ?_⟩, ?_⟩
  · have : y ≠ l := fun w => h7 (w ▸ h2)
    rw [upd_ne this]; exact h8
  · by_cases w : y = l
    · subst w; rw [upd_same] at hu; cases hu; exact h5
    · rw [upd_ne w] at hu; exact i3.gh y u hu
  · obtain ⟨a1, a2, a3⟩ := i3.pot z hz
    have : z ≠ l := fun w => h4 (by rw [hz, w])
    exact ⟨a1, by rw [upd_ne this]; exact a2, a3⟩
  · have hil : i < δ.length := (List.getElem?_eq_some_iff.mp hs).1
    refine ⟨by rw [List.length_set]; exact en.len, fun j f q => ?_, fun j k f g oj ok a hjk q1 q2 r1 r2 f1 f2 => ?_⟩
    · by_cases hj : i = j
      · subst hj
        rw [List.getElem?_set_self hil] at q
        cases q
        exact ⟨_, h1, .ref l, rfl, .lst (.inl (.inl upd_same)) (dpAll_ex gx _ _ h6)⟩
      · rw [List.getElem?_set_ne hj] at q
        obtain ⟨o2, b1, b2⟩ := en.slot j f q
        refine ⟨o2, b1, ?_⟩
        have away : ∀ a, Foot f o2 a → a ≠ l := fun a fa w => by
          subst w
          exact en.apart i j (.own ds) f _ o2 a hj hs q h1 b1 (.inl ⟨trivial, rfl⟩) fa
        cases f with
        | no => trivial
        | d y => obtain ⟨v, e1, e2⟩ := b2; exact ⟨v, e1, dp_ex gx _ _ e2⟩
        | pot => exact b2
        | rng lo hi => exact b2
        | own es =>
          obtain ⟨l2, ys, c1, c2, c3, c4, c5, c6⟩ := b2
          exact ⟨l2, ys, c1, c2, by rw [upd_ne (away l2 (.inl ⟨trivial, c1⟩))]; exact c3, c4, c5, dpAll_ex gx _ _ c6⟩
        | own2 as dss =>
          obtain ⟨l2, c1, ⟨c2, c3, c4⟩, c5, c6, c7, c8⟩ := b2
          refine ⟨l2, c1, ⟨c2, by rw [upd_ne (away l2 (.inl ⟨trivial, c1⟩))]; exact c3, c4⟩, c5, c6, c7, fun n a es k1 k2 => ?_⟩
          obtain ⟨⟨m1, m2, m3⟩, xs, m4, m5⟩ := c8 n a es k1 k2
          exact ⟨⟨m1, by rw [upd_ne (away a (.inr (List.mem_of_getElem? k1)))]; exact m2, m3⟩, xs, m4, dpAll_ex gx _ _ m5⟩
    · have nj : i ≠ j := fun w => by subst w; rw [List.getElem?_set_self hil] at q1; cases q1; exact foot_d f1
      have nk : i ≠ k := fun w => by subst w; rw [List.getElem?_set_self hil] at q2; cases q2; exact foot_d f2
      rw [List.getElem?_set_ne nj] at q1
      rw [List.getElem?_set_ne nk] at q2
      exact en.apart j k f g oj ok a hjk q1 q2 r1 r2 f1 f2
theorem ss_frz (i : Nat) (hs : δ[i]? = some (.own ds)) (k : SsD X sts (δ.set i (.d (.list ds))) o) : SsD X sts δ o := PSs.imp k fun D σ H ⟨p, B, G, i3, en, q⟩ => by
  obtain ⟨G', s, i', e'⟩ := frz_ok i3 en hs
  exact ⟨p, B, G', i', e', q.step s⟩
/-- a test that reads an own list as data -/
theorem xt_frz (i : Nat) {R : Bool → Prop} (hs : δ[i]? = some (.own ds)) (k : XT X c (δ.set i (.d (.list ds))) R) : XT X c δ R := PT.imp k fun σ H Q ⟨p, B, G, i3, en, q⟩ => by
  obtain ⟨G', s, i', e'⟩ := frz_ok i3 en hs
  exact ⟨p, B, G', i', e', fun u G2 H2 r n => q u G H2 r ⟨.refl _ _, n.ex, fun a w h => n.gh a w (n.st.1 a w (s.1 a w h)), n.pot⟩⟩
/-- x.append(e), e drawn -/
theorem sd_app (i : Nat) {x : Str} {apos cpos np : Pos} (hs : δ[i]? = some (.own ds)) (he : XD X e δ R) (hR : ∀ d, R d → N (δ.set i (.own (ds ++ [d])))) (hz : ds.length < 100000) (hN : X.N[i]? = some x := by rfl)
    (hv : Vis X.env.scope x := by first | exact Or.inl rfl | exact Or.inr (Or.inl rfl) | exact Or.inr (Or.inr rfl)) (hd : (x == ("__debug__" : Str)) = false := by decide) (hcd : (x == ("__classdict__" : Str)) = false := by decide)
    (hbase : attributeBase (.Name x np) "append" X.env (eval (.Name x np) X.env) = eval (.Name x np) X.env := by rfl)
    (hfew : ((backTo cpos (starEach [e] X.env)).all (fun x => !x.1) && (backToKw cpos (keywordEach [] X.env)).all (fun x => x.1.isSome) && decide (([e] : List Expr).length + ([] : List Keyword).length + (if ([] : List Keyword).isEmpty then 0 else 1) < 30)) = true := by rfl)
    (hline : (apos.endLine == cpos.line) = true := by rfl) (hst : starEach [e] X.env = [(false, eval e X.env)] := by rfl) (hsw : swapsWith (.Call (.Attribute (.Name x np) "append" apos) [e] [] cpos) none pos.line X.env = pure false := by rfl) :
    SD X (.Expr (.Call (.Attribute (.Name x np) "append" apos) [e] [] cpos) pos) δ { o with nx := N } := by
  refine PS.imp (ps_expr (pe_bm PySem.F.plainAttrs_list PySem.F.slot_list_append PySem.F.type_list_append mt_append (pe_var hN hv hd hcd) (pa_cons he pa_nil (by rw [hst]; rfl)) hbase hfew hline hst rfl) hsw) fun D σ H ⟨p, B, G, i3, en, q⟩ => ?_
  obtain ⟨o', h1, l, xs, rfl, h2, h3, h4, h5, h6⟩ := en.slot i _ hs
  refine ⟨_, h1, .inl ⟨rfl, xs, .inl (.inl h5)⟩, p, B, G, i3, en, fun v d' G' H' r n hv' => ?_⟩
  have en' := en.nxt n
  have i3' := i3.nxt n
  have g' : G' l = none := n.st.2 l (nn h5) h3
  have h5' : H' l = some (.lst xs) := n.ex _ _ (by rw [del_ne h4]; exact h5)
  refine ⟨l, xs, v, rfl, rfl, h5', by rw [dpAll_length h6]; exact Nat.lt_of_lt_of_le hz (by decide), q.nx _ σ G' _ (hR d' r) (n.stepB i3) ⟨i3'.bh.mut h2, i3'.gh.mut g', fun z hz' => ?_⟩ (en'.app hs h1 (dpAll_append (dpAll_ex n.st.1 _ _ h6) (.cons hv' .nil)))⟩
  obtain ⟨a1, a2, a3, a4, a5, a6⟩ := i3'.pot z hz'
  have : z ≠ l := fun w => h4 (by rw [hz', w])
  exact ⟨a1, a2, a3, a4, by rw [upd_ne this]; exact a5, a6⟩
theorem pd_neg {i : Int} (ha : PD X a δ (.int i)) : PD X (.UnaryOp .USub a pos) δ (.int (-i)) := PE.imp (pe_un un_neg ha) fun σ H Q ⟨p, B, G, i3, en, q⟩ => ⟨p, B, G, i3, en, fun v d G' H' r n hv => by
  subst r
  cases hv
  exact ⟨i, rfl, q _ _ G' H' rfl n (.int _)⟩⟩
end
end Dv

set_option linter.all false
set_option maxRecDepth 100000
set_option maxHeartbeats 4000000
namespace Dv
open PySem PySem.Spec PyProof.Rows L2
/-! ### lists of the def's own in a list of the def's own -/
theorem dzAll_of_get {K : Fg} {G : Hp} : ∀ {xs : List V} {ds : List Dt}, xs.length = ds.length → (∀ (i : Nat) x d, xs[i]? = some x → ds[i]? = some d → Dz K G x d) → DzAll K G xs ds
  | [], [], _, _ => .nil
  | x :: xs, d :: ds, hl, h => .cons (h 0 x d rfl rfl) (dzAll_of_get (by simpa using hl) fun i y e h1 h2 => h (i + 1) y e (by simpa using h1) (by simpa using h2))
  | [], _ :: _, hl, _ => by simp at hl
  | _ :: _, [], hl, _ => by simp at hl
section
variable {X : Cx} {sts : List Stmt} {a b c e : Expr} {es fs : List Expr} {δ δ' : De} {o : Out} {d : Dt} {ds : List Dt} {dss : List (List Dt)} {as : List Addr} {pos p p2 lp lp2 q : Pos} {R : Dt → Prop} {N : De → Prop} {k : Int}
theorem back_none {p : Option Addr} {G H G' H' : Hp} {l : Addr} (n : Nxt p G H G' H') (h : H' l = none) : H l = none := by
  cases z : H l with
  | none => rfl
  | some w => exact absurd h (n.dom l (nn z))
/-- x = [[e, ..]] -/
theorem sd_new2 (i : Nat) {x : Str} {pos' : Pos} (hX : X.N.Nodup) (he : PAD X es δ ds) (hR : ∀ a, N (δ.set i (.own2 [a] [ds]))) (hz : ds.length ≤ 100000 := by first | decide | simp) (hi : X.N[i]? = some x := by rfl) (hx : Loc X.env.scope x := by first | exact Or.inl rfl | exact Or.inr rfl)
    (hs : swapsWith (.List [.List es lp2] lp) (some (.Name x pos')) pos.line X.env = pure false := by rfl) (hf : X.fn x = true ∨ X.env.scope.names.lookup x = some .local := by first | exact .inl rfl | exact .inr rfl | assumption)
    (h1 : starEach [.List es lp2] X.env = (false, eval (.List es lp2) X.env) :: starEach [] X.env := by rfl) : SD X (.Assign [.Name x pos'] (.List [.List es lp2] lp) pos) δ { o with nx := N } :=
  PS.imp (ps_set hX hi hx (pe_lst (pa_cons (pe_lst he.pa) pa_nil h1)) hs hf) fun D σ H ⟨p, B, G, i3, en, q⟩ => ⟨p, B, G, i3, en, fun vs dd G1 H1 r n hv => ⟨by rw [dpAll_length hv, r]; exact Nat.le_trans hz (by decide), fun a ha => ⟨by show 1 ≤ sizeLine; decide, fun l hl => by
    subst r
    have i31 := i3.nxt n
    have n2 := Nxt.newH i31 (.lst vs) ha
    have i32 := i31.nxt n2
    have n3 := Nxt.newH i32 (.lst [V.ref a]) hl
    have n12 := n.trans n2
    have n13 := n12.trans n3
    have a0 : H a = none := back_none n ha
    have l1 : H1 l = none := back_none n2 hl
    have l0 : H l = none := back_none n12 hl
    have al : a ≠ l := fun z => by subst z; rw [upd_same] at hl; cases hl
    refine q.nx _ _ G1 _ (hR a) (n13.stepB i3) (i3.nxt n13) (en.putNew n13 (en := .own2 [a] [dd]) ⟨l, rfl, ⟨i3.bh.free l0, i31.gh.free l1, pot_ne i3 l0⟩, upd_same, ?_, rfl, fun i x ds' k1 k2 => ?_⟩ fun x fx => ?_)
    · exact List.nodup_cons.mpr ⟨by simpa using fun z => al z.symm, List.nodup_cons.mpr ⟨by simp, List.nodup_nil⟩⟩
    · cases i with
      | zero =>
        simp at k1 k2
        subst k1; subst k2
        exact ⟨⟨i3.bh.free a0, i31.gh.free ha, pot_ne i3 a0⟩, vs, by rw [upd_ne al]; exact upd_same, hv⟩
      | succ i => simp at k1
    · rcases fx with ⟨_, z⟩ | z
      · cases z; exact l0
      · rcases List.mem_singleton.mp z with rfl; exact a0⟩⟩⟩
/-- x.append([]) -/
theorem sd_appNew (i : Nat) {x : Str} {apos cpos np : Pos} (hs : δ[i]? = some (.own2 as dss)) (hR : ∀ a, N (δ.set i (.own2 (as ++ [a]) (dss ++ [[]])))) (hz : as.length < 100000) (hN : X.N[i]? = some x := by rfl)
    (hv : Vis X.env.scope x := by first | exact Or.inl rfl | exact Or.inr (Or.inl rfl) | exact Or.inr (Or.inr rfl)) (hd : (x == ("__debug__" : Str)) = false := by decide) (hcd : (x == ("__classdict__" : Str)) = false := by decide)
    (hbase : attributeBase (.Name x np) "append" X.env (eval (.Name x np) X.env) = eval (.Name x np) X.env := by rfl)
    (hfew : ((backTo cpos (starEach [.List [] lp] X.env)).all (fun x => !x.1) && (backToKw cpos (keywordEach [] X.env)).all (fun x => x.1.isSome) && decide (([.List [] lp] : List Expr).length + ([] : List Keyword).length + (if ([] : List Keyword).isEmpty then 0 else 1) < 30)) = true := by rfl)
    (hline : (apos.endLine == cpos.line) = true := by rfl) (hst : starEach [.List [] lp] X.env = [(false, eval (.List [] lp) X.env)] := by rfl) (hsw : swapsWith (.Call (.Attribute (.Name x np) "append" apos) [.List [] lp] [] cpos) none pos.line X.env = pure false := by rfl) :
    SD X (.Expr (.Call (.Attribute (.Name x np) "append" apos) [.List [] lp] [] cpos) pos) δ { o with nx := N } := by
  refine PS.imp (ps_expr (pe_bm PySem.F.plainAttrs_list PySem.F.slot_list_append PySem.F.type_list_append mt_append (pe_var hN hv hd hcd) (pa_cons (pe_lst pa_nil) pa_nil (by rw [hst]; rfl)) hbase hfew hline hst rfl) hsw) fun D σ H ⟨p, B, G, i3, en, q⟩ => ?_
  obtain ⟨o', h1, l, rfl, ⟨f1, f2, f3⟩, h5, nd, ln, rows⟩ := en.slot i _ hs
  refine ⟨_, h1, .inl ⟨rfl, _, .inl (.inl h5)⟩, Nat.zero_le _, fun a ha => ?_⟩
  have n := Nxt.newH i3 (.lst []) ha
  have i3' := i3.nxt n
  have en' := en.nxt n
  have la : l ≠ a := fun z => by subst z; rw [ha] at h5; cases h5
  have h5' : upd H a (.lst []) l = some (.lst (as.map V.ref)) := by rw [upd_ne la]; exact h5
  have anew : a ∉ l :: as := fun z => by
    rcases List.mem_cons.mp z with z | z
    · exact la z.symm
    · obtain ⟨_, xs, hx⟩ := foot_of (K := X.K) (H := H) (e := .own2 as dss) (o := some (.ref l)) (a := a) ⟨l, rfl, ⟨f1, f2, f3⟩, h5, nd, ln, rows⟩ (.inr z)
      rw [ha] at hx; cases hx
  refine ⟨l, _, _, rfl, rfl, h5', by rw [List.length_map]; exact Nat.lt_of_lt_of_le hz (by decide), q.nx _ σ G _ (hR a) (n.stepB i3) ⟨i3'.bh.mut f1, i3'.gh.mut f2, fun z hz' => ?_⟩ (en'.write2 (e' := .own2 (as ++ [a]) (dss ++ [[]])) hs h1 (fun y ny _ => upd_ne fun z => ny (.inl ⟨trivial, by rw [z]⟩)) ⟨l, rfl, ⟨f1, f2, f3⟩, ?_, ?_, ?_, fun j y ds k1 k2 => ?_⟩ fun y fy => ?_)⟩
  · obtain ⟨a1, a2, a3, a4, a5, a6⟩ := i3'.pot z hz'
    have : z ≠ l := fun w => f3 (by rw [hz', w])
    exact ⟨a1, a2, a3, a4, by rw [upd_ne this]; exact a5, a6⟩
  · rw [upd_same, List.map_append]; rfl
  · rw [← List.cons_append]
    exact List.nodup_append.mpr ⟨nd, List.nodup_cons.mpr ⟨by simp, List.nodup_nil⟩, fun x hx y hy z => by
      rcases List.mem_singleton.mp hy with rfl
      exact anew (z ▸ hx)⟩
  · rw [List.length_append, List.length_append, ln]; rfl
  · by_cases hj : j < as.length
    · rw [List.getElem?_append_left hj] at k1
      rw [List.getElem?_append_left (by rw [← ln]; exact hj)] at k2
      obtain ⟨m1, xs, m2, m3⟩ := rows j y ds k1 k2
      have ya : y ≠ a := fun z => anew (List.mem_cons_of_mem _ (z ▸ List.mem_of_getElem? k1))
      have yl : y ≠ l := fun z => (List.nodup_cons.mp nd).1 (z ▸ List.mem_of_getElem? k1)
      exact ⟨m1, xs, by rw [upd_ne yl, upd_ne ya]; exact m2, m3⟩
    · have hj2 : j = as.length := by
        have := (List.getElem?_eq_some_iff.mp k1).1
        rw [List.length_append] at this
        simp at this
        omega
      subst hj2
      rw [List.getElem?_concat_length] at k1
      rw [ln, List.getElem?_concat_length] at k2
      cases k1; cases k2
      exact ⟨⟨i3.bh.free ha, i3.gh.free ha, pot_ne i3 ha⟩, [], by rw [upd_ne (Ne.symm la)]; exact upd_same, .nil⟩
  · rcases fy with ⟨_, z⟩ | z
    · exact .inl (.inl ⟨trivial, z⟩)
    · rcases List.mem_append.mp z with z | z
      · exact .inl (.inr z)
      · rcases List.mem_singleton.mp z with rfl
        refine .inr fun j f oj hj q1 r1 fb => ?_
        obtain ⟨o2, e1, e2⟩ := en.slot j f q1
        rw [r1] at e1
        cases e1
        obtain ⟨_, xs, hx⟩ := foot_of e2 fb
        rw [ha] at hx; cases hx
/-- one row of the own lists is written -/
theorem EnvD.row {K : Fg} {p : Option Addr} {B G H : Hp} {σ : L2.St} (h : EnvD K p B G H σ δ) {i j : Nat} {l y : Addr} {ys : List V} {es : List Dt} (hs : δ[i]? = some (.own2 as dss)) (h1 : σ[i]? = some (some (.ref l))) (hy : as[j]? = some y) (ha : DzAll K G ys es) : EnvD K p B G (upd H y (.lst ys)) σ (δ.set i (.own2 as (dss.set j es))) := by
  obtain ⟨o, q1, l2, q2, fr, h5, nd, ln, rows⟩ := h.slot i _ hs
  rw [h1] at q1
  cases q1
  cases q2
  have yl : l ≠ y := fun z => (List.nodup_cons.mp nd).1 (z ▸ List.mem_of_getElem? hy)
  have hj : j < dss.length := by rw [← ln]; exact (List.getElem?_eq_some_iff.mp hy).1
  refine h.write hs h1 (fun a na => upd_ne fun z => na (.inr (z ▸ List.mem_of_getElem? hy))) (e' := .own2 as (dss.set j es)) ⟨l, rfl, fr, by rw [upd_ne yl]; exact h5, nd, by rw [List.length_set]; exact ln, fun n a ds k1 k2 => ?_⟩ fun a fa => fa
  by_cases hn : n = j
  · subst hn
    rw [hy] at k1
    cases k1
    rw [List.getElem?_set_self hj] at k2
    cases k2
    obtain ⟨m1, _⟩ := rows n y dss[n] hy (List.getElem?_eq_getElem hj)
    exact ⟨m1, ys, upd_same, ha⟩
  · rw [List.getElem?_set_ne (Ne.symm hn)] at k2
    obtain ⟨m1, xs, m2, m3⟩ := rows n a ds k1 k2
    have : a ≠ y := fun z => by
      subst z
      have nda := (List.nodup_cons.mp nd).2
      exact hn ((List.getElem?_inj (by exact (List.getElem?_eq_some_iff.mp k1).1) nda).mp (k1.trans hy.symm))
    exact ⟨m1, xs, by rw [upd_ne this]; exact m2, m3⟩
/-- x[k].append(e) -/
theorem sd_appRow (i j : Nat) {x : Str} {apos cpos np sp : Pos} (hs : δ[i]? = some (.own2 as dss)) (hk : PD X b δ (.int k)) (hj : ∀ α (ys : List α), ys.length = dss.length → ∃ y, atI ys k = some y ∧ ys[j]? = some y) (hds : dss[j]? = some ds) (he : PD X e δ d) (hR : N (δ.set i (.own2 as (dss.set j (ds ++ [d]))))) (hz : ds.length < 100000) (hN : X.N[i]? = some x := by rfl)
    (hv : Vis X.env.scope x := by first | exact Or.inl rfl | exact Or.inr (Or.inl rfl) | exact Or.inr (Or.inr rfl)) (hd : (x == ("__debug__" : Str)) = false := by decide) (hcd : (x == ("__classdict__" : Str)) = false := by decide) (hp : PlainIx b := by exact fun _ _ => rfl)
    (hbase : attributeBase (.Subscript (.Name x np) b sp) "append" X.env (eval (.Subscript (.Name x np) b sp) X.env) = eval (.Subscript (.Name x np) b sp) X.env := by rfl)
    (hfew : ((backTo cpos (starEach [e] X.env)).all (fun x => !x.1) && (backToKw cpos (keywordEach [] X.env)).all (fun x => x.1.isSome) && decide (([e] : List Expr).length + ([] : List Keyword).length + (if ([] : List Keyword).isEmpty then 0 else 1) < 30)) = true := by rfl)
    (hline : (apos.endLine == cpos.line) = true := by rfl) (hst : starEach [e] X.env = [(false, eval e X.env)] := by rfl) (hsw : swapsWith (.Call (.Attribute (.Subscript (.Name x np) b sp) "append" apos) [e] [] cpos) none pos.line X.env = pure false := by rfl) :
    SD X (.Expr (.Call (.Attribute (.Subscript (.Name x np) b sp) "append" apos) [e] [] cpos) pos) δ { o with nx := N } := by
  refine PS.imp (ps_expr (pe_bm PySem.F.plainAttrs_list PySem.F.slot_list_append PySem.F.type_list_append mt_append (pe_ix ix_list (pe_var hN hv hd hcd) hk hp) (pa_cons he pa_nil (by rw [hst]; rfl)) hbase hfew hline hst rfl) hsw) fun D σ H ⟨p, B, G, i3, en, q⟩ => ?_
  obtain ⟨o', h1, l, rfl, ⟨f1, f2, f3⟩, h5, nd, ln, rows⟩ := en.slot i _ hs
  refine ⟨_, h1, p, B, G, i3, en, fun w dk G1 H1 r1 n1 hw => ?_⟩
  subst r1
  cases hw
  have h51 : H1 l = some (.lst (as.map V.ref)) := n1.ex _ _ (by rw [del_ne f3]; exact h5)
  obtain ⟨yv, y1, y2⟩ := hj V (as.map V.ref) (by rw [List.length_map]; exact ln)
  rw [List.getElem?_map] at y2
  cases hy : as[j]? with
  | none => rw [hy] at y2; cases y2
  | some y =>
    rw [hy] at y2
    cases y2
    obtain ⟨⟨m1, m2, m3⟩, xs, m4, m5⟩ := rows j y ds hy hds
    have m41 : H1 y = some (.lst xs) := n1.ex _ _ (by rw [del_ne m3]; exact m4)
    have i31 := i3.nxt n1
    refine ⟨l, _, k, .ref y, rfl, rfl, .inl (.inl h51), y1, .inl ⟨rfl, xs, .inl (.inl m41)⟩, p, B, G1, i31, en.nxt n1, fun v d' G' H' r n2 hv' => ?_⟩
    subst r
    have n := n1.trans n2
    have i3' := i3.nxt n
    have en' := en.nxt n
    have g' : G' y = none := n.st.2 y (nn m4) m2
    have h5' : H' y = some (.lst xs) := n.ex _ _ (by rw [del_ne m3]; exact m4)
    refine ⟨y, xs, v, rfl, rfl, h5', by rw [dpAll_length m5]; exact Nat.lt_of_lt_of_le hz (by decide), q.nx _ σ G' _ hR (n.stepB i3) ⟨i3'.bh.mut m1, i3'.gh.mut g', fun z hz' => ?_⟩ (en'.row hs h1 hy (dpAll_append (dpAll_ex n.st.1 _ _ m5) (.cons hv' .nil)))⟩
    obtain ⟨a1, a2, a3, a4, a5, a6⟩ := i3'.pot z hz'
    have : z ≠ y := fun w => m3 (by rw [hz', w])
    exact ⟨a1, a2, a3, a4, by rw [upd_ne this]; exact a5, a6⟩
/-- all of it becomes data for good -/
theorem frz2_ok {K : Fg} {p : Option Addr} {B G H : Hp} {σ : L2.St} {i : Nat} (i3 : I3 p B G H) (en : EnvD K p B G H σ δ) (hs : δ[i]? = some (.own2 as dss)) : ∃ G', Step B G G' ∧ I3 p B G' H ∧ EnvD K p B G' H σ (δ.set i (.d (.list (dss.map PyData.list)))) := by
  obtain ⟨o', h1, l, rfl, ⟨f1, f2, f3⟩, h5, nd, ln, rows⟩ := en.slot i _ hs
  have mine : ∀ a, a ∈ l :: as → Fr p B G a ∧ ∃ xs, H a = some (.lst xs) := fun a ha => foot_of (K := K) (H := H) (e := .own2 as dss) (o := some (.ref l)) ⟨l, rfl, ⟨f1, f2, f3⟩, h5, nd, ln, rows⟩ (by
    rcases List.mem_cons.mp ha with z | z
    · exact .inl ⟨trivial, by rw [z]⟩
    · exact .inr z)
  let G' : Hp := fun a => if a ∈ l :: as then H a else G a
  have gin : ∀ a, a ∈ l :: as → G' a = H a := fun a ha => if_pos ha
  have gout : ∀ a, a ∉ l :: as → G' a = G a := fun a ha => if_neg ha
  have gx : Ex G G' := fun a u ha => by
    by_cases z : a ∈ l :: as
    · rw [(mine a z).1.2.1] at ha; cases ha
    · rw [gout a z]; exact ha
  refine ⟨G', ⟨gx, fun y h7 h8 => ?_⟩, ⟨i3.bh, fun y u hu => ?_, fun z hz => ?_⟩, ?_⟩
  · by_cases z : y ∈ l :: as
    · exact absurd (mine y z).1.1 h7
    · rw [gout y z]; exact h8
  · by_cases z : y ∈ l :: as
    · rw [gin y z] at hu; exact hu
    · rw [gout y z] at hu; exact i3.gh y u hu
  · obtain ⟨a1, a2, a3⟩ := i3.pot z hz
    have : z ∉ l :: as := fun w => (mine z w).1.2.2 hz
    exact ⟨a1, by rw [gout z this]; exact a2, a3⟩
  · have hil : i < δ.length := (List.getElem?_eq_some_iff.mp hs).1
    have whole : Dz K G' (.ref l) (.list (dss.map PyData.list)) := .lst (xs := as.map V.ref) (.inl (.inl (by rw [gin l List.mem_cons_self]; exact h5))) (dzAll_of_get (by rw [List.length_map, List.length_map]; exact ln) fun n x dd k1 k2 => by
      rw [List.getElem?_map] at k1 k2
      cases z1 : as[n]? with
      | none => rw [z1] at k1; cases k1
      | some y =>
        cases z2 : dss[n]? with
        | none => rw [z2] at k2; cases k2
        | some es =>
          rw [z1] at k1; rw [z2] at k2
          cases k1; cases k2
          obtain ⟨_, xs, m4, m5⟩ := rows n y es z1 z2
          exact .lst (.inl (.inl (by rw [gin y (List.mem_cons_of_mem _ (List.mem_of_getElem? z1))]; exact m4))) (dpAll_ex gx _ _ m5))
    refine ⟨by rw [List.length_set]; exact en.len, fun j f q => ?_, fun j k f g oj ok a hjk q1 q2 r1 r2 f1 f2 => ?_⟩
    · by_cases hj : i = j
      · subst hj
        rw [List.getElem?_set_self hil] at q
        cases q
        exact ⟨_, h1, .ref l, rfl, whole⟩
      · rw [List.getElem?_set_ne hj] at q
        obtain ⟨o2, b1, b2⟩ := en.slot j f q
        refine ⟨o2, b1, ?_⟩
        have away : ∀ a, Foot f o2 a → a ∉ l :: as := fun a fa w => en.apart i j (.own2 as dss) f _ o2 a hj hs q h1 b1 (by
          rcases List.mem_cons.mp w with z | z
          · exact .inl ⟨trivial, by rw [z]⟩
          · exact .inr z) fa
        cases f with
        | no => trivial
        | d y => obtain ⟨v, e1, e2⟩ := b2; exact ⟨v, e1, dp_ex gx _ _ e2⟩
        | pot => exact b2
        | rng lo hi => exact b2
        | own es =>
          obtain ⟨l2, ys, c1, c2, c3, c4, c5, c6⟩ := b2
          exact ⟨l2, ys, c1, c2, by rw [gout l2 (away l2 (.inl ⟨trivial, c1⟩))]; exact c3, c4, c5, dpAll_ex gx _ _ c6⟩
        | own2 as2 dss2 =>
          obtain ⟨l2, c1, ⟨c2, c3, c4⟩, c5, c6, c7, c8⟩ := b2
          refine ⟨l2, c1, ⟨c2, by rw [gout l2 (away l2 (.inl ⟨trivial, c1⟩))]; exact c3, c4⟩, c5, c6, c7, fun n a es k1 k2 => ?_⟩
          obtain ⟨⟨m1, m2, m3⟩, xs, m4, m5⟩ := c8 n a es k1 k2
          exact ⟨⟨m1, by rw [gout a (away a (.inr (List.mem_of_getElem? k1)))]; exact m2, m3⟩, xs, m4, dpAll_ex gx _ _ m5⟩
    · have nj : i ≠ j := fun w => by subst w; rw [List.getElem?_set_self hil] at q1; cases q1; exact foot_d f1
      have nk : i ≠ k := fun w => by subst w; rw [List.getElem?_set_self hil] at q2; cases q2; exact foot_d f2
      rw [List.getElem?_set_ne nj] at q1
      rw [List.getElem?_set_ne nk] at q2
      exact en.apart j k f g oj ok a hjk q1 q2 r1 r2 f1 f2
theorem ss_frz2 (i : Nat) (hs : δ[i]? = some (.own2 as dss)) (k : SsD X sts (δ.set i (.d (.list (dss.map PyData.list)))) o) : SsD X sts δ o := PSs.imp k fun D σ H ⟨p, B, G, i3, en, q⟩ => by
  obtain ⟨G', s, i', e'⟩ := frz2_ok i3 en hs
  exact ⟨p, B, G', i', e', q.step s⟩
end
end Dv

set_option linter.all false
set_option maxRecDepth 100000
set_option maxHeartbeats 4000000
namespace Dv
open PySem PySem.Spec PyProof.Rows L2
/-! ### a comprehension of new lists -/
def rOw2 (K : Fg) (δ : De) (R : List (List Dt) → Prop) : TE := fun σ H Q => ∃ p B G, I3 p B G H ∧ EnvD K p B G H σ δ ∧ ∀ l as dss G' H', R dss → Nxt p G H G' H' → (∀ a ∈ l :: as, H a = none) → Slot K p B G' H' (.own2 as dss) (some (.ref l)) → Q (.ref l) H'
def XO2 (X : Cx) (e : Expr) (δ : De) (R : List (List Dt) → Prop) : Prop := PE X e (rOw2 X.K δ R)
structure Lc2 (X : Cx) (elt tg iter : Expr) (scope : Scope) (δ : De) (R : List (List Dt) → Prop) : Prop where
  ex : ∃ (own : List (Str × Nat)) (wi : TI) (g : TG) (tt : TT) (te : TE), PI X tg iter wi ∧ BlkOk X.N X.env.scope scope own ∧ (∀ s H C cl fp, PG (bX X scope s H C cl fp) tg g) ∧ (∀ s H C cl fp, PTs (bX X scope s H C cl fp) [] tt) ∧ (∀ s H C cl fp, PE (bX X scope s H C cl fp) elt te) ∧
    ∀ σ H Q, rOw2 X.K δ R σ H Q → tLc wi g tt te (own.map (·.2)) σ H Q
section
variable {X : Cx} {elt tg iter : Expr} {scope : Scope} {own : List (Str × Nat)} {pos : Pos} {δ : De} {es : List Dt}
/-- behind i turns -/
structure Mk2 (K : Fg) (p : Option Addr) (B G1 H1 : Hp) (Dl : Addr) (F : Nat → List Dt) (i : Nat) (G' H' : Hp) (as : List Addr) : Prop where
  nx : Nxt p G1 H1 G' H'
  gd : G' Dl = none
  hd : H' Dl = some (.lst (as.map V.ref))
  ln : as.length = i
  new : ∀ a ∈ as, H1 a = none
  nd : (Dl :: as).Nodup
  rows : ∀ (j : Nat) a, as[j]? = some a → Fr p B G' a ∧ ∃ xs, H' a = some (.lst xs) ∧ DzAll K G' xs (F j)
theorem lc2_of (hi : ID X tg iter δ es) (ok : BlkOk X.N X.env.scope scope own) (hl : es.length ≤ 100000) (F : Nat → List Dt) (δt : Dt → De)
    (hg : ∀ s H C cl fp (i : Nat) d, es[i]? = some d → TgD (bX X scope s H C cl fp) tg (own.map (·.2)) d (wipeD δ (own.map (·.2))) (δt d))
    (he : ∀ s H C cl fp (i : Nat) d, es[i]? = some d → XO (bX X scope s H C cl fp) elt (δt d) fun y => y = F i) : Lc2 X elt tg iter scope δ (fun dss => dss = (List.range es.length).map F) := by
  have pg : ∀ s H C cl fp, PG (bX X scope s H C cl fp) tg (fun v σ H Q => ∃ (i : Nat), ∃ d, es[i]? = some d ∧ rG X.K (own.map (·.2)) d (wipeD δ (own.map (·.2))) (δt d) v σ H Q) := fun s H C cl fp =>
    ⟨fun pins s1 σ H1 v u Q I r ⟨i, d, b, q⟩ => (hg s H C cl fp i d b).run pins s1 σ H1 v u Q I r q⟩
  have pe : ∀ s H C cl fp, PE (bX X scope s H C cl fp) elt (fun σ H Q => ∃ (i : Nat), ∃ d, es[i]? = some d ∧ rOw X.K (δt d) (fun y => y = F i) σ H Q) := fun s H C cl fp =>
    ⟨fun pins s1 σ H1 Q I ⟨i, d, b, q⟩ => (he s H C cl fp i d b).run pins s1 σ H1 Q I q⟩
  refine ⟨own, _, _, _, _, hi, ok, pg, fun _ _ _ _ _ => pts_nil, pe, fun σ H Q ⟨p, B, G, i3, en, q⟩ => ⟨p, B, G, i3, en, fun J ds G1 H1 s n yl Dl hD => ?_⟩⟩
  rw [show ds = es from s] at yl
  have i31 := i3.nxt n
  have en1 := en.nxt n
  have gD : G1 Dl = none := i31.gh.free hD
  have pD : p ≠ some Dl := pot_ne i31 hD
  refine ⟨fun i m H' => m = es.length - i ∧ i ≤ es.length ∧ ∃ G' as, Mk2 X.K p B G1 H1 Dl F i G' H' as, ⟨_, rfl, Nat.zero_le _, G1, [], .newH i31 _ hD, gD, upd_same, rfl, by simp, List.nodup_cons.mpr ⟨by simp, List.nodup_nil⟩, fun j a k => by simp at k⟩, ?_⟩
  rintro i m H' ⟨em, hle, G', as, M⟩
  have i3' := i31.nxt M.nx
  by_cases hlt : i < es.length
  · obtain ⟨go, yd⟩ := (yl p B G' H' M.nx.st.1 i3' i).1 hlt
    refine .inr ⟨go, fun H'' => ∃ G'' as, Mk2 X.K p B G1 H1 Dl F (i + 1) G'' H'' as, fun H'' k => ⟨_, by omega, rfl, by omega, k⟩, fun x H2 hy => ?_⟩
    obtain ⟨G2, d, e2, n2, hx⟩ := yd x H2 hy
    have n12 := M.nx.trans n2
    have hd2 : H2 Dl = some (.lst (as.map V.ref)) := n2.ex Dl _ (by rw [del_ne pD]; exact M.hd)
    refine ⟨i, d, e2, p, B, G2, i31.nxt n12, (en1.nxt n12).wipes _, hx, fun σ2 en2 ⟨ks', ks⟩ => ⟨?_, iteT (B := ∃ G'' as, Mk2 X.K p B G1 H1 Dl F (i + 1) G'' H2 as) ⟨i, d, e2, p, B, G2, i31.nxt n12, en2, fun l xs dl G4 H4 ry n4 h0 g4 p4 hl4 ha4 => ?_⟩⟩⟩
    · refine wipe_same ?_ ks
      rw [ks', wipe_length]
    · subst ry
      have n14 := n12.trans n4
      have i34 := i31.nxt n14
      have gd4 : G4 Dl = none := n4.st.2 Dl (nn hd2) (n2.st.2 Dl (nn M.hd) M.gd)
      have hd4 : H4 Dl = some (.lst (as.map V.ref)) := n4.ex Dl _ (by rw [del_ne pD]; exact hd2)
      have lD : l ≠ Dl := fun z => by subst z; rw [h0] at hd2; cases hd2
      have l1 : H1 l = none := back_none n12 h0
      have rows4 : ∀ (j : Nat) a, as[j]? = some a → a ≠ l ∧ a ≠ Dl ∧ Fr p B G4 a ∧ ∃ xs, H4 a = some (.lst xs) ∧ DzAll X.K G4 xs (F j) := fun j a k => by
        obtain ⟨⟨m1, m2, m3⟩, xs, m4, m5⟩ := M.rows j a k
        have h2 : H2 a = some (.lst xs) := n2.ex a _ (by rw [del_ne m3]; exact m4)
        have h4 : H4 a = some (.lst xs) := n4.ex a _ (by rw [del_ne m3]; exact h2)
        exact ⟨(fun z => by subst z; rw [h0] at h2; cases h2), fun z => (List.nodup_cons.mp M.nd).1 (z ▸ List.mem_of_getElem? k), ⟨m1, n4.st.2 a (nn h2) (n2.st.2 a (nn m4) m2), m3⟩, xs, h4, dpAll_ex (n2.st.1.trans n4.st.1) _ _ m5⟩
      refine ⟨as.map V.ref, hd4, ?_, G4, as ++ [l], ⟨⟨n14.st.1, n14.st.2⟩, fun a o h => ?_, n14.gh.mut gd4, fun z hz => ?_⟩, gd4, by rw [upd_same, List.map_append]; rfl, by rw [List.length_append, M.ln]; rfl, fun a ha => ?_, ?_, fun j a k => ?_⟩
      · rw [List.length_map, M.ln]
        exact Nat.lt_of_le_of_lt (Nat.le_trans hle hl) (by decide)
      · have : a ≠ Dl := ne_of_none (del_le h).1 hD
        rw [upd_ne this]; exact n14.ex a o h
      · have : z ≠ Dl := fun w => pD (by rw [hz, w])
        rw [upd_ne this]; exact n14.pot z hz
      · rcases List.mem_append.mp ha with z | z
        · exact M.new a z
        · rw [List.mem_singleton.mp z]; exact l1
      · rw [← List.cons_append]
        refine List.nodup_append.mpr ⟨M.nd, List.nodup_cons.mpr ⟨by simp, List.nodup_nil⟩, fun x hx y hy z => ?_⟩
        rw [List.mem_singleton.mp hy] at z
        rcases List.mem_cons.mp hx with w | w
        · exact lD (by rw [← z, w])
        · obtain ⟨j, hj, ej⟩ := List.getElem_of_mem w
          exact (rows4 j x (by rw [← ej]; exact List.getElem?_eq_getElem hj)).1 z
      · by_cases hj : j < as.length
        · rw [List.getElem?_append_left hj] at k
          obtain ⟨_, k2, k3, xs', k4, k5⟩ := rows4 j a k
          exact ⟨k3, xs', by rw [upd_ne k2]; exact k4, k5⟩
        · have hj2 : j = as.length := by
            have := (List.getElem?_eq_some_iff.mp k).1
            rw [List.length_append] at this
            simp at this
            omega
          subst hj2
          rw [List.getElem?_concat_length] at k
          cases k
          rw [M.ln]
          exact ⟨⟨i31.bh.free l1, g4, p4⟩, xs, by rw [upd_ne lD]; exact hl4, ha4⟩
  · have e : i = es.length := by omega
    subst e
    have n' := n.trans M.nx
    refine .inl ⟨(yl p B G' H' M.nx.st.1 i3' _).2 rfl, q Dl as _ G' H' rfl n' (fun a ha => ?_) ⟨Dl, rfl, ⟨i31.bh.free hD, M.gd, pD⟩, M.hd, M.nd, by rw [List.length_map, List.length_range]; exact M.ln, fun j a ds k1 k2 => ?_⟩⟩
    · refine back_none n ?_
      rcases List.mem_cons.mp ha with z | z
      · rw [z]; exact hD
      · exact M.new a z
    · rw [List.getElem?_map] at k2
      have hj : j < es.length := by rw [← M.ln]; exact (List.getElem?_eq_some_iff.mp k1).1
      rw [List.getElem?_range hj] at k2
      cases k2
      exact M.rows j a k1
theorem Lc2.xo {R : List (List Dt) → Prop} (h : Lc2 X elt tg iter scope δ R) (hN : X.N.Nodup) (hc : X.calm = true := by rfl) (hs : ∀ x, foldedSetIterable iter X.env x = pure x := by intro _; rfl) : XO2 X (.ListComp elt [⟨tg, iter, [], 0⟩] scope pos) δ R := by
  obtain ⟨own, wi, g, tt, te, a1, a2, a3, a4, a5, a6⟩ := h.ex
  exact PE.imp (pe_lc hc hN a1 a2 a3 a4 a5 hs) a6
theorem put2 {K : Fg} {p : Option Addr} {B G H G' H' : Hp} {σ : L2.St} {l : Addr} {as : List Addr} {dss : List (List Dt)} (en : EnvD K p B G H σ δ) (n : Nxt p G H G' H') (h0 : ∀ a ∈ l :: as, H a = none) (s : Slot K p B G' H' (.own2 as dss) (some (.ref l))) (i : Nat) : EnvD K p B G' H' (σ.set i (some (.ref l))) (δ.set i (.own2 as dss)) :=
  en.putNew n s fun a fa => by
    rcases fa with ⟨_, z⟩ | z
    · cases z; exact h0 _ List.mem_cons_self
    · exact h0 a (List.mem_cons_of_mem _ z)
/-- y = [[..] for ..] on one line -/
theorem sd_lc2 (i : Nat) {y : Str} {py spos : Pos} {R : List (List Dt) → Prop} {o : Out} {N : De → Prop} (hN : X.N.Nodup) (h : Lc2 X elt tg iter scope δ R) (hR : ∀ as dss, R dss → N (δ.set i (.own2 as dss))) (hy : X.N[i]? = some y := by rfl) (hyl : X.env.scope.names.lookup y = some .local := by rfl)
    (hsw : swapsWith (.ListComp elt [⟨tg, iter, [], 0⟩] scope pos) (some (.Name y py)) spos.line X.env = pure true := by exact sw_true rfl rfl rfl (by decide +kernel)) (hc : X.calm = true := by rfl) (hs : ∀ x, foldedSetIterable iter X.env x = pure x := by intro _; rfl) :
    SD X (.Assign [.Name y py] (.ListComp elt [⟨tg, iter, [], 0⟩] scope pos) spos) δ { o with nx := N } := by
  obtain ⟨own, wi, g, tt, te, a1, a2, a3, a4, a5, a6⟩ := h.ex
  exact PS.imp (ps_setLc hc hN hy hyl hsw a1 a2 a3 a4 a5 hs) fun D σ H ⟨p, B, G, i3, en, q⟩ => a6 σ H _ ⟨p, B, G, i3, en, fun l as dss G' H' r n h0 s => q.nx _ _ G' H' (hR as dss r) (n.stepB i3) (i3.nxt n) (put2 en n h0 s i)⟩
end
section
variable {X : Cx} {sts : List Stmt} {a b c e e1 e2 e3 : Expr} {δ : De} {o : Out} {d : Dt} {ds : List Dt} {dss : List (List Dt)} {as : List Addr} {pos p sp np : Pos} {R S : Dt → Prop} {N : De → Prop} {k j : Int}
/-- x[a][b] -/
theorem pd_own2At (i m : Nat) {x : Str} (hs : δ[i]? = some (.own2 as dss) := by rfl) (ha : PD X a δ (.int k)) (hb : PD X b δ (.int j)) (hk : ∀ α (ys : List α), ys.length = dss.length → ∃ y, atI ys k = some y ∧ ys[m]? = some y) (hm : dss[m]? = some ds) (h : atI ds j = some d) (hN : X.N[i]? = some x := by rfl) (hv : Vis X.env.scope x := by first | exact Or.inl rfl | exact Or.inr (Or.inl rfl) | exact Or.inr (Or.inr rfl)) (hd : (x == ("__debug__" : Str)) = false := by decide)
    (hcd : (x == ("__classdict__" : Str)) = false := by decide) (hp : PlainIx a := by exact fun _ _ => rfl) (hp2 : PlainIx b := by exact fun _ _ => rfl) : PD X (.Subscript (.Subscript (.Name x np) a sp) b pos) δ d :=
  PE.imp (pe_ix ix_list (pe_ix ix_list (pe_var hN hv hd hcd) ha hp) hb hp2) fun σ H Q ⟨p, B, G, i3, en, q⟩ => by
    obtain ⟨o', h1, l, rfl, ⟨f1, f2, f3⟩, h5, nd, ln, rows⟩ := en.slot i _ hs
    refine ⟨_, h1, p, B, G, i3, en, fun v dd G1 H1 r1 n1 hv1 => ?_⟩
    subst r1
    cases hv1
    obtain ⟨yv, y1, y2⟩ := hk V (as.map V.ref) (by rw [List.length_map]; exact ln)
    rw [List.getElem?_map] at y2
    cases hy : as[m]? with
    | none => rw [hy] at y2; cases y2
    | some y =>
      rw [hy] at y2
      cases y2
      obtain ⟨⟨m1, m2, m3⟩, xs, m4, m5⟩ := rows m y ds hy hm
      have h51 : H1 l = some (.lst (as.map V.ref)) := n1.ex _ _ (by rw [del_ne f3]; exact h5)
      refine ⟨l, _, k, .ref y, rfl, rfl, .inl (.inl h51), y1, p, B, G1, i3.nxt n1, en.nxt n1, fun w d2 G2 H2 r2 n2 hv2 => ?_⟩
      subst r2
      cases hv2
      have n := n1.trans n2
      have h42 : H2 y = some (.lst xs) := n.ex _ _ (by rw [del_ne m3]; exact m4)
      obtain ⟨u, u1, u2⟩ := atI_all m5 h
      exact ⟨y, xs, j, u, rfl, rfl, .inl (.inl h42), u1, q u d G2 H2 rfl n (dp_ex n.st.1 _ _ u2)⟩
end
end Dv

set_option linter.all false
set_option maxRecDepth 100000
set_option maxHeartbeats 4000000
namespace Dv
open PySem PySem.Spec PyProof.Rows L2
/-! ### targets that write into rows -/
def rGX (K : Fg) (d : Dt) (δ δ' : De) : TG := fun v σ H Q => ∃ p B G, I3 p B G H ∧ EnvD K p B G H σ δ ∧ Dz K G v d ∧ ∀ σ' G' H', Step B G G' → I3 p B G' H' → EnvD K p B G' H' σ' δ' → Q σ' H'
def rGXs (K : Fg) (ds : List Dt) (δ δ' : De) : TGs := fun vs σ H Q => ∃ p B G, I3 p B G H ∧ EnvD K p B G H σ δ ∧ DzAll K G vs ds ∧ ∀ σ' G' H', Step B G G' → I3 p B G' H' → EnvD K p B G' H' σ' δ' → Q σ' H'
def TgX (X : Cx) (tg : Expr) (d : Dt) (δ δ' : De) : Prop := PG X tg (rGX X.K d δ δ')
def TgsX (X : Cx) (tg : List Expr) (ds : List Dt) (δ δ' : De) : Prop := PGs X tg (rGXs X.K ds δ δ')
section
variable {X : Cx} {sts : List Stmt} {a b c e : Expr} {δ δ' δ1 δ2 : De} {o : Out} {d : Dt} {ds es : List Dt} {dss : List (List Dt)} {as : List Addr} {pos p sp np : Pos} {k j : Int}
theorem tx_name (i : Nat) {x : Str} (hN : X.N.Nodup) (hi : X.N[i]? = some x := by rfl) (hx : Loc X.env.scope x := by first | exact Or.inl rfl | exact Or.inr rfl) (hf : X.fn x = true ∨ X.env.scope.names.lookup x = some .local := by first | exact .inl rfl | exact .inr rfl | assumption) : TgX X (.Name x pos) d δ (δ.set i (.d d)) :=
  PG.imp (pg_name hN hi hx hf) fun v σ H Q ⟨p, B, G, i3, en, hv, q⟩ => q _ G H (.refl _ _) i3 (en.set hv)
/-- x[a][b] = v -/
theorem tx_row (i m jj : Nat) {x : Str} (hs : δ[i]? = some (.own2 as dss)) (ha : PD X a δ (.int k)) (hb : PD X b δ (.int j)) (hk : ∀ α (ys : List α), ys.length = dss.length → ∃ y, atI ys k = some y ∧ ys[m]? = some y) (hm : dss[m]? = some ds) (hj : ixN ds.length j = some jj) (hN : X.N[i]? = some x := by rfl) (hv : Vis X.env.scope x := by first | exact Or.inl rfl | exact Or.inr (Or.inl rfl) | exact Or.inr (Or.inr rfl)) (hd : (x == ("__debug__" : Str)) = false := by decide)
    (hcd : (x == ("__classdict__" : Str)) = false := by decide) (hp : PlainIx a := by exact fun _ _ => rfl)
    (hasg : ∀ v, assign (.Subscript (.Subscript (.Name x np) a sp) b pos) X.env v = (do
      let ov ← holding [v] (eval (.Subscript (.Name x np) a sp) X.env)
      let iv ← holding [v, ov] (eval b X.env)
      standAt pos
      holding [v, ov, iv] (setItem ov iv v)
      release [v, ov, iv] []) := by intro _; rfl) : TgX X (.Subscript (.Subscript (.Name x np) a sp) b pos) d δ (δ.set i (.own2 as (dss.set m (ds.set jj d)))) :=
  PG.imp (pg_sub (pe_ix ix_list (pe_var hN hv hd hcd) ha hp) hb set_list hasg) fun v σ H Q ⟨p, B, G, i3, en, hv', q⟩ => by
    obtain ⟨o', h1, l, rfl, ⟨f1, f2, f3⟩, h5, nd, ln, rows⟩ := en.slot i _ hs
    refine ⟨_, h1, p, B, G, i3, en, fun u dd G1 H1 r1 n1 hv1 => ?_⟩
    subst r1
    cases hv1
    obtain ⟨yv, y1, y2⟩ := hk V (as.map V.ref) (by rw [List.length_map]; exact ln)
    rw [List.getElem?_map] at y2
    cases hy : as[m]? with
    | none => rw [hy] at y2; cases y2
    | some y =>
      rw [hy] at y2
      cases y2
      obtain ⟨⟨m1, m2, m3⟩, xs, m4, m5⟩ := rows m y ds hy hm
      have h51 : H1 l = some (.lst (as.map V.ref)) := n1.ex _ _ (by rw [del_ne f3]; exact h5)
      refine ⟨l, _, k, .ref y, rfl, rfl, .inl (.inl h51), y1, p, B, G1, i3.nxt n1, en.nxt n1, fun w d2 G2 H2 r2 n2 hv2 => ?_⟩
      subst r2
      cases hv2
      have n := n1.trans n2
      have i32 := i3.nxt n
      have h42 : H2 y = some (.lst xs) := n.ex _ _ (by rw [del_ne m3]; exact m4)
      have g2 : G2 y = none := n.st.2 y (nn m4) m2
      have m52 := dpAll_ex n.st.1 _ _ m5
      have hset : DzAll X.K G2 (xs.set jj v) (ds.set jj d) := dzAll_of_get (by rw [List.length_set, List.length_set]; exact dpAll_length m5) fun t x' d' k1 k2 => by
        by_cases ht : jj = t
        · subst ht
          have hl : jj < xs.length := by have := (List.getElem?_eq_some_iff.mp k1).1; rwa [List.length_set] at this
          have hl2 : jj < ds.length := by have := (List.getElem?_eq_some_iff.mp k2).1; rwa [List.length_set] at this
          rw [List.getElem?_set_self hl] at k1
          rw [List.getElem?_set_self hl2] at k2
          cases k1; cases k2
          exact dp_ex n.st.1 _ _ hv'
        · rw [List.getElem?_set_ne ht] at k1 k2
          obtain ⟨d3, e1, e2⟩ := dpAll_get' m52 k1
          rw [e1] at k2
          cases k2
          exact e2
      refine ⟨y, xs, j, jj, rfl, rfl, h42, by rw [dpAll_length m5]; exact hj, q σ G2 _ (n.stepB i3) ⟨i32.bh.mut m1, i32.gh.mut g2, fun z hz => ?_⟩ ((en.nxt n).row hs h1 hy hset)⟩
      obtain ⟨a1, a2, a3, a4, a5, a6⟩ := i32.pot z hz
      have : z ≠ y := fun w => m3 (by rw [hz, w])
      exact ⟨a1, a2, a3, a4, by rw [upd_ne this]; exact a5, a6⟩
theorem txs_nil : TgsX X [] [] δ δ := PGs.imp pgs_nil fun v σ H Q ⟨p, B, G, i3, en, hv, q⟩ => by
  cases hv
  exact ⟨rfl, q σ G H (.refl _ _) i3 en⟩
theorem txs_cons {e : Expr} {es : List Expr} (h1 : TgX X e d δ δ1) (h2 : TgsX X es ds δ1 δ2) (hs : (assignEach (e :: es) X.env).map (·.2) = assign e X.env :: (assignEach es X.env).map (·.2) := by rfl) : TgsX X (e :: es) (d :: ds) δ δ2 :=
  PGs.imp (pgs_cons h1 h2 hs) fun v σ H Q ⟨p, B, G, i3, en, hv, q⟩ => by
    cases hv with
    | cons a b => exact ⟨_, _, rfl, p, B, G, i3, en, a, fun σ1 G1 H1 s1 i1 en1 => ⟨p, B, G1, i1, en1, dpAll_ex s1.1 _ _ b, fun σ2 G2 H2 s2 i2 en2 => q σ2 G2 H2 (s1.trans s2) i2 en2⟩⟩
theorem tx_tup {es : List Expr} {k : Nat} (hc : X.calm = true) (h : TgsX X es ds δ δ1) (hn : (assignEach es X.env).length = ds.length := by rfl) (hst : (assignEach es X.env).findIdx? (·.1) = none := by rfl) : TgX X (.Tuple es k pos) (.tuple ds) δ δ1 :=
  PG.imp (pg_tup hc h hn hst) fun v σ H Q ⟨p, B, G, i3, en, hv, q⟩ => by
    cases hv with
    | tup hs ha => exact ⟨_, _, rfl, ex_t i3.gh hs, dpAll_length ha, p, B, G, i3, en, ha, q⟩
theorem s_asgX {tg : Expr} (he : PD X e δ d) (hg : TgX X tg d δ δ') (k : SsD X sts δ' o) (hs : swapsWithSole [tg] e pos.line X.env = pure false := by rfl) (hw : swappedStores [tg] e X.env = pure none := by rfl)
    (h1 : (assignEach [tg] X.env).map (·.2) = [assign tg X.env] := by rfl) : SsD X (.Assign [tg] e pos :: sts) δ o :=
  ss_to (PS.imp (ps_asg he hg hs hw h1) fun D σ H ⟨p, B, G, i3, en, q⟩ => ⟨p, B, G, i3, en, fun v d' G' H' r n hv => by
    subst r
    exact ⟨p, B, G', i3.nxt n, en.nxt n, hv, fun σ2 G2 H2 s2 i2 en2 => q.nx _ _ G2 H2 rfl ((n.stepB i3).trans s2) i2 en2⟩⟩) k
/-- list(e), [n] * k as new lists -/
theorem xo_listOf {v : Dt} (hm : X.mg "list" = none) (he : PD X e δ v) (hv : v = .list ds ∨ v = .tuple ds) (hg : Gl X "list" := by rfl) (hs : starEach [e] X.env = (false, eval e X.env) :: starEach [] X.env := by rfl) : XO X (.Call (.Name "list" p) [e] [] pos) δ (fun x => x = ds) :=
  PE.imp (pe_callTy call_list_of hg hm (by decide +kernel) (pa_cons he pa_nil hs) (by decide) (by decide) hs (back_plain (es := []) rfl)) fun σ H Q ⟨p, B, G, i3, en, q⟩ => ⟨p, B, G, i3, en, fun u dd G' H' r n hu => by
    subst r
    have i3' := i3.nxt n
    have fin : ∀ {xs : List V}, DzAll X.K G' xs ds → ∀ l, H' l = none → Q (.ref l) (upd H' l (.lst xs)) := fun {xs} ha l hl => q l xs ds G' _ rfl (n.trans (.newH i3' _ hl)) (back_none n hl) (i3'.gh.free hl) (pot_ne i3' hl) upd_same ha
    rcases hv with e1 | e1 <;> subst e1
    · cases hu with
      | lst hs ha => exact ⟨_, _, rfl, .inl (exl i3'.gh hs), fin ha⟩
    · cases hu with
      | tup hs ha => exact ⟨_, _, rfl, .inr (ex_t i3'.gh hs), fin ha⟩⟩
/-- [e] * k, a new list -/
theorem xo_rep {lp : Pos} {es : List Expr} (ha : PAD X es δ ds) (hb : PD X b δ (.int k)) (k0 : 0 ≤ k) (k1 : k ≤ 1000) (hl : ds.length ≤ 10) : XO X (.BinOp (.List es lp) .Mult b pos) δ (fun x => x = (List.replicate k.toNat ds).flatten) :=
  PE.imp (pe_op op_rep (pe_lst ha.pa) hb) fun σ H Q ⟨p, B, G, i3, en, q⟩ => ⟨p, B, G, i3, en, fun vs dd G1 H1 r1 n1 hv => ⟨by rw [dpAll_length hv, r1]; exact Nat.le_trans hl (by decide), fun l0 hl0 => by
    subst r1
    have i31 := i3.nxt n1
    have n2 := Nxt.new i31 (.lst vs) hl0
    have i32 := i31.nxt n2
    have n12 := n1.trans n2
    refine ⟨p, B, _, i3.nxt n12, en.nxt n12, fun w d2 G3 H3 r2 n3 hw => ?_⟩
    subst r2
    cases hw
    have n13 := n12.trans n3
    have i33 := i3.nxt n13
    have h3 : H3 l0 = some (.lst vs) := i33.gh l0 _ (n3.st.1 l0 _ upd_same)
    refine ⟨l0, k, vs, rfl, rfl, h3, by omega, by omega, ?_, fun l hl => q l _ _ G3 _ rfl (n13.trans (.newH i33 _ hl)) (back_none n13 hl) (i33.gh.free hl) (pot_ne i33 hl) upd_same ?_⟩
    · rw [dpAll_length hv]
      have h1 : dd.length * k.toNat ≤ 10 * 1000 := Nat.mul_le_mul hl (by omega)
      exact Nat.le_trans h1 (by decide)
    · have hv3 := dpAll_ex (n2.st.1.trans n3.st.1) _ _ hv
      clear h3
      induction k.toNat with
      | zero => exact .nil
      | succ m ih => rw [List.replicate_succ, List.replicate_succ, List.flatten_cons, List.flatten_cons]; exact dpAll_append hv3 ih⟩⟩
end
end Dv

set_option linter.all false
set_option maxRecDepth 100000
set_option maxHeartbeats 4000000
namespace Dv
open PySem PySem.Spec PyProof.Rows L2 RZ
/-! ### zip of two lists, of two tuples -/
def zipD (ds es : List Dt) : List Dt := (ds.zip es).map fun q => .tuple [q.1, q.2]
theorem zipD_length {ds es : List Dt} : (zipD ds es).length = min ds.length es.length := by unfold zipD; rw [List.length_map, List.length_zip]
theorem zipD_get {ds es : List Dt} {i : Nat} {d e : Dt} (h1 : ds[i]? = some d) (h2 : es[i]? = some e) : (zipD ds es)[i]? = some (.tuple [d, e]) := by
  unfold zipD
  rw [List.getElem?_map, List.getElem?_zip_eq_some (z := (d, e)) |>.mpr ⟨h1, h2⟩]; rfl
theorem yld_zipL {K : Fg} {G : Hp} {a b : Addr} {xs ys : List V} {ds es : List Dt} (hs : SqX K G a xs) (ha : DzAll K G xs ds) (hs2 : SqX K G b ys) (hb : DzAll K G ys es) : Yld K (Itz K a b) G (zipD ds es) := by
  intro p B G1 H1 e i3 i
  rw [zipD_length]
  have h1 : SqL K H1 a xs := exl (e.trans i3.gh) hs
  have h2 : SqL K H1 b ys := exl (e.trans i3.gh) hs2
  refine ⟨fun hi => ?_, fun hi => ⟨xs, ys, h1, h2, by rw [dpAll_length ha, dpAll_length hb]; omega⟩⟩
  have l1 : i < ds.length := by omega
  have l2 : i < es.length := by omega
  obtain ⟨v, hv, hd⟩ := dpAll_get (i := i) (d := ds[i]) ha (List.getElem?_eq_getElem l1)
  obtain ⟨u, hu, he⟩ := dpAll_get (i := i) (d := es[i]) hb (List.getElem?_eq_getElem l2)
  refine ⟨⟨xs, ys, v, u, h1, h2, hv, hu⟩, fun x H2 hx => ?_⟩
  obtain ⟨T, z1, z2, e1, hT, e2, k1, k2⟩ := hx
  subst e1; subst e2
  have q1 := k1 xs h1
  have q2 := k2 ys h2
  rw [hv] at q1
  rw [hu] at q2
  cases q1; cases q2
  have ex := e.trans (Ex.new (o := .tup [v, u]) (i3.gh.free hT))
  exact ⟨_, _, zipD_get (List.getElem?_eq_getElem l1) (List.getElem?_eq_getElem l2), .new i3 _ hT, .tup (.inl (.inl upd_same)) (.cons (dp_ex ex _ _ hd) (.cons (dp_ex ex _ _ he) .nil))⟩
theorem yld_zipT {K : Fg} {G : Hp} {a b : Addr} {xs ys : List V} {ds es : List Dt} (hs : SqT K G a xs) (ha : DzAll K G xs ds) (hs2 : SqT K G b ys) (hb : DzAll K G ys es) : Yld K (ItzT K a b) G (zipD ds es) := by
  intro p B G1 H1 e i3 i
  rw [zipD_length]
  have h1 : SqT K H1 a xs := ex_t (e.trans i3.gh) hs
  have h2 : SqT K H1 b ys := ex_t (e.trans i3.gh) hs2
  refine ⟨fun hi => ?_, fun hi => ⟨xs, ys, h1, h2, by rw [dpAll_length ha, dpAll_length hb]; omega⟩⟩
  have l1 : i < ds.length := by omega
  have l2 : i < es.length := by omega
  obtain ⟨v, hv, hd⟩ := dpAll_get (i := i) (d := ds[i]) ha (List.getElem?_eq_getElem l1)
  obtain ⟨u, hu, he⟩ := dpAll_get (i := i) (d := es[i]) hb (List.getElem?_eq_getElem l2)
  refine ⟨⟨xs, ys, v, u, h1, h2, hv, hu⟩, fun x H2 hx => ?_⟩
  obtain ⟨T, z1, z2, e1, hT, e2, k1, k2⟩ := hx
  subst e1; subst e2
  have q1 := k1 xs h1
  have q2 := k2 ys h2
  rw [hv] at q1
  rw [hu] at q2
  cases q1; cases q2
  have ex := e.trans (Ex.new (o := .tup [v, u]) (i3.gh.free hT))
  exact ⟨_, _, zipD_get (List.getElem?_eq_getElem l1) (List.getElem?_eq_getElem l2), .new i3 _ hT, .tup (.inl (.inl upd_same)) (.cons (dp_ex ex _ _ hd) (.cons (dp_ex ex _ _ he) .nil))⟩
section
variable {X : Cx} {a b : Expr} {δ : De} {ds es : List Dt} {p pos tpos : Pos}
theorem i_zipL {elts : List Expr} {kk : Nat} (h : PAD X [a, b] δ [.list ds, .list es]) (hm : X.mg "zip" = none) (hg : Gl X "zip" := by rfl) (hs2 : starEach [b] X.env = [(false, eval b X.env)] := by rfl) : ID X (.Tuple elts kk tpos) (.Call (.Name "zip" p) [a, b] [] pos) δ (zipD ds es) :=
  PI.imp (pi_zipA hg hm h.pa (by rw [hs2]; exact h.he) (by rw [hs2]; rfl)) fun σ H Q ⟨p, B, G, i3, en, q⟩ => ⟨p, B, G, i3, en, fun v d G' H' r n hv => by
    subst r
    obtain ⟨x, y, rfl, h1, h2⟩ := two_of hv
    cases h1 with
    | lst hs ha => cases h2 with
      | lst hs2 ha2 => exact ⟨_, _, _, _, rfl, .inl ⟨exl n.gh hs, exl n.gh hs2, q _ _ G' H' rfl n (yld_zipL hs ha hs2 ha2)⟩⟩⟩
theorem i_zipT {elts : List Expr} {kk : Nat} (h : PAD X [a, b] δ [.tuple ds, .tuple es]) (hm : X.mg "zip" = none) (hg : Gl X "zip" := by rfl) (hs2 : starEach [b] X.env = [(false, eval b X.env)] := by rfl) : ID X (.Tuple elts kk tpos) (.Call (.Name "zip" p) [a, b] [] pos) δ (zipD ds es) :=
  PI.imp (pi_zipA hg hm h.pa (by rw [hs2]; exact h.he) (by rw [hs2]; rfl)) fun σ H Q ⟨p, B, G, i3, en, q⟩ => ⟨p, B, G, i3, en, fun v d G' H' r n hv => by
    subst r
    obtain ⟨x, y, rfl, h1, h2⟩ := two_of hv
    cases h1 with
    | tup hs ha => cases h2 with
      | tup hs2 ha2 => exact ⟨_, _, _, _, rfl, .inr ⟨ex_t n.gh hs, ex_t n.gh hs2, q _ _ G' H' rfl n (yld_zipT hs ha hs2 ha2)⟩⟩⟩
end
end Dv

set_option linter.all false
set_option maxRecDepth 100000
set_option maxHeartbeats 2000000
/-! Ew: the same judgements in the form "what must hold of the answer", one rule a construct; the goal goes on where evaluation goes on. -/
namespace Dv
open PySem PySem.Spec PyProof.Rows L2
/-! ### places by relations, so that they are found by unification -/
inductive SetR : De → Nat → En → De → Prop
  | z {a l e} : SetR (a :: l) 0 e (e :: l)
  | s {a l n e l'} : SetR l n e l' → SetR (a :: l) (n + 1) e (a :: l')
theorem SetR.eq {δ δ' : De} {i : Nat} {e : En} (h : SetR δ i e δ') : δ.set i e = δ' := by
  induction h with
  | z => rfl
  | s _ ih => rw [List.set_cons_succ, ih]
inductive Nx : List Str → Str → Nat → Prop
  | z {x N} : Nx (x :: N) x 0
  | s {y N x i} : Nx N x i → Nx (y :: N) x (i + 1)
theorem Nx.eq {N : List Str} {x : Str} {i : Nat} (h : Nx N x i) : N[i]? = some x := by
  induction h with
  | z => rfl
  | s _ ih => rw [List.getElem?_cons_succ]; exact ih
/-! ### generic forms -/
section
variable {X : Cx} {a b c e : Expr} {es : List Expr} {δ : De} {pos : Pos} {R U1 U2 : Dt → Prop} {d x y : Dt} {ds : List Dt} {S : Bool → Prop}
theorem pe_many {ι : Sort _} {G : ι → Prop} {t : ι → TE} (h : ∀ i, G i → PE X e (t i)) : PE X e (fun σ H Q => ∃ i, G i ∧ t i σ H Q) := ⟨fun pins s σ H Q I ⟨i, g, q⟩ => (h i g).run pins s σ H Q I q⟩
theorem pa_many {ι : Sort _} {G : ι → Prop} {t : ι → TA} (h : ∀ i, G i → PA X es (t i)) : PA X es (fun σ H Q => ∃ i, G i ∧ t i σ H Q) := ⟨fun pos pins s σ H Q I ⟨i, g, q⟩ => (h i g).run pos pins s σ H Q I q⟩
theorem pt_many {ι : Sort _} {G : ι → Prop} {t : ι → TT} (h : ∀ i, G i → PT X e (t i)) : PT X e (fun σ H Q => ∃ i, G i ∧ t i σ H Q) := ⟨fun pins s σ H Q I ⟨i, g, q⟩ => (h i g).run pins s σ H Q I q⟩
theorem pw_many {ι : Sort _} {G : ι → Prop} {t : ι → TT} (h : ∀ i, G i → PW X e (t i)) : PW X e (fun σ H Q => ∃ i, G i ∧ t i σ H Q) := ⟨fun w pins s σ H Q I ⟨i, g, q⟩ => (h i g).run w pins s σ H Q I q⟩
theorem pss_many {ι : Sort _} {G : ι → Prop} {t : ι → TS} {sts : List Stmt} (h : ∀ i, G i → PSs X sts (t i)) : PSs X sts (fun D σ H => ∃ i, G i ∧ t i D σ H) := ⟨fun pins s σ H D I ⟨i, g, q⟩ => (h i g).run pins s σ H D I q⟩
theorem c_of (h : PD X e δ d) (k : R d) : XD X e δ R := h.mono fun x ex => by rw [ex]; exact k
theorem c_var {i : Nat} {x : Str} (hN : Nx X.N x i) (hs : δ[i]? = some (.d d)) (k : R d) (hv : Vis X.env.scope x := by first | exact Or.inl rfl | exact Or.inr (Or.inl rfl) | exact Or.inr (Or.inr rfl)) (hd : (x == ("__debug__" : Str)) = false := by decide)
    (hcd : (x == ("__classdict__" : Str)) = false := by decide) : XD X (.Name x pos) δ R := c_of (pd_v i hs hN.eq hv hd hcd) k
theorem c_int {i : Int} {j} (k : R (.int i)) : XD X (.Constant (.int i) j pos) δ R := c_of pd_int k
theorem c_bl {i : Bool} {j} (k : R (.bool i)) : XD X (.Constant (.bool i) j pos) δ R := c_of pd_bl k
theorem c_str {i : Str} {j} (k : R (.str i)) : XD X (.Constant (.str i) j pos) δ R := c_of pd_str k
theorem c_non {j} (k : R .none) : XD X (.Constant .none j pos) δ R := c_of pd_non k
theorem c_neg (h : XD X a δ fun x => ∃ i : Int, x = .int i ∧ R (.int (-i))) : XD X (.UnaryOp .USub a pos) δ R :=
  PE.imp (pe_un un_neg h) fun σ H Q ⟨p, B, G, i3, en, q⟩ => ⟨p, B, G, i3, en, fun v d G' H' ⟨i, r, k⟩ n hv => by subst r; cases hv; exact ⟨i, rfl, q _ _ G' H' k n (.int _)⟩⟩
/-- two places -/
def BinP (X : Cx) (op : Operator) (x y : Dt) (R : Dt → Prop) : Prop := ∃ r, OpR X (binaryOp op) r ∧ RD X.K r x y R
def CmpP (X : Cx) (op : CmpOp) (x y : Dt) (S : Bool → Prop) : Prop := ∃ r, OpR X (compareOp op) r ∧ RD X.K r x y fun d => ∃ c, d = .bool c ∧ S c
def IxP (X : Cx) (x y : Dt) (R : Dt → Prop) : Prop := ∃ r, IxR X r ∧ RD X.K r x y R
theorem two_c {T : Dt → Dt → Prop} {K : Fg} {p : Option Addr} {B G H : Hp} {σ : L2.St} {Q : V → V → Hp → Prop} {XB : (Dt → Prop) → Prop} (i3 : I3 p B G H) (en : EnvD K p B G H σ δ)
    (k : ∀ v w d1 d2 G' H', T d1 d2 → Nxt p G H G' H' → I3 p B G' H' → Dz K G' v d1 → Dz K G' w d2 → Q v w H') : rX K δ (fun x => XB (T x)) σ H fun v H1 => (fun σ H Q => ∃ U : Dt → Prop, XB U ∧ rX K δ U σ H Q) σ H1 fun w H2 => Q v w H2 :=
  ⟨p, B, G, i3, en, fun v d1 G1 H1 r1 n1 h1 => ⟨T d1, r1, p, B, G1, i3.nxt n1, en.nxt n1, fun w d2 G2 H2 r2 n2 h2 => k v w d1 d2 G2 H2 r2 (n1.trans n2) (i3.nxt (n1.trans n2)) (dp_ex n2.st.1 _ _ h1) h2⟩⟩
theorem pe_later : PE X b (fun σ H Q => ∃ U : Dt → Prop, XD X b δ U ∧ rX X.K δ U σ H Q) := pe_many fun U h => h
theorem c_bin {op : Operator} (h : XD X a δ fun x => XD X b δ fun y => BinP X op x y R) : XD X (.BinOp a op b pos) δ R :=
  PE.imp (pe_op (r := fun v w H Q => ∃ r, OpR X (binaryOp op) r ∧ r v w H Q) (fun pins s σ H x y v u Q I rx ry ⟨r, ho, q⟩ => ho pins s σ H x y v u Q I rx ry q) h (pe_later (δ := δ))) fun σ H Q ⟨p, B, G, i3, en, q⟩ =>
    two_c i3 en fun v w d1 d2 G' H' ⟨r, ho, hr⟩ n i' h1 h2 => ⟨r, ho, hr p B G' H' v w i' h1 h2 Q fun u d G2 H2 rr n2 hu => q u d G2 H2 rr (n.trans n2) hu⟩
theorem c_cmpV {op : CmpOp} (hm : behindInMarks op b = false) (h : XD X a δ fun x => XD X b δ fun y => CmpP X op x y fun c => R (.bool c)) : XD X (.Compare a [op] [b] pos) δ R :=
  PE.imp (pe_cmpR (r := fun v w H Q => ∃ r, OpR X (compareOp op) r ∧ r v w H Q) (fun pins s σ H x y v u Q I rx ry ⟨r, ho, q⟩ => ho pins s σ H x y v u Q I rx ry q) h (pe_later (δ := δ)) hm) fun σ H Q ⟨p, B, G, i3, en, q⟩ =>
    two_c i3 en fun v w d1 d2 G' H' ⟨r, ho, hr⟩ n i' h1 h2 => ⟨r, ho, hr p B G' H' v w i' h1 h2 Q fun u d G2 H2 ⟨c, e, rr⟩ n2 hu => by subst e; exact q u _ G2 H2 rr (n.trans n2) hu⟩
theorem c_cmp {op : CmpOp} (hm : behindInMarks op b = false) (h : XD X a δ fun x => XD X b δ fun y => CmpP X op x y S) : XT X (.Compare a [op] [b] pos) δ S :=
  PT.imp (pt_cmpR (r := fun v w H Q => ∃ r, OpR X (compareOp op) r ∧ r v w H Q) (fun pins s σ H x y v u Q I rx ry ⟨r, ho, q⟩ => ho pins s σ H x y v u Q I rx ry q) h (pe_later (δ := δ)) hm) fun σ H Q ⟨p, B, G, i3, en, q⟩ =>
    two_c i3 en fun v w d1 d2 G' H' ⟨r, ho, hr⟩ n i' h1 h2 => ⟨r, ho, hr p B G' H' v w i' h1 h2 _ fun u d G2 H2 ⟨c, e, rr⟩ n2 hu => by subst e; cases hu; exact ⟨c, rfl, q c G2 H2 rr (n.trans n2)⟩⟩
theorem c_ix (h : XD X a δ fun x => XD X b δ fun y => IxP X x y R) (hs : PlainIx b := by exact fun _ _ => rfl) : XD X (.Subscript a b pos) δ R :=
  PE.imp (pe_ix (r := fun v w H Q => ∃ r, IxR X r ∧ r v w H Q) (fun a b pins s σ H x y v u Q I rx ry ⟨r, ho, q⟩ => ho a b pins s σ H x y v u Q I rx ry q) h (pe_later (δ := δ)) hs) fun σ H Q ⟨p, B, G, i3, en, q⟩ =>
    two_c i3 en fun v w d1 d2 G' H' ⟨r, ho, hr⟩ n i' h1 h2 => ⟨r, ho, hr p B G' H' v w i' h1 h2 Q fun u d G2 H2 rr n2 hu => q u d G2 H2 rr (n.trans n2) hu⟩
/-! what the operators give -/
variable {i j : Int}
theorem bp_add (k : R (.int (i + j))) : BinP X .Add (.int i) (.int j) R := ⟨_, op_add, rd_i k⟩
theorem bp_sub (k : R (.int (i - j))) : BinP X .Sub (.int i) (.int j) R := ⟨_, op_sub, rd_i k⟩
theorem bp_mul (hc : CMul i j) (k : R (.int (i * j))) : BinP X .Mult (.int i) (.int j) R := ⟨_, op_mul, by refine rd_c ?_ ?_; exact hc; exact k⟩
theorem bp_mod (hc : 0 < j) (k : R (.int (i % j))) : BinP X .Mod (.int i) (.int j) R := ⟨_, op_mod, by refine rd_c ?_ ?_; exact hc; exact k⟩
theorem bp_fdiv (hc : CDiv i j) (k : R (.int (i / j))) : BinP X .FloorDiv (.int i) (.int j) R := ⟨_, op_fdiv, by refine rd_c ?_ ?_; exact hc; exact k⟩
theorem bp_pow (hc : CPow i j) (k : R (.int (i ^ j.toNat))) : BinP X .Pow (.int i) (.int j) R := ⟨_, op_pow, by refine rd_c ?_ ?_; exact hc; exact k⟩
theorem bp_cat {es fs : List Dt} (hl : es.length + fs.length ≤ 100000) (k : R (.list (es ++ fs))) : BinP X .Add (.list es) (.list fs) R := ⟨_, op_catR, by
  intro p B G H v w i3 h1 h2 Q q
  cases h1 with
  | lst hs ha => cases h2 with
    | lst hs2 ha2 =>
      exact ⟨_, _, _, _, rfl, rfl, ex_x i3.gh hs, ex_x i3.gh hs2, by rw [dpAll_length ha, dpAll_length ha2]; exact Nat.le_trans hl (by decide), fun l hl => q _ _ _ _ k (.new i3 _ hl) (.lst (.inl (.inl upd_same)) (dpAll_ex (Ex.new (i3.gh.free hl)) _ _ (dpAll_append ha ha2)))⟩⟩
theorem rd_bS {g : Int → Int → Bool} (k : S (g i j)) {K : Fg} : RD K (rI0 fun i j => .bl (g i j)) (.int i) (.int j) (fun d => ∃ c, d = .bool c ∧ S c) := rd_b ⟨_, rfl, k⟩
theorem cp_lt (k : S (decide (i < j))) : CmpP X .Lt (.int i) (.int j) S := ⟨_, op_lt, rd_bS k⟩
theorem cp_le (k : S (decide (i ≤ j))) : CmpP X .LtE (.int i) (.int j) S := ⟨_, op_le, rd_bS k⟩
theorem cp_gt (k : S (decide (j < i))) : CmpP X .Gt (.int i) (.int j) S := ⟨_, op_gt, rd_bS k⟩
theorem cp_ge (k : S (decide (j ≤ i))) : CmpP X .GtE (.int i) (.int j) S := ⟨_, op_ge, rd_bS k⟩
theorem cp_eqI (k : S (decide (i = j))) : CmpP X .Eq (.int i) (.int j) S := ⟨_, op_eq, by
  intro p B G H v w i3 h1 h2 Q q
  cases h1; cases h2
  refine ⟨rfl, q _ _ G H ⟨_, rfl, k⟩ (.refl i3) ?_⟩
  have : decide (V.int i = V.int j) = decide (i = j) := by rw [dec_int]; rfl
  rw [this]; exact .bl _⟩
theorem cp_neI (k : S (!decide (i = j))) : CmpP X .NotEq (.int i) (.int j) S := ⟨_, op_ne, by
  intro p B G H v w i3 h1 h2 Q q
  cases h1; cases h2
  refine ⟨rfl, q _ _ G H ⟨_, rfl, k⟩ (.refl i3) ?_⟩
  have : decide (V.int i = V.int j) = decide (i = j) := by rw [dec_int]; rfl
  rw [this]; exact .bl _⟩
theorem cp_eqS {i j : Str} (k : S (decide (i = j))) : CmpP X .Eq (.str i) (.str j) S := ⟨_, op_eq, by
  intro p B G H v w i3 h1 h2 Q q
  cases h1; cases h2
  refine ⟨rfl, q _ _ G H ⟨_, rfl, k⟩ (.refl i3) ?_⟩
  have : decide (V.str i = V.str j) = decide (i = j) := by by_cases h : i = j <;> simp [h]
  rw [this]; exact .bl _⟩
theorem cp_neS {i j : Str} (k : S (!decide (i = j))) : CmpP X .NotEq (.str i) (.str j) S := ⟨_, op_ne, by
  intro p B G H v w i3 h1 h2 Q q
  cases h1; cases h2
  refine ⟨rfl, q _ _ G H ⟨_, rfl, k⟩ (.refl i3) ?_⟩
  have : decide (V.str i = V.str j) = decide (i = j) := by by_cases h : i = j <;> simp [h]
  rw [this]; exact .bl _⟩
theorem cp_eqB {i j : Bool} (k : S (decide (i = j))) : CmpP X .Eq (.bool i) (.bool j) S := ⟨_, op_eq, by
  intro p B G H v w i3 h1 h2 Q q
  cases h1; cases h2
  refine ⟨rfl, q _ _ G H ⟨_, rfl, k⟩ (.refl i3) ?_⟩
  have : decide (V.bl i = V.bl j) = decide (i = j) := by by_cases h : i = j <;> simp [h]
  rw [this]; exact .bl _⟩
theorem cp_neB {i j : Bool} (k : S (!decide (i = j))) : CmpP X .NotEq (.bool i) (.bool j) S := ⟨_, op_ne, by
  intro p B G H v w i3 h1 h2 Q q
  cases h1; cases h2
  refine ⟨rfl, q _ _ G H ⟨_, rfl, k⟩ (.refl i3) ?_⟩
  have : decide (V.bl i = V.bl j) = decide (i = j) := by by_cases h : i = j <;> simp [h]
  rw [this]; exact .bl _⟩
/-- texts that are the same / data that are the same -/
theorem cp_neSs {i : Str} (k : S false) : CmpP X .NotEq (.str i) (.str i) S := cp_neS (by rw [decide_eq_true rfl]; exact k)
theorem cp_eqSs {i : Str} (k : S true) : CmpP X .Eq (.str i) (.str i) S := cp_eqS (by rw [decide_eq_true rfl]; exact k)
theorem cp_eqD (hu : X.A.units + 64 < cLine) (hx : SeqAt.shaped x = true) (hy : SeqAt.shaped y = true) (k : S (PyData.eqv x y)) : CmpP X .Eq x y S := ⟨_, op_eqD hu, by
  intro p B G H v w i3 h1 h2 Q q
  exact ⟨_, _, dz_dp _ _ (nds hx) (dp_ex i3.gh _ _ h1), dz_dp _ _ (nds hy) (dp_ex i3.gh _ _ h2), hx, hy, q _ _ G H ⟨_, rfl, k⟩ (.refl i3) (.bl _)⟩⟩
theorem cp_neD (hu : X.A.units + 64 < cLine) (hx : SeqAt.shaped x = true) (hy : SeqAt.shaped y = true) (k : S (!PyData.eqv x y)) : CmpP X .NotEq x y S := ⟨_, op_neD hu, by
  intro p B G H v w i3 h1 h2 Q q
  exact ⟨_, _, dz_dp _ _ (nds hx) (dp_ex i3.gh _ _ h1), dz_dp _ _ (nds hy) (dp_ex i3.gh _ _ h2), hx, hy, q _ _ G H ⟨_, rfl, k⟩ (.refl i3) (.bl _)⟩⟩
theorem cp_isN (k : S (match x with | .none => true | _ => false)) : CmpP X .Is x .none S := ⟨_, op_isN, by
  intro p B G H v w i3 h1 h2 Q q
  cases h2
  refine ⟨rfl, q _ _ G H ⟨_, rfl, k⟩ (.refl i3) ?_⟩
  cases h1 <;> exact .bl _⟩
theorem cp_notN (k : S (match x with | .none => false | _ => true)) : CmpP X .IsNot x .none S := ⟨_, op_notN, by
  intro p B G H v w i3 h1 h2 Q q
  cases h2
  refine ⟨rfl, q _ _ G H ⟨_, rfl, k⟩ (.refl i3) ?_⟩
  cases h1 <;> exact .bl _⟩
theorem cp_inS {ss : List Str} {z : Str} (k : S (ss.any fun y => y == z)) : CmpP X .In (.str z) (.tuple (ss.map PyData.str)) S := ⟨_, op_in_seq, by
  intro p B G H v w i3 h1 h2 Q q
  cases h1
  cases h2 with
  | tup hs ha =>
    have e := dz_strs ha
    subst e
    refine ⟨_, _, rfl, .inr (ex_t i3.gh hs), rfl, ?_, q _ _ G H ⟨_, rfl, k⟩ (.refl i3) ?_⟩
    · rw [List.all_map]; exact List.all_eq_true.mpr fun _ _ => rfl
    · have : inV (V.str z) (ss.map V.str) = ss.any fun y => y == z := by unfold inV; rw [List.any_map]; rfl
      rw [this]; exact .bl _⟩
theorem ip_tup (h : atI ds i = some d) (k : R d) : IxP X (.tuple ds) (.int i) R := ⟨_, ix_tup, rd_ixT ⟨d, h, k⟩⟩
theorem ip_list (h : atI ds i = some d) (k : R d) : IxP X (.list ds) (.int i) R := ⟨_, ix_list, rd_ixL ⟨d, h, k⟩⟩
/-! ### tests -/
theorem c_val (h : XD X e δ fun d => ∃ c, d = .bool c ∧ S c) (he : ∀ whole, isTrue e X.env whole = (do let v ← whole; standAt e.pos; holding [v] (truthy v)) := by intro _; rfl) : XT X e δ S := xt_val h he
theorem c_not (h : XT X e δ fun c => S (!c)) : XT X (.UnaryOp .Not e pos) δ S := xt_not h
theorem c_notV (h : XD X e δ fun d => ∃ c, d = .bool c ∧ R (.bool (!c))) : XD X (.UnaryOp .Not e pos) δ R := PE.imp (pe_not h) fun σ H Q ⟨p, B, G, i3, en, q⟩ => ⟨p, B, G, i3, en, fun v d G' H' ⟨c, r, k⟩ n h => by
    subst r; cases h; exact ⟨c, rfl, q _ _ G' H' k n (.bl _)⟩⟩
theorem pw_later : PW X b (fun σ H Q => ∃ U : Bool → Prop, XW X b δ U ∧ rT X.K δ U σ H Q) := pw_many fun U h => h
theorem pt_later : PT X b (fun σ H Q => ∃ U : Bool → Prop, XT X b δ U ∧ rT X.K δ U σ H Q) := pt_many fun U h => h
theorem w_a1 (h : XT X a δ S) : XW X (.BoolOp .And [a] pos) δ S := pw_and1 h
theorem w_o1 (h : XT X a δ S) : XW X (.BoolOp .Or [a] pos) δ S := pw_or1 h
theorem w_a {rest : List Expr} (h : XT X a δ fun c => (c = true → XW X (.BoolOp .And (b :: rest) pos) δ S) ∧ (c = false → S false)) : XW X (.BoolOp .And (a :: b :: rest) pos) δ S :=
  PW.imp (pw_and h (pw_later (δ := δ))) fun σ H Q ⟨p, B, G, i3, en, q⟩ => ⟨p, B, G, i3, en, fun c G' H' ⟨h1, h2⟩ n => by
    cases c with
    | true => exact iteT ⟨S, h1 rfl, p, B, G', i3.nxt n, en.nxt n, fun c2 G2 H2 r2 n2 => q c2 G2 H2 r2 (n.trans n2)⟩
    | false => exact iteF (q false G' H' (h2 rfl) n)⟩
theorem w_o {rest : List Expr} (h : XT X a δ fun c => (c = false → XW X (.BoolOp .Or (b :: rest) pos) δ S) ∧ (c = true → S true)) : XW X (.BoolOp .Or (a :: b :: rest) pos) δ S :=
  PW.imp (pw_or h (pw_later (δ := δ))) fun σ H Q ⟨p, B, G, i3, en, q⟩ => ⟨p, B, G, i3, en, fun c G' H' ⟨h1, h2⟩ n => by
    cases c with
    | false => exact iteF ⟨S, h1 rfl, p, B, G', i3.nxt n, en.nxt n, fun c2 G2 H2 r2 n2 => q c2 G2 H2 r2 (n.trans n2)⟩
    | true => exact iteT (q true G' H' (h2 rfl) n)⟩
theorem c_w {op} (h : XW X (.BoolOp op es pos) δ S) : XT X (.BoolOp op es pos) δ S := L2.PW.pt h
/-! and, or as values -/
theorem v_1 {op} (h : XD X a δ R) : XD X (.BoolOp op [a] pos) δ R := pe_one h
theorem v_a {rest : List Expr} (h : XD X a δ fun d => ∃ c, d = .bool c ∧ (c = true → XD X (.BoolOp .And (b :: rest) pos) δ R) ∧ (c = false → R (.bool false))) : XD X (.BoolOp .And (a :: b :: rest) pos) δ R :=
  PE.imp (pe_and h (pe_later (δ := δ))) fun σ H Q ⟨p, B, G, i3, en, q⟩ => ⟨p, B, G, i3, en, fun v d G' H' ⟨c, e, h1, h2⟩ n hv => by
    subst e; cases hv
    refine ⟨c, rfl, ?_⟩
    cases c with
    | true => exact iteT ⟨R, h1 rfl, p, B, G', i3.nxt n, en.nxt n, fun v2 d2 G2 H2 r2 n2 k2 => q v2 d2 G2 H2 r2 (n.trans n2) k2⟩
    | false => exact iteF (q _ _ G' H' (h2 rfl) n (.bl _))⟩
theorem v_o {rest : List Expr} (h : XD X a δ fun d => ∃ c, d = .bool c ∧ (c = false → XD X (.BoolOp .Or (b :: rest) pos) δ R) ∧ (c = true → R (.bool true))) : XD X (.BoolOp .Or (a :: b :: rest) pos) δ R :=
  PE.imp (pe_or h (pe_later (δ := δ))) fun σ H Q ⟨p, B, G, i3, en, q⟩ => ⟨p, B, G, i3, en, fun v d G' H' ⟨c, e, h1, h2⟩ n hv => by
    subst e; cases hv
    refine ⟨c, rfl, ?_⟩
    cases c with
    | false => exact iteF ⟨R, h1 rfl, p, B, G', i3.nxt n, en.nxt n, fun v2 d2 G2 H2 r2 n2 k2 => q v2 d2 G2 H2 r2 (n.trans n2) k2⟩
    | true => exact iteT (q _ _ G' H' (h2 rfl) n (.bl _))⟩
theorem c_if (h : XT X c δ fun k => (k = true → XD X a δ R) ∧ (k = false → XD X b δ R)) : XD X (.IfExp c a b pos) δ R :=
  PE.imp (pe_ifExp h (pe_later (b := a) (δ := δ)) (pe_later (b := b) (δ := δ))) fun σ H Q ⟨p, B, G, i3, en, q⟩ => ⟨p, B, G, i3, en, fun k G' H' ⟨h1, h2⟩ n => by
    cases k with
    | true => exact iteT ⟨R, h1 rfl, p, B, G', i3.nxt n, en.nxt n, fun v d G2 H2 r2 n2 k2 => q v d G2 H2 r2 (n.trans n2) k2⟩
    | false => exact iteF ⟨R, h2 rfl, p, B, G', i3.nxt n, en.nxt n, fun v d G2 H2 r2 n2 k2 => q v d G2 H2 r2 (n.trans n2) k2⟩⟩
/-! ### lists of expressions -/
variable {T : List Dt → Prop}
theorem a_n (k : T []) : XA X [] δ T := xa_nil.mono fun ds e => by rw [e]; exact k
theorem a_c (h : XD X e δ fun d => XA X es δ fun ds => T (d :: ds)) (hs : starEach (e :: es) X.env = (false, eval e X.env) :: starEach es X.env := by rfl) (hp : starEach (e :: es) X.env = (e :: es).map fun e => (false, eval e X.env) := by rfl) : XA X (e :: es) δ T :=
  ⟨PA.imp (pa_cons h (pa_many (G := fun U : List Dt → Prop => XA X es δ U) (t := fun U => rA X.K δ U) fun U h => h.pa) hs) fun σ H Q ⟨p, B, G, i3, en, q⟩ => ⟨p, B, G, i3, en, fun v d G1 H1 r1 n1 h1 => ⟨fun ds => T (d :: ds), r1, p, B, G1, i3.nxt n1, en.nxt n1, fun vs ds G2 H2 r2 n2 h2 =>
    q (v :: vs) (d :: ds) G2 H2 r2 (n1.trans n2) (.cons (dp_ex n2.st.1 _ _ h1) h2)⟩⟩, hp⟩
theorem c_tup {k} (h : XA X es δ fun ds => ds.length ≤ 100000 ∧ R (.tuple ds)) : XD X (.Tuple es k pos) δ R := PE.imp (pe_tup h.pa) fun σ H Q ⟨p, B, G, i3, en, q⟩ => ⟨p, B, G, i3, en, fun vs ds G' H' ⟨hl, r⟩ n h' =>
  ⟨by rw [dpAll_length h']; exact Nat.le_trans hl (by decide), fun a ha => q (.ref a) _ _ _ r (n.trans (.new (i3.nxt n) (.tup vs) ha)) (.tup (.inl (.inl upd_same)) (dpAll_ex (Ex.new ((i3.nxt n).gh.free ha)) _ _ h'))⟩⟩
theorem c_lst (h : XA X es δ fun ds => ds.length ≤ 100000 ∧ R (.list ds)) : XD X (.List es pos) δ R := PE.imp (pe_lst h.pa) fun σ H Q ⟨p, B, G, i3, en, q⟩ => ⟨p, B, G, i3, en, fun vs ds G' H' ⟨hl, r⟩ n h' =>
  ⟨by rw [dpAll_length h']; exact Nat.le_trans hl (by decide), fun a ha => q (.ref a) _ _ _ r (n.trans (.new (i3.nxt n) (.lst vs) ha)) (.lst (.inl (.inl upd_same)) (dpAll_ex (Ex.new ((i3.nxt n).gh.free ha)) _ _ h'))⟩⟩
end
end Dv

set_option linter.all false
set_option maxRecDepth 100000
set_option maxHeartbeats 2000000
namespace Dv
open PySem PySem.Spec PyProof.Rows L2
/-! ### comprehensions: what is made is a new list -/
structure LcO (X : Cx) (elt tg iter : Expr) (ifs : List Expr) (scope : Scope) (δ : De) (R : List Dt → Prop) : Prop where
  ex : ∃ (own : List (Str × Nat)) (wi : TI) (g : TG) (tt : TT) (te : TE), PI X tg iter wi ∧ BlkOk X.N X.env.scope scope own ∧ (∀ s H C cl fp, PG (bX X scope s H C cl fp) tg g) ∧ (∀ s H C cl fp, PTs (bX X scope s H C cl fp) ifs tt) ∧ (∀ s H C cl fp, PE (bX X scope s H C cl fp) elt te) ∧
    ∀ σ H Q, rOw X.K δ R σ H Q → tLc wi g tt te (own.map (·.2)) σ H Q
/-- one turn: the target is set (δ2), the tests say T, the element is y -/
structure TurnC (X : Cx) (elt tg : Expr) (ifs : List Expr) (scope : Scope) (δ δ2 : De) (js : List Nat) (d : Dt) (T : Bool → Prop) (Y : Dt → Prop) : Prop where
  g : ∀ s H C cl fp, TgD (bX X scope s H C cl fp) tg js d (wipeD δ js) δ2
  t : ∀ s H C cl fp, XPs (bX X scope s H C cl fp) ifs δ2 T
  e : T true → ∀ s H C cl fp, XD (bX X scope s H C cl fp) elt δ2 Y
section
variable {X : Cx} {elt tg iter e : Expr} {ifs : List Expr} {scope : Scope} {own : List (Str × Nat)} {pos : Pos} {δ : De} {R : List Dt → Prop} {U : Dt → Prop}
theorem lco_of (own : List (Str × Nat)) (ok : BlkOk X.N X.env.scope scope own) (hi : XI X tg iter δ fun ds => ds.length ≤ 100000 ∧ ∃ Iv : Nat → List Dt → Prop, Iv 0 [] ∧
      (∀ (i : Nat) d out, ds[i]? = some d → Iv i out → ∃ δ2 T, TurnC X elt tg ifs scope δ δ2 (own.map (·.2)) d T (fun y => Iv (i + 1) (out ++ [y])) ∧ (T false → Iv (i + 1) out)) ∧ ∀ out, Iv ds.length out → R out) : LcO X elt tg iter ifs scope δ R := by
  have pg : ∀ s H C cl fp, PG (bX X scope s H C cl fp) tg (fun v σ H Q => ∃ d δ2 T Y, TurnC X elt tg ifs scope δ δ2 (own.map (·.2)) d T Y ∧ rG X.K (own.map (·.2)) d (wipeD δ (own.map (·.2))) δ2 v σ H Q) := fun s H C cl fp =>
    ⟨fun pins s1 σ H1 v u Q I r ⟨d, δ2, T, Y, t, q⟩ => (t.g s H C cl fp).run pins s1 σ H1 v u Q I r q⟩
  have pt : ∀ s H C cl fp, PTs (bX X scope s H C cl fp) ifs (fun σ H Q => ∃ d δ2 T Y, TurnC X elt tg ifs scope δ δ2 (own.map (·.2)) d T Y ∧ rT X.K δ2 T σ H Q) := fun s H C cl fp =>
    ⟨fun pins s1 σ H1 Q I ⟨d, δ2, T, Y, t, q⟩ => (t.t s H C cl fp).run pins s1 σ H1 Q I q⟩
  have pe : ∀ s H C cl fp, PE (bX X scope s H C cl fp) elt (fun σ H Q => ∃ d δ2 T Y, TurnC X elt tg ifs scope δ δ2 (own.map (·.2)) d T Y ∧ T true ∧ rX X.K δ2 Y σ H Q) := fun s H C cl fp =>
    ⟨fun pins s1 σ H1 Q I ⟨d, δ2, T, Y, t, c, q⟩ => (t.e c s H C cl fp).run pins s1 σ H1 Q I q⟩
  refine ⟨own, _, _, _, _, hi, ok, pg, pt, pe, fun σ H Q ⟨p, B, G, i3, en, q⟩ => ⟨p, B, G, i3, en, fun J ds G1 H1 ⟨hS, Iv, h0, turn, hR⟩ n yl Dl hD => ?_⟩⟩
  have i31 := i3.nxt n
  have en1 := en.nxt n
  have gD : G1 Dl = none := i31.gh.free hD
  have pD : p ≠ some Dl := fun z => by
    obtain ⟨_, _, _, _, h3, _⟩ := i31.pot Dl z
    rw [hD] at h3; cases h3
  refine ⟨fun i m H' => m = ds.length - i ∧ i ≤ ds.length ∧ Makes X.K p G1 H1 Dl (Iv i) i H', ⟨_, rfl, Nat.zero_le _, ⟨G1, [], [], .newH i31 _ hD, gD, upd_same, .nil, h0, Nat.le_refl _⟩⟩, ?_⟩
  rintro i m H' ⟨em, hle, ⟨G', acc, os, n', gd, hd, ha, iv, hl⟩⟩
  have i3' := i31.nxt n'
  by_cases hlt : i < ds.length
  · obtain ⟨go, yd⟩ := (yl p B G' H' n'.st.1 i3' i).1 hlt
    refine .inr ⟨go, fun H'' => Makes X.K p G1 H1 Dl (Iv (i + 1)) (i + 1) H'', fun H'' k => ⟨_, by omega, rfl, by omega, k⟩, fun x H2 hy => ?_⟩
    obtain ⟨G2, d, e2, n2, hx⟩ := yd x H2 hy
    have n12 := n'.trans n2
    have gd2 : G2 Dl = none := n2.st.2 Dl (nn hd) gd
    have hd2 : H2 Dl = some (.lst acc) := n2.ex Dl _ (by rw [del_ne pD]; exact hd)
    obtain ⟨δ2, T, tc, hf⟩ := turn i d os e2 iv
    refine ⟨d, δ2, T, _, tc, p, B, G2, i31.nxt n12, (en1.nxt n12).wipes _, hx, fun σ2 en2 ⟨ks', ks⟩ => ⟨?_, d, δ2, T, _, tc, p, B, G2, i31.nxt n12, en2, fun c G3 H3 hc3 n3 => ?_⟩⟩
    · refine wipe_same ?_ ks
      rw [ks', wipe_length]
    · have n13 := n12.trans n3
      have gd3 : G3 Dl = none := n3.st.2 Dl (nn hd2) gd2
      have hd3 : H3 Dl = some (.lst acc) := n3.ex Dl _ (by rw [del_ne pD]; exact hd2)
      have ha3 := dpAll_ex (n2.st.1.trans n3.st.1) _ _ ha
      cases c with
      | false => exact iteF ⟨G3, acc, os, n13, gd3, hd3, ha3, hf hc3, by omega⟩
      | true =>
        refine iteT ⟨d, δ2, T, _, tc, hc3, p, B, G3, i31.nxt n13, en2.nxt n3, fun y dy G4 H4 ry n4 hy4 => ?_⟩
        have n14 := n13.trans n4
        have gd4 : G4 Dl = none := n4.st.2 Dl (nn hd3) gd3
        have hd4 : H4 Dl = some (.lst acc) := n4.ex Dl _ (by rw [del_ne pD]; exact hd3)
        have ha4 := dpAll_ex n4.st.1 _ _ ha3
        refine ⟨acc, hd4, ?_, ⟨G4, acc ++ [y], os ++ [dy], ⟨⟨n14.st.1, n14.st.2⟩, fun a o h => ?_, n14.gh.mut gd4, fun z hz => ?_⟩, gd4, upd_same, dpAll_append ha4 (.cons hy4 .nil), ry, by rw [List.length_append, List.length_singleton]; omega⟩⟩
        · rw [dpAll_length ha4]
          exact Nat.lt_of_le_of_lt (Nat.le_trans hl (Nat.le_trans hle hS)) (by decide)
        · have : a ≠ Dl := ne_of_none (del_le h).1 hD
          rw [upd_ne this]; exact n14.ex a o h
        · have : z ≠ Dl := fun w => pD (by rw [hz, w])
          rw [upd_ne this]; exact n14.pot z hz
  · have e : i = ds.length := by omega
    subst e
    exact .inl ⟨(yl p B G' H' n'.st.1 i3' _).2 rfl, q Dl acc os G' H' (hR os iv) (n.trans n') (back_none n hD) gd pD hd ha⟩
theorem LcO.xo (h : LcO X elt tg iter ifs scope δ R) (hN : X.N.Nodup) (hc : X.calm = true := by rfl) (hs : ∀ x, foldedSetIterable iter X.env x = pure x := by intro _; rfl) : XO X (.ListComp elt [⟨tg, iter, ifs, 0⟩] scope pos) δ R := by
  obtain ⟨own, wi, g, tt, te, a1, a2, a3, a4, a5, a6⟩ := h.ex
  exact PE.imp (pe_lc hc hN a1 a2 a3 a4 a5 hs) a6
/-- a new list is data -/
theorem own_data {K : Fg} {p : Option Addr} {B G H G' H' : Hp} {l : Addr} {xs : List V} {ds : List Dt} (i3 : I3 p B G H) (n : Nxt p G H G' H') (h0 : H l = none) (g : G' l = none) (pl : p ≠ some l) (hl : H' l = some (.lst xs)) (ha : DzAll K G' xs ds) : Nxt p G H (upd G' l (.lst xs)) H' ∧ Dz K (upd G' l (.lst xs)) (.ref l) (.list ds) :=
  ⟨⟨⟨n.st.1.mut (i3.gh.free h0), fun a h1 h2 => by
    have : a ≠ l := fun z => h1 (z ▸ h0)
    rw [upd_ne this]; exact n.st.2 a h1 h2⟩, n.ex, fun a o ho => by
    by_cases z : a = l
    · subst z; rw [upd_same] at ho; cases ho; exact hl
    · rw [upd_ne z] at ho; exact n.gh a o ho, n.pot⟩, .lst (.inl (.inl upd_same)) (dpAll_ex (Ex.new g) _ _ ha)⟩
theorem c_o (h : XO X e δ fun ds => U (.list ds)) : XD X e δ U := PE.imp h fun σ H Q ⟨p, B, G, i3, en, q⟩ => ⟨p, B, G, i3, en, fun l xs ds G' H' r n h0 g pl hl ha => by
  obtain ⟨n2, hd⟩ := own_data i3 n h0 g pl hl ha
  exact q _ _ _ _ r n2 hd⟩
theorem XO.mono {S : List Dt → Prop} (h : XO X e δ S) (k : ∀ ds, S ds → R ds) : XO X e δ R := PE.imp h fun σ H Q ⟨p, B, G, i3, en, q⟩ => ⟨p, B, G, i3, en, fun l xs ds G' H' r => q l xs ds G' H' (k ds r)⟩
theorem ps_n : XPs X [] δ (fun c => c = true) := PTs.imp pts_nil fun σ H Q ⟨p, B, G, i3, en, q⟩ => q true G H rfl (.refl i3)
theorem ps_1 {t : Expr} {S : Bool → Prop} (h : XT X t δ S) : XPs X [t] δ S := PTs.imp (pts_one h) fun σ H Q ⟨p, B, G, i3, en, q⟩ => ⟨p, B, G, i3, en, fun b G' H' e n => q b G' H' e n⟩
/-- each element by its own: Rel -/
theorem lco_map (own : List (Str × Nat)) (ok : BlkOk X.N X.env.scope scope own) (hi : XI X tg iter δ fun ds => ds.length ≤ 100000 ∧ ∃ Rel : Nat → Dt → Dt → Prop,
      (∀ (i : Nat) d, ds[i]? = some d → ∃ δ2, (∀ s H C cl fp, TgD (bX X scope s H C cl fp) tg (own.map (·.2)) d (wipeD δ (own.map (·.2))) δ2) ∧ ∀ s H C cl fp, XD (bX X scope s H C cl fp) elt δ2 (Rel i d)) ∧
      ∀ out, out.length = ds.length → (∀ (i : Nat) d y, ds[i]? = some d → out[i]? = some y → Rel i d y) → R out) : LcO X elt tg iter [] scope δ R :=
  lco_of own ok (PI.imp hi fun σ H Q ⟨p, B, G, i3, en, q⟩ => ⟨p, B, G, i3, en, fun J ds G' H' ⟨hl, Rel, turn, fin⟩ => q J ds G' H' ⟨hl, fun i out => out.length = i ∧ ∀ (k : Nat) d y, ds[k]? = some d → out[k]? = some y → Rel k d y, ⟨rfl, fun k d y _ h => by simp at h⟩, fun i d out hd ⟨l1, iv⟩ => by
    obtain ⟨δ2, t1, t2⟩ := turn i d hd
    refine ⟨δ2, _, ⟨t1, fun _ _ _ _ _ => ps_n, fun _ s H C cl fp => (t2 s H C cl fp).mono fun y hy => ⟨by rw [List.length_append, l1]; rfl, fun k d' y' h1 h2 => ?_⟩⟩, fun z => Bool.noConfusion z⟩
    by_cases hk : k < out.length
    · rw [List.getElem?_append_left hk] at h2; exact iv k d' y' h1 h2
    · have : k = out.length := by
        have := (List.getElem?_eq_some_iff.mp h2).1
        rw [List.length_append, List.length_singleton] at this
        omega
      subst this
      rw [List.getElem?_concat_length] at h2
      cases h2
      rw [l1] at h1 ⊢
      rw [hd] at h1
      cases h1
      exact hy, fun out ⟨l1, iv⟩ => fin out l1 iv⟩⟩)
/-- a map of known data -/
theorem lco_fun {α : Type} (own : List (Str × Nat)) (ok : BlkOk X.N X.env.scope scope own) (hi : XI X tg iter δ fun ds => ∃ (xs : List α) (enc F : α → Dt), ds = xs.map enc ∧ xs.length ≤ 100000 ∧
      (∀ (i : Nat) x, xs[i]? = some x → ∃ δ2, (∀ s H C cl fp, TgD (bX X scope s H C cl fp) tg (own.map (·.2)) (enc x) (wipeD δ (own.map (·.2))) δ2) ∧ ∀ s H C cl fp, XD (bX X scope s H C cl fp) elt δ2 fun y => y = F x) ∧ R (xs.map F)) : LcO X elt tg iter [] scope δ R :=
  lco_map own ok (PI.imp hi fun σ H Q ⟨p, B, G, i3, en, q⟩ => ⟨p, B, G, i3, en, fun J ds G' H' ⟨xs, enc, F, e, hl, turn, fin⟩ => q J ds G' H' ⟨by rw [e, List.length_map]; exact hl, fun i _ y => ∃ x, xs[i]? = some x ∧ y = F x, fun i d hd => by
    subst e
    rw [List.getElem?_map] at hd
    cases z : xs[i]? with
    | none => rw [z] at hd; cases hd
    | some x =>
      rw [z] at hd; cases hd
      obtain ⟨δ2, t1, t2⟩ := turn i x z
      exact ⟨δ2, t1, fun s H C cl fp => (t2 s H C cl fp).mono fun y hy => ⟨x, z, hy⟩⟩, fun out hlen h => by
    subst e
    rw [List.length_map] at hlen
    have : out = xs.map F := by
      refine List.ext_getElem? fun i => ?_
      by_cases hi : i < xs.length
      · have h2 := h i (enc xs[i]) out[i] (by rw [List.getElem?_map, List.getElem?_eq_getElem hi]; rfl) (List.getElem?_eq_getElem (by omega))
        obtain ⟨x, hx, ey⟩ := h2
        rw [List.getElem?_map, hx, List.getElem?_eq_getElem (by omega), ey]; rfl
      · rw [List.getElem?_eq_none (by omega), List.getElem?_eq_none (by rw [List.length_map]; omega)]
    rw [this]; exact fin⟩⟩)
/-- with a test -/
theorem lco_filter {α : Type} {test : Expr} (own : List (Str × Nat)) (ok : BlkOk X.N X.env.scope scope own) (hi : XI X tg iter δ fun ds => ∃ (xs : List α) (enc F : α → Dt) (c : α → Bool), ds = xs.map enc ∧ xs.length ≤ 100000 ∧
      (∀ (i : Nat) x, xs[i]? = some x → ∃ δ2, (∀ s H C cl fp, TgD (bX X scope s H C cl fp) tg (own.map (·.2)) (enc x) (wipeD δ (own.map (·.2))) δ2) ∧ (∀ s H C cl fp, XT (bX X scope s H C cl fp) test δ2 fun b => b = c x) ∧ (c x = true → ∀ s H C cl fp, XD (bX X scope s H C cl fp) elt δ2 fun y => y = F x)) ∧ R ((xs.filter c).map F)) : LcO X elt tg iter [test] scope δ R :=
  lco_of own ok (PI.imp hi fun σ H Q ⟨p, B, G, i3, en, q⟩ => ⟨p, B, G, i3, en, fun J ds G' H' ⟨xs, enc, F, c, e, hl, turn, fin⟩ => q J ds G' H' ⟨by rw [e, List.length_map]; exact hl, fun i out => out = ((xs.take i).filter c).map F, rfl, fun i d out hd iv => by
    subst e
    rw [List.getElem?_map] at hd
    cases z : xs[i]? with
    | none => rw [z] at hd; cases hd
    | some x =>
      rw [z] at hd; cases hd
      obtain ⟨δ2, t1, t2, t3⟩ := turn i x z
      refine ⟨δ2, fun b => b = c x, ⟨t1, fun s H C cl fp => ps_1 (t2 s H C cl fp), fun hc s H C cl fp => (t3 hc.symm s H C cl fp).mono fun y hy => ?_⟩, fun hc => ?_⟩
      · show _ = ((xs.take (i + 1)).filter c).map F
        rw [hy, iv, take_succ' z, List.filter_append, List.map_append, List.filter_cons, if_pos hc.symm]; rfl
      · show _ = ((xs.take (i + 1)).filter c).map F
        rw [iv, take_succ' z, List.filter_append, List.map_append, List.filter_cons, if_neg (by rw [← hc]; decide)]
        show _ = _ ++ ([] : List Dt)
        rw [List.append_nil], fun out iv => by
      subst e
      rw [iv, List.length_map, List.take_length]; exact fin⟩⟩)
end
/-! ### targets -/
section
variable {X : Cx} {pos : Pos} {δ δ1 δ2 : De} {d : Dt} {ds : List Dt} {js ks : List Nat}
theorem g_name {i : Nat} {x : Str} (hN : X.N.Nodup) (hi : Nx X.N x i) (hs : SetR δ i (.d d) δ1) (hx : Loc X.env.scope x := by first | exact Or.inl rfl | exact Or.inr rfl) (hf : X.fn x = true ∨ X.env.scope.names.lookup x = some .local := by first | exact .inl rfl | exact .inr rfl | assumption) : TgD X (.Name x pos) [i] d δ δ1 :=
  hs.eq ▸ tg_name i hN hi.eq hx hf
theorem g_tup {es : List Expr} {k : Nat} (h : TgsD X es js ds δ δ1) (hc : X.calm = true := by rfl) (hn : (assignEach es X.env).length = ds.length := by rfl) (hst : (assignEach es X.env).findIdx? (·.1) = none := by rfl) : TgD X (.Tuple es k pos) js (.tuple ds) δ δ1 := tg_tup hc h hn hst
theorem gs_c {e : Expr} {es : List Expr} {ls : List Nat} (h1 : TgD X e js d δ δ1) (h2 : TgsD X es ks ds δ1 δ2) (hl : js ++ ks = ls := by rfl) (hs : (assignEach (e :: es) X.env).map (·.2) = assign e X.env :: (assignEach es X.env).map (·.2) := by rfl) : TgsD X (e :: es) ls (d :: ds) δ δ2 := hl ▸ tgs_cons h1 h2 hs
end
/-! ### what is walked -/
section
variable {X : Cx} {tg e a b : Expr} {es : List Expr} {δ : De} {ds : List Dt} {p pos tpos : Pos} {S : List Dt → Prop} {R : Dt → Prop}
def seqD (d : Dt) (S : List Dt → Prop) : Prop := ∃ ds, (d = .list ds ∨ d = .tuple ds) ∧ S ds
theorem seq_l (h : S ds) : seqD (.list ds) S := ⟨ds, .inl rfl, h⟩
theorem seq_t (h : S ds) : seqD (.tuple ds) S := ⟨ds, .inr rfl, h⟩
theorem pi_seq {l : Expr} {tl : TE} (hl : PE X l tl) : PI X tg l (fun σ H R => tl σ H fun v H1 => (∃ a, v = .ref a ∧ (∃ xs, SqL X.K H1 a xs) ∧ R (Itl X.K a) H1) ∨ (∃ a, v = .ref a ∧ (∃ xs, SqT X.K H1 a xs) ∧ R (Itt X.K a) H1)) := by
  refine ⟨fun pins s σ H R I h => ?_⟩
  refine thn (hl.run pins s σ H _ I h) fun v s1 ⟨x, H1, I1, r1, q1⟩ => ?_
  rcases q1 with ⟨a, e, ⟨xs, hq⟩, q⟩ | ⟨a, e, ⟨xs, hq⟩, q⟩
  · subst e
    cases r1
    obtain ⟨its, rv, p, hz⟩ := I1.list hq
    refine wpAny_pyIter_list p.isList ?_
    refine ⟨s1.heap.objs.size, [s1.heap.objs.size], _, _, H1, rfl, I1.kept (t' := s1.toks) fun b o e => Heap.get?_push_of_some _ e, turn_list a _, ⟨_, Heap.get?_push_size _ rfl, rfl, rfl⟩, fun b hb => ?_, q⟩
    have e : b = s1.heap.objs.size := by simpa using hb
    subst e
    exact I1.fpOk (Nat.le_refl _) (I1.hok.fresh (Nat.le_refl _))
  · subst e
    cases r1
    obtain ⟨its, rv, p, hz⟩ := I1.tuple hq
    refine wpAny_pyIter_tuple (show s1.heap.IsTuple a its.toArray from p) ?_
    refine ⟨s1.heap.objs.size, [s1.heap.objs.size], _, _, H1, rfl, I1.kept (t' := s1.toks) fun b o e => Heap.get?_push_of_some _ e, turn_tuple a _, ⟨_, Heap.get?_push_size _ rfl, rfl, rfl⟩, fun b hb => ?_, q⟩
    have e : b = s1.heap.objs.size := by simpa using hb
    subst e
    exact I1.fpOk (Nat.le_refl _) (I1.hok.fresh (Nat.le_refl _))
theorem i_seq (h : XD X e δ fun d => seqD d S) : XI X tg e δ S := PI.imp (pi_seq h) fun σ H Q ⟨p, B, G, i3, en, q⟩ => ⟨p, B, G, i3, en, fun v d G' H' ⟨ds, e1, s⟩ n hv => by
  rcases e1 with e1 | e1
  · subst e1
    cases hv with
    | lst hs ha => exact .inl ⟨_, rfl, ⟨_, exl n.gh hs⟩, q _ ds G' H' s n (yld_list hs ha)⟩
  · subst e1
    cases hv with
    | tup hs ha => exact .inr ⟨_, rfl, ⟨_, ex_t n.gh hs⟩, q _ ds G' H' s n (yld_tup hs ha)⟩⟩
end
end Dv

set_option linter.all false
set_option maxRecDepth 100000
set_option maxHeartbeats 2000000
namespace Dv
open PySem PySem.Spec PyProof.Rows L2
/-! ### built-in names that the module does not write -/
def bnames : List Str := ["isinstance", "int", "bool", "tuple", "list", "str", "len", "all", "any", "max", "min", "abs", "sorted", "repr", "range", "enumerate", "divmod", "set", "sum", "zip", "dict", "ValueError", "ArithmeticError", "LookupError", "range"]
def Free (mg : Str → Option Value) : Prop := ∀ x : Str, bnames.contains x = true → mg x = none
section
variable {X : Cx} {a b c e : Expr} {es : List Expr} {δ : De} {p pos : Pos} {R : Dt → Prop} {d x y : Dt} {ds fs : List Dt} {i j : Int}
def CallP (X : Cx) (f : Value) (ds : List Dt) (R : Dt → Prop) : Prop := ∃ r, CallR X f r ∧ RC X.K r ds R
theorem c_fn {id : String} {x : Str} (F : Free X.mg) (hv : bootBuiltins x = some (.builtin id)) (h : XA X (e :: es) δ fun ds => CallP X (.builtin id) ds R) (hb : bnames.contains x = true := by decide +kernel) (hg : Gl X x := by rfl) (hpl : starEach es X.env = es.map fun e => (false, eval e X.env) := by rfl) (hn : x ≠ "__name__" := by decide) (hdb : (x == ("__debug__" : Str)) = false := by decide) : XD X (.Call (.Name x p) (e :: es) [] pos) δ R :=
  xd_cb (r := fun vs H Q => ∃ r, CallR X (.builtin id) r ∧ r vs H Q) (fun pins s σ H vs us Q I rv ⟨r, hc, q⟩ => hc pins s σ H vs us Q I rv q) hg (F x hb) hv h (fun ds ⟨r, hc, hr⟩ p B G H vs i3 hv Q q => ⟨r, hc, hr p B G H vs i3 hv Q q⟩) hpl hn hdb
theorem c_ty {T : String} {x : Str} (F : Free X.mg) (hv : bootBuiltins x = some (.type T)) (h : XA X (e :: es) δ fun ds => CallP X (.type T) ds R) (hb : bnames.contains x = true := by decide +kernel) (hg : Gl X x := by rfl) (hpl : starEach es X.env = es.map fun e => (false, eval e X.env) := by rfl) (hn : x ≠ "__name__" := by decide) (hdb : (x == ("__debug__" : Str)) = false := by decide) : XD X (.Call (.Name x p) (e :: es) [] pos) δ R :=
  xd_ct (r := fun vs H Q => ∃ r, CallR X (.type T) r ∧ r vs H Q) (fun pins s σ H vs us Q I rv ⟨r, hc, q⟩ => hc pins s σ H vs us Q I rv q) hg (F x hb) hv h (fun ds ⟨r, hc, hr⟩ p B G H vs i3 hv Q q => ⟨r, hc, hr p B G H vs i3 hv Q q⟩) hpl hn hdb
theorem c_len (h : XD X e δ fun d => CallP X (.builtin "len") [d] R) (F : Free X.mg := by assumption) (hg : Gl X "len" := by rfl) (h1 : starEach [e] X.env = (false, eval e X.env) :: starEach [] X.env := by rfl) (h2 : starEach [e] X.env = [e].map fun e => (false, eval e X.env) := by rfl) : XD X (.Call (.Name "len" p) [e] [] pos) δ R :=
  c_fn F PySem.boot_len (a_c (h.mono fun d k => a_n k) h1 h2) (hg := hg)
theorem c_fn1 {id : String} {x : Str} (hv : bootBuiltins x = some (.builtin id)) (h : XD X e δ fun d => CallP X (.builtin id) [d] R) (F : Free X.mg := by assumption) (hb : bnames.contains x = true := by decide +kernel) (hg : Gl X x := by rfl) (hn : x ≠ "__name__" := by decide) (hdb : (x == ("__debug__" : Str)) = false := by decide) (h1 : starEach [e] X.env = (false, eval e X.env) :: starEach [] X.env := by rfl) (h2 : starEach [e] X.env = [e].map fun e => (false, eval e X.env) := by rfl) : XD X (.Call (.Name x p) [e] [] pos) δ R :=
  c_fn F hv (a_c (h.mono fun d k => a_n k) h1 h2) hb hg rfl hn hdb
theorem c_ty1 {T : String} {x : Str} (hv : bootBuiltins x = some (.type T)) (h : XD X e δ fun d => CallP X (.type T) [d] R) (F : Free X.mg := by assumption) (hb : bnames.contains x = true := by decide +kernel) (hg : Gl X x := by rfl) (hn : x ≠ "__name__" := by decide) (hdb : (x == ("__debug__" : Str)) = false := by decide) (h1 : starEach [e] X.env = (false, eval e X.env) :: starEach [] X.env := by rfl) (h2 : starEach [e] X.env = [e].map fun e => (false, eval e X.env) := by rfl) : XD X (.Call (.Name x p) [e] [] pos) δ R :=
  c_ty F hv (a_c (h.mono fun d k => a_n k) h1 h2) hb hg rfl hn hdb
theorem c_fn2 {id : String} {x : Str} (hv : bootBuiltins x = some (.builtin id)) (h : XD X a δ fun d => XD X b δ fun d2 => CallP X (.builtin id) [d, d2] R) (F : Free X.mg := by assumption) (hb : bnames.contains x = true := by decide +kernel) (hg : Gl X x := by rfl) (hn : x ≠ "__name__" := by decide) (hdb : (x == ("__debug__" : Str)) = false := by decide) (h1 : starEach [a, b] X.env = (false, eval a X.env) :: starEach [b] X.env := by rfl) (h2 : starEach [a, b] X.env = [a, b].map fun e => (false, eval e X.env) := by rfl) (h3 : starEach [b] X.env = (false, eval b X.env) :: starEach [] X.env := by rfl) (h4 : starEach [b] X.env = [b].map fun e => (false, eval e X.env) := by rfl) : XD X (.Call (.Name x p) [a, b] [] pos) δ R :=
  c_fn F hv (a_c (h.mono fun d k => a_c (k.mono fun d2 k2 => a_n k2) h3 h4) h1 h2) hb hg (by rw [h4]) hn hdb
theorem c_repr (h : XD X e δ fun d => CallP X (.builtin "repr") [d] R) (F : Free X.mg := by assumption) (hg : Gl X "repr" := by rfl) (h1 : starEach [e] X.env = (false, eval e X.env) :: starEach [] X.env := by rfl) (h2 : starEach [e] X.env = [e].map fun e => (false, eval e X.env) := by rfl) : XD X (.Call (.Name "repr" p) [e] [] pos) δ R := c_fn1 (by decide +kernel) h (hg := hg) (h1 := h1) (h2 := h2)
theorem c_max (h : XD X e δ fun d => CallP X (.builtin "max") [d] R) (F : Free X.mg := by assumption) (hg : Gl X "max" := by rfl) (h1 : starEach [e] X.env = (false, eval e X.env) :: starEach [] X.env := by rfl) (h2 : starEach [e] X.env = [e].map fun e => (false, eval e X.env) := by rfl) : XD X (.Call (.Name "max" p) [e] [] pos) δ R := c_fn1 (by decide +kernel) h (hg := hg) (h1 := h1) (h2 := h2)
theorem c_min (h : XD X e δ fun d => CallP X (.builtin "min") [d] R) (F : Free X.mg := by assumption) (hg : Gl X "min" := by rfl) (h1 : starEach [e] X.env = (false, eval e X.env) :: starEach [] X.env := by rfl) (h2 : starEach [e] X.env = [e].map fun e => (false, eval e X.env) := by rfl) : XD X (.Call (.Name "min" p) [e] [] pos) δ R := c_fn1 (by decide +kernel) h (hg := hg) (h1 := h1) (h2 := h2)
theorem c_all (h : XD X e δ fun d => CallP X (.builtin "all") [d] R) (F : Free X.mg := by assumption) (hg : Gl X "all" := by rfl) (h1 : starEach [e] X.env = (false, eval e X.env) :: starEach [] X.env := by rfl) (h2 : starEach [e] X.env = [e].map fun e => (false, eval e X.env) := by rfl) : XD X (.Call (.Name "all" p) [e] [] pos) δ R := c_fn1 (by decide +kernel) h (hg := hg) (h1 := h1) (h2 := h2)
theorem c_any (h : XD X e δ fun d => CallP X (.builtin "any") [d] R) (F : Free X.mg := by assumption) (hg : Gl X "any" := by rfl) (h1 : starEach [e] X.env = (false, eval e X.env) :: starEach [] X.env := by rfl) (h2 : starEach [e] X.env = [e].map fun e => (false, eval e X.env) := by rfl) : XD X (.Call (.Name "any" p) [e] [] pos) δ R := c_fn1 (by decide +kernel) h (hg := hg) (h1 := h1) (h2 := h2)
theorem c_sum (h : XD X e δ fun d => CallP X (.builtin "sum") [d] R) (F : Free X.mg := by assumption) (hg : Gl X "sum" := by rfl) (h1 : starEach [e] X.env = (false, eval e X.env) :: starEach [] X.env := by rfl) (h2 : starEach [e] X.env = [e].map fun e => (false, eval e X.env) := by rfl) : XD X (.Call (.Name "sum" p) [e] [] pos) δ R := c_fn1 (by decide +kernel) h (hg := hg) (h1 := h1) (h2 := h2)
theorem c_sorted (h : XD X e δ fun d => CallP X (.builtin "sorted") [d] R) (F : Free X.mg := by assumption) (hg : Gl X "sorted" := by rfl) (h1 : starEach [e] X.env = (false, eval e X.env) :: starEach [] X.env := by rfl) (h2 : starEach [e] X.env = [e].map fun e => (false, eval e X.env) := by rfl) : XD X (.Call (.Name "sorted" p) [e] [] pos) δ R := c_fn1 (by decide +kernel) h (hg := hg) (h1 := h1) (h2 := h2)
theorem c_abs (h : XD X e δ fun d => CallP X (.builtin "abs") [d] R) (F : Free X.mg := by assumption) (hg : Gl X "abs" := by rfl) (h1 : starEach [e] X.env = (false, eval e X.env) :: starEach [] X.env := by rfl) (h2 : starEach [e] X.env = [e].map fun e => (false, eval e X.env) := by rfl) : XD X (.Call (.Name "abs" p) [e] [] pos) δ R := c_fn1 (by decide +kernel) h (hg := hg) (h1 := h1) (h2 := h2)
theorem c_tuple (h : XD X e δ fun d => CallP X (.type "tuple") [d] R) (F : Free X.mg := by assumption) (hg : Gl X "tuple" := by rfl) (h1 : starEach [e] X.env = (false, eval e X.env) :: starEach [] X.env := by rfl) (h2 : starEach [e] X.env = [e].map fun e => (false, eval e X.env) := by rfl) : XD X (.Call (.Name "tuple" p) [e] [] pos) δ R := c_ty1 (by decide +kernel) h (hg := hg) (h1 := h1) (h2 := h2)
theorem c_list (h : XD X e δ fun d => CallP X (.type "list") [d] R) (F : Free X.mg := by assumption) (hg : Gl X "list" := by rfl) (h1 : starEach [e] X.env = (false, eval e X.env) :: starEach [] X.env := by rfl) (h2 : starEach [e] X.env = [e].map fun e => (false, eval e X.env) := by rfl) : XD X (.Call (.Name "list" p) [e] [] pos) δ R := c_ty1 (by decide +kernel) h (hg := hg) (h1 := h1) (h2 := h2)
theorem c_intc (h : XD X e δ fun d => CallP X (.type "int") [d] R) (F : Free X.mg := by assumption) (hg : Gl X "int" := by rfl) (h1 : starEach [e] X.env = (false, eval e X.env) :: starEach [] X.env := by rfl) (h2 : starEach [e] X.env = [e].map fun e => (false, eval e X.env) := by rfl) : XD X (.Call (.Name "int" p) [e] [] pos) δ R := c_ty1 (by decide +kernel) h (hg := hg) (h1 := h1) (h2 := h2)
theorem c_max2 (h : XD X a δ fun d => XD X b δ fun d2 => CallP X (.builtin "max") [d, d2] R) (F : Free X.mg := by assumption) (hg : Gl X "max" := by rfl) (h1 : starEach [a, b] X.env = (false, eval a X.env) :: starEach [b] X.env := by rfl) (h2 : starEach [a, b] X.env = [a, b].map fun e => (false, eval e X.env) := by rfl) (h3 : starEach [b] X.env = (false, eval b X.env) :: starEach [] X.env := by rfl) (h4 : starEach [b] X.env = [b].map fun e => (false, eval e X.env) := by rfl) : XD X (.Call (.Name "max" p) [a, b] [] pos) δ R := c_fn2 (by decide +kernel) h (hg := hg) (h1 := h1) (h2 := h2) (h3 := h3) (h4 := h4)
theorem c_min2 (h : XD X a δ fun d => XD X b δ fun d2 => CallP X (.builtin "min") [d, d2] R) (F : Free X.mg := by assumption) (hg : Gl X "min" := by rfl) (h1 : starEach [a, b] X.env = (false, eval a X.env) :: starEach [b] X.env := by rfl) (h2 : starEach [a, b] X.env = [a, b].map fun e => (false, eval e X.env) := by rfl) (h3 : starEach [b] X.env = (false, eval b X.env) :: starEach [] X.env := by rfl) (h4 : starEach [b] X.env = [b].map fun e => (false, eval e X.env) := by rfl) : XD X (.Call (.Name "min" p) [a, b] [] pos) δ R := c_fn2 (by decide +kernel) h (hg := hg) (h1 := h1) (h2 := h2) (h3 := h3) (h4 := h4)
theorem c_divmod (h : XD X a δ fun d => XD X b δ fun d2 => CallP X (.builtin "divmod") [d, d2] R) (F : Free X.mg := by assumption) (hg : Gl X "divmod" := by rfl) (h1 : starEach [a, b] X.env = (false, eval a X.env) :: starEach [b] X.env := by rfl) (h2 : starEach [a, b] X.env = [a, b].map fun e => (false, eval e X.env) := by rfl) (h3 : starEach [b] X.env = (false, eval b X.env) :: starEach [] X.env := by rfl) (h4 : starEach [b] X.env = [b].map fun e => (false, eval e X.env) := by rfl) : XD X (.Call (.Name "divmod" p) [a, b] [] pos) δ R := c_fn2 (by decide +kernel) h (hg := hg) (h1 := h1) (h2 := h2) (h3 := h3) (h4 := h4)
/-! what they answer -/
theorem f_lenL (k : R (.int (ds.length : Int))) : CallP X (.builtin "len") [.list ds] R := ⟨_, call_len_seq, fun p B G H vs i3 hv Q q => by
    obtain ⟨v, rfl, h⟩ := one_of hv
    cases h with
    | lst hs ha => exact ⟨_, _, rfl, .inl (exl i3.gh hs), q _ _ G H (by rw [dpAll_length ha]; exact k) (.refl i3) (.int _)⟩⟩
theorem f_lenT (k : R (.int (ds.length : Int))) : CallP X (.builtin "len") [.tuple ds] R := ⟨_, call_len_seq, fun p B G H vs i3 hv Q q => by
    obtain ⟨v, rfl, h⟩ := one_of hv
    cases h with
    | tup hs ha => exact ⟨_, _, rfl, .inr (ex_t i3.gh hs), q _ _ G H (by rw [dpAll_length ha]; exact k) (.refl i3) (.int _)⟩⟩
theorem f_abs (k : R (.int (if i < 0 then -i else i))) : CallP X (.builtin "abs") [.int i] R := ⟨_, call_abs, fun p B G H vs i3 hv Q q => by
    obtain ⟨v, rfl, h⟩ := one_of hv
    cases h
    exact ⟨i, rfl, q _ _ G H k (.refl i3) (.int _)⟩⟩
theorem f_max2 (k : R (.int (max i j))) (hc : X.calm = true := by rfl) : CallP X (.builtin "max") [.int i, .int j] R := ⟨_, call_max2 hc, fun p B G H vs i3 hv Q q => by
    obtain ⟨v, w, rfl, h1, h2⟩ := two_of hv
    cases h1; cases h2
    refine ⟨i, j, rfl, q _ _ G H k (.refl i3) ?_⟩
    have : (if j > i then j else i) = max i j := by omega
    rw [this]; exact .int _⟩
theorem f_min2 (k : R (.int (min i j))) (hc : X.calm = true := by rfl) : CallP X (.builtin "min") [.int i, .int j] R := ⟨_, call_min2 hc, fun p B G H vs i3 hv Q q => by
    obtain ⟨v, w, rfl, h1, h2⟩ := two_of hv
    cases h1; cases h2
    refine ⟨i, j, rfl, q _ _ G H k (.refl i3) ?_⟩
    have : (if j < i then j else i) = min i j := by omega
    rw [this]; exact .int _⟩
theorem f_int (k : R (.int i)) : CallP X (.type "int") [.int i] R := ⟨_, call_int1, fun p B G H vs i3 hv Q q => by
    obtain ⟨v, rfl, h⟩ := one_of hv
    cases h
    exact .inl ⟨i, rfl, q _ _ G H k (.refl i3) (.int _)⟩⟩
theorem f_intB {c : Bool} (k : R (.int (if c then 1 else 0))) : CallP X (.type "int") [.bool c] R := ⟨_, call_int1, fun p B G H vs i3 hv Q q => by
    obtain ⟨v, rfl, h⟩ := one_of hv
    cases h
    exact .inr ⟨c, rfl, q _ _ G H k (.refl i3) (.int _)⟩⟩
theorem f_max {ns : List Int} {m : Int} (h1 : m ∈ ns) (h2 : ∀ y ∈ ns, y ≤ m) (k : R (.int m)) (hc : X.calm = true := by rfl) : CallP X (.builtin "max") [.list (ns.map PyData.int)] R := ⟨_, cr_max hc, fun p B G H vs i3 hv Q q => by
    obtain ⟨v, rfl, h⟩ := one_of hv
    cases h with
    | lst hs ha =>
      have e := dpAll_ints ha
      subst e
      refine ⟨_, ns, rfl, exl i3.gh hs, List.length_pos_of_mem h1, fun k' k1 k2 => q _ _ G H k (.refl i3) ?_⟩
      have : k' = m := Int.le_antisymm (h2 k' k1) (k2 m h1)
      rw [this]; exact .int _⟩
theorem f_min {ns : List Int} {m : Int} (h1 : m ∈ ns) (h2 : ∀ y ∈ ns, m ≤ y) (k : R (.int m)) (hc : X.calm = true := by rfl) : CallP X (.builtin "min") [.list (ns.map PyData.int)] R := ⟨_, cr_min hc, fun p B G H vs i3 hv Q q => by
    obtain ⟨v, rfl, h⟩ := one_of hv
    cases h with
    | lst hs ha =>
      have e := dpAll_ints ha
      subst e
      refine ⟨_, ns, rfl, exl i3.gh hs, List.length_pos_of_mem h1, fun k' k1 k2 => q _ _ G H k (.refl i3) ?_⟩
      have : k' = m := Int.le_antisymm (k2 m h1) (h2 k' k1)
      rw [this]; exact .int _⟩
theorem f_sum {ns : List Int} (k : R (.int ns.sum)) (hc : X.calm = true := by rfl) : CallP X (.builtin "sum") [.list (ns.map PyData.int)] R := ⟨_, cr_sum hc, fun p B G H vs i3 hv Q q => by
    obtain ⟨v, rfl, h⟩ := one_of hv
    cases h with
    | lst hs ha =>
      have e := dpAll_ints ha
      subst e
      exact ⟨_, ns, rfl, exl i3.gh hs, q _ _ G H k (.refl i3) (.int _)⟩⟩
theorem f_any {bs : List Bool} (k : R (.bool (bs.any _root_.id))) (hc : X.calm = true := by rfl) : CallP X (.builtin "any") [.list (bs.map PyData.bool)] R := ⟨_, cr_any hc, fun p B G H vs i3 hv Q q => by
    obtain ⟨v, rfl, h⟩ := one_of hv
    cases h with
    | lst hs ha =>
      have e := dpAll_bools ha
      subst e
      exact ⟨_, bs, rfl, exl i3.gh hs, q _ _ G H k (.refl i3) (.bl _)⟩⟩
theorem f_all {bs : List Bool} (k : R (.bool (bs.all _root_.id))) (hc : X.calm = true := by rfl) : CallP X (.builtin "all") [.list (bs.map PyData.bool)] R := ⟨_, cr_all hc, fun p B G H vs i3 hv Q q => by
    obtain ⟨v, rfl, h⟩ := one_of hv
    cases h with
    | lst hs ha =>
      have e := dpAll_bools ha
      subst e
      exact ⟨_, bs, rfl, exl i3.gh hs, q _ _ G H k (.refl i3) (.bl _)⟩⟩
/-- all of a list of which it is known that all, or that not all, are true -/
theorem f_allT (h : ∀ d ∈ ds, d = .bool true) (k : R (.bool true)) (hc : X.calm = true := by rfl) : CallP X (.builtin "all") [.list ds] R := by
  have e : ds = (List.replicate ds.length true).map PyData.bool := by
    refine List.ext_getElem (by simp) fun i h1 h2 => ?_
    rw [List.getElem_map, List.getElem_replicate]; exact h _ (List.getElem_mem h1)
  rw [e]
  refine f_all ?_ hc
  have : (List.replicate ds.length true).all _root_.id = true := by simp
  rw [this]; exact k
theorem f_sorted {ns ms : List Int} (hp : ms.Perm ns) (hw : ms.Pairwise (· ≤ ·)) (k : R (.list (ms.map PyData.int))) : CallP X (.builtin "sorted") [.list (ns.map PyData.int)] R := ⟨_, cr_sortA, fun p B G H vs i3 hv Q q => by
    obtain ⟨v, rfl, h⟩ := one_of hv
    cases h with
    | lst hs ha =>
      have e := dpAll_ints ha
      subst e
      refine ⟨_, ns, rfl, exl i3.gh hs, fun ks l k1 k2 hl => ?_⟩
      have : ks = ms := List.Perm.eq_of_pairwise (fun a b _ _ h1 h2 => Int.le_antisymm h1 h2) k2 hw (k1.trans hp.symm)
      subst this
      exact q _ _ _ _ k (.new i3 _ hl) (.lst (.inl (.inl upd_same)) (dpAll_of_ints ks))⟩
theorem f_tupL (k : R (.tuple ds)) : CallP X (.type "tuple") [.list ds] R := ⟨_, call_tuple_of, fun p B G H vs i3 hv Q q => by
    obtain ⟨v, rfl, h⟩ := one_of hv
    cases h with
    | lst hs ha => exact ⟨_, _, rfl, .inl ⟨exl i3.gh hs, fun l hl => q _ _ _ _ k (.new i3 _ hl) (.tup (.inl (.inl upd_same)) (dpAll_ex (Ex.new (i3.gh.free hl)) _ _ ha))⟩⟩⟩
theorem f_tupT (k : R (.tuple ds)) : CallP X (.type "tuple") [.tuple ds] R := ⟨_, call_tuple_of, fun p B G H vs i3 hv Q q => by
    obtain ⟨v, rfl, h⟩ := one_of hv
    cases h with
    | tup hs ha => exact ⟨_, _, rfl, .inr ⟨ex_t i3.gh hs, q _ _ _ _ k (.refl i3) (.tup hs ha)⟩⟩⟩
theorem f_listL (k : R (.list ds)) : CallP X (.type "list") [.list ds] R := ⟨_, call_list_of, fun p B G H vs i3 hv Q q => by
    obtain ⟨v, rfl, h⟩ := one_of hv
    cases h with
    | lst hs ha => exact ⟨_, _, rfl, .inl (exl i3.gh hs), fun l hl => q _ _ _ _ k (.new i3 _ hl) (.lst (.inl (.inl upd_same)) (dpAll_ex (Ex.new (i3.gh.free hl)) _ _ ha))⟩⟩
theorem f_listT (k : R (.list ds)) : CallP X (.type "list") [.tuple ds] R := ⟨_, call_list_of, fun p B G H vs i3 hv Q q => by
    obtain ⟨v, rfl, h⟩ := one_of hv
    cases h with
    | tup hs ha => exact ⟨_, _, rfl, .inr (ex_t i3.gh hs), fun l hl => q _ _ _ _ k (.new i3 _ hl) (.lst (.inl (.inl upd_same)) (dpAll_ex (Ex.new (i3.gh.free hl)) _ _ ha))⟩⟩
theorem f_repr (hgd : X.A.guards = some []) (hu : X.A.units + 64 < cLine) (ok : OkD d 390000 40) (k : R (.str d.shown)) : CallP X (.builtin "repr") [d] R := ⟨_, cr_repr hgd hu, fun p B G H vs i3 hv Q q => by
    obtain ⟨v, rfl, h⟩ := one_of hv
    exact ⟨v, _, rfl, dp_ex i3.gh _ _ h, ok, q _ _ G H k (.refl i3) (.str _)⟩⟩
theorem f_divmod (hc : CDiv i j) (k : R (.tuple [.int (i / j), .int (i % j)])) : CallP X (.builtin "divmod") [.int i, .int j] R := ⟨_, call_divmod, fun p B G H vs i3 hv Q q => by
    obtain ⟨v, w, rfl, h1, h2⟩ := two_of hv
    cases h1; cases h2
    exact ⟨i, j, rfl, hc, fun z hz => q (.ref z) _ _ _ k (.new i3 _ hz) (.tup (.inl (.inl upd_same)) (.cons (.int _) (.cons (.int _) .nil)))⟩⟩
/-- tuples put together -/
theorem bp_catT (hl : ds.length + fs.length ≤ 100000) (k : R (.tuple (ds ++ fs))) : BinP X .Add (.tuple ds) (.tuple fs) R := ⟨_, op_catA, by
  intro p B G H v w i3 h1 h2 Q q
  have f1 := h1
  have f2 := h2
  cases h1 with
  | tup hs ha => cases h2 with
    | tup hs2 ha2 =>
      refine ⟨_, _, _, _, rfl, rfl, ex_t i3.gh hs, ex_t i3.gh hs2, by rw [dpAll_length ha, dpAll_length ha2]; exact Nat.le_trans hl (by decide), fun z => ?_, fun z1 z2 => ?_, fun z1 z2 l hl => q _ _ _ _ k (.new i3 _ hl) (.tup (.inl (.inl upd_same)) (dpAll_ex (Ex.new (i3.gh.free hl)) _ _ (dpAll_append ha ha2)))⟩
      · subst z
        have : ds = [] := by cases ha; rfl
        subst this
        exact q _ _ _ _ k (.refl i3) f2
      · subst z2
        have : fs = [] := by cases ha2; rfl
        subst this
        rw [List.append_nil] at k
        exact q _ _ _ _ k (.refl i3) f1⟩
theorem rd_eqTrue {K : Fg} {R : Dt → Prop} {d : Dt} {b : Bool} (h : d = .bool b) (k : R (.bool b)) : R d := h ▸ k
/-! slices -/
def SlP (X : Cx) (x : Dt) (lo hi : Option Int) (R : Dt → Prop) : Prop := ∃ r, SlR X r ∧ ∀ p B G H v, I3 p B G H → Dz X.K G v x → ∀ Q : VK, (∀ u d G' H', R d → Nxt p G H G' H' → Dz X.K G' u d → Q u H') → r v lo hi H Q
def XOp (X : Cx) (e : Option Expr) (δ : De) (S : Option Int → Prop) : Prop := PO X e (fun σ H Q => ∃ p B G, I3 p B G H ∧ EnvD X.K p B G H σ δ ∧ ∀ o G' H', S o → Nxt p G H G' H' → Q o H')
theorem o_n {S : Option Int → Prop} (k : S none) : XOp X none δ S := PO.imp po_none fun σ H Q ⟨p, B, G, i3, en, q⟩ => q _ G H k (.refl i3)
theorem o_s {S : Option Int → Prop} (h : XD X e δ fun d => ∃ i : Int, d = .int i ∧ S (some i)) : XOp X (some e) δ S := PO.imp (po_some h) fun σ H Q ⟨p, B, G, i3, en, q⟩ => ⟨p, B, G, i3, en, fun v d G' H' ⟨i, r, k⟩ n hv => by subst r; cases hv; exact ⟨i, rfl, q _ G' H' k n⟩⟩
theorem po_many {ι : Sort _} {G : ι → Prop} {t : ι → TO} {eo : Option Expr} (h : ∀ i, G i → PO X eo (t i)) : PO X eo (fun σ H Q => ∃ i, G i ∧ t i σ H Q) := ⟨fun pins s σ H Q I ⟨i, g, q⟩ => (h i g).run pins s σ H Q I q⟩
theorem po_later {eo : Option Expr} : PO X eo (fun σ H Q => ∃ U : Option Int → Prop, XOp X eo δ U ∧ ∃ p B G, I3 p B G H ∧ EnvD X.K p B G H σ δ ∧ ∀ o G' H', U o → Nxt p G H G' H' → Q o H') := po_many fun U h => h
theorem c_slice {lo hi : Option Expr} {p2 : Pos} (h : XD X e δ fun x => XOp X lo δ fun l => XOp X hi δ fun u => SlP X x l u R) : XD X (.Subscript e (.Slice lo hi none p2) pos) δ R :=
  PE.imp (pe_slice (r := fun v lo hi H Q => ∃ r, SlR X r ∧ r v lo hi H Q) (fun pins s σ H x v vl vu lo hi sl Q I rx hs pl pu ⟨r, ho, q⟩ => ho pins s σ H x v vl vu lo hi sl Q I rx hs pl pu q) h (po_later (δ := δ)) (po_later (δ := δ))) fun σ H Q ⟨p, B, G, i3, en, q⟩ =>
    ⟨p, B, G, i3, en, fun v d G1 H1 r1 n1 hv => ⟨_, r1, p, B, G1, i3.nxt n1, en.nxt n1, fun l G2 H2 r2 n2 => ⟨_, r2, p, B, G2, i3.nxt (n1.trans n2), en.nxt (n1.trans n2), fun u G3 H3 ⟨r, ho, k⟩ n3 => by
      have n := (n1.trans n2).trans n3
      exact ⟨r, ho, k p B G3 H3 v (i3.nxt n) (dp_ex (n2.st.1.trans n3.st.1) _ _ hv) _ fun u d G4 H4 rr n4 hu => q u d G4 H4 rr (n.trans n4) hu⟩⟩⟩⟩
theorem sl_l {lo hi : Option Int} (k : R (.list (cutD ds lo hi))) : SlP X (.list ds) lo hi R := ⟨_, sl_list, fun p B G H v i3 hv Q q => by
    cases hv with
    | lst hs ha => exact ⟨_, _, rfl, exl i3.gh hs, fun l hl => q _ _ _ _ k (.new i3 _ hl) (.lst (.inl (.inl upd_same)) (dpAll_ex (Ex.new (i3.gh.free hl)) _ _ (dz_cut ha)))⟩⟩
theorem cutD_all {lo hi : Option Int} (h : HT.sIx ds.length 0 lo = 0 ∧ HT.sIx ds.length ds.length hi = ds.length) : cutD ds lo hi = ds := by
  unfold cutD; rw [h.1, h.2, List.drop_zero, Nat.sub_zero, List.take_length]
theorem sl_t {lo hi : Option Int} (k : R (.tuple (cutD ds lo hi))) : SlP X (.tuple ds) lo hi R := ⟨_, sl_tupA, fun p B G H v i3 hv Q q => by
    have f1 := hv
    cases hv with
    | tup hs ha =>
      refine ⟨_, _, rfl, ex_t i3.gh hs, fun z => ?_, fun z l hl => q _ _ _ _ k (.new i3 _ hl) (.tup (.inl (.inl upd_same)) (dpAll_ex (Ex.new (i3.gh.free hl)) _ _ (dz_cut ha)))⟩
      rw [dpAll_length ha] at z
      rw [cutD_all z] at k
      exact q _ _ _ _ k (.refl i3) f1⟩
end
end Dv

set_option linter.all false
set_option maxRecDepth 100000
set_option maxHeartbeats 2000000
namespace Dv
open PySem PySem.Spec PyProof.Rows L2 RZ
/-! ### sources -/
section
variable {X : Cx} {tg e a b : Expr} {es : List Expr} {δ : De} {ds fs : List Dt} {p pos tpos : Pos} {S : List Dt → Prop} {R : Dt → Prop}
theorem i_range1 (h : XD X e δ fun d => ∃ j : Int, d = .int j ∧ (-(2 ^ 62) ≤ j ∧ j < 2 ^ 62) ∧ S (rngD 0 j.toNat)) (F : Free X.mg := by assumption) (hg : Gl X "range" := by rfl) (h1 : starEach [e] X.env = (false, eval e X.env) :: starEach [] X.env := by rfl) (h2 : starEach [e] X.env = [e].map fun e => (false, eval e X.env) := by rfl) : XI X tg (.Call (.Name "range" p) [e] [] pos) δ S :=
  have ha := a_c (es := []) (T := fun ds => ∃ j : Int, ds = [.int j] ∧ (-(2 ^ 62) ≤ j ∧ j < 2 ^ 62) ∧ S (rngD 0 j.toNat)) (h.mono fun d ⟨j, e1, hj, k⟩ => a_n ⟨j, by rw [e1], hj, k⟩) h1 h2
  PI.imp (pi_range1 hg (F "range" (by decide +kernel)) ha.pa (by rw [h2]; rfl)) fun σ H Q ⟨p, B, G, i3, en, q⟩ => ⟨p, B, G, i3, en, fun v d G' H' ⟨j, r, hj, k⟩ n hv => by
    subst r
    cases hv with
    | cons h1 h2 => cases h2; cases h1; exact ⟨j, rfl, hj.1, hj.2, q _ _ G' H' k n yld_rng⟩⟩
theorem i_range2 (h : XD X a δ fun d => XD X b δ fun d2 => ∃ i j : Int, d = .int i ∧ d2 = .int j ∧ (-(2 ^ 62) ≤ i ∧ i < 2 ^ 62 ∧ -(2 ^ 62) ≤ j ∧ j < 2 ^ 62) ∧ S (rngD i (j - i).toNat)) (F : Free X.mg := by assumption) (hg : Gl X "range" := by rfl) (h1 : starEach [a, b] X.env = (false, eval a X.env) :: starEach [b] X.env := by rfl) (h2 : starEach [a, b] X.env = [a, b].map fun e => (false, eval e X.env) := by rfl) (h3 : starEach [b] X.env = (false, eval b X.env) :: starEach [] X.env := by rfl) (h4 : starEach [b] X.env = [b].map fun e => (false, eval e X.env) := by rfl) : XI X tg (.Call (.Name "range" p) [a, b] [] pos) δ S :=
  have ha := a_c (es := [b]) (T := fun ds => ∃ i j : Int, ds = [.int i, .int j] ∧ (-(2 ^ 62) ≤ i ∧ i < 2 ^ 62 ∧ -(2 ^ 62) ≤ j ∧ j < 2 ^ 62) ∧ S (rngD i (j - i).toNat)) (h.mono fun d k => a_c (k.mono fun d2 ⟨i, j, e1, e2, hj, k⟩ => a_n ⟨i, j, by rw [e1, e2], hj, k⟩) h3 h4) h1 h2
  PI.imp (pi_range2 hg (F "range" (by decide +kernel)) ha.pa (by rw [h2]; rfl) (by rw [h4]; rfl)) fun σ H Q ⟨p, B, G, i3, en, q⟩ => ⟨p, B, G, i3, en, fun v d G' H' ⟨i, j, r, hj, k⟩ n hv => by
    subst r
    cases hv with
    | cons h1 h2 => cases h2 with
      | cons h2 h3 => cases h3; cases h1; cases h2; exact ⟨i, j, rfl, hj, q _ _ G' H' k n yld_rng⟩⟩
/-- enumerate: of a list (L) or of a tuple (T) -/
theorem i_enumL {elts : List Expr} {kk : Nat} (h : XD X e δ fun d => ∃ ds, d = .list ds ∧ S (enD ds)) (F : Free X.mg := by assumption) (hg : Gl X "enumerate" := by rfl) (h1 : starEach [e] X.env = (false, eval e X.env) :: starEach [] X.env := by rfl) (h2 : starEach [e] X.env = [e].map fun e => (false, eval e X.env) := by rfl) : XI X (.Tuple elts kk tpos) (.Call (.Name "enumerate" p) [e] [] pos) δ S :=
  have ha := a_c (es := []) (T := fun ds => ∃ es, ds = [.list es] ∧ S (enD es)) (h.mono fun d ⟨j, e1, k⟩ => a_n ⟨j, by rw [e1], k⟩) h1 h2
  PI.imp (pi_enum hg (F "enumerate" (by decide +kernel)) ha.pa (by rw [h2]; rfl)) fun σ H Q ⟨p, B, G, i3, en, q⟩ => ⟨p, B, G, i3, en, fun v d G' H' ⟨es, r, k⟩ n hv => by
    subst r
    cases hv with
    | cons h1 h2 => cases h2; cases h1 with
      | lst hs ha => exact ⟨_, _, rfl, exl n.gh hs, q _ _ G' H' k n (yld_enum hs ha)⟩⟩
theorem i_enumTup {elts : List Expr} {kk : Nat} (h : XD X e δ fun d => ∃ ds, d = .tuple ds ∧ S (enD ds)) (F : Free X.mg := by assumption) (hg : Gl X "enumerate" := by rfl) (h1 : starEach [e] X.env = (false, eval e X.env) :: starEach [] X.env := by rfl) (h2 : starEach [e] X.env = [e].map fun e => (false, eval e X.env) := by rfl) : XI X (.Tuple elts kk tpos) (.Call (.Name "enumerate" p) [e] [] pos) δ S :=
  have ha := a_c (es := []) (T := fun ds => ∃ es, ds = [.tuple es] ∧ S (enD es)) (h.mono fun d ⟨j, e1, k⟩ => a_n ⟨j, by rw [e1], k⟩) h1 h2
  PI.imp (pi_enumT hg (F "enumerate" (by decide +kernel)) ha.pa (by rw [h2]; rfl)) fun σ H Q ⟨p, B, G, i3, en, q⟩ => ⟨p, B, G, i3, en, fun v d G' H' ⟨es, r, k⟩ n hv => by
    subst r
    obtain ⟨v, rfl, h1⟩ := one_of hv
    cases h1 with
    | tup hs ha => exact ⟨_, _, rfl, ex_t n.gh hs, q _ _ G' H' k n (yld_enumT hs ha)⟩⟩
theorem i_zip {elts : List Expr} {kk : Nat} (h : XD X a δ fun d => XD X b δ fun d2 => ∃ ds fs, ((d = .list ds ∧ d2 = .list fs) ∨ (d = .tuple ds ∧ d2 = .tuple fs)) ∧ S (zipD ds fs)) (F : Free X.mg := by assumption) (hg : Gl X "zip" := by rfl) (h1 : starEach [a, b] X.env = (false, eval a X.env) :: starEach [b] X.env := by rfl) (h2 : starEach [a, b] X.env = [a, b].map fun e => (false, eval e X.env) := by rfl) (h3 : starEach [b] X.env = (false, eval b X.env) :: starEach [] X.env := by rfl) (h4 : starEach [b] X.env = [b].map fun e => (false, eval e X.env) := by rfl) : XI X (.Tuple elts kk tpos) (.Call (.Name "zip" p) [a, b] [] pos) δ S :=
  have ha := a_c (es := [b]) (T := fun es => ∃ ds fs, (es = [.list ds, .list fs] ∨ es = [.tuple ds, .tuple fs]) ∧ S (zipD ds fs)) (h.mono fun d k => a_c (k.mono fun d2 ⟨ds, fs, e1, k⟩ => a_n ⟨ds, fs, by rcases e1 with ⟨e1, e2⟩ | ⟨e1, e2⟩ <;> rw [e1, e2] <;> simp, k⟩) h3 h4) h1 h2
  PI.imp (RZ.pi_zipA hg (F "zip" (by decide +kernel)) ha.pa h1 (back_plain (by rw [h4]))) fun σ H Q ⟨p, B, G, i3, en, q⟩ => ⟨p, B, G, i3, en, fun v d G' H' ⟨ds, fs, r, k⟩ n hv => by
    rcases r with r | r
    · subst r
      obtain ⟨x, y, rfl, h1, h2⟩ := two_of hv
      cases h1 with
      | lst hs ha => cases h2 with
        | lst hs2 ha2 => exact ⟨_, _, _, _, rfl, .inl ⟨exl n.gh hs, exl n.gh hs2, q _ _ G' H' k n (yld_zipL hs ha hs2 ha2)⟩⟩
    · subst r
      obtain ⟨x, y, rfl, h1, h2⟩ := two_of hv
      cases h1 with
      | tup hs ha => cases h2 with
        | tup hs2 ha2 => exact ⟨_, _, _, _, rfl, .inr ⟨ex_t n.gh hs, ex_t n.gh hs2, q _ _ G' H' k n (yld_zipT hs ha hs2 ha2)⟩⟩⟩
end
/-! ### calls of defs -/
section
variable {X : Cx} {k : Nat} {x : Str} {ps ks : List Str} {st : Stmt} {δ : De} {e : Expr} {es : List Expr} {ds : List Dt} {d : Dt} {p pos : Pos} {kws : List Keyword} {S : List Dt → Prop} {U : Dt → Prop}
theorem c_call {R : List Dt → Dt → Prop} (C : Cal X.prog X.w X.K X.mg X.base k x ps st (spD X.K R)) (ha : XA X (e :: es) δ fun ds => ∃ d, R ds d ∧ U d) (hr : Room k X.A := by first | assumption | (refine Room.mono (by assumption) ?_; decide)) (hgd : X.A.guards = some [] := by assumption) (hg : Gl X x := by rfl)
    (hpl : starEach es X.env = es.map fun e => (false, eval e X.env) := by rfl) (hdb : (x == ("__debug__" : Str)) = false := by decide) : XD X (.Call (.Name x p) (e :: es) [] pos) δ U := xd_call C ha (fun ds h => h) hr hgd hg hpl hdb
theorem c_pot {R : List Dt → (Dt → Prop) → Prop} (C : Cal X.prog X.w X.K X.mg X.base k x ps st (spP X.K R)) {i : Nat} {y : Str} {yp : Pos} (hN : Nx X.N y i) (hs : δ[i]? = some .pot) (ha : XA X es δ fun ds => ∃ T : Dt → Prop, R ds T ∧ ∀ d, T d → U d)
    (hv : Vis X.env.scope y := by first | exact Or.inl rfl | exact Or.inr (Or.inl rfl) | exact Or.inr (Or.inr rfl)) (hr : Room k X.A := by first | assumption | (refine Room.mono (by assumption) ?_; decide)) (hgd : X.A.guards = some [] := by assumption) (hg : Gl X x := by rfl)
    (hp1 : starEach (.Name y yp :: es) X.env = (false, eval (.Name y yp) X.env) :: starEach es X.env := by rfl) (hdb : (x == ("__debug__" : Str)) = false := by decide) (hd : (y == ("__debug__" : Str)) = false := by decide) (hcd : (y == ("__classdict__" : Str)) = false := by decide) : XD X (.Call (.Name x p) (.Name y yp :: es) [] pos) δ U := by
  obtain ⟨f, fd, G, hm, hk, hb, _⟩ := C.ex
  refine PE.imp (pe_g G hr hgd hg hm hk hb (pa_cons (pe_var hN.eq hv hd hcd) ha.pa hp1) hdb hp1 (back_plain ha.pl)) fun σ H Q ⟨p, B, G, i3, en, q⟩ => ?_
  obtain ⟨o, h1, z, rfl, rfl⟩ := en.slot i _ hs
  refine ⟨_, h1, some z, B, G, i3, en, fun vs ds G' H' ⟨T, hT, hU⟩ n hv => ?_⟩
  have i3' := i3.nxt n
  refine ⟨del (some z) H', G', z, vs, ds, T, ⟨fun a o h => (del_le h).1, i3'.gh, fun y hy => ?_⟩, rfl, hv, hT, fun v d G2 H2 u st2 i2 hd => q v d G2 H2 (hU d u) (n.trans ⟨⟨st2.1, fun a h1 h2 => ?_⟩, i2.bh, i2.gh, fun y hy => (i2.pot y hy).2.2⟩) hd⟩
  · cases hy
    obtain ⟨_, h2, h3⟩ := i3'.pot z rfl
    refine ⟨?_, h2, h3⟩
    unfold del; rw [if_pos rfl]
  · by_cases za : z = a
    · subst za; exact (i2.pot z rfl).2.1
    · exact st2.2 a (by rw [del_ne (fun w => za (Option.some.inj w))]; exact h1) h2
/-- f(..), the answer a new list of nobody's -/
theorem o_call {R : List Dt → List Dt → Prop} {T : List Dt → Prop} (C : Cal X.prog X.w X.K X.mg X.base k x ps st (spO X.K R)) (ha : XA X (e :: es) δ fun ds => ∃ fs, R ds fs ∧ T fs)
    (hr : Room k X.A := by first | assumption | (refine Room.mono (by assumption) ?_; decide)) (hgd : X.A.guards = some [] := by assumption) (hg : Gl X x := by rfl) (hpl : starEach es X.env = es.map fun e => (false, eval e X.env) := by rfl) (hdb : (x == ("__debug__" : Str)) = false := by decide) :
    XO X (.Call (.Name x p) (e :: es) [] pos) δ T := by
  obtain ⟨f, fd, F, hm, hk, hb, _⟩ := C.ex
  refine PE.imp (pe_g F hr hgd hg hm hk hb ha.pa hdb (by rw [hpl]; exact ha.pl) (back_plain hpl)) fun σ H Q ⟨p, B, G, i3, en, q⟩ => ⟨p, B, G, i3, en, fun vs dd G1 H1 ⟨fs, hR, hT⟩ n hv => ?_⟩
  have i31 := i3.nxt n
  refine ⟨G1, _, fs, i31.gh, hv, hR, fun l xs G2 H2 st2 e2 g2 hl gl hl2 ha2 => ?_⟩
  have n2 : Nxt p G1 H1 G2 H2 := ⟨st2, fun a o h => e2 a o (del_le h).1, g2, fun z hz => by
    obtain ⟨_, _, a, b, h3, h4⟩ := i31.pot z hz
    exact ⟨a, b, e2 _ _ h3, h4⟩⟩
  exact q l xs fs G2 H2 hT (n.trans n2) (back_none n hl) gl (pot_ne i31 hl) hl2 ha2
/-! calls by keywords -/
theorem kw_n (k : S []) : XK X [] δ S := ⟨PK.imp pk_nil fun σ H Q ⟨p, B, G, i3, en, q⟩ => q [] [] G H k (.refl i3) .nil⟩
theorem kw_c {nm : Option Str} {kpos : Pos} (h : XD X e δ fun d => XK X kws δ fun ds => S (d :: ds)) : XK X (⟨nm, e, kpos⟩ :: kws) δ S :=
  have hl : PK X kws (fun σ H Q => ∃ T : List Dt → Prop, XK X kws δ T ∧ rA X.K δ T σ H Q) := ⟨fun pos pins s σ H Q I ⟨T, g, q⟩ => g.pk.run pos pins s σ H Q I q⟩
  ⟨PK.imp (pk_cons h hl) fun σ H Q ⟨p, B, G, i3, en, q⟩ => ⟨p, B, G, i3, en, fun v d1 G1 H1 r1 n1 h1 => ⟨_, r1, p, B, G1, i3.nxt n1, en.nxt n1, fun vs ds2 G2 H2 r2 n2 h2 =>
    q (v :: vs) (d1 :: ds2) G2 H2 r2 (n1.trans n2) (.cons (dp_ex n2.st.1 _ _ h1) h2)⟩⟩⟩
theorem c_callK {R : List Dt → Dt → Prop} (ix : List Nat) (C : Cal X.prog X.w X.K X.mg X.base k x ps st (spD X.K R)) (ha : XK X kws δ fun ds => ds.length = ks.length ∧ ∃ d, R (pick ix ds) d ∧ U d)
    (hb : ∀ (kV doc pm : Value) (an : Option Addr) (cdv ct : Value) (ws : List Value), ws.length = ks.length → bindArgs (PySem.W.fnOf x x (defArgs st) (defBody st) (defScope st) .none kV doc pm an cdv ct) ⟨[], ks.zip ws⟩ = pure (ps.zip (pick ix ws)))
    (hall : (backToKw pos (keywordEach kws X.env)).all (·.1.isSome) = true := by rfl) (hks : (backToKw pos (keywordEach kws X.env)).filterMap (·.1) = ks := by rfl) (hpl : ((backTo pos (starEach [] X.env)).any (·.1) || (backToKw pos (keywordEach kws X.env)).any (·.1.isNone)) = false := by rfl)
    (hr : Room k X.A := by first | assumption | (refine Room.mono (by assumption) ?_; decide)) (hgd : X.A.guards = some [] := by assumption) (hg : Gl X x := by rfl) (hdb : (x == ("__debug__" : Str)) = false := by decide) : XD X (.Call (.Name x p) [] kws pos) δ U := by
  obtain ⟨f, fd, F, hm, hk, _, fn⟩ := C.ex
  obtain ⟨oc, od, kV, doc, pm, an, cdv, ct, osl, rfl, lk, hcd⟩ := fn.ex
  refine ⟨fun pins s σ H Q I ⟨p, B, G, i3, en, q⟩ => ?_⟩
  refine wpAny_Call_Name_kw (ld_glob I hg hm ?_ hdb)
  refine PySem.W.callWith_KW0 (h₀ := X.base) I.ok.mod.kin hk hall (thn (ha.pk.run pos pins s σ H (fun vs H1 => ∃ G1 ds, (ds.length = ks.length ∧ ∃ d, R (pick ix ds) d ∧ U d) ∧ Nxt p G H G1 H1 ∧ DzAll X.K G1 vs ds) I ⟨p, B, G, i3, en, fun vs ds' G1 H1 r n hv => ⟨G1, ds', r, n, hv⟩⟩) fun ws s1 ⟨zs, H1, I1, rz, G1, ds, ⟨hl, d, hR, hU⟩, n, hv⟩ => ⟨I1.kIn, ?_⟩) hpl
  rw [hks]
  have hlw : ws.length = ks.length := by rw [← rz.length, dpAll_length hv]; exact hl
  have hsp : spD X.K R (pick ix zs) H1 Q E0 := sp_use (i3.nxt n) (pick_dz hv ix) hR fun v G2 H2 n2 hd => q v d G2 H2 hU (n.trans n2) hd
  refine wpAny_call (codeAny_mono (F.run X.A X.stack s1 H1 ⟨[], ks.zip ws⟩ (pick ix ws) (pick ix zs) Q E0 hr hgd I1.env0 (.of_eq (hb kV doc pm an cdv ct ws hlw)) (pick_vals rz ix) hsp) fun r s' hq => ?_)
  have z := fnG_end I1 hq
  cases r with
  | error e => exact z
  | ok fl => cases fl <;> first | exact z | exact False.elim z
end
/-! ### new lists -/
section
variable {X : Cx} {a b e : Expr} {es : List Expr} {δ : De} {ds : List Dt} {d : Dt} {p pos : Pos} {S : List Dt → Prop} {U : Dt → Prop}
theorem o_lst (h : XA X es δ fun ds => ds.length ≤ 100000 ∧ S ds) : XO X (.List es pos) δ S := (xo_lst h fun ds k => k.1).mono fun ds k => k.2
theorem o_listOf (h : XD X e δ fun d => seqD d S) (F : Free X.mg := by assumption) (hg : Gl X "list" := by rfl) (hs : starEach [e] X.env = (false, eval e X.env) :: starEach [] X.env := by rfl) : XO X (.Call (.Name "list" p) [e] [] pos) δ S :=
  PE.imp (pe_callTy call_list_of hg (F "list" (by decide +kernel)) (by decide +kernel) (pa_cons h pa_nil hs) (he := hs)) fun σ H Q ⟨p, B, G, i3, en, q⟩ => ⟨p, B, G, i3, en, fun v d G' H' ⟨ds, hd, k⟩ n hv => by
    have i3' := i3.nxt n
    have fin : ∀ (xs : List V), DzAll X.K G' xs ds → ∀ l, H' l = none → Q (.ref l) (upd H' l (.lst xs)) := fun xs ha l hl => q l xs ds G' _ k (n.trans (.newH i3' (.lst xs) hl)) (back_none n hl) (i3'.gh.free hl) (pot_ne i3' hl) upd_same ha
    rcases hd with e1 | e1
    · subst e1
      cases hv with
      | lst hs ha => exact ⟨_, _, rfl, .inl (exl i3'.gh hs), fin _ ha⟩
    · subst e1
      cases hv with
      | tup hs ha => exact ⟨_, _, rfl, .inr (ex_t i3'.gh hs), fin _ ha⟩⟩
/-- an own list is read by an expression that gives no list -/
def flat : Dt → Prop
  | .list _ => False
  | .tuple _ => False
  | .dict _ => False
  | _ => True
theorem flat_any {K : Fg} {G G' : Hp} {v : V} (h : Dz K G v d) (f : flat d) : Dz K G' v d := by
  cases h with
  | non => exact .non
  | bl b => exact .bl b
  | int i => exact .int i
  | str x => exact .str x
  | lst _ _ => exact f.elim
  | tup _ _ => exact f.elim
  | dct _ => exact f.elim
theorem c_frz (i : Nat) (hs : δ[i]? = some (.own ds)) (h : XD X e (δ.set i (.d (.list ds))) fun d => flat d ∧ U d) : XD X e δ U := PE.imp h fun σ H Q ⟨p, B, G, i3, en, q⟩ => by
  obtain ⟨G', s, i', e'⟩ := frz_ok i3 en hs
  exact ⟨p, B, G', i', e', fun u d G2 H2 ⟨f, r⟩ n hd => q u d G H2 r ⟨.refl _ _, n.ex, fun a w h => n.gh a w (n.st.1 a w (s.1 a w h)), n.pot⟩ (flat_any hd f)⟩
theorem c_ownAt {x : Str} {i : Nat} {np : Pos} (hN : Nx X.N x i) (hs : δ[i]? = some (.own ds)) (h : XD X b δ fun y => ∃ k : Int, ∃ d, y = .int k ∧ atI ds k = some d ∧ U d)
    (hv : Vis X.env.scope x := by first | exact Or.inl rfl | exact Or.inr (Or.inl rfl) | exact Or.inr (Or.inr rfl)) (hd : (x == ("__debug__" : Str)) = false := by decide) (hcd : (x == ("__classdict__" : Str)) = false := by decide) (hp : PlainIx b := by exact fun _ _ => rfl) : XD X (.Subscript (.Name x np) b pos) δ U :=
  PE.imp (pe_ix ix_list (pe_var hN.eq hv hd hcd) h hp) fun σ H Q ⟨p, B, G, i3, en, q⟩ => by
    obtain ⟨o', h1, l, xs, rfl, h2, h3, h4, h5, h6⟩ := en.slot i _ hs
    refine ⟨_, h1, p, B, G, i3, en, fun v dd G' H' ⟨k, d, r, hk, hU⟩ n hv' => ?_⟩
    subst r
    cases hv'
    have h5' : H' l = some (.lst xs) := n.ex _ _ (by rw [del_ne h4]; exact h5)
    obtain ⟨w, e1, e2⟩ := atI_all h6 hk
    exact ⟨l, xs, k, w, rfl, rfl, .inl (.inl h5'), e1, q w d G' H' hU n (dp_ex n.st.1 _ _ e2)⟩
theorem c_ownLen {x : Str} {i : Nat} {np : Pos} (hN : Nx X.N x i) (hs : δ[i]? = some (.own ds)) (h : U (.int (ds.length : Int))) (F : Free X.mg := by assumption)
    (hv : Vis X.env.scope x := by first | exact Or.inl rfl | exact Or.inr (Or.inl rfl) | exact Or.inr (Or.inr rfl)) (hd : (x == ("__debug__" : Str)) = false := by decide) (hcd : (x == ("__classdict__" : Str)) = false := by decide) (hg : Gl X "len" := by rfl) (h1 : starEach [.Name x np] X.env = (false, eval (.Name x np) X.env) :: starEach [] X.env := by rfl) : XD X (.Call (.Name "len" p) [.Name x np] [] pos) δ U :=
  PE.imp (pe_callB call_len_seq hg (F "len" (by decide +kernel)) PySem.boot_len (pa_cons (pe_var hN.eq hv hd hcd) pa_nil h1) (he := h1)) fun σ H Q ⟨p, B, G, i3, en, q⟩ => by
    obtain ⟨o', k1, l, xs, rfl, h2, h3, h4, h5, h6⟩ := en.slot i _ hs
    exact ⟨_, k1, l, xs, rfl, .inl (.inl (.inl h5)), q _ _ G H (by rw [dpAll_length h6]; exact h) (.refl i3) (.int _)⟩
end
/-! ### statements -/
section
variable {X : Cx} {sts tss rest : List Stmt} {a b c e : Expr} {es : List Expr} {δ δ1 δ2 : De} {o : Out} {d : Dt} {ds : List Dt} {pos p pos' : Pos} {x : Str} {i : Nat}
theorem s_let {F : Dt → De} (hi : Nx X.N x i) (hF : ∀ d, SetR δ i (.d d) (F d)) (h : XD X e δ fun d => SsD X rest (F d) o) (hN : X.N.Nodup := by assumption) (hx : Loc X.env.scope x := by first | exact Or.inl rfl | exact Or.inr rfl)
    (hs : swapsWith e (some (.Name x pos')) pos.line X.env = pure false := by rfl) (hf : X.fn x = true ∨ X.env.scope.names.lookup x = some .local := by first | exact .inl rfl | exact .inr rfl | assumption) : SsD X (.Assign [.Name x pos'] e pos :: rest) δ o :=
  ss_seq (N := fun δ' => SsD X rest δ' o) (sd_set i hN h (fun d k => by rw [(hF d).eq]; exact k) hi.eq hx hs hf) fun δ' h => h
theorem s_ret' (h : XD X e δ o.rt) : SsD X (.Return (some e) pos :: rest) δ o := ss_end (sd_ret h fun d k => k)
theorem s_do (h : XD X e δ fun _ => SsD X rest δ o) (hs : swapsWith e none pos.line X.env = pure false := by rfl) : SsD X (.Expr e pos :: rest) δ o := ss_seq (N := fun δ' => SsD X rest δ' o) (sd_expr h (fun d k => k) hs) fun δ' h => h
/-- what comes behind -/
abbrev Out.then (o : Out) (X : Cx) (rest : List Stmt) : Out := { o with nx := fun δ' => SsD X rest δ' o }
theorem s_ifs (h : XT X c δ fun k => (k = true → SsD X sts δ (o.then X rest)) ∧ (k = false → SsD X tss δ (o.then X rest))) : SsD X (.If c sts tss pos :: rest) δ o :=
  ss_seq (N := fun δ' => SsD X rest δ' o) (sd_if h (fun k => k.1 rfl) fun k => k.2 rfl) fun δ' h => h
theorem ss_next (h : o.nx δ) : SsD X [] δ o := ss_nil h
/-- a, b = x, y -/
theorem s_two {x y : Str} {i j : Nat} {px py pt : Pos} {kt k2 pt2} {F : Dt → De} {G : Dt → Dt → De} (hi : Nx X.N x i) (hj : Nx X.N y j) (hF : ∀ d, SetR δ i (.d d) (F d)) (hG : ∀ d d2, SetR (F d) j (.d d2) (G d d2)) (h : XD X a δ fun d => XD X b δ fun d2 => SsD X rest (G d d2) o)
    (hij : i ≠ j := by decide) (hN : X.N.Nodup := by assumption) (hc : X.calm = true := by rfl) (hx : X.env.scope.names.lookup x = some .local := by rfl) (hy : X.env.scope.names.lookup y = some .local := by rfl)
    (hw : swappedStores [.Tuple [.Name x px, .Name y py] kt pt] (.Tuple [a, b] k2 pt2) X.env = pure (some [x, y]) := by rfl) (hs : swapsWithSole [.Tuple [.Name x px, .Name y py] kt pt] (.Tuple [a, b] k2 pt2) pos.line X.env = pure false := by rfl)
    (h1 : starEach [a, b] X.env = (false, eval a X.env) :: starEach [b] X.env := by rfl) (h2 : starEach [a, b] X.env = [a, b].map fun e => (false, eval e X.env) := by rfl) (h3 : starEach [b] X.env = (false, eval b X.env) :: starEach [] X.env := by rfl) (h4 : starEach [b] X.env = [b].map fun e => (false, eval e X.env) := by rfl) :
    SsD X (.Assign [.Tuple [.Name x px, .Name y py] kt pt] (.Tuple [a, b] k2 pt2) pos :: rest) δ o :=
  ss_seq (N := fun δ' => SsD X rest δ' o) (sd_par (S := fun ds => ∃ d d2, ds = [d, d2] ∧ SsD X rest (G d d2) o) i j hN hij (a_c (h.mono fun d k => a_c (k.mono fun d2 k2 => a_n ⟨d, d2, rfl, k2⟩) h3 h4) h1 h2) (fun ds ⟨d, d2, e, k⟩ => ⟨d, d2, e, by rw [(hF d).eq, (hG d d2).eq]; exact k⟩) hc hi.eq hj.eq hx hy hw hs) fun δ' h => h
theorem s_three {x y z : Str} {i j l : Nat} {px py pz pt : Pos} {kt k2 pt2} {F : Dt → De} {G : Dt → Dt → De} {L : Dt → Dt → Dt → De} (hi : Nx X.N x i) (hj : Nx X.N y j) (hl : Nx X.N z l) (hF : ∀ d, SetR δ i (.d d) (F d)) (hG : ∀ d d2, SetR (F d) j (.d d2) (G d d2)) (hL : ∀ d d2 d3, SetR (G d d2) l (.d d3) (L d d2 d3)) (h : XD X a δ fun d => XD X b δ fun d2 => XD X c δ fun d3 => SsD X rest (L d d2 d3) o)
    (hij : i ≠ j := by decide) (hil : i ≠ l := by decide) (hjl : j ≠ l := by decide) (hN : X.N.Nodup := by assumption) (hc : X.calm = true := by rfl) (hx : X.env.scope.names.lookup x = some .local := by rfl) (hy : X.env.scope.names.lookup y = some .local := by rfl) (hz : X.env.scope.names.lookup z = some .local := by rfl)
    (hw : swappedStores [.Tuple [.Name x px, .Name y py, .Name z pz] kt pt] (.Tuple [a, b, c] k2 pt2) X.env = pure (some [x, y, z]) := by rfl) (hs : swapsWithSole [.Tuple [.Name x px, .Name y py, .Name z pz] kt pt] (.Tuple [a, b, c] k2 pt2) pos.line X.env = pure false := by rfl)
    (h1 : starEach [a, b, c] X.env = (false, eval a X.env) :: starEach [b, c] X.env := by rfl) (h2 : starEach [a, b, c] X.env = [a, b, c].map fun e => (false, eval e X.env) := by rfl) (h3 : starEach [b, c] X.env = (false, eval b X.env) :: starEach [c] X.env := by rfl) (h4 : starEach [b, c] X.env = [b, c].map fun e => (false, eval e X.env) := by rfl) (h5 : starEach [c] X.env = (false, eval c X.env) :: starEach [] X.env := by rfl) (h6 : starEach [c] X.env = [c].map fun e => (false, eval e X.env) := by rfl) :
    SsD X (.Assign [.Tuple [.Name x px, .Name y py, .Name z pz] kt pt] (.Tuple [a, b, c] k2 pt2) pos :: rest) δ o :=
  ss_seq (N := fun δ' => SsD X rest δ' o) (sd_par3 (S := fun ds => ∃ d d2 d3, ds = [d, d2, d3] ∧ SsD X rest (L d d2 d3) o) i j l hN hij hil hjl (a_c (h.mono fun d k => a_c (k.mono fun d2 k2 => a_c (k2.mono fun d3 k3 => a_n ⟨d, d2, d3, rfl, k3⟩) h5 h6) h3 h4) h1 h2) (fun ds ⟨d, d2, d3, e, k⟩ => ⟨d, d2, d3, e, by rw [(hF d).eq, (hG d d2).eq, (hL d d2 d3).eq]; exact k⟩) hc hi.eq hj.eq hl.eq hx hy hz hw hs) fun δ' h => h
/-- targets that set slots -/
theorem s_unp {tg : Expr} (h : XD X e δ fun d => ∃ δ' js, TgD X tg js d δ δ' ∧ SsD X rest δ' o) (hs : swapsWithSole [tg] e pos.line X.env = pure false := by rfl) (hw : swappedStores [tg] e X.env = pure none := by rfl)
    (h1 : (assignEach [tg] X.env).map (·.2) = [assign tg X.env] := by rfl) : SsD X (.Assign [tg] e pos :: rest) δ o := by
  have pg : PG X tg (fun v σ H Q => ∃ d δ' js, TgD X tg js d δ δ' ∧ SsD X rest δ' o ∧ rG X.K js d δ δ' v σ H Q) := ⟨fun pins s σ H v u Q I r ⟨d, δ', js, a, _, q⟩ => PG.run a pins s σ H v u Q I r q⟩
  refine ss_seq (N := fun δ' => SsD X rest δ' o) ?_ fun δ' h => h
  exact PS.imp (ps_asg h pg hs hw h1) fun D σ H ⟨p, B, G, i3, en, q⟩ => ⟨p, B, G, i3, en, fun v d G' H' ⟨δ', js, t, k⟩ n hv => ⟨d, δ', js, t, k, p, B, G', i3.nxt n, en.nxt n, hv, fun σ' en' _ => q.nx _ _ G' H' k (n.stepB i3) (i3.nxt n) en'⟩⟩
/-- own lists -/
theorem s_newOwn {F : List Dt → De} (hi : Nx X.N x i) (hF : ∀ ds, SetR δ i (.own ds) (F ds)) (h : XO X e δ fun ds => SsD X rest (F ds) o) (hN : X.N.Nodup := by assumption) (hx : Loc X.env.scope x := by first | exact Or.inl rfl | exact Or.inr rfl)
    (hs : swapsWith e (some (.Name x pos')) pos.line X.env = pure false := by rfl) (hf : X.fn x = true ∨ X.env.scope.names.lookup x = some .local := by first | exact .inl rfl | exact .inr rfl | assumption) : SsD X (.Assign [.Name x pos'] e pos :: rest) δ o :=
  ss_seq (N := fun δ' => SsD X rest δ' o) (sd_own i hN h (fun ds k => by rw [(hF ds).eq]; exact k) hi.eq hx hs hf) fun δ' h => h
theorem s_append {apos cpos np : Pos} {F : Dt → De} (hi : Nx X.N x i) (hs : δ[i]? = some (.own ds)) (hF : ∀ d, SetR δ i (.own (ds ++ [d])) (F d)) (hz : ds.length < 100000) (h : XD X e δ fun d => SsD X rest (F d) o)
    (hv : Vis X.env.scope x := by first | exact Or.inl rfl | exact Or.inr (Or.inl rfl) | exact Or.inr (Or.inr rfl)) (hd : (x == ("__debug__" : Str)) = false := by decide) (hcd : (x == ("__classdict__" : Str)) = false := by decide)
    (hbase : attributeBase (.Name x np) "append" X.env (eval (.Name x np) X.env) = eval (.Name x np) X.env := by rfl)
    (hfew : ((backTo cpos (starEach [e] X.env)).all (fun x => !x.1) && (backToKw cpos (keywordEach [] X.env)).all (fun x => x.1.isSome) && decide (([e] : List Expr).length + ([] : List Keyword).length + (if ([] : List Keyword).isEmpty then 0 else 1) < 30)) = true := by rfl)
    (hline : (apos.endLine == cpos.line) = true := by rfl) (hst : starEach [e] X.env = [(false, eval e X.env)] := by rfl) (hsw : swapsWith (.Call (.Attribute (.Name x np) "append" apos) [e] [] cpos) none pos.line X.env = pure false := by rfl) :
    SsD X (.Expr (.Call (.Attribute (.Name x np) "append" apos) [e] [] cpos) pos :: rest) δ o :=
  ss_seq (N := fun δ' => SsD X rest δ' o) (sd_app i hs h (fun d k => by rw [(hF d).eq]; exact k) hz hi.eq hv hd hcd hbase hfew hline hst hsw) fun δ' h => h
theorem s_freeze {δ' : De} (i : Nat) (hs : δ[i]? = some (.own ds)) (hF : SetR δ i (.d (.list ds)) δ') (k : SsD X sts δ' o) : SsD X sts δ o := ss_frz i hs (by rw [hF.eq]; exact k)
theorem s_retO {np : Pos} (hi : Nx X.N x i) (hs : δ[i]? = some (.own ds)) (hR : o.ro ds) (hv : Vis X.env.scope x := by first | exact Or.inl rfl | exact Or.inr (Or.inl rfl) | exact Or.inr (Or.inr rfl)) (hd : (x == ("__debug__" : Str)) = false := by decide)
    (hcd : (x == ("__classdict__" : Str)) = false := by decide) : SsD X (.Return (some (.Name x np)) pos :: rest) δ o := s_retNew i hs hR hi.eq hv hd hcd
theorem s_retL {np : Pos} (hi : Nx X.N x i) (hs : δ[i]? = some (.own ds)) (hR : o.rt (.list ds)) (hv : Vis X.env.scope x := by first | exact Or.inl rfl | exact Or.inr (Or.inl rfl) | exact Or.inr (Or.inr rfl)) (hd : (x == ("__debug__" : Str)) = false := by decide)
    (hcd : (x == ("__classdict__" : Str)) = false := by decide) : SsD X (.Return (some (.Name x np)) pos :: rest) δ o := s_retOwn i hs hR hi.eq hv hd hcd
/-- return of a new list of nobody's -/
theorem s_retE (h : XO X e δ o.ro) : SsD X (.Return (some e) pos :: rest) δ o :=
  ss_end (PS.imp (ps_ret h) fun D σ H ⟨p, B, G, i3, en, q⟩ => ⟨p, B, G, i3, en, fun l xs ds G' H' r n h0 g pl hl ha => q.ro ds l xs G' H' r (n.stepB i3) (i3.nxt n) (i3.bh.free h0) g pl hl ha⟩)
/-- y = [..] on one line -/
theorem s_letC {elt tg iter : Expr} {ifs : List Expr} {scope : Scope} {spos : Pos} {F : Dt → De} (hi : Nx X.N x i) (hF : ∀ d, SetR δ i (.d d) (F d)) (h : LcO X elt tg iter ifs scope δ fun ds => SsD X rest (F (.list ds)) o) (hN : X.N.Nodup := by assumption) (hyl : X.env.scope.names.lookup x = some .local := by rfl)
    (hsw : swapsWith (.ListComp elt [⟨tg, iter, ifs, 0⟩] scope pos) (some (.Name x pos')) spos.line X.env = pure true := by exact sw_true rfl rfl rfl (by decide +kernel)) (hc : X.calm = true := by rfl) (hs : ∀ x, foldedSetIterable iter X.env x = pure x := by intro _; rfl) :
    SsD X (.Assign [.Name x pos'] (.ListComp elt [⟨tg, iter, ifs, 0⟩] scope pos) spos :: rest) δ o := by
  obtain ⟨own, wi, g, tt, te, a1, a2, a3, a4, a5, a6⟩ := h.ex
  refine ss_seq (N := fun δ' => SsD X rest δ' o) ?_ fun δ' h => h
  exact PS.imp (ps_setLc hc hN hi.eq hyl hsw a1 a2 a3 a4 a5 hs) fun D σ H ⟨p, B, G, i3, en, q⟩ => a6 σ H _ ⟨p, B, G, i3, en, fun l xs ds G' H' r n h0 g pl hl ha => by
    obtain ⟨n2, hd⟩ := own_data i3 n h0 g pl hl ha
    exact q.nx _ _ _ H' r (n2.stepB i3) (i3.nxt n2) (by rw [← (hF (.list ds)).eq]; exact (en.nxt n2).set hd)⟩
theorem s_ownC {elt tg iter : Expr} {ifs : List Expr} {scope : Scope} {spos : Pos} {F : List Dt → De} (hi : Nx X.N x i) (hF : ∀ ds, SetR δ i (.own ds) (F ds)) (h : LcO X elt tg iter ifs scope δ fun ds => SsD X rest (F ds) o) (hN : X.N.Nodup := by assumption) (hyl : X.env.scope.names.lookup x = some .local := by rfl)
    (hsw : swapsWith (.ListComp elt [⟨tg, iter, ifs, 0⟩] scope pos) (some (.Name x pos')) spos.line X.env = pure true := by exact sw_true rfl rfl rfl (by decide +kernel)) (hc : X.calm = true := by rfl) (hs : ∀ x, foldedSetIterable iter X.env x = pure x := by intro _; rfl) :
    SsD X (.Assign [.Name x pos'] (.ListComp elt [⟨tg, iter, ifs, 0⟩] scope pos) spos :: rest) δ o := by
  obtain ⟨own, wi, g, tt, te, a1, a2, a3, a4, a5, a6⟩ := h.ex
  refine ss_seq (N := fun δ' => SsD X rest δ' o) ?_ fun δ' h => h
  exact PS.imp (ps_setLc hc hN hi.eq hyl hsw a1 a2 a3 a4 a5 hs) fun D σ H ⟨p, B, G, i3, en, q⟩ => a6 σ H _ ⟨p, B, G, i3, en, fun l xs ds G' H' r n h0 g pl hl ha => by
    exact q.nx _ _ G' H' r (n.stepB i3) (i3.nxt n) (by rw [← (hF ds).eq]; exact en.putOwn i3 n h0 g pl hl ha i)⟩
/-- for: Iv, an invariant over the turns -/
theorem s_for {tg iter : Expr} (h : XI X tg iter δ fun ds => ∃ Iv : Nat → De → Prop, Iv 0 δ ∧
      (∀ (i : Nat) d δ', ds[i]? = some d → Iv i δ' → ∃ δ2 js, TgD X tg js d δ' δ2 ∧ SsD X sts δ2 { nx := Iv (i + 1), rt := o.rt, ro := o.ro, bk := fun δ' => SsD X rest δ' o, ct := Iv (i + 1) }) ∧ ∀ δ', Iv ds.length δ' → SsD X rest δ' o)
    (hp : PassesOwn (model X.prog X.w) X.A X.env X.xe := by exact PassesOwn.never) (hc : X.calm = true := by rfl) (hs : ∀ x, foldedSetIterable iter X.env x = pure x := by intro _; rfl) : SsD X (.For tg iter sts [] pos :: rest) δ o := by
  refine ss_seq (N := fun δ' => SsD X rest δ' o) ?_ fun δ' h => h
  have pg : PG X tg (fun v σ H Q => ∃ d δ' δ2 js, TgD X tg js d δ' δ2 ∧ rG X.K js d δ' δ2 v σ H Q) := ⟨fun pins s σ H v u Q I r ⟨d, δ', δ2, js, a, q⟩ => PG.run a pins s σ H v u Q I r q⟩
  have pb : PSs X sts (fun D σ H => ∃ δ2 o2, SsD X sts δ2 o2 ∧ rS X.K δ2 o2 D σ H) := ⟨fun pins s σ H D I ⟨δ2, o2, a, q⟩ => PSs.run a pins s σ H D I q⟩
  refine PS.imp (ps_for hp hc h pg pb (hs := hs)) fun D σ H ⟨p, B, G, i3, en, q⟩ => ⟨p, B, G, i3, en, fun J ds G1 H1 ⟨Iv, h0, turn, fin⟩ n yl => ?_⟩
  have st1 := n.stepB i3
  refine ⟨fun i m σ' H' => m = ds.length - i ∧ i ≤ ds.length ∧ ∃ G' δ', Step B G1 G' ∧ I3 p B G' H' ∧ EnvD X.K p B G' H' σ' δ' ∧ Iv i δ', ⟨_, rfl, Nat.zero_le _, G1, δ, .refl _ _, i3.nxt n, en.nxt n, h0⟩, ?_⟩
  rintro i m σ' H' ⟨em, hle, G', δ', st', i3', en', iv⟩
  by_cases hlt : i < ds.length
  · obtain ⟨go, yd⟩ := (yl p B G' H' st'.1 i3' i).1 hlt
    refine .inr ⟨go, fun σ2 H2 => ∃ G2 δ2, Step B G1 G2 ∧ I3 p B G2 H2 ∧ EnvD X.K p B G2 H2 σ2 δ2 ∧ Iv (i + 1) δ2, fun σ2 H2 ⟨G2, δ2, a1, a2, a3, a4⟩ => ⟨_, by omega, rfl, by omega, G2, δ2, a1, a2, a3, a4⟩, fun x H2 hy => ?_⟩
    obtain ⟨G2, d, e2, n2, hx⟩ := yd x H2 hy
    obtain ⟨δ2, js, tg2, body⟩ := turn i d δ' e2 iv
    refine ⟨d, δ', δ2, js, tg2, p, B, G2, i3'.nxt n2, en'.nxt n2, hx, fun σ2 en2 _ => ⟨δ2, _, body, p, B, G2, i3'.nxt n2, en2, ?_⟩⟩
    have st2 := st'.trans (n2.stepB i3')
    exact ⟨fun δ3 σ3 G3 H3 a b c e => ⟨G3, δ3, st2.trans b, c, e, a⟩, fun d3 v3 G3 H3 a b => q.rt d3 v3 G3 H3 a ((st1.trans st2).trans b), fun δ3 σ3 G3 H3 a b => q.nx δ3 σ3 G3 H3 a ((st1.trans st2).trans b), fun δ3 σ3 G3 H3 a b c e => ⟨G3, δ3, st2.trans b, c, e, a⟩, fun ds3 l3 xs3 G3 H3 a b => q.ro ds3 l3 xs3 G3 H3 a ((st1.trans st2).trans b)⟩
  · have e : i = ds.length := by omega
    subst e
    exact .inl ⟨(yl p B G' H' st'.1 i3' _).2 rfl, q.nx δ' σ' G' H' (fin δ' iv) (st1.trans st') i3' en'⟩
end
end Dv

set_option linter.all false
set_option maxRecDepth 100000
set_option maxHeartbeats 2000000
namespace Dv
open PySem PySem.Spec PyProof.Rows L2 RZ
/-! ### how a def begins -/
inductive StR : List Str → List En → De → Prop
  | nil : StR [] [] []
  | d {x N e es δ} : StR N es δ → StR (x :: N) (e :: es) (e :: δ)
  | no {x N δ} : StR N [] δ → StR (x :: N) [] (.no :: δ)
theorem stR_len {N : List Str} {es : List En} {δ : De} (h : StR N es δ) : es.length ≤ N.length := by
  induction h with
  | nil => exact Nat.le_refl _
  | d _ ih => simp only [List.length_cons]; omega
  | no _ ih => simp
theorem StR.eq {N : List Str} {es : List En} {δ : De} (h : StR N es δ) : stD N es = δ := by
  induction h with
  | nil => rfl
  | d h ih =>
    unfold stD at ih ⊢
    have := stR_len h
    rw [List.length_cons, List.length_cons, List.cons_append, show ∀ a b : Nat, a + 1 - (b + 1) = a - b by omega, ih]
  | no h ih =>
    unfold stD at ih ⊢
    simp only [List.nil_append, List.length_nil, Nat.sub_zero, List.length_cons] at ih ⊢
    rw [List.replicate_succ, ih]
theorem s_st {X : Cx} {sts : List Stmt} {N : List Str} {es : List En} {δ : De} {o : Out} (h : StR N es δ) (k : SsD X sts δ o) : SsD X sts (stD N es) o := h.eq ▸ k
/-- texts of statements that are the same -/
theorem s_eq {X : Cx} {sts sts' : List Stmt} {δ : De} {o : Out} (h : sts = sts') (k : SsD X sts' δ o) : SsD X sts δ o := h ▸ k
section
variable {X : Cx} {c e : Expr} {δ : De} {p pos : Pos} {R : Dt → Prop} {S : Bool → Prop} {d : Dt} {b : Bool}
/-- isinstance -/
theorem c_isi (T : String) {tn : Str} {p2 : Pos} (h : XD X e δ fun d => ∃ b, kitB (tyD d) T = some b ∧ R (.bool b)) (F : Free X.mg := by assumption) (hb : bnames.contains tn = true := by decide +kernel) (hv : bootBuiltins tn = some (.type T) := by decide +kernel) (hgT : Gl X tn := by rfl) (hg : Gl X "isinstance" := by rfl)
    (hn : tn ≠ "__name__" := by decide) (hd : (tn == ("__debug__" : Str)) = false := by decide) (hs1 : starEach [.Name tn p2] X.env = [(false, eval (.Name tn p2) X.env)] := by rfl) (hs : starEach [e, .Name tn p2] X.env = (false, eval e X.env) :: starEach [.Name tn p2] X.env := by rfl) :
    XD X (.Call (.Name "isinstance" p) [e, .Name tn p2] [] pos) δ R := by
  refine PE.imp (pe_callB call_isi hg (F "isinstance" (by decide +kernel)) (by decide +kernel) (pa_cons h (pa_cons (pe_bltn (v := .ty T) hgT (F tn hb) hv rfl hn hd) pa_nil (by rw [hs1]; rfl)) hs) (he := hs) (hpl := by rw [hs1]; rfl)) fun σ H Q ⟨p, B, G, i3, en, q⟩ => ⟨p, B, G, i3, en, fun v d' G' H' ⟨c, hk, r⟩ n hv' => ?_⟩
  exact ⟨v, .ty T, _, _, c, rfl, .ty T, dz_ty hv' n.gh, kit_ty hk, q _ _ G' H' r n (.bl _)⟩
theorem c_isi2 (T U : String) {tn un : Str} {p2 p3 p4 : Pos} {k : Nat} (h : XD X e δ fun d => ∃ b b2, kitB (tyD d) T = some b ∧ kitB (tyD d) U = some b2 ∧ R (.bool (b || b2))) (F : Free X.mg := by assumption) (hb : bnames.contains tn = true := by decide +kernel) (hb2 : bnames.contains un = true := by decide +kernel) (hv : bootBuiltins tn = some (.type T) := by decide +kernel) (hvU : bootBuiltins un = some (.type U) := by decide +kernel)
    (hgT : Gl X tn := by rfl) (hgU : Gl X un := by rfl) (hg : Gl X "isinstance" := by rfl) (hn : tn ≠ "__name__" := by decide) (hd : (tn == ("__debug__" : Str)) = false := by decide) (hn2 : un ≠ "__name__" := by decide) (hd2 : (un == ("__debug__" : Str)) = false := by decide)
    (hs1 : starEach [.Tuple [.Name tn p2, .Name un p3] k p4] X.env = [(false, eval (.Tuple [.Name tn p2, .Name un p3] k p4) X.env)] := by rfl) (hs : starEach [e, .Tuple [.Name tn p2, .Name un p3] k p4] X.env = (false, eval e X.env) :: starEach [.Tuple [.Name tn p2, .Name un p3] k p4] X.env := by rfl) (ht2 : starEach [.Name un p3] X.env = [(false, eval (.Name un p3) X.env)] := by rfl) (ht : starEach [.Name tn p2, .Name un p3] X.env = (false, eval (.Name tn p2) X.env) :: starEach [.Name un p3] X.env := by rfl) :
    XD X (.Call (.Name "isinstance" p) [e, .Tuple [.Name tn p2, .Name un p3] k p4] [] pos) δ R := by
  refine PE.imp (pe_callB call_isiT hg (F "isinstance" (by decide +kernel)) (by decide +kernel) (pa_cons h (pa_cons (pe_tup (pa_cons (pe_bltn (v := .ty T) hgT (F tn hb) hv rfl hn hd) (pa_cons (pe_bltn (v := .ty U) hgU (F un hb2) hvU rfl hn2 hd2) pa_nil (by rw [ht2]; rfl)) ht)) pa_nil (by rw [hs1]; rfl)) hs) (he := hs) (hpl := by rw [hs1]; rfl)) fun σ H Q ⟨p, B, G, i3, en, q⟩ => ⟨p, B, G, i3, en, fun v d' G' H' ⟨c, c2, hk, hkU, r⟩ n hv' => ?_⟩
  have i3' := i3.nxt n
  refine ⟨by show 2 ≤ sizeLine; decide, fun l hl => ?_⟩
  have n2 := Nxt.newH i3' (.tup [.ty T, .ty U]) hl
  refine ⟨v, l, _, _, [.type T, .type U], c || c2, rfl, upd_same, .cons (.ty T) (.cons (.ty U) .nil), dz_ty hv' n2.gh, kitAny_cons (kit_ty hk) (fun hc => kitAny_cons (kit_ty hkU) (fun h2 => ?_) (fun h2 => ?_)) (fun hc => ?_), q _ _ _ _ r (n.trans n2) (.bl _)⟩
  · rw [hc, h2]; rfl
  · rw [hc, h2]; rfl
  · rw [hc]; rfl
/-- a <= b <= c -/
theorem c_chain {a b : Expr} (h : XD X a δ fun x => XD X b δ fun y => ∃ i j : Int, x = .int i ∧ y = .int j ∧ (i ≤ j → XD X c δ fun z => ∃ k : Int, z = .int k ∧ R (.bool (decide (j ≤ k)))) ∧ (¬ i ≤ j → R (.bool false))) (hlm : lastMarks [CmpOp.LtE, CmpOp.LtE] [b, c] = false := by rfl) : XD X (.Compare a [.LtE, .LtE] [b, c] pos) δ R :=
  PE.imp (pe_chain op_le op_le h (pe_later (δ := δ)) (pe_later (δ := δ)) (hm := hlm)) fun σ H Q ⟨p, B, G, i3, en, q⟩ => ⟨p, B, G, i3, en, fun v d G1 H1 r1 n1 h1 => ⟨_, r1, p, B, G1, i3.nxt n1, en.nxt n1, fun w d2 G2 H2 ⟨i, j, e1, e2, k1, k2⟩ n2 h2 => by
    subst e1; subst e2
    cases h1; cases h2
    refine ⟨i, j, rfl, rfl, _, rfl, ?_⟩
    have n12 := n1.trans n2
    by_cases hle : i ≤ j
    · rw [decide_eq_true hle]
      refine iteT ⟨_, k1 hle, p, B, G2, i3.nxt n12, en.nxt n12, fun w' d3 G3 H3 ⟨k, e3, r⟩ n3 h3 => ?_⟩
      subst e3
      cases h3
      exact ⟨j, k, rfl, rfl, q _ _ G3 H3 r (n12.trans n3) (.bl _)⟩
    · rw [decide_eq_false hle]
      exact iteF (q _ _ G2 H2 (k2 hle) n12 (.bl _))⟩⟩
/-- what a Bool is -/
theorem r_b {c2 : Bool} (h : b = c2) (k : R (.bool b)) : R (.bool c2) := h ▸ k
/-- a constant of the module -/
theorem c_glob {x : Str} {v : V} {u : Value} (hm : X.mg x = some u) (r : RelV v u) (hv : ∀ G, Dz X.K G v d) (k : R d) (hg : Gl X x := by rfl) (hd : (x == ("__debug__" : Str)) = false := by decide) : XD X (.Name x pos) δ R := c_of (pd_glob hg hm r hv hd) k
theorem c_globI {x : Str} {i : Int} (hm : ∃ t, X.mg x = some (.int i t)) (k : R (.int i)) (hg : Gl X x := by rfl) (hd : (x == ("__debug__" : Str)) = false := by decide) : XD X (.Name x pos) δ R := by
  obtain ⟨t, hm⟩ := hm
  exact c_of (pd_glob (v := .int i) hg hm ⟨_, rfl⟩ (fun G => .int i) hd) k
end
end Dv

set_option linter.all false
set_option maxRecDepth 100000
set_option maxHeartbeats 2000000
namespace Dv
open PySem PySem.Spec PyProof.Rows L2 RZ
/-! ### what form a goal has -/
def isIntT : Dt → Bool
  | .int _ => true
  | .bool _ => true
  | _ => false
def isBoolT : Dt → Bool
  | .bool _ => true
  | _ => false
def isTupT : Dt → Bool
  | .tuple _ => true
  | _ => false
def isListT : Dt → Bool
  | .list _ => true
  | _ => false
def isStrT : Dt → Bool
  | .str _ => true
  | _ => false
section
variable {X : Cx} {rest : List Stmt} {a b c e : Expr} {es fs : List Expr} {δ : De} {o : Out} {pos p pos' pt : Pos} {x y z : Str} {R : Dt → Prop} {S : Bool → Prop} {A B : Prop}
theorem is_let (h : SsD X (.Assign [.Name x pos'] e pos :: rest) δ o) : SsD X (.Assign [.Name x pos'] e pos :: rest) δ o := h
theorem is_two {px py : Pos} {k k2 : Nat} {pt2 : Pos} (h : SsD X (.Assign [.Tuple [.Name x px, .Name y py] k pt] (.Tuple [a, b] k2 pt2) pos :: rest) δ o) : SsD X (.Assign [.Tuple [.Name x px, .Name y py] k pt] (.Tuple [a, b] k2 pt2) pos :: rest) δ o := h
theorem is_three {px py pz : Pos} {k k2 : Nat} {pt2 : Pos} (h : SsD X (.Assign [.Tuple [.Name x px, .Name y py, .Name z pz] k pt] (.Tuple [a, b, c] k2 pt2) pos :: rest) δ o) : SsD X (.Assign [.Tuple [.Name x px, .Name y py, .Name z pz] k pt] (.Tuple [a, b, c] k2 pt2) pos :: rest) δ o := h
theorem is_tgN {js : List Nat} {d : Dt} {δ1 : De} (h : TgD X (.Name x pos) js d δ δ1) : TgD X (.Name x pos) js d δ δ1 := h
theorem is_tgT {k : Nat} {js : List Nat} {d : Dt} {δ1 : De} (h : TgD X (.Tuple es k pos) js d δ δ1) : TgD X (.Tuple es k pos) js d δ δ1 := h
theorem is_exT {tg : Expr} {d : Dt} {P : De → Prop} (h : ∃ δ' js, TgD X tg js d δ δ' ∧ P δ') : ∃ δ' js, TgD X tg js d δ δ' ∧ P δ' := h
theorem is_var (h : XD X (.Name x pos) δ R) : XD X (.Name x pos) δ R := h
theorem is_callN {kws : List Keyword} (h : XD X (.Call (.Name x p) (e :: es) kws pos) δ R) : XD X (.Call (.Name x p) (e :: es) kws pos) δ R := h
theorem br_t (h : A) : (true = true → A) ∧ (true = false → B) := ⟨fun _ => h, fun z => Bool.noConfusion z⟩
theorem br_f (h : B) : (false = true → A) ∧ (false = false → B) := ⟨fun z => Bool.noConfusion z, fun _ => h⟩
theorem br_f' (h : B) : (false = false → B) ∧ (false = true → A) := ⟨fun _ => h, fun z => Bool.noConfusion z⟩
theorem br_t' (h : A) : (true = false → B) ∧ (true = true → A) := ⟨fun z => Bool.noConfusion z, fun _ => h⟩
theorem br_d {p : Prop} [Decidable p] (h1 : p → A) (h2 : ¬ p → B) : (decide p = true → A) ∧ (decide p = false → B) := ⟨fun z => h1 (of_decide_eq_true z), fun z => h2 (of_decide_eq_false z)⟩
theorem br_n {p : Prop} [Decidable p] (h1 : ¬ p → A) (h2 : p → B) : ((!decide p) = true → A) ∧ ((!decide p) = false → B) := ⟨fun z => h1 (by simpa using z), fun z => h2 (by simpa using z)⟩
theorem br_d' {p : Prop} [Decidable p] (h2 : ¬ p → B) (h1 : p → A) : (decide p = false → B) ∧ (decide p = true → A) := ⟨fun z => h2 (of_decide_eq_false z), fun z => h1 (of_decide_eq_true z)⟩
theorem br_n' {p : Prop} [Decidable p] (h2 : p → B) (h1 : ¬ p → A) : ((!decide p) = false → B) ∧ ((!decide p) = true → A) := ⟨fun z => h2 (by simpa using z), fun z => h1 (by simpa using z)⟩
/-- a test that is known -/
theorem br_is {p : Prop} [Decidable p] (hp : p) (h : A) : (decide p = true → A) ∧ (decide p = false → B) := ⟨fun _ => h, fun z => absurd hp (of_decide_eq_false z)⟩
theorem br_no {p : Prop} [Decidable p] (hp : ¬ p) (h : B) : (decide p = true → A) ∧ (decide p = false → B) := ⟨fun z => absurd (of_decide_eq_true z) hp, fun _ => h⟩
theorem br_nis {p : Prop} [Decidable p] (hp : p) (h : B) : ((!decide p) = true → A) ∧ ((!decide p) = false → B) := br_n (fun z => absurd hp z) fun _ => h
theorem br_nno {p : Prop} [Decidable p] (hp : ¬ p) (h : A) : ((!decide p) = true → A) ∧ ((!decide p) = false → B) := br_n (fun _ => h) fun z => absurd z hp
theorem free_mk {mg : Str → Option Value} (h1 : mg "isinstance" = none) (h2 : mg "int" = none) (h3 : mg "bool" = none) (h4 : mg "tuple" = none) (h5 : mg "list" = none) (h6 : mg "str" = none) (h7 : mg "len" = none) (h8 : mg "all" = none) (h9 : mg "any" = none) (h10 : mg "max" = none) (h11 : mg "min" = none) (h12 : mg "abs" = none) (h13 : mg "sorted" = none) (h14 : mg "repr" = none) (h15 : mg "range" = none) (h16 : mg "enumerate" = none) (h17 : mg "divmod" = none) (h18 : mg "set" = none) (h19 : mg "sum" = none) (h20 : mg "zip" = none) (h21 : mg "dict" = none) (h22 : mg "ValueError" = none) (h23 : mg "ArithmeticError" = none) (h24 : mg "LookupError" = none) : Free mg := fun x hx => by
  simp only [bnames, List.contains_cons, List.contains_nil, Bool.or_eq_true, Bool.or_false, beq_iff_eq] at hx
  rcases hx with e | e | e | e | e | e | e | e | e | e | e | e | e | e | e | e | e | e | e | e | e | e | e | e | e <;> subst e <;> assumption
theorem at0 {d : Dt} {ds : List Dt} : atI (d :: ds) 0 = some d := atI_nat (j := 0) rfl
theorem ss_n (h : o.nx δ) : SsD X [] δ o := ss_nil h
theorem nn_t (h : S true) : S (!false) := h
theorem nn_f (h : S false) : S (!true) := h
theorem c_isiI {p2 : Pos} (h : XD X e δ fun d => R (.bool (isIntT d))) (F : Free X.mg := by assumption) (hgT : Gl X "int" := by rfl) (hg : Gl X "isinstance" := by rfl) (hs1 : starEach [.Name "int" p2] X.env = [(false, eval (.Name "int" p2) X.env)] := by rfl) (hs : starEach [e, .Name "int" p2] X.env = (false, eval e X.env) :: starEach [.Name "int" p2] X.env := by rfl) : XD X (.Call (.Name "isinstance" p) [e, .Name "int" p2] [] pos) δ R :=
  c_isi "int" (h.mono fun d k => ⟨isIntT d, by cases d <;> (simp only [tyD, isIntT, isBoolT, isTupT, isListT, isStrT]; decide +kernel), k⟩) F (by decide +kernel) (by decide +kernel) hgT hg (hs1 := hs1) (hs := hs)
theorem c_isiB {p2 : Pos} (h : XD X e δ fun d => R (.bool (isBoolT d))) (F : Free X.mg := by assumption) (hgT : Gl X "bool" := by rfl) (hg : Gl X "isinstance" := by rfl) (hs1 : starEach [.Name "bool" p2] X.env = [(false, eval (.Name "bool" p2) X.env)] := by rfl) (hs : starEach [e, .Name "bool" p2] X.env = (false, eval e X.env) :: starEach [.Name "bool" p2] X.env := by rfl) : XD X (.Call (.Name "isinstance" p) [e, .Name "bool" p2] [] pos) δ R :=
  c_isi "bool" (h.mono fun d k => ⟨isBoolT d, by cases d <;> (simp only [tyD, isIntT, isBoolT, isTupT, isListT, isStrT]; decide +kernel), k⟩) F (by decide +kernel) (by decide +kernel) hgT hg (hs1 := hs1) (hs := hs)
theorem c_isiT {p2 : Pos} (h : XD X e δ fun d => R (.bool (isTupT d))) (F : Free X.mg := by assumption) (hgT : Gl X "tuple" := by rfl) (hg : Gl X "isinstance" := by rfl) (hs1 : starEach [.Name "tuple" p2] X.env = [(false, eval (.Name "tuple" p2) X.env)] := by rfl) (hs : starEach [e, .Name "tuple" p2] X.env = (false, eval e X.env) :: starEach [.Name "tuple" p2] X.env := by rfl) : XD X (.Call (.Name "isinstance" p) [e, .Name "tuple" p2] [] pos) δ R :=
  c_isi "tuple" (h.mono fun d k => ⟨isTupT d, by cases d <;> (simp only [tyD, isIntT, isBoolT, isTupT, isListT, isStrT]; decide +kernel), k⟩) F (by decide +kernel) (by decide +kernel) hgT hg (hs1 := hs1) (hs := hs)
theorem c_isiL {p2 : Pos} (h : XD X e δ fun d => R (.bool (isListT d))) (F : Free X.mg := by assumption) (hgT : Gl X "list" := by rfl) (hg : Gl X "isinstance" := by rfl) (hs1 : starEach [.Name "list" p2] X.env = [(false, eval (.Name "list" p2) X.env)] := by rfl) (hs : starEach [e, .Name "list" p2] X.env = (false, eval e X.env) :: starEach [.Name "list" p2] X.env := by rfl) : XD X (.Call (.Name "isinstance" p) [e, .Name "list" p2] [] pos) δ R :=
  c_isi "list" (h.mono fun d k => ⟨isListT d, by cases d <;> (simp only [tyD, isIntT, isBoolT, isTupT, isListT, isStrT]; decide +kernel), k⟩) F (by decide +kernel) (by decide +kernel) hgT hg (hs1 := hs1) (hs := hs)
theorem c_isiS {p2 : Pos} (h : XD X e δ fun d => R (.bool (isStrT d))) (F : Free X.mg := by assumption) (hgT : Gl X "str" := by rfl) (hg : Gl X "isinstance" := by rfl) (hs1 : starEach [.Name "str" p2] X.env = [(false, eval (.Name "str" p2) X.env)] := by rfl) (hs : starEach [e, .Name "str" p2] X.env = (false, eval e X.env) :: starEach [.Name "str" p2] X.env := by rfl) : XD X (.Call (.Name "isinstance" p) [e, .Name "str" p2] [] pos) δ R :=
  c_isi "str" (h.mono fun d k => ⟨isStrT d, by cases d <;> (simp only [tyD, isIntT, isBoolT, isTupT, isListT, isStrT]; decide +kernel), k⟩) F (by decide +kernel) (by decide +kernel) hgT hg (hs1 := hs1) (hs := hs)
theorem c_isiLT {p2 p3 p4 : Pos} {k : Nat} (h : XD X e δ fun d => R (.bool (isListT d || isTupT d))) (F : Free X.mg := by assumption) (hgT : Gl X "list" := by rfl) (hgU : Gl X "tuple" := by rfl) (hg : Gl X "isinstance" := by rfl)
    (hs1 : starEach [.Tuple [.Name "list" p2, .Name "tuple" p3] k p4] X.env = [(false, eval (.Tuple [.Name "list" p2, .Name "tuple" p3] k p4) X.env)] := by rfl) (hs : starEach [e, .Tuple [.Name "list" p2, .Name "tuple" p3] k p4] X.env = (false, eval e X.env) :: starEach [.Tuple [.Name "list" p2, .Name "tuple" p3] k p4] X.env := by rfl) (ht2 : starEach [.Name "tuple" p3] X.env = [(false, eval (.Name "tuple" p3) X.env)] := by rfl) (ht : starEach [.Name "list" p2, .Name "tuple" p3] X.env = (false, eval (.Name "list" p2) X.env) :: starEach [.Name "tuple" p3] X.env := by rfl) :
    XD X (.Call (.Name "isinstance" p) [e, .Tuple [.Name "list" p2, .Name "tuple" p3] k p4] [] pos) δ R :=
  c_isi2 "list" "tuple" (h.mono fun d k => ⟨isListT d, isTupT d, by cases d <;> (simp only [tyD, isIntT, isBoolT, isTupT, isListT, isStrT]; decide +kernel), by cases d <;> (simp only [tyD, isIntT, isBoolT, isTupT, isListT, isStrT]; decide +kernel), k⟩) F (by decide +kernel) (by decide +kernel) (by decide +kernel) (by decide +kernel) hgT hgU hg (hs1 := hs1) (hs := hs) (ht2 := ht2) (ht := ht)
end
end Dv

set_option linter.all false
set_option maxRecDepth 100000
set_option maxHeartbeats 2000000
namespace Dv
open PySem PySem.Spec PyProof.Rows L2 RZ
section
variable {X : Cx} {elt tg iter e : Expr} {scope : Scope} {pos p : Pos} {δ : De} {R : Dt → Prop} {c : Bool} {A B : Prop}
theorem br_by (hc : c = true) (h : A) : (c = true → A) ∧ (c = false → B) := ⟨fun _ => h, fun z => by rw [hc] at z; cases z⟩
theorem br_byf (hc : c = false) (h : B) : (c = true → A) ∧ (c = false → B) := ⟨fun z => (by rw [hc] at z; cases z), fun _ => h⟩
theorem br_by' (hc : c = true) (h : A) : (c = false → B) ∧ (c = true → A) := ⟨fun z => (by rw [hc] at z; cases z), fun _ => h⟩
theorem br_byf' (hc : c = false) (h : B) : (c = false → B) ∧ (c = true → A) := ⟨fun _ => h, fun z => by rw [hc] at z; cases z⟩
theorem br_nby (hc : c = true) (h : B) : ((!c) = true → A) ∧ ((!c) = false → B) := br_byf (by rw [hc]; rfl) h
theorem br_nbyf (hc : c = false) (h : A) : ((!c) = true → A) ∧ ((!c) = false → B) := br_by (by rw [hc]; rfl) h
/-- a comprehension of known data -/
theorem c_comp {α : Type} (own : List (Str × Nat)) (ok : BlkOk X.N X.env.scope scope own) (hi : XI X tg iter δ fun ds => ∃ (xs : List α) (enc F : α → Dt), ds = xs.map enc ∧ xs.length ≤ 100000 ∧
      (∀ (i : Nat) x, xs[i]? = some x → ∃ δ2, (∀ s H C cl fp, TgD (bX X scope s H C cl fp) tg (own.map (·.2)) (enc x) (wipeD δ (own.map (·.2))) δ2) ∧ ∀ s H C cl fp, XD (bX X scope s H C cl fp) elt δ2 fun y => y = F x) ∧ R (.list (xs.map F))) (hN : X.N.Nodup := by assumption) (hc : X.calm = true := by rfl) (hs : ∀ x, foldedSetIterable iter X.env x = pure x := by intro _; rfl) : XD X (.ListComp elt [⟨tg, iter, [], 0⟩] scope pos) δ R := c_o ((lco_fun own ok hi).xo hN hc hs)
/-- drawn elements: each by Rel -/
theorem c_compR (own : List (Str × Nat)) (ok : BlkOk X.N X.env.scope scope own) (hi : XI X tg iter δ fun ds => ds.length ≤ 100000 ∧ ∃ Rel : Nat → Dt → Dt → Prop,
      (∀ (i : Nat) d, ds[i]? = some d → ∃ δ2, (∀ s H C cl fp, TgD (bX X scope s H C cl fp) tg (own.map (·.2)) d (wipeD δ (own.map (·.2))) δ2) ∧ ∀ s H C cl fp, XD (bX X scope s H C cl fp) elt δ2 (Rel i d)) ∧
      ∀ out, out.length = ds.length → (∀ (i : Nat) d y, ds[i]? = some d → out[i]? = some y → Rel i d y) → R (.list out)) (hN : X.N.Nodup := by assumption) (hc : X.calm = true := by rfl) (hs : ∀ x, foldedSetIterable iter X.env x = pure x := by intro _; rfl) : XD X (.ListComp elt [⟨tg, iter, [], 0⟩] scope pos) δ R := c_o ((lco_map own ok hi).xo hN hc hs)
theorem c_filter {α : Type} {test : Expr} (own : List (Str × Nat)) (ok : BlkOk X.N X.env.scope scope own) (hi : XI X tg iter δ fun ds => ∃ (xs : List α) (enc F : α → Dt) (c : α → Bool), ds = xs.map enc ∧ xs.length ≤ 100000 ∧
      (∀ (i : Nat) x, xs[i]? = some x → ∃ δ2, (∀ s H C cl fp, TgD (bX X scope s H C cl fp) tg (own.map (·.2)) (enc x) (wipeD δ (own.map (·.2))) δ2) ∧ (∀ s H C cl fp, XT (bX X scope s H C cl fp) test δ2 fun b => b = c x) ∧ (c x = true → ∀ s H C cl fp, XD (bX X scope s H C cl fp) elt δ2 fun y => y = F x)) ∧ R (.list ((xs.filter c).map F))) (hN : X.N.Nodup := by assumption) (hc : X.calm = true := by rfl) (hs : ∀ x, foldedSetIterable iter X.env x = pure x := by intro _; rfl) : XD X (.ListComp elt [⟨tg, iter, [test], 0⟩] scope pos) δ R := c_o ((lco_filter own ok hi).xo hN hc hs)
/-- all([..]), each one true -/
theorem c_allOk {p2 : Pos} (own : List (Str × Nat)) (ok : BlkOk X.N X.env.scope scope own) (hi : XI X tg iter δ fun ds => ds.length ≤ 100000 ∧
      (∀ (i : Nat) d, ds[i]? = some d → ∃ δ2, (∀ s H C cl fp, TgD (bX X scope s H C cl fp) tg (own.map (·.2)) d (wipeD δ (own.map (·.2))) δ2) ∧ ∀ s H C cl fp, XD (bX X scope s H C cl fp) elt δ2 fun y => y = .bool true) ∧ R (.bool true)) (hN : X.N.Nodup := by assumption) (F : Free X.mg := by assumption) (hg : Gl X "all" := by rfl) (hc : X.calm = true := by rfl) (hs : ∀ x, foldedSetIterable iter X.env x = pure x := by intro _; rfl)
    (h1 : starEach [.ListComp elt [⟨tg, iter, [], 0⟩] scope pos] X.env = (false, eval (.ListComp elt [⟨tg, iter, [], 0⟩] scope pos) X.env) :: starEach [] X.env := by rfl) (h2 : starEach [.ListComp elt [⟨tg, iter, [], 0⟩] scope pos] X.env = [.ListComp elt [⟨tg, iter, [], 0⟩] scope pos].map fun e => (false, eval e X.env) := by rfl) : XD X (.Call (.Name "all" p) [.ListComp elt [⟨tg, iter, [], 0⟩] scope pos] [] p2) δ R :=
  c_all (c_compR own ok (PI.imp hi fun σ H Q ⟨p, B, G, i3, en, q⟩ => ⟨p, B, G, i3, en, fun J ds G' H' ⟨hl, turn, fin⟩ => q J ds G' H' ⟨hl, fun _ _ y => y = .bool true, turn, fun out e k => f_allT (fun d hd => by
    obtain ⟨i, hi, rfl⟩ := List.getElem_of_mem hd
    exact k i (ds[i]'(by omega)) _ (List.getElem?_eq_getElem _) (List.getElem?_eq_getElem hi)) fin hc⟩⟩) hN hc hs) F hg h1 h2
/-- all([..]), each one known -/
theorem c_allF {α : Type} {p2 : Pos} (own : List (Str × Nat)) (ok : BlkOk X.N X.env.scope scope own) (hi : XI X tg iter δ fun ds => ∃ (xs : List α) (enc : α → Dt) (F : α → Bool), ds = xs.map enc ∧ xs.length ≤ 100000 ∧
      (∀ (i : Nat) x, xs[i]? = some x → ∃ δ2, (∀ s H C cl fp, TgD (bX X scope s H C cl fp) tg (own.map (·.2)) (enc x) (wipeD δ (own.map (·.2))) δ2) ∧ ∀ s H C cl fp, XD (bX X scope s H C cl fp) elt δ2 fun y => y = .bool (F x)) ∧ R (.bool (xs.all F))) (hN : X.N.Nodup := by assumption) (F : Free X.mg := by assumption) (hg : Gl X "all" := by rfl) (hc : X.calm = true := by rfl) (hs : ∀ x, foldedSetIterable iter X.env x = pure x := by intro _; rfl)
    (h1 : starEach [.ListComp elt [⟨tg, iter, [], 0⟩] scope pos] X.env = (false, eval (.ListComp elt [⟨tg, iter, [], 0⟩] scope pos) X.env) :: starEach [] X.env := by rfl) (h2 : starEach [.ListComp elt [⟨tg, iter, [], 0⟩] scope pos] X.env = [.ListComp elt [⟨tg, iter, [], 0⟩] scope pos].map fun e => (false, eval e X.env) := by rfl) : XD X (.Call (.Name "all" p) [.ListComp elt [⟨tg, iter, [], 0⟩] scope pos] [] p2) δ R :=
  c_all (c_comp (α := α) own ok (PI.imp hi fun σ H Q ⟨p, B, G, i3, en, q⟩ => ⟨p, B, G, i3, en, fun J ds G' H' ⟨xs, enc, F, e, hl, turn, fin⟩ => q J ds G' H' ⟨xs, enc, fun x => .bool (F x), e, hl, turn, by
    have e : xs.map (fun x => PyData.bool (F x)) = (xs.map F).map PyData.bool := by rw [List.map_map]; rfl
    rw [e]
    refine f_all ?_ hc
    rw [List.all_map]; exact fin⟩⟩) hN hc hs) F hg h1 h2
theorem i_enumB {elts : List Expr} {kk : Nat} {tpos : Pos} {v : Dt} {ds : List Dt} {S : List Dt → Prop} {p2 : Pos} (hv : v = .list ds ∨ v = .tuple ds) (h : PD X e δ v) (k : S (enD ds)) (F : Free X.mg := by assumption) (hg : Gl X "enumerate" := by rfl) (h1 : starEach [e] X.env = (false, eval e X.env) :: starEach [] X.env := by rfl) (h2 : starEach [e] X.env = [e].map fun e => (false, eval e X.env) := by rfl) : XI X (.Tuple elts kk tpos) (.Call (.Name "enumerate" p) [e] [] p2) δ S := by
  rcases hv with e1 | e1
  · exact i_enumL (h.mono fun d e2 => ⟨ds, by rw [e2, e1], k⟩) F hg h1 h2
  · exact i_enumTup (h.mono fun d e2 => ⟨ds, by rw [e2, e1], k⟩) F hg h1 h2
theorem enD_at {ds : List Dt} {i : Nat} {d : Dt} (h : (enD ds)[i]? = some d) : ∃ x, ds[i]? = some x ∧ d = .tuple [.int ((i : Nat) : Int), x] := by
  have hi : i < ds.length := by
    have := (List.getElem?_eq_some_iff.mp h).1
    rw [enD_length] at this
    exact this
  rw [enD_get (List.getElem?_eq_getElem hi)] at h
  cases h
  exact ⟨_, List.getElem?_eq_getElem hi, rfl⟩
theorem map_get {α : Type} {xs : List α} {F : α → Dt} {i : Nat} {d : Dt} (h : (xs.map F)[i]? = some d) : ∃ x, xs[i]? = some x ∧ d = F x := by
  rw [List.getElem?_map] at h
  cases e : xs[i]? with
  | none => rw [e] at h; cases h
  | some x => rw [e] at h; cases h; exact ⟨x, rfl, rfl⟩
theorem rngD_at {lo : Int} {n i : Nat} {d : Dt} (h : (rngD lo n)[i]? = some d) : i < n ∧ d = .int (lo + (i : Nat)) := by
  have hi : i < n := by
    have := (List.getElem?_eq_some_iff.mp h).1
    rw [rngD_length] at this
    exact this
  rw [rngD_get hi] at h
  exact ⟨hi, (Option.some.inj h).symm⟩
theorem c_chainT {a b c : Expr} {S : Bool → Prop} (h : XD X a δ fun x => XD X b δ fun y => ∃ i j : Int, x = .int i ∧ y = .int j ∧ (i ≤ j → XD X c δ fun z => ∃ k : Int, z = .int k ∧ S (decide (j ≤ k))) ∧ (¬ i ≤ j → S false)) (hlm : lastMarks [CmpOp.LtE, CmpOp.LtE] [b, c] = false := by rfl) : XT X (.Compare a [.LtE, .LtE] [b, c] pos) δ S :=
  PT.imp (pt_chain op_le op_le h (pe_later (δ := δ)) (pe_later (δ := δ)) (hm := hlm)) fun σ H Q ⟨p, B, G, i3, en, q⟩ => ⟨p, B, G, i3, en, fun v d G1 H1 r1 n1 h1 => ⟨_, r1, p, B, G1, i3.nxt n1, en.nxt n1, fun w d2 G2 H2 ⟨i, j, e1, e2, k1, k2⟩ n2 h2 => by
    subst e1; subst e2
    cases h1; cases h2
    refine ⟨i, j, rfl, rfl, _, rfl, ?_⟩
    have n12 := n1.trans n2
    by_cases hle : i ≤ j
    · rw [decide_eq_true hle]
      refine iteT ⟨_, k1 hle, p, B, G2, i3.nxt n12, en.nxt n12, fun w' d3 G3 H3 ⟨k, e3, r⟩ n3 h3 => ?_⟩
      subst e3
      cases h3
      exact ⟨j, k, rfl, rfl, _, rfl, q _ G3 H3 r (n12.trans n3)⟩
    · rw [decide_eq_false hle]
      exact iteF ⟨_, rfl, q _ G2 H2 (k2 hle) n12⟩⟩⟩
theorem c_dict0 (k : R (.dict [])) : XD X (.Dict [] [] pos) δ R := PE.imp pe_dnewK fun σ H Q ⟨p, B, G, i3, en, q⟩ => fun a ha => q (.ref a) _ _ _ k (.new i3 _ ha) (.dct (.inl upd_same))
end
end Dv

set_option linter.all false
set_option maxRecDepth 100000
set_option maxHeartbeats 2000000
namespace Dv
open PySem PySem.Spec PyProof.Rows L2 RZ
/-! ### comprehensions of two clauses -/
def En.plain : En → Bool
  | .own _ => false
  | .own2 _ _ => false
  | _ => true
theorem EnvD.flatEnv {K : Fg} {p : Option Addr} {B G H G' H' : Hp} {σ : L2.St} {δ : De} (h : EnvD K p B G H σ δ) (hp : δ.all En.plain = true) (e : Ex G G') (hr : ∀ a lo hi, p ≠ some a → H a = some (.rng lo hi) → H' a = some (.rng lo hi)) : EnvD K p B G' H' σ δ := by
  have pl : ∀ (i : Nat) en, δ[i]? = some en → en.plain = true := fun i en q => List.all_eq_true.mp hp en (List.mem_of_getElem? q)
  refine ⟨h.len, fun i en q => ?_, fun i j e1 f oi oj a hij q1 _ _ _ f1 _ => ?_⟩
  · obtain ⟨o, a, b⟩ := h.slot i en q
    refine ⟨o, a, ?_⟩
    cases en with
    | no => trivial
    | d x => obtain ⟨v, e1, e2⟩ := b; exact ⟨v, e1, dp_ex e _ _ e2⟩
    | pot => exact b
    | rng lo hi => obtain ⟨a, c1, c2, c3⟩ := b; exact ⟨a, c1, c2, hr a lo hi c2 c3⟩
    | own ds => exact absurd (pl i _ q) (by simp [En.plain])
    | own2 as dss => exact absurd (pl i _ q) (by simp [En.plain])
  · have := pl i e1 q1
    cases e1 with
    | no => exact foot_no f1
    | d x => exact foot_d f1
    | pot => exact foot_pot f1
    | rng lo hi => rcases f1 with ⟨z, _⟩ | z <;> cases z
    | own ds => simp [En.plain] at this
    | own2 as dss => simp [En.plain] at this
structure Turn2 (X : Cx) (elt tg1 : Expr) (scope : Scope) (δ2 δ3 : De) (vs1 : List Nat) (d : Dt) (Y : Dt → Prop) : Prop where
  g : ∀ s H C cl fp, TgD (bX X scope s H C cl fp) tg1 vs1 d (wipeD δ2 vs1) δ3
  e : ∀ s H C cl fp, XD (bX X scope s H C cl fp) elt δ3 Y
theorem yesT {σ : L2.St} {H : Hp} {A B : Hp → Prop} (h : A H) : tYes σ H (fun b H3 => if b = true then A H3 else B H3) := by
  show (if true = true then A H else B H)
  rw [if_pos rfl]; exact h
section
variable {X : Cx} {elt tg iter tg1 iter1 : Expr} {scope : Scope} {own : List (Str × Nat)} {pos : Pos} {δ : De} {R : List Dt → Prop}
theorem xo_comp2 (own : List (Str × Nat)) (vs1 : List Nat) (ok : BlkOk X.N X.env.scope scope own) (hi : XI X tg iter δ fun ds => ds.length ≤ 100000 ∧ ∃ Iv : Nat → List Dt → Prop, Iv 0 [] ∧
      (∀ (i : Nat) d out, ds[i]? = some d → Iv i out → ∃ δ2 es, (∀ s H C cl fp, TgD (bX X scope s H C cl fp) tg (own.map (·.2)) d (wipeD δ (own.map (·.2))) δ2) ∧ δ2.all En.plain = true ∧ (∀ s H C cl fp, XI (bX X scope s H C cl fp) tg1 iter1 δ2 fun x => x = es) ∧
        ∃ Jv : Nat → List Dt → Prop, Jv 0 out ∧ (∀ (j : Nat) d1 out1, es[j]? = some d1 → Jv j out1 → out1.length < 100000 ∧ ∃ δ3, Turn2 X elt tg1 scope δ2 δ3 vs1 d1 fun y => Jv (j + 1) (out1 ++ [y])) ∧ ∀ out1, Jv es.length out1 → Iv (i + 1) out1) ∧ ∀ out, Iv ds.length out → R out)
    (hN : X.N.Nodup := by assumption) (hv : ∀ i ∈ vs1, i ∈ own.map (·.2) := by decide) (hc : X.calm = true := by rfl) (hs : ∀ x, foldedSetIterable iter X.env x = pure x := by intro _; rfl) (hs1 : ∀ env x, foldedSetIterable iter1 env x = pure x := by intro _ _; rfl) : XO X (.ListComp elt [⟨tg, iter, [], 0⟩, ⟨tg1, iter1, [], 0⟩] scope pos) δ R := by
  have pg : ∀ s H C cl fp, PG (bX X scope s H C cl fp) tg (fun v σ H Q => ∃ d δ2, (∀ s H C cl fp, TgD (bX X scope s H C cl fp) tg (own.map (·.2)) d (wipeD δ (own.map (·.2))) δ2) ∧ rG X.K (own.map (·.2)) d (wipeD δ (own.map (·.2))) δ2 v σ H Q) := fun s H C cl fp =>
    ⟨fun pins s1 σ H1 v u Q I r ⟨d, δ2, t, q⟩ => PG.run (t s H C cl fp) pins s1 σ H1 v u Q I r q⟩
  have pi1 : ∀ s H C cl fp, PI (bX X scope s H C cl fp) tg1 iter1 (fun σ H Q => ∃ δ2 es, (∀ s H C cl fp, XI (bX X scope s H C cl fp) tg1 iter1 δ2 fun x => x = es) ∧ rI X.K δ2 (fun x => x = es) σ H Q) := fun s H C cl fp =>
    ⟨fun pins s1 σ H1 Q I ⟨δ2, es, t, q⟩ => PI.run (t s H C cl fp) pins s1 σ H1 Q I q⟩
  have pg1 : ∀ s H C cl fp, PG (bX X scope s H C cl fp) tg1 (fun v σ H Q => ∃ d δ2 δ3 Y, Turn2 X elt tg1 scope δ2 δ3 vs1 d Y ∧ rG X.K vs1 d (wipeD δ2 vs1) δ3 v σ H Q) := fun s H C cl fp =>
    ⟨fun pins s1 σ H1 v u Q I r ⟨d, δ2, δ3, Y, t, q⟩ => PG.run (t.g s H C cl fp) pins s1 σ H1 v u Q I r q⟩
  have pe : ∀ s H C cl fp, PE (bX X scope s H C cl fp) elt (fun σ H Q => ∃ d δ2 δ3 Y, Turn2 X elt tg1 scope δ2 δ3 vs1 d Y ∧ rX X.K δ3 Y σ H Q) := fun s H C cl fp =>
    ⟨fun pins s1 σ H1 Q I ⟨d, δ2, δ3, Y, t, q⟩ => PE.run (t.e s H C cl fp) pins s1 σ H1 Q I q⟩
  refine PE.imp (pe_lc2 hc hN hi ok hv pg (fun s H C cl fp => pts_nil) pi1 pg1 (fun s H C cl fp => pts_nil) pe hs hs1) fun σ H Q ⟨p, B, G, i3, en, q⟩ => ⟨p, B, G, i3, en, fun J ds G1 H1 ⟨hS, Iv, h0, turn, hR⟩ n yl Dl hD => ?_⟩
  have i31 := i3.nxt n
  have en1 := en.nxt n
  have gD : G1 Dl = none := i31.gh.free hD
  have pD : p ≠ some Dl := pot_ne i31 hD
  refine ⟨fun i m H' => m = ds.length - i ∧ i ≤ ds.length ∧ ∃ G' acc os, Nxt p G1 H1 G' H' ∧ G' Dl = none ∧ H' Dl = some (.lst acc) ∧ DzAll X.K G' acc os ∧ Iv i os, ⟨_, rfl, Nat.zero_le _, G1, [], [], .newH i31 _ hD, gD, upd_same, .nil, h0⟩, ?_⟩
  rintro i m H' ⟨em, hle, G', acc, os, n', gd, hd, ha, iv⟩
  have i3' := i31.nxt n'
  by_cases hlt : i < ds.length
  · obtain ⟨go, yd⟩ := (yl p B G' H' n'.st.1 i3' i).1 hlt
    refine .inr ⟨go, fun H'' => ∃ G' acc os, Nxt p G1 H1 G' H'' ∧ G' Dl = none ∧ H'' Dl = some (.lst acc) ∧ DzAll X.K G' acc os ∧ Iv (i + 1) os, fun H'' k => ⟨_, by omega, rfl, by omega, k⟩, fun x H2 hy => ?_⟩
    obtain ⟨G2, d, e2, n2, hx⟩ := yd x H2 hy
    have n12 := n'.trans n2
    obtain ⟨δ2, es, tg2, hpl, src, Jv, j0, turn1, fin1⟩ := turn i d os e2 iv
    have gd2 : G2 Dl = none := n2.st.2 Dl (nn hd) gd
    have hd2 : H2 Dl = some (.lst acc) := n2.ex Dl _ (by rw [del_ne pD]; exact hd)
    refine ⟨d, δ2, tg2, p, B, G2, i31.nxt n12, (en1.nxt n12).wipes _, hx, fun σ2 en2 ⟨ks', ks⟩ => ⟨?_, ?_⟩⟩
    · refine wipe_same ?_ ks
      rw [ks', wipe_length]
    · refine yesT ?_
      refine ⟨δ2, es, src, p, B, G2, i31.nxt n12, en2, fun J1 es' G3 H3 ees n3 yl1 => ?_⟩
      subst ees
      have n13 := n12.trans n3
      have gd3 : G3 Dl = none := n3.st.2 Dl (nn hd2) gd2
      have hd3 : H3 Dl = some (.lst acc) := n3.ex Dl _ (by rw [del_ne pD]; exact hd2)
      have ha3 := dpAll_ex (n2.st.1.trans n3.st.1) _ _ ha
      have en3 := en2.nxt n3
      refine ⟨fun j m H' => m = es'.length - j ∧ j ≤ es'.length ∧ ∃ G' acc os, Nxt p G1 H1 G' H' ∧ Ex G3 G' ∧ (∀ a o, a ≠ Dl → p ≠ some a → H3 a = some o → H' a = some o) ∧ G' Dl = none ∧ H' Dl = some (.lst acc) ∧ DzAll X.K G' acc os ∧ Jv j os, ⟨_, rfl, Nat.zero_le _, G3, acc, os, n13, Ex.refl _, (fun a o _ _ h => h), gd3, hd3, ha3, j0⟩, ?_⟩
      rintro j k H4 ⟨ek, hj, G4, acc4, os4, n14, m4, k4, gd4, hd4, ha4, jv⟩
      have i34 := i31.nxt n14
      by_cases hlt1 : j < es'.length
      · obtain ⟨go1, yd1⟩ := (yl1 p B G4 H4 m4 i34 j).1 hlt1
        refine .inr ⟨go1, fun H'' => ∃ G' acc os, Nxt p G1 H1 G' H'' ∧ Ex G3 G' ∧ (∀ a o, a ≠ Dl → p ≠ some a → H3 a = some o → H'' a = some o) ∧ G' Dl = none ∧ H'' Dl = some (.lst acc) ∧ DzAll X.K G' acc os ∧ Jv (j + 1) os, fun H'' k => ⟨_, by omega, rfl, by omega, k⟩, fun x5 H5 hy5 => ?_⟩
        obtain ⟨G5, d1, e5, n5, hx5⟩ := yd1 x5 H5 hy5
        obtain ⟨small, δ3, t3⟩ := turn1 j d1 os4 e5 jv
        have n15 := n14.trans n5
        have m5 := m4.trans n5.st.1
        have k5 : ∀ a o, a ≠ Dl → p ≠ some a → H3 a = some o → H5 a = some o := fun a o h1 h2 h3 => n5.ex a o (by rw [del_ne h2]; exact k4 a o h1 h2 h3)
        have gd5 : G5 Dl = none := n5.st.2 Dl (nn hd4) gd4
        have hd5 : H5 Dl = some (.lst acc4) := n5.ex Dl _ (by rw [del_ne pD]; exact hd4)
        have ha5 := dpAll_ex n5.st.1 _ _ ha4
        refine ⟨d1, δ2, δ3, _, t3, p, B, G5, i31.nxt n15, (en3.flatEnv hpl m5 fun a lo hi hpa ha => k5 a _ (fun z => by subst z; rw [hd3] at ha; cases ha) hpa ha).wipes _, hx5, fun σ3 en6 ⟨ls', ls⟩ => ⟨?_, ?_⟩⟩
        · refine wipe_same ?_ ls
          rw [ls', wipe_length]
        · refine yesT ?_
          refine ⟨d1, δ2, δ3, _, t3, p, B, G5, i31.nxt n15, en6, fun y dy G6 H6 ry n6 hy6 => ?_⟩
          have gd6 : G6 Dl = none := n6.st.2 Dl (nn hd5) gd5
          have hd6 : H6 Dl = some (.lst acc4) := n6.ex Dl _ (by rw [del_ne pD]; exact hd5)
          have ha6 := dpAll_ex n6.st.1 _ _ ha5
          have n16 := n15.trans n6
          have m6 := m5.trans n6.st.1
          have put : ∀ {G0 H0 : Hp}, Nxt p G0 H0 G6 H6 → (∀ a o, del p H0 a = some o → a ≠ Dl) → Nxt p G0 H0 G6 (upd H6 Dl (.lst (acc4 ++ [y]))) := fun {G0 H0} nn0 hne => ⟨nn0.st, fun a o h => by
            rw [upd_ne (hne a o h)]; exact nn0.ex a o h, nn0.gh.mut gd6, fun z hz => by
            have : z ≠ Dl := fun w => pD (by rw [hz, w])
            rw [upd_ne this]; exact nn0.pot z hz⟩
          refine ⟨acc4, hd6, ?_, G6, acc4 ++ [y], os4 ++ [dy], put n16 (fun a o h => ne_of_none (del_le h).1 hD), m6, (fun a o h1 h2 h3 => by rw [upd_ne h1]; exact n6.ex a o (by rw [del_ne h2]; exact k5 a o h1 h2 h3)), gd6, upd_same, dpAll_append ha6 (.cons hy6 .nil), ry⟩
          · rw [dpAll_length ha6]
            exact Nat.lt_of_lt_of_le small (by decide)
      · have e : j = es'.length := by omega
        subst e
        exact .inl ⟨(yl1 p B G4 H4 m4 i34 _).2 rfl, G4, acc4, os4, n14, gd4, hd4, ha4, fin1 os4 jv⟩
  · have e : i = ds.length := by omega
    subst e
    exact .inl ⟨(yl p B G' H' n'.st.1 i3' _).2 rfl, q Dl acc os G' H' (hR os iv) (n.trans n') (back_none n hD) gd pD hd ha⟩
end
section
variable {X : Cx} {elt tg iter tg1 iter1 : Expr} {scope : Scope} {own : List (Str × Nat)} {pos p : Pos} {δ : De} {R : Dt → Prop}
theorem c_allOk2 {p2 : Pos} (own : List (Str × Nat)) (vs1 : List Nat) (ok : BlkOk X.N X.env.scope scope own) (hi : XI X tg iter δ fun ds => ds.length ≤ 200 ∧
      (∀ (i : Nat) d, ds[i]? = some d → ∃ δ2 es, (∀ s H C cl fp, TgD (bX X scope s H C cl fp) tg (own.map (·.2)) d (wipeD δ (own.map (·.2))) δ2) ∧ δ2.all En.plain = true ∧ (∀ s H C cl fp, XI (bX X scope s H C cl fp) tg1 iter1 δ2 fun x => x = es) ∧ es.length ≤ 200 ∧
        ∀ (j : Nat) d1, es[j]? = some d1 → ∃ δ3, Turn2 X elt tg1 scope δ2 δ3 vs1 d1 fun y => y = .bool true) ∧ R (.bool true))
    (hN : X.N.Nodup := by assumption) (F : Free X.mg := by assumption) (hv : ∀ i ∈ vs1, i ∈ own.map (·.2) := by decide) (hg : Gl X "all" := by rfl) (hc : X.calm = true := by rfl) (hs : ∀ x, foldedSetIterable iter X.env x = pure x := by intro _; rfl) (hs1 : ∀ env x, foldedSetIterable iter1 env x = pure x := by intro _ _; rfl)
    (h1 : starEach [.ListComp elt [⟨tg, iter, [], 0⟩, ⟨tg1, iter1, [], 0⟩] scope pos] X.env = (false, eval (.ListComp elt [⟨tg, iter, [], 0⟩, ⟨tg1, iter1, [], 0⟩] scope pos) X.env) :: starEach [] X.env := by rfl) (h2 : starEach [.ListComp elt [⟨tg, iter, [], 0⟩, ⟨tg1, iter1, [], 0⟩] scope pos] X.env = [.ListComp elt [⟨tg, iter, [], 0⟩, ⟨tg1, iter1, [], 0⟩] scope pos].map fun e => (false, eval e X.env) := by rfl) :
    XD X (.Call (.Name "all" p) [.ListComp elt [⟨tg, iter, [], 0⟩, ⟨tg1, iter1, [], 0⟩] scope pos] [] p2) δ R :=
  c_all (c_o (xo_comp2 own vs1 ok (PI.imp hi fun σ H Q ⟨p, B, G, i3, en, q⟩ => ⟨p, B, G, i3, en, fun J ds G' H' ⟨hl, turn, fin⟩ => q J ds G' H' ⟨by omega, fun i out => out.length ≤ 200 * i ∧ ∀ d ∈ out, d = .bool true, ⟨by simp, by simp⟩, fun i d out hd iv => by
    obtain ⟨δ2, es, t1, t2, t3, t4, t5⟩ := turn i d hd
    have hi : i < ds.length := (List.getElem?_eq_some_iff.mp hd).1
    refine ⟨δ2, es, t1, t2, t3, fun j out => out.length ≤ 200 * i + j ∧ ∀ d ∈ out, d = .bool true, ⟨by omega, iv.2⟩, fun j d1 out1 hd1 jv => ?_, fun out1 jv => ⟨by omega, jv.2⟩⟩
    have hj : j < es.length := (List.getElem?_eq_some_iff.mp hd1).1
    obtain ⟨δ3, u⟩ := t5 j d1 hd1
    exact ⟨by omega, δ3, u.g, fun s H C cl fp => (u.e s H C cl fp).mono fun y hy => ⟨by rw [List.length_append, List.length_singleton]; omega, fun d hd => by
      rcases List.mem_append.mp hd with h | h
      · exact jv.2 d h
      · rw [List.mem_singleton.mp h]; exact hy⟩⟩, fun out iv => f_allT iv.2 fin hc⟩⟩) hN hv hc hs hs1)) F hg h1 h2
end
theorem g_sub {X : Cx} {tg : Expr} {js ks : List Nat} {d : Dt} {δ δ1 : De} (h : TgD X tg js d δ δ1) (hs : js.all (fun i => ks.contains i) = true) : TgD X tg ks d δ δ1 :=
  PG.imp h fun v σ H Q ⟨p, B, G, i3, en, hv, q⟩ => ⟨p, B, G, i3, en, hv, fun σ' e ⟨l, k⟩ => q σ' e ⟨l, fun i hi => k i fun z => hi (by simpa using List.all_eq_true.mp hs i z)⟩⟩
/-! ### a range in a name -/
section
variable {X : Cx} {tg e a b : Expr} {rest : List Stmt} {δ : De} {o : Out} {p pos spos pos' xp : Pos} {S : List Dt → Prop} {x : Str} {i : Nat}
theorem s_rng1 {F : Int → De} (hi : Nx X.N x i) (hF : ∀ j, SetR δ i (.rng 0 j) (F j)) (h : XD X e δ fun d => ∃ j : Int, d = .int j ∧ SsD X rest (F j) o) (Fr : Free X.mg := by assumption) (hN : X.N.Nodup := by assumption) (hx : Loc X.env.scope x := by first | exact Or.inl rfl | exact Or.inr rfl)
    (hs : swapsWith (.Call (.Name "range" p) [e] [] pos) (some (.Name x pos')) spos.line X.env = pure false := by rfl) (hf : X.fn x = true ∨ X.env.scope.names.lookup x = some .local := by first | exact .inl rfl | exact .inr rfl | assumption) (hg : Gl X "range" := by rfl) (h1 : starEach [e] X.env = (false, eval e X.env) :: starEach [] X.env := by rfl) :
    SsD X (.Assign [.Name x pos'] (.Call (.Name "range" p) [e] [] pos) spos :: rest) δ o := by
  have hc : CallR X (.type "range") (fun vs H Q => ∃ j, vs = [V.int j] ∧ ∀ q, H q = none → Q (.ref q) (upd H q (.rng 0 j))) := by
    intro pins s σ H vs us Q I r h
    obtain ⟨j, rfl, q⟩ := h
    obtain ⟨u, rfl, ru⟩ := r.one
    obtain ⟨t, rfl⟩ := ru
    refine call_range_1 ⟨.ref s.heap.objs.size, upd H s.heap.objs.size (.rng 0 j), I.laid (fun b o e => Heap.get?_push_of_some _ e) (Nat.le_refl _) ?_, rfl, q _ (I.hok.fresh (Nat.le_refl _))⟩
    exact ⟨_, _, _, Heap.get?_push_size _ rfl⟩
  refine ss_seq (N := fun δ' => SsD X rest δ' o) ?_ fun δ' h => h
  refine PS.imp (ps_set hN hi.eq hx (pe_callTy hc hg (Fr "range" (by decide +kernel)) (by decide +kernel) (pa_cons h pa_nil h1) (he := h1)) hs hf) fun D σ H ⟨p, B, G, i3, en, q⟩ => ⟨p, B, G, i3, en, fun v d G' H' ⟨j, r, k⟩ n hv => ?_⟩
  subst r
  cases hv
  refine ⟨j, rfl, fun l hl => ?_⟩
  have i3' := i3.nxt n
  have n2 := n.trans (Nxt.newH i3' (.rng 0 j) hl)
  refine q.nx _ _ G' _ k (n2.stepB i3) (i3.nxt n2) ?_
  rw [← (hF j).eq]
  exact (en.nxt n2).put (en := .rng 0 j) ⟨l, rfl, pot_ne i3' hl, upd_same⟩ fun a z => by rcases z with ⟨z, _⟩ | z <;> cases z
theorem i_rngV {lo hi : Int} (hN : Nx X.N x i) (hs : δ[i]? = some (.rng lo hi)) (hb : -(2 ^ 62) ≤ lo ∧ lo < 2 ^ 62 ∧ -(2 ^ 62) ≤ hi ∧ hi < 2 ^ 62) (k : S (rngD lo (hi - lo).toNat))
    (hv : Vis X.env.scope x := by first | exact Or.inl rfl | exact Or.inr (Or.inl rfl) | exact Or.inr (Or.inr rfl)) (hd : (x == ("__debug__" : Str)) = false := by decide) (hcd : (x == ("__classdict__" : Str)) = false := by decide) : XI X tg (.Name x xp) δ S := by
  have hp : PI X tg (.Name x xp) (fun σ H R => (∃ v, σ[i]? = some (some v) ∧ (fun v H1 => ∃ a, v = .ref a ∧ H1 a = some (.rng lo hi) ∧ R (Itr lo (hi - lo).toNat) H1) v H)) := by
    refine ⟨fun pins s σ H R I h => ?_⟩
    refine thn ((pe_var (pos := xp) hN.eq hv hd hcd).run pins s σ H (fun v H1 => ∃ a, v = .ref a ∧ H1 a = some (.rng lo hi) ∧ R (Itr lo (hi - lo).toNat) H1) I h) fun v s1 ⟨x, H1, I1, r1, q1⟩ => ?_
    obtain ⟨a, e, hq, q⟩ := q1
    subst e
    cases r1
    obtain ⟨t, u, w, rec⟩ : ∃ t u v, s1.heap.get? a = some { cls := .type "range", data := .fields #[.int lo t, .int hi u, .int 1 v] } := I1.hok a _ hq
    refine wpAny_pyIter_range (show IsRange s1.heap a lo hi 1 t u w from rec) (small_one hb.1 hb.2.1 hb.2.2.1 hb.2.2.2) ?_
    refine ⟨s1.heap.objs.size, [s1.heap.objs.size], _, _, H1, rfl, I1.kept (t' := s1.toks) fun b o e => Heap.get?_push_of_some _ e, turn_range _ lo (hi - lo).toNat, ?_, fun b hb => ?_, q⟩
    · have e1 : lo + ((0 : Nat) : Int) * 1 = lo := by simp
      have e2 : (((hi - lo).toNat : Nat) : Int) - ((0 : Nat) : Int) = Builtin.Range.rangeSize lo hi 1 := by rw [rangeSize_one]; split <;> omega
      show IsRangeIter _ _ (lo + ((0 : Nat) : Int) * 1) ((((hi - lo).toNat : Nat) : Int) - ((0 : Nat) : Int)) 1
      rw [e1, e2]
      exact Heap.get?_push_size _ rfl
    · have e : b = s1.heap.objs.size := by simpa using hb
      subst e
      exact I1.fpOk (Nat.le_refl _) (I1.hok.fresh (Nat.le_refl _))
  exact PI.imp hp fun σ H Q ⟨p, B, G, i3, en, q⟩ => by
    obtain ⟨o, h1, a, rfl, h2, h3⟩ := en.slot i _ hs
    exact ⟨_, h1, a, rfl, h3, q _ _ G H k (.refl i3) yld_rng⟩
theorem is_rng (h : SsD X (.Assign [.Name x pos'] (.Call (.Name "range" p) [e] [] pos) spos :: rest) δ o) : SsD X (.Assign [.Name x pos'] (.Call (.Name "range" p) [e] [] pos) spos :: rest) δ o := h
theorem is_src (h : XI X tg (.Name x xp) δ S) : XI X tg (.Name x xp) δ S := h
end
end Dv

set_option linter.all false
set_option maxRecDepth 100000
set_option maxHeartbeats 2000000
namespace Dv
open PySem PySem.Spec PyProof.Rows L2 RZ
/-! ### sum of a tuple -/
theorem sum_rawT {prog : Program} {w : World} {A : Around} {E : Value → Shared → Prop} {s : Shared} {Q : Value → Shared → Prop} {l : Addr} {its : List Value} {ns : List Int} (hh : A.handled = none) (hl : s.heap.IsTuple l its.toArray) (hi : IntsAre its ns)
    (h : ∀ h' tk t', (∀ b o, s.heap.get? b = some o → h'.get? b = some o) → Q (.int ns.sum t') { s with heap := h', toks := tk }) : wpAny (model prog w) A (call (.builtin "sum") [.ref l]) Q E s := by
  obtain ⟨xs, e⟩ := hi.allInts.items
  have hn : numsOf (intItems xs).toList = ns := by rw [← e]; exact hi.numsOf
  rw [nums_intItems] at hn
  rw [e] at hl
  have hlt : l < s.heap.objs.size := by obtain ⟨_, z, _⟩ := hl; exact Heap.lt_size z
  refine call_sum_walkG (wpAny_pyIter_tuple hl ⟨_, _, _, _, _, _, numAt xs, rfl, Walks.tuple (A := A.in1) hh _ l (Nat.ne_of_lt hlt) (intItems xs), ⟨⟨_, Heap.get?_push_size _ rfl, rfl, rfl⟩, hl.push _⟩, fun b hb => ?_, (fun _ _ => intItems_at), fun h' tk t' hk => ?_⟩)
  · rw [Heap.size_push]
    simp at hb
    rcases hb with e | e
    · rw [e]; exact Nat.lt_succ_self _
    · rw [e]; exact Nat.lt_succ_of_lt hlt
  · have := h h' tk t' fun b o q => hk b o (by simp; exact Nat.ne_of_lt (Heap.lt_size q)) (Heap.get?_push_of_some _ q)
    rw [preSum_eq, List.take_of_length_le (by simp [intItems]), hn]
    exact this
section
variable {X : Cx} {R : Dt → Prop}
theorem f_sumT {ns : List Int} (k : R (.int ns.sum)) (hc : X.calm = true := by rfl) : CallP X (.builtin "sum") [.tuple (ns.map PyData.int)] R :=
  ⟨fun vs H Q => ∃ (a : Addr) (ns : List Int), vs = [V.ref a] ∧ SqT X.K H a (ns.map V.int) ∧ Q (.int ns.sum) H, fun pins s σ H vs us Q I r h => by
    obtain ⟨a, ns, rfl, hs, q⟩ := h
    obtain ⟨its, rv, hl, _⟩ := I.tuple hs
    rw [Vals.ref1 r]
    exact sum_rawT (I.ok.hd hc) hl rv.ints fun h' tk t' hk => ⟨.int _, H, I.kept hk, ⟨_, rfl⟩, q⟩, fun p B G H vs i3 hv Q q => by
    obtain ⟨v, rfl, h⟩ := one_of hv
    cases h with
    | tup hs ha =>
      have e := dpAll_ints ha
      subst e
      exact ⟨_, ns, rfl, ex_t i3.gh hs, q _ _ G H k (.refl i3) (.int _)⟩⟩
end
end Dv

set_option linter.all false
set_option maxRecDepth 100000
set_option maxHeartbeats 4000000
namespace Dv
open PySem PySem.Spec PyProof.Rows L2 RZ
section
variable {X : Cx} {δ : De} {e : Expr} {o : Out} {pos : Pos} {ds : List Dt} {R : List Dt → Prop} {N : De → Prop} {rest : List Stmt} {x : Str} {i : Nat}
/-- x.extend(e), e a new list -/
theorem sd_ext (i : Nat) {x : Str} {apos cpos np : Pos} (hs : δ[i]? = some (.own ds)) (he : XO X e δ R) (hR : ∀ es, R es → ds.length + es.length ≤ 100000 ∧ N (δ.set i (.own (ds ++ es)))) (hN : X.N[i]? = some x := by rfl)
    (hv : Vis X.env.scope x := by first | exact Or.inl rfl | exact Or.inr (Or.inl rfl) | exact Or.inr (Or.inr rfl)) (hd : (x == ("__debug__" : Str)) = false := by decide) (hcd : (x == ("__classdict__" : Str)) = false := by decide)
    (hbase : attributeBase (.Name x np) "extend" X.env (eval (.Name x np) X.env) = eval (.Name x np) X.env := by rfl)
    (hfew : ((backTo cpos (starEach [e] X.env)).all (fun x => !x.1) && (backToKw cpos (keywordEach [] X.env)).all (fun x => x.1.isSome) && decide (([e] : List Expr).length + ([] : List Keyword).length + (if ([] : List Keyword).isEmpty then 0 else 1) < 30)) = true := by rfl)
    (hline : (apos.endLine == cpos.line) = true := by rfl) (hst : starEach [e] X.env = [(false, eval e X.env)] := by rfl) (hsw : swapsWith (.Call (.Attribute (.Name x np) "extend" apos) [e] [] cpos) none pos.line X.env = pure false := by rfl) :
    SD X (.Expr (.Call (.Attribute (.Name x np) "extend" apos) [e] [] cpos) pos) δ { o with nx := N } := by
  refine PS.imp (ps_expr (pe_bm PySem.F.plainAttrs_list PySem.F.slot_list_extend PySem.F.type_list_extend mt_extend (pe_var hN hv hd hcd) (pa_cons he pa_nil (by rw [hst]; rfl)) hbase hfew hline hst rfl) hsw) fun D σ H ⟨p, B, G, i3, en, q⟩ => ?_
  obtain ⟨o', h1, l, xs, rfl, h2, h3, h4, h5, h6⟩ := en.slot i _ hs
  refine ⟨_, h1, .inl ⟨rfl, xs, .inl (.inl h5)⟩, p, B, G, i3, en, fun l2 zs es G' H' r n h0 g pl hl ha => ?_⟩
  have en' := en.nxt n
  have i3' := i3.nxt n
  have g' : G' l = none := n.st.2 l (nn h5) h3
  have h5' : H' l = some (.lst xs) := n.ex _ _ (by rw [del_ne h4]; exact h5)
  have rr := hR es r
  refine ⟨l, l2, xs, zs, rfl, rfl, h5', hl, by rw [dpAll_length h6, dpAll_length ha]; exact Nat.le_trans rr.1 (by decide), q.nx _ σ G' _ rr.2 (n.stepB i3) ⟨i3'.bh.mut h2, i3'.gh.mut g', fun z hz' => ?_⟩ (en'.app hs h1 (dpAll_append (dpAll_ex n.st.1 _ _ h6) ha))⟩
  obtain ⟨a1, a2, a3, a4, a5, a6⟩ := i3'.pot z hz'
  have : z ≠ l := fun w => h4 (by rw [hz', w])
  exact ⟨a1, a2, a3, a4, by rw [upd_ne this]; exact a5, a6⟩
theorem s_extend {apos cpos np : Pos} {F : List Dt → De} (hi : Nx X.N x i) (hs : δ[i]? = some (.own ds)) (hF : ∀ es, SetR δ i (.own (ds ++ es)) (F es)) (h : XO X e δ fun es => ds.length + es.length ≤ 100000 ∧ SsD X rest (F es) o)
    (hv : Vis X.env.scope x := by first | exact Or.inl rfl | exact Or.inr (Or.inl rfl) | exact Or.inr (Or.inr rfl)) (hd : (x == ("__debug__" : Str)) = false := by decide) (hcd : (x == ("__classdict__" : Str)) = false := by decide)
    (hbase : attributeBase (.Name x np) "extend" X.env (eval (.Name x np) X.env) = eval (.Name x np) X.env := by rfl)
    (hfew : ((backTo cpos (starEach [e] X.env)).all (fun x => !x.1) && (backToKw cpos (keywordEach [] X.env)).all (fun x => x.1.isSome) && decide (([e] : List Expr).length + ([] : List Keyword).length + (if ([] : List Keyword).isEmpty then 0 else 1) < 30)) = true := by rfl)
    (hline : (apos.endLine == cpos.line) = true := by rfl) (hst : starEach [e] X.env = [(false, eval e X.env)] := by rfl) (hsw : swapsWith (.Call (.Attribute (.Name x np) "extend" apos) [e] [] cpos) none pos.line X.env = pure false := by rfl) :
    SsD X (.Expr (.Call (.Attribute (.Name x np) "extend" apos) [e] [] cpos) pos :: rest) δ o :=
  ss_seq (N := fun δ' => SsD X rest δ' o) (sd_ext i hs h (fun es k => ⟨k.1, by rw [(hF es).eq]; exact k.2⟩) hi.eq hv hd hcd hbase hfew hline hst hsw) fun δ' h => h
end
end Dv

set_option linter.all false
set_option maxRecDepth 100000
set_option maxHeartbeats 4000000
namespace Dv
open PySem PySem.Spec PyProof.Rows L2 RZ
section
variable {X : Cx} {ds : List Dt} {R : Dt → Prop} {K : Fg} {H : Hp}
theorem dzAll_rep {vs : List V} (h : DzAll K H vs ds) : ∀ n : Nat, DzAll K H (List.replicate n vs).flatten (List.replicate n ds).flatten
  | 0 => .nil
  | n + 1 => by
    rw [List.replicate_succ, List.replicate_succ, List.flatten_cons, List.flatten_cons]
    exact dpAll_append h (dzAll_rep h n)
theorem bp_repT {k : Int} (h0 : ds ≠ []) (hl : ds.length ≤ 1000) (k2 : 2 ≤ k) (k1 : k ≤ 1000) (r : R (.tuple (List.replicate k.toNat ds).flatten)) : BinP X .Mult (.tuple ds) (.int k) R := ⟨_, op_repT, by
  intro p B G H v w i3 h1 h2 Q q
  cases h2
  cases h1 with
  | tup hs ha => exact ⟨_, _, _, rfl, rfl, ex_t i3.gh hs, fun e => h0 (by subst e; cases ha; rfl), k2, k1, by rw [dpAll_length ha]; exact hl, fun l hl => q _ _ _ _ r (.new i3 _ hl) (.tup (.inl (.inl upd_same)) (dpAll_ex (Ex.new (i3.gh.free hl)) _ _ (dzAll_rep ha _)))⟩⟩
end
end Dv

set_option linter.all false
set_option maxRecDepth 100000
set_option maxHeartbeats 4000000
namespace Dv
open PySem PySem.Spec PyProof.Rows L2 RZ
section
variable {X : Cx} {δ : De} {e : Expr} {S : Bool → Prop}
/-- a list as a test -/
theorem t_list (h : XD X e δ fun d => ∃ ds, d = .list ds ∧ S (!ds.isEmpty)) (he : ∀ whole, isTrue e X.env whole = (do let v ← whole; standAt e.pos; holding [v] (truthy v)) := by intro _; rfl) : XT X e δ S := PT.imp (pt_truth h he) fun σ H Q ⟨p, B, G, i3, en, q⟩ =>
  ⟨p, B, G, i3, en, fun v d G' H' ⟨ds, r, k⟩ n hv => by
    subst r
    cases hv with
    | lst hs ha => exact ⟨!ds.isEmpty, .inl ⟨_, exl (i3.nxt n).gh hs, by cases ha <;> rfl⟩, q _ G' H' k n⟩⟩
end
end Dv

set_option linter.all false
set_option maxRecDepth 100000
set_option maxHeartbeats 4000000
namespace Dv
open PySem PySem.Spec PyProof.Rows L2 RZ
section
variable {X : Cx} {sts rest : List Stmt} {a b c e : Expr} {δ δ' : De} {o : Out} {d : Dt} {ds : List Dt} {pos p sp np : Pos} {k j : Int} {x y : Str} {i : Nat} {R S : List Dt → Prop}
/-- x[b] = v, x a list of the def's own -/
theorem tx_own {jj : Nat} (hi : Nx X.N x i) (hs : δ[i]? = some (.own ds)) (hb : PD X b δ (.int j)) (hj : ixN ds.length j = some jj) (hS : SetR δ i (.own (ds.set jj d)) δ') (hv : Vis X.env.scope x := by first | exact Or.inl rfl | exact Or.inr (Or.inl rfl) | exact Or.inr (Or.inr rfl)) (hd : (x == ("__debug__" : Str)) = false := by decide)
    (hcd : (x == ("__classdict__" : Str)) = false := by decide)
    (hasg : ∀ v, assign (.Subscript (.Name x np) b pos) X.env v = (do
      let ov ← holding [v] (eval (.Name x np) X.env)
      let iv ← holding [v, ov] (eval b X.env)
      standAt pos
      holding [v, ov, iv] (setItem ov iv v)
      release [v, ov, iv] []) := by intro _; rfl) : TgX X (.Subscript (.Name x np) b pos) d δ δ' := by
  rw [← hS.eq]
  exact PG.imp (pg_sub (pe_var hi.eq hv hd hcd) hb set_list hasg) fun v σ H Q ⟨p, B, G, i3, en, hv', q⟩ => by
    obtain ⟨o', h1, l, xs, rfl, h2, h3, h4, h5, h6⟩ := en.slot i _ hs
    refine ⟨_, h1, p, B, G, i3, en, fun u dd G1 H1 r1 n1 hv1 => ?_⟩
    subst r1
    cases hv1
    have h51 : H1 l = some (.lst xs) := n1.ex _ _ (by rw [del_ne h4]; exact h5)
    have g1 : G1 l = none := n1.st.2 l (nn h5) h3
    have i31 := i3.nxt n1
    have h61 := dpAll_ex n1.st.1 _ _ h6
    have hset : DzAll X.K G1 (xs.set jj v) (ds.set jj d) := dzAll_of_get (by rw [List.length_set, List.length_set]; exact dpAll_length h6) fun t x' d' k1 k2 => by
      by_cases ht : jj = t
      · subst ht
        have hl : jj < xs.length := by have := (List.getElem?_eq_some_iff.mp k1).1; rwa [List.length_set] at this
        have hl2 : jj < ds.length := by have := (List.getElem?_eq_some_iff.mp k2).1; rwa [List.length_set] at this
        rw [List.getElem?_set_self hl] at k1
        rw [List.getElem?_set_self hl2] at k2
        cases k1; cases k2
        exact dp_ex n1.st.1 _ _ hv'
      · rw [List.getElem?_set_ne ht] at k1 k2
        obtain ⟨d3, e1, e2⟩ := dpAll_get' h61 k1
        rw [e1] at k2
        cases k2
        exact e2
    refine ⟨l, xs, j, jj, rfl, rfl, h51, by rw [dpAll_length h6]; exact hj, q σ G1 _ (n1.stepB i3) ⟨i31.bh.mut h2, i31.gh.mut g1, fun z hz => ?_⟩ ((en.nxt n1).app hs h1 hset)⟩
    obtain ⟨a1, a2, a3, a4, a5, a6⟩ := i31.pot z hz
    have : z ≠ l := fun w => h4 (by rw [hz, w])
    exact ⟨a1, a2, a3, a4, by rw [upd_ne this]; exact a5, a6⟩
theorem SetR.lt {δ δ' : De} {i : Nat} {en : En} (h : SetR δ i en δ') : i < δ.length := by
  induction h with
  | z => simp
  | s _ ih => simpa using ih
/-- targets that write into own lists -/
theorem s_unpX {tg : Expr} (h : XD X e δ fun d => ∃ δ', TgX X tg d δ δ' ∧ SsD X rest δ' o) (hs : swapsWithSole [tg] e pos.line X.env = pure false := by rfl) (hw : swappedStores [tg] e X.env = pure none := by rfl)
    (h1 : (assignEach [tg] X.env).map (·.2) = [assign tg X.env] := by rfl) : SsD X (.Assign [tg] e pos :: rest) δ o := by
  have pg : PG X tg (fun v σ H Q => ∃ d δ', TgX X tg d δ δ' ∧ SsD X rest δ' o ∧ rGX X.K d δ δ' v σ H Q) := ⟨fun pins s σ H v u Q I r ⟨d, δ', a, _, q⟩ => PG.run a pins s σ H v u Q I r q⟩
  refine ss_seq (N := fun δ' => SsD X rest δ' o) ?_ fun δ' h => h
  exact PS.imp (ps_asg h pg hs hw h1) fun D σ H ⟨p, B, G, i3, en, q⟩ => ⟨p, B, G, i3, en, fun v d G' H' ⟨δ', t, k⟩ n hv => ⟨d, δ', t, k, p, B, G', i3.nxt n, en.nxt n, hv, fun σ' G2 H2 s2 i2 en2 => q.nx _ _ G2 H2 k ((n.stepB i3).trans s2) i2 en2⟩⟩
/-- x, y = a, b, both new lists -/
theorem s_twoO {j : Nat} {px py pt : Pos} {kt k2 pt2} {F : List Dt → De} {G : List Dt → List Dt → De} (hi : Nx X.N x i) (hj : Nx X.N y j) (hF : ∀ d, SetR δ i (.own d) (F d)) (hG : ∀ d d2, SetR (F d) j (.own d2) (G d d2)) (ha : XO X a δ R) (hb : XO X b δ S) (k : ∀ d d2, R d → S d2 → SsD X rest (G d d2) o)
    (hij : i ≠ j := by decide) (hN : X.N.Nodup := by assumption) (hc : X.calm = true := by rfl) (hx : X.env.scope.names.lookup x = some .local := by rfl) (hy : X.env.scope.names.lookup y = some .local := by rfl)
    (hw : swappedStores [.Tuple [.Name x px, .Name y py] kt pt] (.Tuple [a, b] k2 pt2) X.env = pure (some [x, y]) := by rfl) (hs : swapsWithSole [.Tuple [.Name x px, .Name y py] kt pt] (.Tuple [a, b] k2 pt2) pos.line X.env = pure false := by rfl)
    (h1 : starEach [a, b] X.env = (false, eval a X.env) :: starEach [b] X.env := by rfl) (h2 : starEach [b] X.env = (false, eval b X.env) :: starEach [] X.env := by rfl) :
    SsD X (.Assign [.Tuple [.Name x px, .Name y py] kt pt] (.Tuple [a, b] k2 pt2) pos :: rest) δ o := by
  refine ss_seq (N := fun δ' => SsD X rest δ' o) ?_ fun δ' h => h
  exact PS.imp (ps_par hc hN hi.eq hj.eq hij hx hy (pa_cons ha (pa_cons hb pa_nil h2) h1) hw hs) fun D σ H ⟨p, B, G0, i3, en, q⟩ => ⟨p, B, G0, i3, en, fun l xs ds G1 H1 r1 n1 h0 g pl hl ha1 => ⟨p, B, G1, i3.nxt n1, en.nxt n1, fun l2 xs2 ds2 G2 H2 r2 n2 h02 g2 pl2 hl2 ha2 => by
    refine ⟨.ref l, .ref l2, rfl, q.nx _ _ G2 H2 (k ds ds2 r1 r2) ((n1.trans n2).stepB i3) (i3.nxt (n1.trans n2)) ?_⟩
    have e0 := en.putOwn i3 n1 h0 g pl hl ha1 i
    have e1 := e0.putOwn (i3.nxt n1) n2 h02 g2 pl2 hl2 ha2 j
    rw [(hF ds).eq, (hG ds ds2).eq] at e1
    exact e1⟩⟩
end
/-- a promise of a new list is one of data -/
theorem new_data {K : Fg} {H G G' H' : Hp} {l : Addr} {xs : List V} {ds : List Dt} (hg : Ex G H) (s1 : Step H G G') (e2 : Ex G' H') (h1 : H l = none) (h2 : G' l = none) (h3 : H' l = some (.lst xs)) (h4 : DzAll K G' xs ds) : Step H G (upd G' l (.lst xs)) ∧ Ex (upd G' l (.lst xs)) H' ∧ Dz K (upd G' l (.lst xs)) (.ref l) (.list ds) :=
  ⟨⟨s1.1.trans (Ex.new h2), fun a k1 k2 => by
    have : a ≠ l := fun z => k1 (z ▸ h1)
    rw [upd_ne this]; exact s1.2 a k1 k2⟩, fun a o ho => by
    by_cases z : a = l
    · subst z; rw [upd_same] at ho; cases ho; exact h3
    · rw [upd_ne z] at ho; exact e2 a o ho, .lst (.inl (.inl upd_same)) (dpAll_ex (Ex.new h2) _ _ h4)⟩
theorem Cal.ofO {P : Program} {w : World} {K : Fg} {mg : Str → Option Value} {base : Heap} {k : Nat} {x : Str} {ps : List Str} {st : Stmt} {R : List Dt → List Dt → Prop} (C : Cal P w K mg base k x ps st (spO K R)) : Cal P w K mg base k x ps st (spD K fun ds d => ∃ es, R ds es ∧ d = .list es) := by
  obtain ⟨f, fd, F, h⟩ := C.ex
  have go : ∀ vs H Q E, spD K (fun ds d => ∃ es, R ds es ∧ d = .list es) vs H Q E → spO K R vs H Q E := fun vs H Q E ⟨G, ds, d, eg, hv, ⟨es, r, e⟩, q⟩ => ⟨G, ds, es, eg, hv, r, fun l xs G' H' s1 e1 e2 h1 h2 h3 h4 => by
    subst e
    obtain ⟨q1, q2, q3⟩ := new_data eg s1 e2 h1 h2 h3 h4
    exact q _ _ H' q1 e1 q2 q3⟩
  exact ⟨f, fd, ⟨fun vs H Q E z => F.len vs H Q E (go vs H Q E z), fun A outer s H args us vs Q E hr hg en bt va z => F.run A outer s H args us vs Q E hr hg en bt va (go vs H Q E z)⟩, h⟩
/-! ### a list of data, and one list in it that is written to at the end -/
section
variable {X : Cx} {δ δ1 δ2 : De} {o : Out} {i : Nat} {x : Str}
inductive MidS (X : Cx) (δ : De) : List Stmt → List Stmt → Prop
  | done {sts} : MidS X δ sts sts
  | step {c bod pos sts rest} : XT X c δ (fun k => k = false) → MidS X δ sts rest → MidS X δ (.If c bod [] pos :: sts) rest
structure MidI (K : Fg) (p : Option Addr) (B G H0 G' H : Hp) (σ0 σ : L2.St) (δ : De) (i : Nat) (a l : Addr) (xs vs : List V) (ds1 ds2 : List Dt) : Prop where
  i3 : I3 p B G H0
  en : EnvD K p B G H0 σ0 δ
  eq : σ = σ0.set i (some (.ref l))
  n : Nxt p G H0 G' H
  a0 : H0 a = none
  ga : G' a = some (.lst xs)
  gl : G' l = some (.lst (.ref a :: vs))
  da : DzAll K G' xs ds1
  dl : Dz K G' (.ref l) (.list (.list ds1 :: ds2))
def rM (K : Fg) (δ : De) (i : Nat) (ds1 ds2 : List Dt) (o : Out) : TS := fun D σ H => ∃ p B G H0 G' σ0 a l xs vs, MidI K p B G H0 G' H σ0 σ δ i a l xs vs ds1 ds2 ∧ Post K p B G D o
theorem MidI.env {K : Fg} {p : Option Addr} {B G H0 G' H : Hp} {σ0 σ : L2.St} {a l : Addr} {xs vs : List V} {ds1 ds2 : List Dt} (h : MidI K p B G H0 G' H σ0 σ δ i a l xs vs ds1 ds2) : EnvD K p B G' H σ (δ.set i (.d (.list (.list ds1 :: ds2)))) := by
  rw [h.eq]
  exact (h.en.nxt h.n).set h.dl
theorem MidI.go {K : Fg} {p : Option Addr} {B G H0 G' H G2 H2 : Hp} {σ0 σ : L2.St} {a l : Addr} {xs vs : List V} {ds1 ds2 : List Dt} (h : MidI K p B G H0 G' H σ0 σ δ i a l xs vs ds1 ds2) (n : Nxt p G' H G2 H2) : MidI K p B G H0 G2 H2 σ0 σ δ i a l xs vs ds1 ds2 :=
  ⟨h.i3, h.en, h.eq, h.n.trans n, h.a0, n.st.1 _ _ h.ga, n.st.1 _ _ h.gl, dpAll_ex n.st.1 _ _ h.da, dp_ex n.st.1 _ _ h.dl⟩
theorem mid_ps {ds1 ds2 : List Dt} (hF : SetR δ i (.d (.list (.list ds1 :: ds2))) δ1) {mid fin : List Stmt} (m : MidS X δ1 mid fin) (hfin : PSs X fin (rM X.K δ i ds1 ds2 o)) : PSs X mid (rM X.K δ i ds1 ds2 o) := by
  induction m with
  | done => exact hfin
  | @step c bod pos sts fin hc _ ih =>
    have ih := ih hfin
    have z1 : PSs X bod (fun _ _ _ => False) := ⟨fun pins s σ H D I h => h.elim⟩
    refine PSs.imp (pss_cons (ps_if hc z1 pss_nil) ih) fun D σ H ⟨p, B, G, H0, G', σ0, a, l, xs, vs, h, q⟩ => ?_
    have en := h.env
    rw [hF.eq] at en
    refine ⟨p, B, G', h.i3.nxt h.n, en, fun c G2 H2 hc2 n2 => ?_⟩
    subst hc2
    exact iteF ⟨p, B, G, H0, G2, σ0, a, l, xs, vs, h.go n2, q⟩
theorem s_heard {e1 ea : Expr} {es : List Expr} {mid rest : List Stmt} {ds1 ds2 : List Dt} {d : Dt} {lp pos pos' np sp kp apos cpos pos2 : Pos} {jj} (hi : Nx X.N x i) (hF : SetR δ i (.d (.list (.list ds1 :: ds2))) δ1) (hG : SetR δ i .no δ2) (h1 : XO X e1 δ (fun y => y = ds1)) (h2 : PAD X es δ ds2)
    (m : MidS X δ1 mid (.Expr (.Call (.Attribute (.Subscript (.Name x np) (.Constant (.int 0) jj kp) sp) "append" apos) [ea] [] cpos) pos2 :: rest)) (he : PD X ea δ1 d) (hl1 : ds1.length ≤ 10000) (hl2 : ds2.length ≤ 10000) (k : SsD X rest δ2 o)
    (hN : X.N.Nodup := by assumption) (hx : Loc X.env.scope x := by first | exact Or.inl rfl | exact Or.inr rfl) (hs : swapsWith (.List (e1 :: es) lp) (some (.Name x pos')) pos.line X.env = pure false := by rfl) (hf : X.fn x = true ∨ X.env.scope.names.lookup x = some .local := by first | exact .inl rfl | exact .inr rfl | assumption)
    (hst1 : starEach (e1 :: es) X.env = (false, eval e1 X.env) :: starEach es X.env := by rfl)
    (hv : Vis X.env.scope x := by first | exact Or.inl rfl | exact Or.inr (Or.inl rfl) | exact Or.inr (Or.inr rfl)) (hd : (x == ("__debug__" : Str)) = false := by decide) (hcd : (x == ("__classdict__" : Str)) = false := by decide)
    (hbase : attributeBase (.Subscript (.Name x np) (.Constant (.int 0) jj kp) sp) "append" X.env (eval (.Subscript (.Name x np) (.Constant (.int 0) jj kp) sp) X.env) = eval (.Subscript (.Name x np) (.Constant (.int 0) jj kp) sp) X.env := by rfl)
    (hfew : ((backTo cpos (starEach [ea] X.env)).all (fun x => !x.1) && (backToKw cpos (keywordEach [] X.env)).all (fun x => x.1.isSome) && decide (([ea] : List Expr).length + ([] : List Keyword).length + (if ([] : List Keyword).isEmpty then 0 else 1) < 30)) = true := by rfl)
    (hline : (apos.endLine == cpos.line) = true := by rfl) (hst : starEach [ea] X.env = [(false, eval ea X.env)] := by rfl) (hsw : swapsWith (.Call (.Attribute (.Subscript (.Name x np) (.Constant (.int 0) jj kp) sp) "append" apos) [ea] [] cpos) none pos2.line X.env = pure false := by rfl) :
    SsD X (.Assign [.Name x pos'] (.List (e1 :: es) lp) pos :: mid) δ o := by
  have hfin : PSs X (.Expr (.Call (.Attribute (.Subscript (.Name x np) (.Constant (.int 0) jj kp) sp) "append" apos) [ea] [] cpos) pos2 :: rest) (rM X.K δ i ds1 ds2 o) := by
    refine PSs.imp (pss_cons (ps_expr (pe_bm PySem.F.plainAttrs_list PySem.F.slot_list_append PySem.F.type_list_append mt_append (pe_ix ix_list (pe_var hi.eq hv hd hcd) pe_int (fun _ _ => rfl)) (pa_cons he pa_nil (by rw [hst]; rfl)) hbase hfew hline hst rfl) hsw) k) fun D σ H ⟨p, B, G, H0, G', σ0, a, l, xs, vs, h, q⟩ => ?_
    have en := h.env
    obtain ⟨o', k1, v1, rfl, k2⟩ := en.slot i (.d (.list (.list ds1 :: ds2))) (List.getElem?_set_self hF.lt)
    have ev : v1 = .ref l := by
      have hl : i < σ0.length := by
        have := (List.getElem?_eq_some_iff.mp k1).1
        rw [h.eq, List.length_set] at this
        exact this
      rw [h.eq, List.getElem?_set_self hl] at k1
      cases k1; rfl
    subst ev
    have i3' := h.i3.nxt h.n
    have hH : H l = some (.lst (.ref a :: vs)) := i3'.gh _ _ h.gl
    have hA : H a = some (.lst xs) := i3'.gh _ _ h.ga
    rw [hF.eq] at en
    refine ⟨_, k1, l, _, 0, .ref a, rfl, rfl, .inl (.inl hH), atI_nat (j := 0) rfl, .inl ⟨rfl, xs, .inl (.inl hA)⟩, p, B, G', i3', en, fun v d' G2 H2 r n2 hv' => ?_⟩
    have h2 := h.go n2
    have i32 := h.i3.nxt h2.n
    refine ⟨a, xs, v, rfl, rfl, i32.gh _ _ h2.ga, by rw [dpAll_length h.da]; exact Nat.lt_of_le_of_lt hl1 (by decide), ?_⟩
    have ga0 : G a = none := h.i3.gh.free h.a0
    have n3 : Nxt p G H0 G (upd H2 a (.lst (xs ++ [v]))) := by
      refine ⟨Step.refl _ _, fun b u hb => ?_, fun b u hb => ?_, fun z hz => ?_⟩
      · have : b ≠ a := ne_of_none (del_le hb).1 h.a0
        rw [upd_ne this]; exact h2.n.ex b u hb
      · have : b ≠ a := ne_of_none hb ga0
        rw [upd_ne this]; exact i32.gh b u (h2.n.st.1 b u hb)
      · obtain ⟨_, _, u, u', h3, h4⟩ := h.i3.pot z hz
        have : z ≠ a := ne_of_none h3 h.a0
        rw [upd_ne this]; exact h2.n.pot z hz
    refine ⟨p, B, G, h.i3.nxt n3, ?_, q⟩
    have e3 := (h.en.nxt n3).put (i := i) (o := some (.ref l)) (en := .no) trivial fun b f => by rcases f with ⟨z, _⟩ | z <;> cases z
    rw [← h.eq, hG.eq] at e3
    exact e3
  refine PSs.imp (pss_cons (ps_set hN hi.eq hx (pe_lst (pa_cons h1 h2.pa hst1)) hs hf) (mid_ps hF m hfin)) fun D σ H ⟨p, B, G, i3, en, q⟩ => ⟨p, B, G, i3, en, fun a xs ds G1 H1 r n h0 g pl hla ha => ⟨p, B, G1, i3.nxt n, en.nxt n, fun vs dd G2 H2 r2 n2 hv2 => ?_⟩⟩
  subst r
  subst r2
  refine ⟨by show vs.length + 1 ≤ _; rw [dpAll_length hv2]; exact Nat.le_trans (Nat.succ_le_succ hl2) (by decide), fun l hl => ?_⟩
  have n12 := n.trans n2
  have a2 : G2 a = none := n2.st.2 a (nn hla) g
  have hla2 : H2 a = some (.lst xs) := n2.ex _ _ (by rw [del_ne pl]; exact hla)
  obtain ⟨m1, d1⟩ := own_data i3 n12 h0 a2 pl hla2 (dpAll_ex n2.st.1 _ _ ha)
  have i31 := i3.nxt m1
  have gl : upd G2 a (.lst xs) l = none := i31.gh.free hl
  have m2 : Nxt p (upd G2 a (.lst xs)) H2 (upd G2 a (.lst xs)) (upd H2 l (.lst (.ref a :: vs))) := .newH i31 _ hl
  obtain ⟨m3, d2⟩ := own_data (K := X.K) (ds := .list ds :: dd) i31 m2 hl gl (pot_ne i31 hl) upd_same (.cons d1 (dpAll_ex (Ex.new a2) _ _ hv2))
  have al : a ≠ l := fun z => by subst z; rw [hla2] at hl; cases hl
  exact ⟨p, B, G, H, upd (upd G2 a (.lst xs)) l (.lst (.ref a :: vs)), σ, a, l, xs, vs, ⟨i3, en, rfl, m1.trans m3, h0, by rw [upd_ne al, upd_same], upd_same, dpAll_ex (Ex.new gl) _ _ (dpAll_ex (Ex.new a2) _ _ (dpAll_ex n2.st.1 _ _ ha)), d2⟩, q⟩
end
end Dv

set_option linter.all false
set_option maxRecDepth 100000
set_option maxHeartbeats 4000000
namespace Dv
open PySem PySem.Spec PyProof.Rows L2 RZ HT
section
variable {prog : Program} {w : World} {A : Around} {E : Value → Shared → Prop} {s : Shared}
theorem adj_rev (n : Nat) : Builtin.Slice.sliceAdjust none none (-1) (n : Int) = ((n : Int) - 1, -1) := rfl
theorem places_rev (n : Nat) : Builtin.Slice.slicePlaces ((n : Int) - 1) (-1) (-1) = n := by
  unfold Builtin.Slice.slicePlaces
  rw [if_neg (by decide), show (- -1 : Int) = 1 by decide, Int.ediv_one]
  by_cases h : (n : Int) - 1 > -1
  · rw [if_pos h]; omega
  · rw [if_neg h]; omega
theorem applied_rev {sl : Addr} {vl vu vs : Value} {n : Nat} {Q : Int × Int × Nat → Shared → Prop} (hs : s.heap.IsSliceOf sl vl vu vs) (pl : IsPart vl none) (pu : IsPart vu none) (ps : IsPart vs (some (-1))) (h : Q ((n : Int) - 1, -1, n) s) : wpAny (model prog w) A (Builtin.Slice.sliceApplied (.ref sl) (pure (n : Int))) Q E s := by
  obtain ⟨o1, g1, g2, g3⟩ := id hs
  unfold Builtin.Slice.sliceApplied
  unfold Builtin.Slice.sliceFields
  refine wpAny_bind (wpAny_bind (wpAny_field g1 g3 (x := vl) rfl (wpAny_bind (wpAny_field g1 g3 (x := vu) rfl (wpAny_bind (wpAny_field g1 g3 (x := vs) rfl (wpAny_pure (wpAny_bind (slicePart_ ps ?_)))))))))
  show wpAny _ _ (if ((-1 : Int) == 0) = true then _ else _) _ _ s
  rw [if_neg (by decide : ¬ ((-1 : Int) == 0) = true)]
  refine wpAny_bind (slicePart_ pl (wpAny_bind (slicePart_ pu (wpAny_bind (wpAny_pure (?_ : wpAny _ _ (match Builtin.Slice.sliceAdjust none none (-1) (n : Int) with | (lo, hi) => pure (lo, (-1 : Int), Builtin.Slice.slicePlaces lo hi (-1))) _ _ s))))))
  rw [adj_rev]
  show wpAny _ _ (pure ((n : Int) - 1, (-1 : Int), Builtin.Slice.slicePlaces ((n : Int) - 1) (-1) (-1))) _ _ s
  rw [places_rev]
  exact wpAny_pure h
theorem fm_congr {α β : Type} {f g : α → Option β} : ∀ {l : List α}, (∀ x ∈ l, f x = g x) → l.filterMap f = l.filterMap g
  | [], _ => rfl
  | a :: l, h => by rw [List.filterMap_cons, List.filterMap_cons, h a (List.mem_cons_self ..), fm_congr fun x hx => h x (List.mem_cons_of_mem _ hx)]
theorem pick_rev (xs : Array Value) : ((List.range xs.size).filterMap fun (m : Nat) => xs[((xs.size : Int) - 1 + (m : Int) * -1).toNat]?).toArray = xs.toList.reverse.toArray := by
  have h : ((List.range xs.size).filterMap fun (m : Nat) => xs[((xs.size : Int) - 1 + (m : Int) * -1).toNat]?) = ((List.range xs.size).map fun k => xs.size - 1 - k).filterMap (xs[·]?) := by
    rw [List.filterMap_map]
    apply fm_congr
    intro m hm
    have := List.mem_range.mp hm
    show _ = xs[xs.size - 1 - m]?
    rw [show ((xs.size : Int) - 1 + (m : Int) * -1).toNat = xs.size - 1 - m by omega]
  rw [h, PySem.W.krv_range, List.filterMap_reverse, PySem.W.krv_all]
theorem get_rev {t sl : Addr} {xs : Array Value} {vl vu vs : Value} {Q : Value → Shared → Prop} (ht : IsTup s.heap t xs) (hs : s.heap.IsSliceOf sl vl vu vs) (pl : IsPart vl none) (pu : IsPart vu none) (ps : IsPart vs (some (-1)))
    (h : Q (.ref s.heap.objs.size) { s with heap := s.heap.push { cls := .type "tuple", data := .seq xs.toList.reverse.toArray } }) (hz : xs.size ≤ sizeLine) : wpAny (model prog w) A (getItem (.ref t) (.ref sl)) Q E s := by
  have hk : sizeOk (.seq xs.toList.reverse.toArray) := by
    show xs.toList.reverse.toArray.size ≤ sizeLine
    rw [List.size_toArray, List.length_reverse, Array.length_toList]; exact hz
  obtain ⟨o1, g1, g2, g3⟩ := id hs
  have hT : s.TypeIs (.ref sl) "slice" := ⟨o1, g1, g2⟩
  unfold getItem
  try with_reducible refine wpAny_holding ?_
  (try refine wpAny_bind (wpAny_pure ?_))
  refine wpAny_bind (wpAny_sequenceKey ht.typeIs (by decide) (wpAny_bind (wpAny_callSpecial?_slot (name := Str.ofString "__getitem__") ht.typeIs PyProof.Rows.slot_tuple_getitem (wpAny_call_entry PyProof.Rows.slot_tuple_getitem ht.typeIs entry_tuple_getitem ?_ (args_tuple_getitem _ _)))))
  show wpAny _ _ (Builtin.Tuple.tupleItemsOf (Value.ref t) >>= _) _ _ s
  refine wpAny_bind (tupleItemsOf_ ht (wpAny_bind (wpAny_typeOf hT ?_)))
  rw [if_pos (by decide)]
  refine wpAny_bind (applied_rev hs pl pu ps ?_)
  have no : ¬ ((((xs.size : Int) - 1) == 0 && (-1 : Int) == 1 && xs.size == xs.size) = true) := by
    rw [show ((-1 : Int) == 1) = false by decide, Bool.and_false, Bool.false_and]; decide
  show wpAny _ _ (if (((xs.size : Int) - 1) == 0 && (-1 : Int) == 1 && xs.size == xs.size) = true then _ else _) _ _ s
  rw [if_neg no, pick_rev]
  first
    | exact wpAny_bind (m := Builtin.Tuple.tupleExact _) (wpAny_newObj_type (wpAny_pure ⟨_, rfl, wpAny_pure h⟩) hk)
    | exact wpAny_bind (m := Builtin.Tuple.tupleExact _) (wpAny_newObj_type (wpAny_bind (wpAny_pure (wpAny_pure ⟨_, rfl, wpAny_pure h⟩))) hk)
    | exact wpAny_bind (wpAny_bind (m := Builtin.Tuple.tupleExact _) (wpAny_newObj_type (wpAny_pure (wpAny_pure ⟨_, rfl, wpAny_pure h⟩)) hk))
    | exact wpAny_bind (wpAny_bind (m := Builtin.Tuple.tupleExact _) (wpAny_newObj_type (wpAny_pure ⟨_, rfl, wpAny_pure h⟩) hk))
end
/-- t[::-1] of a tuple -/
def tRevT (K : PySem.W.Frag) (te : TE) : TE := fun σ H Q => te σ H fun x H1 => ∃ a xs, x = .ref a ∧ SqT K H1 a xs ∧ ∀ p, H1 p = none → Q (.ref p) (upd H1 p (.tup xs.reverse))
section
variable {X : Cx}
theorem pe_revT {e : Expr} {te : TE} {k : Nat} {p1 p2 p3 pos : Pos} (he : PE X e te) : PE X (.Subscript e (.Slice none none (some (.UnaryOp .USub (.Constant (.int 1) k p1) p2)) p3) pos) (tRevT X.K te) := by
  constructor
  intro pins s σ H Q I h
  refine Subscript_ (thn (he.run pins s σ H _ I h) fun v s1 ⟨x, H1, I1, r1, a, xs, ex, hx, q⟩ => ?_)
  subst ex
  cases r1
  have st : PO X (some (.UnaryOp .USub (.Constant (.int 1) k p1) p2)) (tPart (tUn (rU fun i => .int (-i)) (tC (.int 1)))) := po_some (pe_un un_neg pe_int)
  refine wpAny_Slice (thn (po_none.run pins s1 σ H1 (fun o H2 => o = none ∧ H2 = H1) I1 ⟨rfl, rfl⟩) fun vl s2 ⟨_, _, I2, pl, el, e2⟩ => thn (po_none.run pins s2 σ H1 (fun o H3 => o = none ∧ H3 = H1) (e2 ▸ I2) ⟨rfl, rfl⟩) fun vu s3 ⟨_, _, I3, pu, eu, e3⟩ => thn (st.run pins s3 σ H1 (fun o H4 => o = some (-1) ∧ H4 = H1) (e3 ▸ I3) ⟨1, rfl, -1, rfl, rfl, rfl⟩) fun vs s4 ⟨_, _, I4, ps, eo, e4⟩ => ?_)
  subst el eu eo e2 e3 e4
  have I5 : Inv X pins σ _ { s4 with heap := s4.heap.push { cls := .type "slice", data := .fields #[vl, vu, vs] } } := I4.kept (t' := s4.toks) fun b ob q => Heap.get?_push_of_some _ q
  obtain ⟨its, r, ht, hz⟩ := I5.tuple hx
  have hlen := r.length
  show wpAny (model X.prog X.w) X.A (subscriptTail e (.Slice none none (some (.UnaryOp .USub (.Constant (.int 1) k p1) p2)) p3) (.ref a) (.ref s4.heap.objs.size)) (EP X pins σ Q) X.xe _
  refine tail_any (ops := [.ref a, .ref s4.heap.objs.size]) ht.typeIs (PyProof.Rows.slot_tuple_getitem.lookup) ?_ (by with_unfolding_all rfl)
  refine get_rev ht (Heap.IsSliceOf.new _ vl vu vs) pl pu ps ?_ (by rw [List.size_toArray]; omega)
  refine ⟨.ref _, _, I5.laid (t' := s4.toks) (o := .tup xs.reverse) (fun b ob q => Heap.get?_push_of_some _ q) (Nat.le_refl _) ?_, rfl, q _ (I5.hok.fresh (Nat.le_refl _))⟩
  exact ⟨by rw [List.length_reverse]; exact hz, _, r.reverse, IsTup.new _ _⟩
theorem c_revT {e : Expr} {δ : De} {R : Dt → Prop} {k : Nat} {p1 p2 p3 pos : Pos} (h : XD X e δ fun d => ∃ ds, d = .tuple ds ∧ R (.tuple ds.reverse)) : XD X (.Subscript e (.Slice none none (some (.UnaryOp .USub (.Constant (.int 1) k p1) p2)) p3) pos) δ R :=
  PE.imp (pe_revT h) fun σ H Q ⟨p, B, G, i3, en, q⟩ => ⟨p, B, G, i3, en, fun v d G' H' ⟨ds, e, r⟩ n hv => by
    subst e
    cases hv with
    | tup hs ha =>
      have i3' := i3.nxt n
      exact ⟨_, _, rfl, ex_t i3'.gh hs, fun l hl => q _ _ _ _ r (n.trans (.new i3' _ hl)) (.tup (.inl (.inl upd_same)) (dpAll_ex (Ex.new (i3'.gh.free hl)) _ _ (dpAll_reverse ha)))⟩⟩
end
end Dv

set_option linter.all false
set_option maxRecDepth 100000
set_option maxHeartbeats 4000000
/-! own errors: class C(..): def __init__(self, value): self.value = value -/
namespace Dv
open PySem PySem.Spec PyProof.Rows L2 RZ PySem.W PySem.Calls PySem.HandSPX
def iA (p1 p2 : Pos) : Arguments := ⟨[], [⟨"self", none, p1⟩, ⟨"value", none, p2⟩], none, [], [], none, []⟩
def iB (q1 q2 q3 q4 : Pos) : List Stmt := [.Assign [.Attribute (.Name "self" q1) "value" q2] (.Name "value" q3) q4]
def iS : Scope := { kind := .function, names := [("self", .local), ("value", .local)], isGenerator := false, isCoroutine := false, more := [] }
/-- what the text says of the class cn, at C, and of its __init__, at fI -/
structure ErrTxt (K : Frag) (mg : Str → Option Value) (cn qn : Str) (C fI : Addr) : Prop where
  gC : mg cn = some (.ref C)
  cls : ∃ nm q N bs bm sn sub ab col dd k0 k1 k2 k3 k5, K.lookup C = some (excClassObj nm q C N bs bm true sn sub ab col dd k0 k1 k2 k3 k5 "ValueError.__new__") ∧ refsVE bm = true
  sa : findIn K (.ref C) "__setattr__" = some (some (.builtin "object.__setattr__"))
  ga : findIn K (.ref C) "__getattribute__" = some (some (.builtin "BaseException.__getattribute__"))
  gg : findIn K (.ref C) "__getattr__" = some none
  noN : findIn K (.ref C) "value" = some none
  iC : findIn K (.ref C) "__init__" = some (some (.ref fI))
  tC : typeIn K (.ref fI) = some (.type "function")
  kC : keepIn K (.ref C) = true
  exC : subIn K (.ref C) (.type "BaseException") = some true
  tyC : typeIn K (.ref C) = some (.type "type")
  hdC : hasDictIn K C = true
  te : exmOne K (.ref C) (.ref C) = some true
  fn : ∃ (oc : Value) (od : Option Addr) (doc pm : Value) (an : Option Addr) (cdv ct : Value) (osl : Array (Option Value)) (p1 p2 q1 q2 q3 q4 : Pos),
    K.lookup fI = some ⟨oc, od, .func (fnOf "__init__" qn (iA p1 p2) (iB q1 q2 q3 q4) iS .none .none doc pm an cdv ct), osl⟩ ∧ codeIn K cdv qn = true
theorem ldL {M : Model} {s : Shared} {name : Str} {scope : Scope} {L a : Addr} {cd : Value} {m : Str → Option Value} {x : Str} {pos : Pos} {v : Value} {Q : Value → Shared → Prop} {A : Around} {E : Value → Shared → Prop} (hn : s.heap.Ns L m) (hv : m x = some v) (h : Q v s)
    (hk : scope.kind = .function := by rfl) (hl : (envOfC name scope L a cd).kindOf x = some .local := by rfl) (hd : (x == ("__debug__" : Str)) = false := by decide) :
    wpAny M A (eval (.Name x pos) (envOfC name scope L a cd)) Q E s := wpAny_Name (wpAny_loadName_local hk hl hn hv h) hd
/-- what __init__ leaves of a new error at x -/
structure InitD (h h' : Heap) (x C dx t1 : Addr) (v : Value) : Prop where
  keep : ∀ b o, b ≠ x → h.get? b = some o → h'.get? b = some o
  obj : h'.get? x = some { cls := .ref C, dict := some dx, data := .fields #[.ref t1, .none, .none, .none, .bool false, .none] }
  dbig : h.objs.size ≤ dx
  dne : dx ≠ x
  ns : h'.Ns1 dx (fun y => if y = "value" then some v else none)
/-- a made error -/
structure MadeE (h h' : Heap) (e C d : Addr) (v : Value) : Prop where
  keep : ∀ b o, h.get? b = some o → h'.get? b = some o
  new : h.objs.size ≤ e
  obj : ∃ oe vs, h'.get? e = some oe ∧ oe.cls = .ref C ∧ oe.dict = some d ∧ oe.data = .fields vs ∧ vs[1]? = some .none
  dbig : h.objs.size ≤ d
  dne : d ≠ e
  ns : h'.Ns1 d (fun y => if y = "value" then some v else none)
section
variable {prog : Program} {w : World} {A : Around} {E : Value → Shared → Prop} {R : Result → Shared → Prop} {s : Shared} {K : Frag} {mg : Str → Option Value} {cn qn : Str} {C fI : Addr}
theorem err_init (T : ErrTxt K mg cn qn C fI) {x t0 : Addr} {v : Value} (X : K.In s.heap) (hlim : s.heap.NoLimit) (hx : s.heap.get? x = some (excO C t0)) (hnx : K.lookup x = none) (hroom : A.depth < recursionLimit)
    (hq : ∀ h' tk dx, InitD s.heap h' x C dx t0 v → R (.ok (.ret .none)) { s with heap := h', toks := tk }) :
    codeAny (model prog w) A (.call (.ref fI) ⟨[.ref x, v], []⟩) R s := by
  obtain ⟨oc, od, doc, pm, an, cdv, ct, osl, p1, p2, q1, q2, q3, q4, ho, hcd⟩ := T.fn
  obtain ⟨nm, q, N, bs, bm, sn, sub, ab, col, dd, k0, k1, k2, k3, k5, hC, hbm⟩ := T.cls
  have hcl : clsIn K C = some { name := nm, bases := bs, mro := .ref C :: bm, ns := N, qualname := q, hasDict := true, slotNames := sn, subclasses := sub, abstract := ab, collection := col, hasDel := false } := by unfold clsIn; rw [hC] <;> rfl
  refine Att.call_fn (binds := [("self", .ref x), ("value", v)]) X hlim ho hcd hroom (BindsTo.of_eq (by first | rfl | with_unfolding_all rfl)) (by first | rfl | decide | with_unfolding_all rfl) (fun s₁ IC => ?_) rfl rfl rfl
  obtain ⟨h₁, tk₁, rfl⟩ := IC.toInCall.same
  have k : ∀ b o, s.heap.get? b = some o → h₁.get? b = some o := IC.toInCall.keep
  have hn := IC.toInCall.ns
  have hxL : s.heap.objs.size ≠ x := Nat.ne_of_gt (Heap.lt_size hx)
  have X₁ : K.In h₁ := X.keeps k
  have hx₁ := k _ _ hx
  show wpAny _ _ (execs _ _) _ _ _
  refine wpAny_execs_cons (plainObj_wpAny_Assign_Attribute ?_)
  refine ldL (v := v) hn (by first | rfl | with_unfolding_all rfl | kernel_rfl) (ldL (v := .ref x) hn (by first | rfl | with_unfolding_all rfl | kernel_rfl) ?_)
  refine set_plain X₁ (ox := excO C t0) (od := none) ⟨hx₁, rfl, rfl, trivial⟩ T.sa ?_
  refine exc_osa X₁ hx₁ hcl (show refsVE (.ref C :: bm) = true from hbm) rfl T.noN (fun h₃ tk₃ dx k₃ dn dne hx₃ hn₃ => ?_)
  show wpAny _ _ (execs _ _) _ _ _
  have z : s.heap.objs.size < h₁.objs.size := hn.lt
  exact wpAny_execs_nil (hq h₃ tk₃ dx ⟨fun b o hb e => k₃ b o hb (k b o e), hx₃, Nat.le_of_lt (Nat.lt_of_lt_of_le z dn), dne, hn₃⟩)
theorem err_made (T : ErrTxt K mg cn qn C fI) {v : Value} (X : K.In s.heap) (hlim : s.heap.NoLimit) (hroom : A.depth + 1 < recursionLimit)
    (hq : ∀ h' tk e d, MadeE s.heap h' e C d v → R (.ok (.ret (.ref e))) { s with heap := h', toks := tk }) :
    codeAny (model prog w) A (.call (.ref C) ⟨[v], []⟩) R s := by
  obtain ⟨nm, q, N, bs, bm, sn, sub, ab, col, dd, k0, k1, k2, k3, k5, hC, hbm⟩ := T.cls
  obtain ⟨hp, g, dr, tk, os⟩ := s
  have k : ∀ b o, hp.get? b = some o → ((hp.push (kdv_tup [v])).push (excO C hp.objs.size)).get? b = some o := fun b o e => Heap.get?_push_of_some _ (Heap.get?_push_of_some _ e)
  have hget : ((hp.push (kdv_tup [v])).push (excO C hp.objs.size)).get? (hp.objs.size + 1) = some (excO C hp.objs.size) := by heap_get
  have hnx : K.lookup (hp.objs.size + 1) = none := by
    cases e : K.lookup (hp.objs.size + 1) with
    | none => rfl
    | some o =>
      have z : hp.get? (hp.objs.size + 1) = some o := X _ _ e
      exact absurd (Nat.lt_of_succ_lt (Heap.lt_size z)) (Nat.lt_irrefl _)
  refine call_own F.excBase_ValueError (fun X => refsVE_contains X bm hbm) (X _ _ hC) (looks_findIn X T.iC) (fun self => bind_fn X self T.tC) (by rw [sizeLine_eq]; exact (by decide : 1 ≤ 16777216)) ?_
  refine err_init (s := ⟨(hp.push (kdv_tup [v])).push (excO C hp.objs.size), g, dr, tk, os⟩) T (X.keeps k) (hlim.keeps k) hget hnx ?_ fun h' tk' dx ⟨k', hx, dn, dne, hns⟩ => ?_
  · show A.depth + 1 < recursionLimit
    exact hroom
  · have old : ∀ b o, hp.get? b = some o → h'.get? b = some o := fun b o e => k' b o (Nat.ne_of_lt (Nat.lt_succ_of_lt (Heap.lt_size e))) (k b o e)
    have z : hp.objs.size + 1 + 1 ≤ dx := by
      first
        | (simpa only [Heap.size_push] using dn)
        | exact dn
        | (have q := dn; rw [Heap.size_push, Heap.size_push] at q; exact q)
    exact ⟨rfl, hq h' tk' (hp.objs.size + 1) dx ⟨old, Nat.le_succ _, ⟨_, _, hx, rfl, rfl, rfl, rfl⟩, Nat.le_trans (Nat.le_trans (Nat.le_succ _) (Nat.le_succ _)) z, dne, hns⟩⟩
end
def vF (v : V) : List (Str × V) := [(("value" : Str), v)]
theorem relO_v {v : V} {v' : Value} (r : RelV v v') (f : Str) : RelO (List.lookup f (vF v)) (if f = "value" then some v' else none) := by
  by_cases hw : f = "value"
  · subst hw
    rw [if_pos rfl, show List.lookup ("value" : Str) (vF v) = some v by simp [vF, List.lookup]]
    exact r
  · rw [if_neg hw]
    have qw : (f == ("value" : Str)) = false := by simpa using hw
    rw [show List.lookup f (vF v) = none by simp [vF, List.lookup, qw]]
    trivial
section
variable {X : Cx} {C fI : Addr} {cn qn : Str}
/-- C(e) -/
def tMkE (C : Addr) (ta : TA) : L2.St → Hp → L2.XK → Prop := fun σ H Q => ta σ H fun vs H1 => ∃ v, vs = [v] ∧ ∀ d, H1 d = none → Q (.ref C) (some d) (upd H1 d (.xd (vF v)))
theorem pmk_err {a : Expr} {ta : TA} {p pos : Pos} {k : Nat} (T : ErrTxt X.K X.mg cn qn C fI) (hr : Room k X.A) (ha : PA X [a] ta) (hg : Gl X cn := by rfl) (hdb : (cn == ("__debug__" : Str)) = false := by decide)
    (he : starEach (a :: []) X.env = (false, eval a X.env) :: starEach [] X.env := by rfl) (hpl : (backTo pos (starEach [] X.env)).any (·.1) = false := by rfl) :
    PMk X (.Call (.Name cn p) [a] [] pos) (tMkE C ta) := by
  intro pins s σ H Q I h
  refine wpAny_Call_Name_kw (ld_glob I hg T.gC ?_ hdb)
  refine callWith_K (h₀ := X.base) I.ok.mod.kin T.kC (thn (ha.run pos pins s σ H _ I h) fun us s1 hh => ?_) he hpl
  obtain ⟨vs, H1, I1, r1, v, ev, q1⟩ := hh
  subst ev
  refine ⟨I1.kIn, ?_⟩
  cases r1 with
  | cons rv rn =>
    rename_i v' us'
    cases rn
    show wpAny _ _ (call (.ref C) [v']) _ _ _
    have hlim := I1.nolimit
    obtain ⟨hp, g, dr, tk, os⟩ := s1
    refine wpAny_call (err_made T I1.kIn hlim (by have := hr.dp; omega) fun h' tk' e d M => ?_)
    show MkP X pins σ Q (.ref e) ⟨h', g, dr, tk', os⟩
    obtain ⟨oe, fv, hoe, hc, hd, hdat, h1⟩ := M.obj
    have hns := M.ns
    obtain ⟨G', g1, g2⟩ := restrict h' fun b => decide (b ≠ e)
    have gk : ∀ b, b ≠ e → G'.get? b = h'.get? b := fun b hb => g1 b (decide_eq_true hb)
    have ge : G'.get? e = none := g2 e (by simp)
    have old : ∀ b o, hp.get? b = some o → G'.get? b = some o := fun b o q => (gk b (Nat.ne_of_lt (Nat.lt_of_lt_of_le (Heap.lt_size q) M.new))).trans (M.keep b o q)
    have ob : ObjOk X.prog X.w (upd H1 d (.xd (vF v))) G' d (.xd (vF v)) :=
      ⟨_, hns.at (fun o q => (gk d M.dne).trans q), fun f => relO_v rv f⟩
    have J : Inv X pins σ (upd H1 d (.xd (vF v))) ⟨G', g, dr, tk', os⟩ := I1.laid (t' := tk') old M.dbig ob
    refine ⟨e, oe, fv, ⟨G', g, dr, tk', os⟩, _, .ref C, some d, rfl, J, fun b o q => ?_, ge, hoe, ⟨hc, hd⟩, hdat, h1, ?_, rfl, I1.bare, raises_own T.exC T.tyC, q1 d (I1.hok.fresh M.dbig)⟩
    · by_cases hb : b = e
      · have q' : G'.get? b = some o := q
        rw [hb, ge] at q'; cases q'
      · exact (gk b hb).symm.trans q
    · rw [upd_ne (Ne.symm M.dne)]
      exact I1.hok.fresh M.new
theorem ps_raiseE {a : Expr} {ta : TA} {W : WX} {p pos pos2 : Pos} {k : Nat} (hc : X.calm = true) (T : ErrTxt X.K X.mg cn qn C fI) (hr : Room k X.A) (tk : Takes X W) (ha : PA X [a] ta) (hg : Gl X cn := by rfl) (hdb : (cn == ("__debug__" : Str)) = false := by decide)
    (he : starEach (a :: []) X.env = (false, eval a X.env) :: starEach [] X.env := by rfl) (hpl : (backTo pos (starEach [] X.env)).any (·.1) = false := by rfl) :
    PS X (.Raise (some (.Call (.Name cn p) [a] [] pos)) none pos2) (fun _ σ H => tMkE C ta σ H fun cls d H' => W cls d σ H') := ps_raise hc tk (pmk_err T hr ha hg hdb he hpl)
end
end Dv

set_option linter.all false
set_option maxRecDepth 100000
set_option maxHeartbeats 4000000
/-! defs that raise; try -/
namespace Dv
open PySem PySem.Spec PyProof.Rows L2 RZ
structure FnX (P : Program) (w : World) (K : Fg) (mg : Str → Option Value) (base : Heap) (k : Nat) (f : Addr) (fd : FuncData) (ps : List Str) (sp : Sp) : Prop where
  len : ∀ vs H Q E, sp vs H Q E → vs.length = ps.length
  run : ∀ (A : Around) (outer : List Env) (s : Shared) (H : Hp) (args : Args) (us : List Value) (vs : List V) (Q : VK) (E : L2.XK),
    Room k A → A.guards = some [] → Env0 P w K mg base A outer s H → BindsTo s fd args (ps.zip us) → Vals vs us → sp vs H Q E →
      codeAny (model P w) A (.call (.ref f) args) (CR (L2.CX P w) outer P w H s Q E) s
structure CalX (P : Program) (w : World) (K : Fg) (mg : Str → Option Value) (base : Heap) (k : Nat) (x : Str) (ps : List Str) (st : Stmt) (sp : Sp) : Prop where
  ex : ∃ f fd, FnX P w K mg base k f fd ps sp ∧ mg x = some (.ref f) ∧ PySem.W.keepIn K (.ref f) = true ∧ Binds K fd ps [] ∧ Fun K x x st f fd
section
variable {P : Program} {w : World} {K : Fg} {mg : Str → Option Value} {base : Heap}
abbrev xcx (P : Program) (w : World) (K : Fg) (mg : Str → Option Value) (base : Heap) (N : List Str) (x : Str) (st : Stmt) (f : Addr) (cdv : Value) (A : Around) (outer : List Env) (s : Shared) (H : Hp) (E : L2.XK) : Cx :=
  cxOf (L2.CX P w) P w K mg base N x (defScope st) f cdv A outer s H E
theorem fnX_of {x : Str} {st : Stmt} {f : Addr} {fd : FuncData} {N ps : List Str} {k : Nat} {sp : Sp} (F : Fun K x x st f fd) (S : FnScope N ps (defScope st)) (len : ∀ vs H Q E, sp vs H Q E → vs.length = ps.length)
    (body : ∀ (cdv : Value) (A : Around) (outer : List Env) (s : Shared) (H : Hp) (vs : List V) (Q : VK) (E : L2.XK), Room k (A.deeper (envOfC x (defScope st) s.heap.objs.size f cdv)) → A.guards = some [] → sp vs H Q E →
      ∃ t, PSs (xcx P w K mg base N x st f cdv A outer s H E) (defBody st) t ∧ t { nx := fun _ H' => Q .non H', rt := Q } (start N vs) H) : FnX P w K mg base (k + 1) f fd ps sp := by
  obtain ⟨oc, od, kV, doc, pm, an, cdv, ct, osl, rfl, lk, hcd⟩ := F.ex
  refine ⟨len, fun A outer s H args us vs Q E hr hg e0 hb r hsp => ?_⟩
  have hl := len _ _ _ _ hsp
  have KX : K.In s.heap := e0.mod.kin.keeps fun b o e => (e0.bs b o e).1
  have lim : s.heap.NoLimit := e0.mod.nolimit.keeps fun b o e => (e0.bs b o e).1
  refine codeAny_call_function hr.depth (KX _ _ lk) rfl S.co S.gen rfl (PySem.W.codeRec_of KX hcd) (hb _ _ _ _ ?_)
  refine wpAny_newFunctionEnv_cells S.kind (fun ⟨n, v⟩ hy => ?_) fun env he s1 z => ?_
  · rcases S.par n (List.of_mem_zip hy).1 with q | q
    · exact .inl q
    · exact .inr ⟨q, PySem.W.cellsFrom_some _ _ _ (.inl q)⟩
  · subst he
    refine ⟨lim.keeps z.toInCall.keep, codeAny_func ?_⟩
    obtain ⟨t, ht, hq⟩ := body cdv A outer s H vs Q E (hr.deeper _) hg hsp
    have I : Inv (cxOf (L2.CX P w) P w K mg base N x (defScope st) f cdv A outer s H E) [] (start N vs) H s1 := inv_start S hr.hd e0 hl r z
    refine wpAny_mono (ht.run [] s1 (start N vs) H _ I hq) (fun fl s' hs => ?_) fun e s' hs => hs
    cases fl with
    | ret u => obtain ⟨v, σ', H', J, rv, q⟩ := hs; exact ⟨v, H', J.os, J.bare, J.base, J.hok, rv, q⟩
    | next => obtain ⟨σ', H', J, q⟩ := hs; exact ⟨V.non, H', J.os, J.bare, J.base, J.hok, rfl, q⟩
    | brk => obtain ⟨_, _, _, q⟩ := hs; exact False.elim q
    | cont => obtain ⟨_, _, _, q⟩ := hs; exact False.elim q
end
/-- the def raises: class cn, its value x -/
def spX (K : Fg) (mg : Str → Option Value) (R : List Dt → Str → Dt → Prop) : Sp := fun vs H _ E => ∃ G ds cn x, Ex G H ∧ DzAll K G vs ds ∧ R ds cn x ∧
  ∀ C d v G' H', mg cn = some (.ref C) → Step H G G' → Ex H H' → Ex G' H' → H d = none → H' d = some (.xd (vF v)) → Dz K G' v x → E (.ref C) (some d) H'
def PostX (K : Fg) (mg : Str → Option Value) (p : Option Addr) (B G : Hp) (W : WX) (ox : Str → Dt → Prop) : Prop := ∀ (C : Addr) (cn : Str) (d : Addr) (v : V) (x : Dt) (σ : L2.St) (G' H' : Hp), ox cn x → mg cn = some (.ref C) → Step B G G' → I3 p B G' H' → B d = none → H' d = some (.xd (vF v)) → Dz K G' v x → W (.ref C) (some d) σ H'
theorem PostX.step {K : Fg} {mg : Str → Option Value} {p : Option Addr} {B G G' : Hp} {W : WX} {ox : Str → Dt → Prop} (h : PostX K mg p B G W ox) (s : Step B G G') : PostX K mg p B G' W ox := fun C cn d v x σ G2 H2 a b c => h C cn d v x σ G2 H2 a b (s.trans c)
def rRX (X : Cx) (δ : De) (W : WX) (ox : Str → Dt → Prop) : TS := fun _ σ H => ∃ p B G, I3 p B G H ∧ EnvD X.K p B G H σ δ ∧ PostX X.K X.mg p B G W ox
/-- the block raises -/
def RsX (X : Cx) (sts : List Stmt) (δ : De) (ox : Str → Dt → Prop) : Prop := ∀ W, Takes X W → PSs X sts (rRX X δ W ox)
section
variable {X : Cx} {δ δ' : De} {sts tss rest : List Stmt} {a c e : Expr} {es : List Expr} {p pos pos2 : Pos} {ox : Str → Dt → Prop} {cn qn x : Str} {C fI : Addr} {k : Nat} {ps : List Str} {st : Stmt}
theorem never {sts : List Stmt} : PSs X sts (fun _ _ _ => False) := ⟨fun pins s σ H D I h => h.elim⟩
theorem s_start {N : List Str} {es : List En} (h : StR N es δ) (k : RsX X sts δ ox) : RsX X sts (stD N es) ox := h.eq ▸ k
theorem x_eq {sts' : List Stmt} (h : sts = sts') (k : RsX X sts' δ ox) : RsX X sts δ ox := h ▸ k
theorem x_raise (T : ErrTxt X.K X.mg cn qn C fI) (h : XD X a δ (fun d => ox cn d)) (hr : Room k X.A := by first | assumption | (refine Room.mono (by assumption) ?_; decide)) (hc : X.calm = true := by rfl) (hg : Gl X cn := by rfl) (hdb : (cn == ("__debug__" : Str)) = false := by decide)
    (he : starEach (a :: []) X.env = (false, eval a X.env) :: starEach [] X.env := by rfl) (h2 : starEach [a] X.env = [a].map fun e => (false, eval e X.env) := by rfl) (hpl : (backTo pos (starEach [] X.env)).any (·.1) = false := by rfl) :
    RsX X (.Raise (some (.Call (.Name cn p) [a] [] pos)) none pos2 :: rest) δ ox := fun W tk =>
  PSs.imp (pss_cons (ps_raiseE hc T hr tk (a_c (T := fun ds => ∃ d, ds = [d] ∧ ox cn d) (h.mono fun d k => a_n ⟨d, rfl, k⟩) he h2).pa hg hdb he hpl) never) fun D σ H ⟨p, B, G, i3, en, q⟩ => ⟨p, B, G, i3, en, fun vs ds G1 H1 ⟨d, e, r⟩ n hv => by
    subst e
    obtain ⟨v, rfl, hw⟩ := one_of hv
    have i31 := i3.nxt n
    refine ⟨v, rfl, fun dd hd => q C cn dd v d σ G1 _ r T.gC (n.stepB i3) (i31.nxt (.newH i31 _ hd)) (i31.bh.free hd) upd_same (dp_ex (Ex.refl _) _ _ hw)⟩⟩
theorem x_if (h : XT X c δ (fun k => k = true)) (hr : RsX X sts δ ox) : RsX X (.If c sts tss pos :: rest) δ ox := fun W tk =>
  PSs.imp (pss_cons (ps_if h (hr W tk) (never (sts := tss))) never) fun D σ H ⟨p, B, G, i3, en, q⟩ => ⟨p, B, G, i3, en, fun k G1 H1 r n => by
    subst r
    exact iteT ⟨p, B, G1, i3.nxt n, en.nxt n, q.step (n.stepB i3)⟩⟩
theorem x_skip (h : XT X c δ (fun k => k = false)) (hr : RsX X rest δ ox) : RsX X (.If c sts [] pos :: rest) δ ox := fun W tk =>
  PSs.imp (pss_cons (ps_if h (never (sts := sts)) pss_nil) (hr W tk)) fun D σ H ⟨p, B, G, i3, en, q⟩ => ⟨p, B, G, i3, en, fun k G1 H1 r n => by
    subst r
    exact iteF ⟨p, B, G1, i3.nxt n, en.nxt n, q.step (n.stepB i3)⟩⟩
/-- a statement that goes on -/
theorem x_seq {st : Stmt} {N : De → Prop} (h : SD X st δ { nx := N }) (hk : ∀ δ', N δ' → RsX X rest δ' ox) : RsX X (st :: rest) δ ox := fun W tk => by
  have z : PSs X rest (fun D σ H => ∃ δ', N δ' ∧ rRX X δ' W ox D σ H) := ⟨fun pins s σ H D I ⟨δ', n, q⟩ => (hk δ' n W tk).run pins s σ H D I q⟩
  exact PSs.imp (pss_cons h z) fun D σ H ⟨p, B, G, i3, en, q⟩ => ⟨p, B, G, i3, en, fun δ1 σ1 G1 H1 a s i en1 => ⟨δ1, a, p, B, G1, i, en1, q.step s⟩, fun _ _ _ _ z => z.elim, fun _ _ _ _ z => z.elim, fun _ _ _ _ z => z.elim, fun _ _ _ _ _ z => z.elim⟩
theorem x_do (h : XD X e δ fun _ => True) (hr : RsX X rest δ ox) (hs : swapsWith e none pos.line X.env = pure false := by rfl) : RsX X (.Expr e pos :: rest) δ ox := x_seq (N := fun δ' => δ' = δ) (sd_expr (o := {}) (N := fun δ' => δ' = δ) h (fun d _ => rfl) hs) fun δ' e => e ▸ hr
theorem x_let {pos' : Pos} {y : Str} {i : Nat} {F : Dt → De} (hi : Nx X.N y i) (hF : ∀ d, SetR δ i (.d d) (F d)) (h : XD X e δ fun d => RsX X rest (F d) ox) (hN : X.N.Nodup := by assumption) (hx : Loc X.env.scope y := by first | exact Or.inl rfl | exact Or.inr rfl)
    (hs : swapsWith e (some (.Name y pos')) pos.line X.env = pure false := by rfl) (hf : X.fn y = true ∨ X.env.scope.names.lookup y = some .local := by first | exact .inl rfl | exact .inr rfl | assumption) : RsX X (.Assign [.Name y pos'] e pos :: rest) δ ox :=
  x_seq (N := fun δ' => RsX X rest δ' ox) (sd_set (o := {}) (N := fun δ' => RsX X rest δ' ox) i hN h (fun d k => by rw [(hF d).eq]; exact k) hi.eq hx hs hf) fun δ' h => h
/-- a call that raises -/
theorem run_x {f : Addr} {fd : FuncData} {sp : Sp} {W : WX} {pins : List (Addr × Obj)} {σ : L2.St} {H : Hp} {s : Shared} {Q : VK} {us : List Value} {vs : List V} (F : FnX X.prog X.w X.K X.mg X.base k f fd ps sp) (hr : Room k X.A) (hgd : X.A.guards = some []) (hb : Binds X.K fd ps []) (tk : Takes X W)
    (I : Inv X pins σ H s) (r : Vals vs us) (h : sp vs H Q (WE W σ)) : wpAny (model X.prog X.w) X.A (call (.ref f) us) (EP X pins σ Q) X.xe s := by
  have hl : (us ++ []).length = ps.length := by rw [List.append_nil, ← r.length]; exact F.len _ _ _ _ h
  have hb' := hb s us I.kIn hl
  rw [List.append_nil] at hb'
  refine wpAny_call (codeAny_mono (F.run X.A X.stack s H ⟨us, []⟩ us vs Q (WE W σ) hr hgd I.env0 hb' r h) fun r s' hq => ?_)
  cases r with
  | error e => exact passAt tk σ pins H s e s' I hq
  | ok fl =>
    cases fl with
    | ret u => exact I.after hq
    | next => exact False.elim hq
    | brk => exact False.elim hq
    | cont => exact False.elim hq
def PostE (K : Fg) (mg : Str → Option Value) (p : Option Addr) (G H : Hp) (W : WX) (ox : Str → Dt → Prop) (σ : L2.St) : Prop := ∀ (C : Addr) (cn : Str) (d : Addr) (v : V) (x : Dt) (G' H' : Hp), ox cn x → mg cn = some (.ref C) → Nxt p G H G' H' → H d = none → H' d = some (.xd (vF v)) → Dz K G' v x → W (.ref C) (some d) σ H'
theorem PostX.at' {K : Fg} {mg : Str → Option Value} {p : Option Addr} {B G H : Hp} {W : WX} {ox : Str → Dt → Prop} {σ : L2.St} (i3 : I3 p B G H) (h : PostX K mg p B G W ox) : PostE K mg p G H W ox σ := fun C cn d v x G' H' r gC n hd hd2 hv => h C cn d v x σ G' H' r gC (n.stepB i3) (i3.nxt n) (i3.bh.free hd) hd2 hv
def rEX (X : Cx) (δ : De) (W : WX) (ox : Str → Dt → Prop) : TE := fun σ H _ => ∃ p B G, I3 p B G H ∧ EnvD X.K p B G H σ δ ∧ PostE X.K X.mg p G H W ox σ
/-- an expression that raises -/
def XR (X : Cx) (e : Expr) (δ : De) (ox : Str → Dt → Prop) : Prop := ∀ W, Takes X W → PE X e (rEX X δ W ox)
theorem r_call {R : List Dt → Str → Dt → Prop} (Cl : CalX X.prog X.w X.K X.mg X.base k x ps st (spX X.K X.mg R)) (ha : XA X (e :: es) δ fun ds => ∃ cn y, R ds cn y ∧ ox cn y) (hr : Room k X.A := by first | assumption | (refine Room.mono (by assumption) ?_; decide)) (hgd : X.A.guards = some [] := by assumption) (hg : Gl X x := by rfl)
    (hpl : starEach es X.env = es.map fun e => (false, eval e X.env) := by rfl) (hdb : (x == ("__debug__" : Str)) = false := by decide) : XR X (.Call (.Name x p) (e :: es) [] pos) δ ox := fun W tk => by
  obtain ⟨f, fd, F, hm, hk, hb, _⟩ := Cl.ex
  refine ⟨fun pins s σ H Q I ⟨p, B, G, i3, en, q⟩ => ?_⟩
  refine wpAny_Call_Name_kw (ld_glob I hg hm ?_ hdb)
  refine PySem.W.callWith_K (h₀ := X.base) I.ok.mod.kin hk (thn (ha.pa.run pos pins s σ H (fun vs H1 => ∃ ds G1, (∃ cn y, R ds cn y ∧ ox cn y) ∧ Nxt p G H G1 H1 ∧ DzAll X.K G1 vs ds) I ⟨p, B, G, i3, en, fun vs ds G1 H1 r n hv => ⟨ds, G1, r, n, hv⟩⟩) fun us s1 ⟨vs, H1, I1, r, ds, G1, ⟨cn, y, h1, h2⟩, n, hv⟩ => ⟨I1.kIn, ?_⟩) (by rw [hpl]; exact ha.pl) (back_plain hpl)
  have i31 := i3.nxt n
  refine run_x F hr hgd hb tk I1 r ⟨G1, ds, cn, y, i31.gh, hv, h1, fun C d v G' H' gC st e1 e2 hd hd2 hv2 => ?_⟩
  have n2 : Nxt p G1 H1 G' H' := ⟨st, fun a o h => e1 a o (del_le h).1, e2, fun z hz => by
    obtain ⟨_, _, a, b, h3, h4⟩ := i31.pot z hz
    exact ⟨a, b, e1 _ _ h3, h4⟩⟩
  exact q C cn d v y G' H' h2 gC (n.trans n2) (back_none n hd) hd2 hv2
theorem x_ret (h : XR X e δ ox) : RsX X (.Return (some e) pos :: rest) δ ox := fun W tk => PSs.imp (pss_cons (ps_ret (h W tk)) never) fun D σ H ⟨p, B, G, i3, en, q⟩ => ⟨p, B, G, i3, en, q.at' i3⟩
theorem x_exp (h : XR X e δ ox) (hs : swapsWith e none pos.line X.env = pure false := by rfl) : RsX X (.Expr e pos :: rest) δ ox := fun W tk => PSs.imp (pss_cons (ps_expr (h W tk) hs) never) fun D σ H ⟨p, B, G, i3, en, q⟩ => ⟨p, B, G, i3, en, q.at' i3⟩
end
section
variable {P : Program} {w : World} {K : Fg} {mg : Str → Option Value} {base : Heap} {x : Str} {st : Stmt} {f : Addr} {fd : FuncData} {N ps : List Str} {k : Nat} {R : List Dt → Str → Dt → Prop}
theorem fnX_data (F : Fun K x x st f fd) (S : FnScope N ps (defScope st)) (len : ∀ ds cn d, R ds cn d → ds.length = ps.length)
    (body : ∀ (cdv : Value) (A : Around) (outer : List Env) (s : Shared) (H : Hp) (E : L2.XK), Room k (xcx P w K mg base N x st f cdv A outer s H E).A → (xcx P w K mg base N x st f cdv A outer s H E).A.guards = some [] → (xcx P w K mg base N x st f cdv A outer s H E).A.units + 64 < cLine →
      ∀ ds cn d, R ds cn d → RsX (xcx P w K mg base N x st f cdv A outer s H E) (defBody st) (stD N (ds.map .d)) (fun c y => c = cn ∧ y = d)) : FnX P w K mg base (k + 1) f fd ps (spX K mg R) := by
  refine fnX_of F S (fun vs H Q E ⟨G, ds, cn, d, _, h, r, _⟩ => by rw [dpAll_length h]; exact len ds cn d r) fun cdv A outer s H vs Q E hr hg ⟨G, ds, cn, y, eg, h, r, q⟩ => ?_
  refine ⟨_, body cdv A outer s H E hr hg hr.units ds cn y r (fun cls d _ H => E cls d H) (takes_of rfl rfl rfl rfl), none, H, G, ⟨Ex.refl H, eg, fun _ z => nomatch z⟩, env_data h, ?_⟩
  intro C cn' d v y' σ G' H' e gC st i bd hd hv
  obtain ⟨rfl, rfl⟩ := e
  exact q C d v G' H' gC st i.bh i.gh bd hd hv
end
end Dv

set_option linter.all false
set_option maxRecDepth 100000
set_option maxHeartbeats 4000000
/-! isinstance of an error that has its dict; the suite of an except clause -/
namespace Dv
open PySem PySem.Spec PyProof.Rows L2 RZ PySem.W
section
variable {prog : Program} {w : World} {A : Around} {E : Value → Shared → Prop} {s : Shared} {K : Fg} {x D : Addr} {ox : Obj} {od : Option Obj}
theorem find_cls (o : Option Obj) (hc : (clsIn K D).isSome = true) (ha : findIn K (.ref D) "__class__" = some (some (.builtin "object.__class__"))) (hg : specialIn K (.builtin "object.__class__") "__get__" = some (some (.builtin "getset_descriptor.__get__"))) (ht : takesIn K (.builtin "object.__class__") = some true) : findObj K D o "__class__" = some (.bind (.builtin "getset_descriptor.__get__") (.builtin "object.__class__")) := by
  obtain ⟨cd, hc⟩ := Option.isSome_iff_exists.mp hc
  unfold findObj
  rw [hc, Option.bind_some, ha, Option.bind_some]
  simp [hg, ht]
theorem err_class {Q : Option Value → Shared → Prop} (T : L2.ExcC K D) (X : K.In s.heap) (I : InstAt s.heap x ox D od) (h : Q (some (.ref D)) { s with toks := s.toks + 1 }) : wpAny (model prog w) A (getAttr? (.ref x) "__class__") Q E s := by
  obtain ⟨hga, hgt, hsub, hdct, ha, hn, htk, hm⟩ := T
  have hf := find_cls od (by obtain ⟨cd, hc, _⟩ := any_some hdct; rw [hc]; rfl) ha hn htk
  obtain ⟨hp, g, d, t, os⟩ := s
  have k0 := I.type (M := model prog w)
  have k1 := looks_findIn (M := model prog w) X hga
  have k2 := looks_findIn (M := model prog w) X hgt
  have k3 := looks_find (M := model prog w) X I hf
  have sub : Looks (model prog w) hp (isInstance (.ref x) (.type "BaseException")) true := k0.andThen (looks_subIn X hsub)
  have e0 : (false && onTheHeap (Value.builtin "BaseException.__getattribute__")) = false := rfl
  have e2 : (Value.builtin "BaseException.__getattribute__" == Value.builtin "object.__getattribute__") = false := by decide +kernel
  have e1 : (onTheHeap (Value.ref D) && Value.builtin "BaseException.__getattribute__" == Value.builtin "object.__getattribute__") = false := by rw [e2]; rfl
  unfold getAttr?
  unfold getAttrBy?
  unfold getAttrBy
  refine wpAny_bind (wpAny_mkText (wpAny_bind (wpAny_attempt (wpAny_holding (wpAny_bind (k0.at (wpAny_bind (k1.at (?_ : wpAny _ _ (if (onTheHeap (Value.ref D) && Value.builtin "BaseException.__getattribute__" == Value.builtin "object.__getattribute__") = true then _ else _) _ _ _)))))))))
  rw [e1, if_neg (by decide)]
  unfold getAttrByItsOwn
  unfold hookBefore
  refine wpAny_bind ?_
  rw [if_pos (show onTheHeap (Value.ref D) = true by rfl)]
  refine k2.at (wpAny_bind (wpAny_attempt (wpAny_holding ?_)))
  unfold callGetattribute
  rw [e0, if_neg (by decide)]
  unfold boundAndCalled
  rw [PySem.F.excAttr_ValueError.ga.bind (.ref x)]
  refine wpAny_bind (wpAny_pure (?_ : wpAny _ _ (call (.builtin "BaseException.__getattribute__") [.ref x, .str "__class__" t]) _ _ _))
  refine wpAny_call (codeAny_call_builtin PySem.F.excAttr_ValueError.ga.plain PySem.F.entry_bexc_ga (@check_slot (model prog w) _ _ ⟨hp, g, d, t + 1, os⟩ "BaseException.__getattribute__" "BaseException" "__getattribute__" (.ref x) [.str "__class__" t] [] _ (by decide +kernel) (by decide +kernel) sub (PySem.F.args_bexc_ga (.ref x) (.str "__class__" t)) ?_))
  unfold Builtin.«object.__getattribute__»
  refine wpAny_bind (wpAny_of_eq (a := ((Value.ref x : Value), [Value.str "__class__" t])) (by first | rfl | (simp only [slotArgs]; rfl)) (wpAny_bind (wpAny_pure (wpAny_bind (k0.at (wpAny_bind (k3.at ?_)))))))
  show wpAny _ _ (holding [Value.builtin "object.__class__"] (call (.builtin "getset_descriptor.__get__") [.builtin "object.__class__", .ref x, .ref D]) >>= ret) _ _ _
  refine wpAny_bind (wpAny_holding (wpAny_call (class_get (s := ⟨hp, g, d, t + 1, os⟩) (ox := ox) (od := od) X I hm (wpAny_pure ?_))))
  show wpAny _ _ (handedOut (.ref D)) _ _ _
  rw [handedOut_of (v := .ref D) rfl]
  first
    | exact wpAny_pure (wpAny_pure h)
    | exact wpAny_pure h
    | exact wpAny_pure (wpAny_bind (wpAny_pure (wpAny_pure h)))
theorem err_kit (T : L2.ExcC K D) : KitX K (.ref x) (.ref D) (fun h => InstAt h x ox D od) where
  ty := fun _ _ _ I => I.type
  it := fun _ _ X _ => by
    obtain ⟨c1, h1, _⟩ := any_some T.hd
    unfold clsIn at h1
    split at h1
    · rename_i c' d' cd' sl' ho
      intro A' Q' E' s' k q
      unfold isType
      unfold loadHead
      exact wpAny_bind (wpAny_loadPart (k _ _ (X _ _ ho)) (wpAny_pure q))
    · cases h1
  ne := fun h tp dd its n sl X htp => by
    obtain ⟨c1, h1, _⟩ := any_some T.hd
    refine Bool.eq_false_iff.mpr fun q => ?_
    have e : D = tp := Value.ref.inj (beq_iff_eq.mp q)
    subst e
    unfold clsIn at h1
    split at h1
    · rename_i c' d' cd' sl' ho
      have z := (X _ _ ho).symm.trans htp
      cases z
    · cases h1
  ca := fun X I k => err_class T X I k
end
/-- isinstance(e, c), e the error that the suite holds -/
def rIsR (K : Fg) (D a dd : Addr) : List V → Hp → VK → Prop := fun xs H Q => ∃ (c : V) (cv : Value) (b : Bool) (fs : List (Str × V)), xs = [.ref a, c] ∧ (∀ u, RelV c u → u = cv) ∧ kitOne K (.ref D) cv = some b ∧ H dd = some (.xd fs) ∧ Q (.bl b) H
theorem call_isR {X : Cx} {a D dd : Addr} {oe : Obj} {pn : List (Addr × Obj)} (C : L2.ExcC X.K D) (hz : Zc (.ref D) (some dd) oe) (hf : ∃ vs, oe.data = .fields vs) : CallR (X.suite a ((a, oe) :: pn)) (.builtin "isinstance") (rIsR X.K D a dd) := by
  intro pins s σ H xs us Q I r h
  obtain ⟨c, cv, b, fs, rfl, hcv, e, hd, q⟩ := h
  cases r with
  | cons rx rr =>
    cases rr with
    | cons rt rr =>
      cases rr
      cases rx
      have ec := hcv _ rt
      subst ec
      obtain ⟨hget, _⟩ := I.pin (a, oe) (List.mem_append.mpr (.inl List.mem_cons_self))
      obtain ⟨vs, hv⟩ := hf
      have hx : ObjOk X.prog X.w H s.heap dd (.xd fs) := I.hok dd _ hd
      obtain ⟨mA, hns, hr⟩ := hx
      obtain ⟨od, ho, hl⟩ := lookIn_ns hns
      have J : InstAt s.heap a oe D (some od) := ⟨hget, hz.1, by unfold notCls; rw [hv] <;> rfl, by rw [hz.2]; exact ho⟩
      exact kia_one (err_kit C) I.kIn J e (fun z => nomatch z) fun tk => ⟨.bl b, H, I.kept (t' := tk) fun _ _ z => z, rfl, q⟩
end Dv

set_option linter.all false
set_option maxRecDepth 100000
set_option maxHeartbeats 4000000
/-! try: a call that raises; except C as n: one statement over n.value -/
namespace Dv
open PySem PySem.Spec PyProof.Rows L2 RZ
/-- the error at a in slot i, of the class at C, its dict d; x: its value -/
structure Held (K : Fg) (p : Option Addr) (B G H : Hp) (σ : L2.St) (δ : De) (i : Nat) (C a : Addr) (cls : Value) (d : Option Addr) (x : Dt) (dd : Addr) (v : V) : Prop where
  i3 : I3 p B G H
  en : EnvD K p B G H σ δ
  at' : σ[i]? = some (some (.ref a))
  cl : cls = .ref C
  dc : d = some dd
  hd : H dd = some (.xd (vF v))
  hv : Dz K G v x
theorem Held.go {K : Fg} {p : Option Addr} {B G H G' H' : Hp} {σ : L2.St} {δ : De} {i : Nat} {C a : Addr} {cls : Value} {d : Option Addr} {x : Dt} {dd : Addr} {v : V} (h : Held K p B G H σ δ i C a cls d x dd v) (n : Nxt p G H G' H') : Held K p B G' H' σ δ i C a cls d x dd v :=
  ⟨h.i3.nxt n, h.en.nxt n, h.at', h.cl, h.dc, n.ex _ _ (by
    rw [del_ne]
    · exact h.hd
    · intro z
      obtain ⟨_, _, _, _, h3, _⟩ := h.i3.pot dd z
      rw [h.hd] at h3; cases h3), dp_ex n.st.1 _ _ h.hv⟩
def rXE (K : Fg) (δ : De) (i : Nat) (C a : Addr) (cls : Value) (d : Option Addr) (x : Dt) (U : Dt → Prop) : TE := fun σ H Q => ∃ p B G dd v, Held K p B G H σ δ i C a cls d x dd v ∧ ∀ u y G' H', U y → Nxt p G H G' H' → Dz K G' u y → Q u H'
def rAE (K : Fg) (δ : De) (i : Nat) (C a : Addr) (cls : Value) (d : Option Addr) (x : Dt) (ds : List Dt) : TA := fun σ H Q => ∃ p B G dd v, Held K p B G H σ δ i C a cls d x dd v ∧ ∀ us G' H', Nxt p G H G' H' → DzAll K G' us ds → Q us H'
def rSE (K : Fg) (δ : De) (i : Nat) (C a : Addr) (cls : Value) (d : Option Addr) (x : Dt) (o : Out) : TS := fun D σ H => ∃ p B G dd v, Held K p B G H σ δ i C a cls d x dd v ∧ Post K p B G D o
/-- where the suite stands -/
structure Hold (X Y : Cx) (a : Addr) (cls : Value) (d : Option Addr) (i : Nat) (n : Str) (C : Addr) : Prop where
  ex : ∃ oe pn, Y = X.suite a ((a, oe) :: pn) ∧ Zc cls d oe ∧ ∃ vs, oe.data = .fields vs
  nm : X.N[i]? = some n
section
variable {X Y : Cx} {a C : Addr} {cls : Value} {d : Option Addr} {i : Nat} {n : Str} {δ : De} {x : Dt} {U : Dt → Prop} {e b : Expr} {es rest : List Expr} {ds : List Dt} {y : Dt} {pos p np : Pos}
def YE (Y : Cx) (δ : De) (i : Nat) (C a : Addr) (cls : Value) (d : Option Addr) (x : Dt) (e : Expr) (U : Dt → Prop) : Prop := PE Y e (rXE Y.K δ i C a cls d x U)
def YA (Y : Cx) (δ : De) (i : Nat) (C a : Addr) (cls : Value) (d : Option Addr) (x : Dt) (es : List Expr) (ds : List Dt) : Prop := PA Y es (rAE Y.K δ i C a cls d x ds)
theorem ye_of (h : XD Y e δ U) : YE Y δ i C a cls d x e U := PE.imp h fun σ H Q ⟨p, B, G, dd, v, hh, q⟩ => ⟨p, B, G, hh.i3, hh.en, q⟩
theorem ye_val (hh : Hold X Y a cls d i n C) (T : ∃ mg cn qn fI, ErrTxt X.K mg cn qn C fI) (k : U x) (hv : Vis X.env.scope n := by first | exact Or.inl rfl | exact Or.inr (Or.inl rfl) | exact Or.inr (Or.inr rfl)) (hd : (n == ("__debug__" : Str)) = false := by decide) (hcd : (n == ("__classdict__" : Str)) = false := by decide)
    (hb : attributeBase (.Name n np) "value" X.env (eval (.Name n np) X.env) = eval (.Name n np) X.env := by rfl) : YE Y δ i C a cls d x (.Attribute (.Name n np) "value" pos) U := by
  obtain ⟨oe, pn, rfl, hz, hf⟩ := hh.ex
  obtain ⟨mg, cn, qn, fI, T⟩ := T
  refine PE.imp (pe_xf (X := X) (C := C) ⟨T.ga, T.gg, T.exC, T.hdC⟩ T.noN hz hf (pe_var (X := X.suite a ((a, oe) :: pn)) hh.nm hv hd hcd) hb) fun σ H Q ⟨p, B, G, dd, v, h, q⟩ => ?_
  exact ⟨_, h.at', rfl, h.cl, dd, vF v, v, h.dc, h.hd, by simp [vF, List.lookup], q v x G H k (.refl h.i3) h.hv⟩
theorem ye_is {kn : Str} {kp : Pos} {c : V} {cv : Value} (hh : Hold X Y a cls d i n C) (E : L2.ExcC X.K C) (hK : PE Y (.Name kn kp) (tC c)) (hcv : ∀ u, RelV c u → u = cv) (hk : PySem.W.kitOne X.K (.ref C) cv = some true) (k : U (.bool true)) (F : Free X.mg := by assumption)
    (hv : Vis X.env.scope n := by first | exact Or.inl rfl | exact Or.inr (Or.inl rfl) | exact Or.inr (Or.inr rfl)) (hd : (n == ("__debug__" : Str)) = false := by decide) (hcd : (n == ("__classdict__" : Str)) = false := by decide) (hg : Gl X "isinstance" := by rfl)
    (hs1 : starEach [.Name kn kp] X.env = [(false, eval (.Name kn kp) X.env)] := by rfl) (hs : starEach [.Name n np, .Name kn kp] X.env = (false, eval (.Name n np) X.env) :: starEach [.Name kn kp] X.env := by rfl) : YE Y δ i C a cls d x (.Call (.Name "isinstance" p) [.Name n np, .Name kn kp] [] pos) U := by
  obtain ⟨oe, pn, rfl, hz, hf⟩ := hh.ex
  by_cases q1 : cls = .ref C
  case neg =>
    exact ⟨fun pins s σ H Q I ⟨p, B, G, dd, v, h, _⟩ => absurd h.cl q1⟩
  subst q1
  cases d with
  | none => exact ⟨fun pins s σ H Q I ⟨p, B, G, dd, v, h, _⟩ => by have := h.dc; cases this⟩
  | some dd0 =>
    refine PE.imp (pe_callB (X := X.suite a ((a, oe) :: pn)) (call_isR E hz hf) hg (F _ (by decide +kernel)) (by decide +kernel) (pa_cons (pe_var (X := X.suite a ((a, oe) :: pn)) hh.nm hv hd hcd) (pa_cons hK pa_nil hs1) hs) (by decide) (by decide) hs (by rw [hs1]; exact back_plain (es := [.Name kn kp]) hs1)) fun σ H Q ⟨p, B, G, dd, v, h, q⟩ => ?_
    have e := h.dc
    cases e
    exact ⟨_, h.at', c, cv, true, vF v, rfl, hcv, hk, h.hd, q (.bl true) (.bool true) G H k (.refl h.i3) (.bl true)⟩
theorem ye_fn1 {id : String} {kn : Str} (hX : Y.mg = X.mg) (hvb : bootBuiltins kn = some (.builtin id)) (h : YE Y δ i C a cls d x e fun y => CallP Y (.builtin id) [y] U) (F : Free X.mg := by assumption) (hb : bnames.contains kn = true := by decide +kernel) (hg : Gl Y kn := by rfl) (hn : kn ≠ "__name__" := by decide) (hdb : (kn == ("__debug__" : Str)) = false := by decide)
    (h1 : starEach [e] Y.env = (false, eval e Y.env) :: starEach [] Y.env := by rfl) (hpl : (backTo pos (starEach [] Y.env)).any (·.1) = false := by rfl) : YE Y δ i C a cls d x (.Call (.Name kn p) [e] [] pos) U := by
  refine PE.imp (pe_callB (r := fun vs H Q => ∃ r, CallR Y (.builtin id) r ∧ r vs H Q) (fun pins s σ H vs us Q I rv ⟨r, hc, q⟩ => hc pins s σ H vs us Q I rv q) hg (by rw [hX]; exact F kn hb) hvb (pa_cons h pa_nil h1) hn hdb h1 hpl) fun σ H Q ⟨p, B, G, dd, v, hh, q⟩ => ⟨p, B, G, dd, v, hh, fun u y G' H' ⟨r, hc, hr⟩ n hu => ?_⟩
  exact ⟨r, hc, hr p B G' H' [u] (hh.i3.nxt n) (.cons hu .nil) Q fun u2 d2 G2 H2 rr n2 hu2 => q u2 d2 G2 H2 rr (n.trans n2) hu2⟩
theorem ye_and (h : YE Y δ i C a cls d x e (fun y => y = .bool true)) (hb : YE Y δ i C a cls d x (.BoolOp .And (b :: rest) pos) U) : YE Y δ i C a cls d x (.BoolOp .And (e :: b :: rest) pos) U :=
  PE.imp (pe_and h hb) fun σ H Q ⟨p, B, G, dd, v, hh, q⟩ => ⟨p, B, G, dd, v, hh, fun u y G' H' r n hu => by
    subst r
    cases hu
    exact ⟨true, rfl, iteT ⟨p, B, G', dd, v, hh.go n, fun u2 d2 G2 H2 r2 n2 k2 => q u2 d2 G2 H2 r2 (n.trans n2) k2⟩⟩⟩
theorem ye_one {op} (h : YE Y δ i C a cls d x e U) : YE Y δ i C a cls d x (.BoolOp op [e] pos) U := pe_one h
theorem ya_n : YA Y δ i C a cls d x [] [] := PA.imp pa_nil fun σ H Q ⟨p, B, G, dd, v, hh, q⟩ => q [] G H (.refl hh.i3) .nil
theorem ya_c (h : YE Y δ i C a cls d x e (fun z => z = y)) (h2 : YA Y δ i C a cls d x es ds) (hs : starEach (e :: es) Y.env = (false, eval e Y.env) :: starEach es Y.env := by rfl) : YA Y δ i C a cls d x (e :: es) (y :: ds) :=
  PA.imp (pa_cons h h2 hs) fun σ H Q ⟨p, B, G, dd, v, hh, q⟩ => ⟨p, B, G, dd, v, hh, fun u z G' H' r n hu => by
    subst r
    exact ⟨p, B, G', dd, v, hh.go n, fun us G2 H2 n2 hv2 => q (u :: us) G2 H2 (n.trans n2) (.cons (dp_ex n2.st.1 _ _ hu) hv2)⟩⟩
theorem ye_lst (h : YA Y δ i C a cls d x es ds) (hl : ds.length ≤ 100000 := by simp) : YE Y δ i C a cls d x (.List es pos) (fun z => z = .list ds) :=
  PE.imp (pe_lst h) fun σ H Q ⟨p, B, G, dd, v, hh, q⟩ => ⟨p, B, G, dd, v, hh, fun us G' H' n hv => ⟨by rw [dpAll_length hv]; exact Nat.le_trans hl (by decide), fun l hl0 => by
    have i3' := hh.i3.nxt n
    have m := Nxt.newH i3' (.lst us) hl0
    obtain ⟨m2, hd⟩ := own_data i3' m hl0 (i3'.gh.free hl0) (pot_ne i3' hl0) upd_same hv
    exact q _ _ _ _ rfl (n.trans m2) hd⟩⟩
end
theorem set_same {δ : De} {i : Nat} {en : En} (h : δ[i]? = some en) : δ.set i en = δ := by
  apply List.ext_getElem?
  intro j
  rw [List.getElem?_set]
  by_cases e : i = j
  · subst e
    rw [if_pos rfl, if_pos (List.getElem?_eq_some_iff.mp h).1, h]
  · rw [if_neg e]
/-- try: f(..) except C as n: y = e -/
theorem s_try {X : Cx} {i j k : Nat} {n y cn fx : Str} {qn : Str} {C fI : Addr} {es : List Expr} {e0 ev : Expr} {δ : De} {rest : List Stmt} {o : Out} {st : Stmt} {ps : List Str} {R : List Dt → Str → Dt → Prop} {V : Dt → Prop} {F : Dt → De} {W : Dt → Dt} {np pos' pos fp cpos epos yp apos : Pos}
    (Cl : CalX X.prog X.w X.K X.mg X.base k fx ps st (spX X.K X.mg R)) (T : ErrTxt X.K X.mg cn qn C fI) (hi : Nx X.N n i) (hδ : δ[i]? = some .no) (hj : Nx X.N y j) (hF : ∀ z, SetR δ j (.d z) (F z)) (hij : i ≠ j)
    (ha : ∀ pn xe, XA (X.tr pn xe) (e0 :: es) δ fun ds => ∃ x, R ds cn x ∧ V x) (hsu : ∀ x, V x → ∀ a oe cls d pn, Hold X (X.suite a ((a, oe) :: pn)) a cls d i n C → YE (X.suite a ((a, oe) :: pn)) δ i C a cls d x ev (fun z => z = W x)) (hk : ∀ x, V x → SsD X rest (F (W x)) o)
    (hN : X.N.Nodup := by assumption) (hr : Room k X.A := by first | assumption | (refine Room.mono (by assumption) ?_; decide)) (hgd : X.A.guards = some [] := by assumption) (hst : X.stack = X.env :: X.outer := by rfl) (hfr : X.env.frame = some X.env.locals := by rfl) (hln : X.env.kindOf n = some .local := by rfl) (hg : Gl X fx := by rfl) (hgc : Gl X cn := by rfl) (hdc : (cn == ("__debug__" : Str)) = false := by decide)
    (hdb : (fx == ("__debug__" : Str)) = false := by decide) (hpl : starEach es X.env = es.map fun e => (false, eval e X.env) := by rfl) (hsw : swapsWith (.Call (.Name fx fp) (e0 :: es) [] cpos) none epos.line X.env = pure false := by rfl)
    (hx : Loc X.env.scope y := by first | exact Or.inl rfl | exact Or.inr rfl) (hs2 : swapsWith ev (some (.Name y yp)) apos.line X.env = pure false := by rfl) (hf2 : X.fn y = true ∨ X.env.scope.names.lookup y = some .local := by first | exact .inl rfl | exact .inr rfl | assumption) :
    SsD X (.Try [.Expr (.Call (.Name fx fp) (e0 :: es) [] cpos) epos] [.ExceptHandler (some (.Name cn np)) (some n) [.Assign [.Name y yp] ev apos] pos'] [] [] pos :: rest) δ o := by
  refine ss_seq (N := fun δ' => ∃ x, V x ∧ δ' = F (W x)) ?_ (fun δ' ⟨x, hV, e⟩ => e ▸ hk x hV)
  refine PS.imp (ps_try_as (i := i) (c := .ref C) (Wout := fun _ _ _ _ => False) (tb := fun W2 => fun D σ H => rEX X δ W2 (fun c z => c = cn ∧ V z) σ H (fun _ _ => False)) (ts := fun a cls d => fun D σ H => ∃ x, V x ∧ rSE X.K δ i C a cls d x { nx := fun δ' => δ' = F (W x) } D σ H) hst hfr hN hi.eq hln ⟨hgc, hdc, .inl T.gC⟩ takes0 (fun W2 pn xe tk _ => ?body) (fun a oe cls d pn hz hf => ?suite)) fun D σ H ⟨p, B, G, i3, en, q⟩ => ?pre
  case body =>
    have z := r_call (X := X.tr pn xe) (ox := fun c z => c = cn ∧ V z) (p := fp) (pos := cpos) Cl ((ha pn xe).mono fun ds ⟨x, h1, h2⟩ => ⟨cn, x, h1, rfl, h2⟩) hr hgd hg hpl hdb W2 tk
    exact PSs.imp (pss_cons (ps_expr z hsw) (never (sts := []))) fun D σ H h => h
  case suite =>
    refine PSs.imp (t := fun D σ H => ∃ x, V x ∧ rSE X.K δ i C a cls d x { nx := fun δ' => δ' = F (W x) } D σ H) ⟨fun pins s σ H D I ⟨x, hV, h⟩ => ?_⟩ fun D σ H h => h
    have he := hsu x hV a oe cls d pn ⟨⟨oe, pn, rfl, hz, hf⟩, hi.eq⟩
    refine (PSs.imp (pss_one (ps_set (X := X.suite a ((a, oe) :: pn)) hN hj.eq hx he hs2 hf2)) ?_).run pins s σ H D I h
    rintro D σ H ⟨p, B, G, dd, v, hh, q⟩
    refine ⟨p, B, G, dd, v, hh, fun u z G' H' r n hu => ?_⟩
    subst r
    exact q.nx _ _ G' H' (by show δ.set j (.d (W x)) = F (W x); exact (hF _).eq) (n.stepB hh.i3) (hh.i3.nxt n) ((hh.en.nxt n).set hu)
  case pre =>
    refine ⟨p, B, G, i3, en, fun C' cn' d v x G' H' ⟨ec, hV⟩ gC n hd hd2 hv => ?_⟩
    subst ec
    have e : C' = C := by have := gC.symm.trans T.gC; cases this; rfl
    subst e
    refine ⟨true, T.te, fun _ a ha0 => ⟨x, hV, p, B, G', d, v, ⟨i3.nxt n, ?_, ?_, rfl, rfl, hd2, hv⟩, ?_⟩, fun z => Bool.noConfusion z⟩
    · have e1 := (en.nxt n).put (i := i) (o := some (.ref a)) (en := .no) trivial fun b f => by rcases f with ⟨z, _⟩ | z <;> cases z
      rw [set_same hδ] at e1
      exact e1
    · have hl : i < σ.length := by rw [en.len]; exact (List.getElem?_eq_some_iff.mp hδ).1
      rw [List.getElem?_set_self hl]
    · refine ⟨fun δ' σ' G2 H2 e2 st i2 en2 => ?_, fun _ _ _ _ z => z.elim, fun _ _ _ _ z => z.elim, fun _ _ _ _ z => z.elim, fun _ _ _ _ _ z => z.elim⟩
      have e3 := en2.put (i := i) (o := none) (en := .no) trivial fun b f => by rcases f with ⟨z, _⟩ | z <;> cases z
      have hs : δ'.set i .no = δ' := set_same (by rw [e2, ← (hF (W x)).eq, List.getElem?_set_ne (Ne.symm hij)]; exact hδ)
      rw [hs] at e3
      exact q.nx δ' _ G2 H2 ⟨x, hV, e2⟩ ((n.stepB i3).trans st) i2 e3
end Dv

set_option linter.all false
set_option maxRecDepth 100000
set_option maxHeartbeats 4000000
namespace Dv
open PySem PySem.Spec PyProof.Rows L2 RZ
theorem all_succ {p : Nat → Bool} {i : Nat} : (List.range (i + 1)).all p = ((List.range i).all p && p i) := by
  rw [List.range_succ, List.all_append]; simp
section
variable {X : Cx} {elt tg iter tg1 iter1 : Expr} {scope : Scope} {own : List (Str × Nat)} {pos p : Pos} {δ : De} {R : Dt → Prop}
/-- all([F(i, j) for i in places for j in places]) -/
theorem c_all2F {p2 : Pos} (n : Nat) (F : Nat → Nat → Bool) (own : List (Str × Nat)) (vs1 : List Nat) (ok : BlkOk X.N X.env.scope scope own) (hi : XI X tg iter δ fun ds => ds = rngD 0 n ∧ n ≤ 200 ∧
      (∀ i : Nat, i < n → ∃ δ2, (∀ s H C cl fp, TgD (bX X scope s H C cl fp) tg (own.map (·.2)) (.int ((i : Nat) : Int)) (wipeD δ (own.map (·.2))) δ2) ∧ δ2.all En.plain = true ∧ (∀ s H C cl fp, XI (bX X scope s H C cl fp) tg1 iter1 δ2 fun x => x = rngD 0 n) ∧
        ∀ j : Nat, j < n → ∃ δ3, Turn2 X elt tg1 scope δ2 δ3 vs1 (.int ((j : Nat) : Int)) fun y => y = .bool (F i j)) ∧ R (.bool ((List.range n).all fun i => (List.range n).all (F i))))
    (hN : X.N.Nodup := by assumption) (Fr : Free X.mg := by assumption) (hv : ∀ i ∈ vs1, i ∈ own.map (·.2) := by decide) (hg : Gl X "all" := by rfl) (hc : X.calm = true := by rfl) (hs : ∀ x, foldedSetIterable iter X.env x = pure x := by intro _; rfl) (hs1 : ∀ env x, foldedSetIterable iter1 env x = pure x := by intro _ _; rfl)
    (h1 : starEach [.ListComp elt [⟨tg, iter, [], 0⟩, ⟨tg1, iter1, [], 0⟩] scope pos] X.env = (false, eval (.ListComp elt [⟨tg, iter, [], 0⟩, ⟨tg1, iter1, [], 0⟩] scope pos) X.env) :: starEach [] X.env := by rfl) (h2 : starEach [.ListComp elt [⟨tg, iter, [], 0⟩, ⟨tg1, iter1, [], 0⟩] scope pos] X.env = [.ListComp elt [⟨tg, iter, [], 0⟩, ⟨tg1, iter1, [], 0⟩] scope pos].map fun e => (false, eval e X.env) := by rfl) :
    XD X (.Call (.Name "all" p) [.ListComp elt [⟨tg, iter, [], 0⟩, ⟨tg1, iter1, [], 0⟩] scope pos] [] p2) δ R :=
  c_all (c_o (xo_comp2 own vs1 ok (PI.imp hi fun σ H Q ⟨p, B, G, i3, en, q⟩ => ⟨p, B, G, i3, en, fun J ds G' H' ⟨hd, hl, turn, fin⟩ => q J ds G' H' ⟨by rw [hd, rngD_length]; omega, fun i out => ∃ bs : List Bool, out = bs.map PyData.bool ∧ bs.length ≤ 200 * i ∧ bs.all _root_.id = (List.range i).all fun a => (List.range n).all (F a), ⟨[], rfl, by simp, rfl⟩, fun i d out hd2 ⟨bs, e1, e2, e3⟩ => by
    rw [hd] at hd2
    obtain ⟨hi, e⟩ := rngD_at hd2
    rw [Int.zero_add] at e
    subst e
    obtain ⟨δ2, t1, t2, t3, t5⟩ := turn i hi
    refine ⟨δ2, rngD 0 n, t1, t2, t3, fun j out => ∃ bs : List Bool, out = bs.map PyData.bool ∧ bs.length ≤ 200 * i + j ∧ bs.all _root_.id = (((List.range i).all fun a => (List.range n).all (F a)) && (List.range j).all (F i)), ⟨bs, e1, by omega, by rw [e3]; simp⟩, fun j d1 out1 hd1 ⟨cs, f1, f2, f3⟩ => ?_, fun out1 ⟨cs, f1, f2, f3⟩ => ?_⟩
    · obtain ⟨hj, e⟩ := rngD_at hd1
      rw [Int.zero_add] at e
      subst e
      obtain ⟨δ3, u⟩ := t5 j hj
      refine ⟨by rw [f1, List.length_map]; have : i < 200 := by omega
                 omega, δ3, u.g, fun s H C cl fp => (u.e s H C cl fp).mono fun y hy => ⟨cs ++ [F i j], by rw [f1, hy, List.map_append]; rfl, by rw [List.length_append]; simp; omega, ?_⟩⟩
      rw [List.all_append, f3, all_succ, Bool.and_assoc]
      simp
    · rw [rngD_length] at f2 f3
      exact ⟨cs, f1, by omega, by rw [f3, all_succ]⟩, fun out ⟨bs, e1, e2, e3⟩ => by
    rw [hd, rngD_length] at e3
    rw [e1]
    exact f_all (by rw [e3]; exact fin) hc⟩⟩) hN hv hc hs hs1)) Fr hg h1 h2
end
end Dv

set_option linter.all false
set_option maxRecDepth 100000
set_option maxHeartbeats 4000000
namespace Dv
open PySem PySem.Spec PyProof.Rows L2 RZ
theorem so_app {a b : Str} (h1 : PyData.strOk a = true) (h2 : PyData.strOk b = true) : PyData.strOk (a ++ b) = true := by
  show ((a.cps ++ b.cps).all fun c => decide (c < 0x110000)) = true
  rw [Array.all_append]
  have e1 : (a.cps.all fun c => decide (c < 0x110000)) = true := h1
  have e2 : (b.cps.all fun c => decide (c < 0x110000)) = true := h2
  rw [e1, e2]; rfl
theorem so_of (s : String) : PyData.strOk (Str.ofString s) = true := by
  rw [Str.ofString_eq_toList]
  unfold PyData.strOk
  rw [Array.all_eq_true]
  intro i hi
  refine decide_eq_true ?_
  have h : ∀ x ∈ s.toList.map Char.toNat, x < 0x110000 := fun x hx => by
    obtain ⟨c, _, rfl⟩ := List.mem_map.mp hx
    have v := c.valid
    unfold UInt32.isValidChar at v
    unfold Nat.isValidChar at v
    show c.val.toNat < _
    omega
  exact h _ (by
    have := Array.getElem_mem hi
    simpa using this)
theorem so_from : ∀ {ts : List Str} {k : Nat} {acc : Str}, PyData.strOk acc = true → (∀ t ∈ ts, PyData.strOk t = true) → PyData.strOk (textFrom k acc ts) = true
  | [], _, _, h, _ => h
  | t :: ts, k, acc, h, ht => by
    unfold textFrom
    exact so_from (so_app (so_app h (so_of _)) (ht t (List.mem_cons_self ..))) fun x hx => ht x (List.mem_cons_of_mem _ hx)
theorem so_join : ∀ {ts : List Str}, (∀ t ∈ ts, PyData.strOk t = true) → PyData.strOk (Str.join ", " ts) = true
  | [], _ => by decide +kernel
  | [x], h => h x (List.mem_cons_self ..)
  | x :: y :: r, h => so_app (so_app (h x (List.mem_cons_self ..)) (so_of _)) (so_join fun z hz => h z (List.mem_cons_of_mem _ hz))
mutual
/-- what is shown of it are signs there are -/
def sok : Dt → Bool
  | .str x => PyData.strOk (reprText x)
  | .list xs => sokAll xs
  | .tuple xs => sokAll xs
  | .dict kvs => kvs.isEmpty
  | _ => true
def sokAll : List Dt → Bool
  | [] => true
  | x :: xs => sok x && sokAll xs
end
mutual
theorem sok_shown : ∀ {v : Dt}, sok v = true → PyData.strOk v.shown = true
  | .none, _ => so_of _
  | .bool b, _ => by
    cases b <;> exact so_of _
  | .int i, _ => so_of _
  | .str x, h => h
  | .list xs, h => so_app (so_from (so_of _) (sok_all (xs := xs) h)) (so_of _)
  | .tuple xs, h => so_app (so_app (so_of _) (so_join (sok_all (xs := xs) h))) (so_of _)
  | .dict kvs, h => by
    cases kvs with
    | nil => exact (by decide +kernel : PyData.strOk (PyData.dict []).shown = true)
    | cons _ _ => cases h
theorem sok_all : ∀ {xs : List Dt}, sokAll xs = true → ∀ t ∈ PyData.shownAll xs, PyData.strOk t = true
  | [], _, t, ht => by cases ht
  | x :: xs, h, t, ht => by
    have h2 : (sok x && sokAll xs) = true := h
    rw [Bool.and_eq_true] at h2
    rcases List.mem_cons.mp ht with rfl | ht
    · exact sok_shown h2.1
    · exact sok_all h2.2 t ht
end
theorem sokAll_of : ∀ {xs : List Dt}, (∀ x ∈ xs, sok x = true) → sokAll xs = true
  | [], _ => rfl
  | x :: xs, h => by
    show (sok x && sokAll xs) = true
    rw [h x (List.mem_cons_self ..), sokAll_of fun y hy => h y (List.mem_cons_of_mem _ hy)]; rfl
theorem sokAll_mem : ∀ {xs : List Dt}, sokAll xs = true → ∀ x ∈ xs, sok x = true
  | [], _, x, hx => by cases hx
  | y :: xs, h, x, hx => by
    have h2 : (sok y && sokAll xs) = true := h
    rw [Bool.and_eq_true] at h2
    rcases List.mem_cons.mp hx with rfl | hx
    · exact h2.1
    · exact sokAll_mem h2.2 x hx
end Dv

set_option linter.all false
set_option maxRecDepth 100000
set_option maxHeartbeats 4000000
namespace Dv
open PySem PySem.Spec PyProof.Rows L2 RZ
section
variable {X : Cx} {a b e : Expr} {δ : De} {p pos p3 p4 : Pos} {S : List Dt → Prop} {R : Dt → Prop}
/-- two lists put together are a new list -/
theorem o_cat (h : XD X a δ fun x => XD X b δ fun y => ∃ es fs, x = .list es ∧ y = .list fs ∧ es.length + fs.length ≤ 100000 ∧ S (es ++ fs)) : XO X (.BinOp a .Add b pos) δ S :=
  PE.imp (pe_op (r := rCatR X.K) op_catR h (pe_later (δ := δ))) fun σ H Q ⟨p, B, G, i3, en, q⟩ => two_c i3 en fun v w d1 d2 G' H' ⟨es, fs, e1, e2, hl, k⟩ n i' h1 h2 => by
    subst e1; subst e2
    cases h1 with
    | lst hs ha => cases h2 with
      | lst hs2 ha2 =>
        exact ⟨_, _, _, _, rfl, rfl, ex_x i'.gh hs, ex_x i'.gh hs2, by rw [dpAll_length ha, dpAll_length ha2]; exact Nat.le_trans hl (by decide), fun l hl => q l _ (es ++ fs) G' _ k (n.trans (.newH i' (.lst _) hl)) (back_none n hl) (i'.gh.free hl) (pot_ne i' hl) upd_same (dpAll_append ha ha2)⟩
/-- list(range(n)) -/
theorem c_listRg1 (h : XD X a δ fun d => ∃ n : Nat, d = .int ((n : Nat) : Int) ∧ n ≤ 100000 ∧ R (.list ((List.range n).map fun i => PyData.int ((i : Nat) : Int)))) (F : Free X.mg := by assumption) (hc : X.calm = true := by rfl) (hg : Gl X "list" := by rfl) (hg2 : Gl X "range" := by rfl)
    (hs2 : starEach [a] X.env = (false, eval a X.env) :: starEach [] X.env := by rfl) (hs3 : starEach [.Call (.Name "range" p3) [a] [] p4] X.env = (false, eval (.Call (.Name "range" p3) [a] [] p4) X.env) :: starEach [] X.env := by rfl) :
    XD X (.Call (.Name "list" p) [.Call (.Name "range" p3) [a] [] p4] [] pos) δ R :=
  PE.imp (pe_listRg hc hg (F "list" (by decide +kernel)) (prg_1 hg2 (F "range" (by decide +kernel)) h hs2) hs3) fun σ H Q ⟨p, B, G, i3, en, q⟩ => ⟨p, B, G, i3, en, fun v d G' H' ⟨n, e1, hn, k⟩ nx hv => by
    subst e1
    cases hv
    have hr : RgOk 0 ((n : Nat) : Int) := RgOk.of_le (by omega) (by omega) (by omega) (by omega)
    refine ⟨_, rfl, hr, fun l hl => q _ _ _ _ k (nx.trans (.new (i3.nxt nx) _ hl)) (.lst (.inl (.inl upd_same)) ?_)⟩
    have e1 : rgV 0 ((n : Nat) : Int) = ((List.range n).map fun k : Nat => ((k : Nat) : Int)).map V.int := by
      unfold rgV
      rw [List.map_map, show ((((n : Nat) : Int)) - 0).toNat = n by omega]
      refine List.map_congr_left fun k _ => ?_
      show V.int (0 + ((k : Nat) : Int)) = V.int ((k : Nat) : Int)
      rw [Int.zero_add]
    have e2 : ((List.range n).map fun i => PyData.int ((i : Nat) : Int)) = ((List.range n).map fun k : Nat => ((k : Nat) : Int)).map PyData.int := by rw [List.map_map]; rfl
    rw [e1, e2]
    exact dpAll_of_ints _⟩
end
end Dv

set_option linter.all false
set_option maxRecDepth 100000
set_option maxHeartbeats 4000000
namespace Dv
open PySem PySem.Spec PyProof.Rows L2 RZ
theorem exm_own {K : PySem.W.Frag} {C : Addr} (hb : PySem.W.subIn K (.ref C) (.type "BaseException") = some true) (hi : PySem.W.isClsIn K C = true) (ht : PySem.W.typeIn K (.ref C) = some (.type "type")) (hs : PySem.W.subIn K (.ref C) (.ref C) = some true) : PySem.W.exmOne K (.ref C) (.ref C) = some true := by
  unfold PySem.W.exmOne PySem.W.kitCls
  unfold PySem.W.isClsIn at hi
  simp [hb, hi, ht, hs]
theorem kit_ref {K : PySem.W.Frag} {C B : Addr} (hi : PySem.W.isClsIn K B = true) (ht : PySem.W.typeIn K (.ref B) = some (.type "type")) (hs : PySem.W.subIn K (.ref C) (.ref B) = some true) : PySem.W.kitOne K (.ref C) (.ref B) = some true := by
  unfold PySem.W.kitOne
  split
  · rfl
  · unfold PySem.W.kitCls
    unfold PySem.W.isClsIn at hi
    simp [hi, ht, hs]
theorem kit_ty {K : PySem.W.Frag} {C : Addr} {T : String} (hm : PySem.W.kitMeta T = true) (hs : PySem.W.subIn K (.ref C) (.type T) = some true) : PySem.W.kitOne K (.ref C) (.type T) = some true := by
  unfold PySem.W.kitOne
  split
  · rfl
  · unfold PySem.W.kitCls
    simp [hm, hs]
theorem Df.calX {P : Program} {w : World} {K : Fg} {mg : Str → Option Value} {base h : Heap} {k : Nat} {x : Str} {ps : List Str} {st : Stmt} {sp : Sp} (D : Df K x st) (X : K.In h) (G : h.Ns mainGlobals mg)
    (hb : ∀ (kV doc pm : Value) (an : Option Addr) (cdv ct : Value) (us : List Value), us.length = ps.length → bindArgs (PySem.W.fnOf x x (defArgs st) (defBody st) (defScope st) .none kV doc pm an cdv ct) ⟨us, []⟩ = pure (ps.zip us))
    (F : ∀ f fd, Fun K x x st f fd → FnX P w K mg base k f fd ps sp) : CalX P w K mg base k x ps st sp := by
  obtain ⟨f, fd, a, hk, fn⟩ := D.ex
  exact ⟨f, fd, F f fd fn, PySem.W.mg_of X G a, hk, fn.binds hb, fn⟩
end Dv

set_option linter.all false
set_option maxRecDepth 100000
set_option maxHeartbeats 8000000
namespace K11
open PySem PySem.Spec PyProof.Rows L2 Dv
/-! ### the text -/
def top (i : Nat) : Stmt := PySem.Challenge.pw_citylines_k11_any_value_as_city.main.body.getD i (.Pass ⟨0, 0, 0, 0⟩)
def at_def (x : Str) : Stmt := (PySem.Challenge.pw_citylines_k11_any_value_as_city.main.body.find? fun s => match s with | .FunctionDef n .. => n == x | _ => false).getD (.Pass ⟨0, 0, 0, 0⟩)
abbrev sLDraw : Stmt := at_def "_law_draw"
abbrev sLPick : Stmt := at_def "_law_pick"
abbrev sLTable : Stmt := at_def "_law_table"
structure T0 (K : Fg) (mg : Str → Option Value) : Prop where
  isi : mg "isinstance" = none
  int : mg "int" = none
  bool : mg "bool" = none
  tuple : mg "tuple" = none
  list : mg "list" = none
  str : mg "str" = none
  len : mg "len" = none
  all : mg "all" = none
  any : mg "any" = none
  max : mg "max" = none
  min : mg "min" = none
  abs : mg "abs" = none
  sorted : mg "sorted" = none
  repr : mg "repr" = none
  range : mg "range" = none
  enumerate : mg "enumerate" = none
  divmod : mg "divmod" = none
  set : mg "set" = none
section
variable {X : Cx} {a b e : Expr} {δ : De} {pos p : Pos} {R : Dt → Prop}
end
/-! ### square tables -/
def rowD (n : Nat) (T : Nat → Nat → Int) (i : Nat) : List Dt := (List.range n).map fun j => PyData.int (T i j)
def matD (n : Nat) (T : Nat → Nat → Int) : List (List Dt) := (List.range n).map (rowD n T)
def upT (T : Nat → Nat → Int) (m k : Nat) (v : Int) : Nat → Nat → Int := fun i j => if i = m ∧ j = k then v else T i j
theorem matD_len {n : Nat} {T : Nat → Nat → Int} : (matD n T).length = n := by unfold matD; rw [List.length_map, List.length_range]
theorem matD_row {n m : Nat} {T : Nat → Nat → Int} (h : m < n) : (matD n T)[m]? = some (rowD n T m) := by unfold matD; rw [List.getElem?_map, List.getElem?_range h]; rfl
theorem rowD_len {n i : Nat} {T : Nat → Nat → Int} : (rowD n T i).length = n := by unfold rowD; rw [List.length_map, List.length_range]
theorem mat_set {n m k : Nat} {T : Nat → Nat → Int} {v : Int} (hm : m < n) (hk : k < n) : (matD n T).set m ((rowD n T m).set k (.int v)) = matD n (upT T m k v) := by
  refine List.ext_getElem? fun i => ?_
  by_cases hi : i < n
  · rw [matD_row hi]
    by_cases e : m = i
    · subst e
      rw [List.getElem?_set_self (by rw [matD_len]; exact hm)]
      congr 1
      refine List.ext_getElem? fun j => ?_
      by_cases hj : j < n
      · have r : ∀ T, (rowD n T m)[j]? = some (.int (T m j)) := fun T => by unfold rowD; rw [List.getElem?_map, List.getElem?_range hj]; rfl
        rw [r]
        by_cases e2 : k = j
        · subst e2
          rw [List.getElem?_set_self (by rw [rowD_len]; exact hk)]
          unfold upT; rw [if_pos ⟨rfl, rfl⟩]
        · rw [List.getElem?_set_ne e2, r]
          unfold upT; rw [if_neg fun z => e2 z.2.symm]
      · rw [List.getElem?_eq_none (by rw [List.length_set, rowD_len]; omega), List.getElem?_eq_none (by rw [rowD_len]; omega)]
    · rw [List.getElem?_set_ne e, matD_row hi]
      congr 1
      unfold rowD
      refine List.map_congr_left fun j _ => ?_
      unfold upT
      rw [if_neg fun z => e z.1.symm]
  · rw [List.getElem?_eq_none (by rw [List.length_set, matD_len]; omega), List.getElem?_eq_none (by rw [matD_len]; omega)]
theorem rep_zero (n : Nat) : (List.replicate n [PyData.int 0]).flatten = (List.range n).map fun _ => PyData.int 0 := by
  rw [List.map_const', List.length_range]
  induction n with
  | zero => rfl
  | succ m ih => rw [List.replicate_succ, List.flatten_cons, ih, List.replicate_succ]; rfl
def Seen (one other i j : Nat) : Prop := (i < one ∧ j < one ∧ i ≠ j) ∨ (i = one ∧ j < other) ∨ (j = one ∧ i < other)
structure Tab (n : Nat) (h : Int) (one other : Nat) (T : Nat → Nat → Int) : Prop where
  sym : ∀ i j, T i j = T j i
  dia : ∀ i, T i i = 0
  see : ∀ i j, i < n → j < n → Seen one other i j → 1 ≤ T i j ∧ T i j ≤ h
theorem Tab.step {n : Nat} {h : Int} {one other : Nat} {T : Nat → Nat → Int} (t : Tab n h one other T) (lt : other < one) {v : Int} (v0 : 1 ≤ v) (v1 : v ≤ h) : Tab n h one (other + 1) (upT (upT T one other v) other one v) := by
  refine ⟨fun i j => ?_, fun i => ?_, fun i j hi hj s => ?_⟩
  · have := t.sym i j
    unfold upT
    by_cases a : i = other ∧ j = one
    · rw [if_pos a, if_neg (by omega), if_pos (by omega)]
    · by_cases b : j = other ∧ i = one
      · rw [if_neg a, if_pos (by omega), if_pos b]
      · rw [if_neg a, if_neg (by omega), if_neg b, if_neg (by omega)]; exact this
  · unfold upT
    rw [if_neg (by omega), if_neg (by omega)]
    exact t.dia i
  · unfold upT
    by_cases a : i = other ∧ j = one
    · rw [if_pos a]; exact ⟨v0, v1⟩
    · by_cases b : i = one ∧ j = other
      · rw [if_neg a, if_pos b]; exact ⟨v0, v1⟩
      · rw [if_neg a, if_neg b]
        refine t.see i j hi hj ?_
        rcases s with s | s | s
        · exact .inl s
        · exact .inr (.inl ⟨s.1, by omega⟩)
        · exact .inr (.inr ⟨s.1, by omega⟩)
theorem Tab.next {n : Nat} {h : Int} {one : Nat} {T : Nat → Nat → Int} (t : Tab n h one one T) : Tab n h (one + 1) 0 T := ⟨t.sym, t.dia, fun i j hi hj s => t.see i j hi hj (by unfold Seen at *; omega)⟩
section
variable {P : Program} {w : World} {K : Fg} {mg : Str → Option Value} {base : Heap} {f : Addr} {fd : FuncData}
theorem scLDraw : FnScope ["pot", "many", "digit"] ["pot", "many"] (defScope sLDraw) := ⟨rfl, rfl, rfl, by decide +kernel, rfl, by decide +kernel, by decide +kernel⟩
def Lo (n : Int) (i : Int) : Prop := 0 ≤ i ∧ i < n
def rLDraw (ds : List Dt) (T : Dt → Prop) : Prop := ∃ n : Int, 0 < n ∧ n < 1073741824 ∧ ds = [.int n] ∧ T = IntP (Lo n)
theorem f_ldraw (T : T0 K mg) (F : Fun K "_law_draw" "_law_draw" sLDraw f fd) : FnG P w K mg base 1 f fd ["pot", "many"] (spP K rLDraw) := by
  refine fn_pot F scLDraw (fun ds T ⟨n, _, _, e, _⟩ => by subst e; rfl) fun cdv A outer s H E hr hgd hu ds U h => ?_
  obtain ⟨n, n0, n1, rfl, rfl⟩ := h
  refine ss_seq (N := fun x => x = stD ["pot", "many", "digit"] (.pot :: [PyData.int n].map .d)) (sd_if (S := fun _ => True) (xt_gt (S := fun _ => True) (T := fun _ => True) ((xd_potAt 0 (.inl rfl)).mono fun d ⟨i, e, _⟩ => ⟨i, e, trivial⟩) (xi_of pd_int trivial)) (fun _ => ?_) (fun _ => ss_nil rfl)) (fun δ' e => ?_)
  · refine ss_seq (sd_potDiv (N := fun x => ∃ i, x = [.pot, .d (.int n), .d (.int i)] ∧ Lo n i) (S := Lo n) 0 2 scLDraw.nd ((xd_divmod (S := fun i j => 0 ≤ i ∧ j = n) T.divmod (xa_cons (xd_potAt 0 (.inl rfl)) (pa_c (pd_v 1) pa_n) fun d ds ⟨i, e, h1, _⟩ h2 => ⟨i, n, by rw [e, h2], ⟨n0, n1⟩, h1, rfl⟩)).mono fun d ⟨i, j, e, h1, h2⟩ => ?_) (fun w hw => ⟨w, rfl, hw⟩)) (fun δ' ⟨i, e, hi⟩ => ?_)
    · subst h2
      exact ⟨_, _, e, Int.ediv_nonneg h1 (by omega), Int.emod_nonneg i (by omega), Int.emod_lt_of_pos i n0⟩
    · subst e
      exact s_ret (pd_v 2) ⟨i, rfl, hi⟩
  · subst e
    refine ss_to (sd_potSet 0 (xi_mod (S := fun _ => True) (T := fun j => j = 2147483587) (U := fun i => 0 ≤ i ∧ i ≤ 2147483588) (xi_int T.int (xi_add (S := fun _ => True) (T := fun _ => True) (xi_mul (S := fun _ => True) (T := fun j => j = 41201) (U := fun _ => True) ((xd_potAt 0 (.inr rfl)).mono fun d ⟨i, e, _⟩ => ⟨i, e, trivial⟩) (xi_of pd_int rfl) fun i j _ e => ⟨.inr (by subst e; omega), trivial⟩) (xi_of pd_int trivial) fun _ _ _ _ => trivial)) (xi_of pd_int rfl) fun i j _ e => ⟨by omega, by subst e; have := Int.emod_nonneg i (b := 2147483587) (by omega); have := Int.emod_lt_of_pos i (b := 2147483587) (by omega); omega⟩)) ?_
    refine ss_end (sd_ret (xi_mod (S := fun _ => True) (T := fun j => j = n) (U := Lo n) (xi_int T.int (xi_fdiv (S := fun _ => True) (T := fun j => j = 23) (U := fun _ => True) (xi_mod (S := fun _ => True) (T := fun j => j = 2147483549) (U := fun _ => True) (xi_int T.int (xi_mul (S := fun i => 0 ≤ i ∧ i ≤ 2147483588) (T := fun _ => True) (U := fun _ => True) ((xd_potAt 0 (.inr rfl)).mono fun d ⟨i, e, h1, h2⟩ => ⟨i, e, h1, h2 rfl⟩) ((xd_potAt 0 (.inr rfl)).mono fun d ⟨i, e, _⟩ => ⟨i, e, trivial⟩) fun i j h _ => ⟨.inl (by omega), trivial⟩)) (xi_of pd_int rfl) fun i j _ e => ⟨by omega, trivial⟩) (xi_of pd_int rfl) fun i j _ e => ⟨⟨by omega, by omega⟩, trivial⟩)) (xi_of (pd_v 1) rfl) fun i j _ e => by subst e; exact ⟨n0, Int.emod_nonneg i (by omega), Int.emod_lt_of_pos i n0⟩) fun d h => h)
theorem scLPick : FnScope ["pot", "some"] ["pot", "some"] (defScope sLPick) := ⟨rfl, rfl, rfl, by decide +kernel, rfl, by decide +kernel, by decide +kernel⟩
def rLPick (ds : List Dt) (T : Dt → Prop) : Prop := ∃ es : List Dt, 0 < es.length ∧ es.length < 1000 ∧ ds = [.list es] ∧ ∀ d ∈ es, T d
theorem f_lpick (T : T0 K mg) (C1 : Cal P w K mg base 1 "_law_draw" ["pot", "many"] sLDraw (spP K rLDraw)) (F : Fun K "_law_pick" "_law_pick" sLPick f fd) : FnG P w K mg base 2 f fd ["pot", "some"] (spP K rLPick) := by
  refine fn_pot F scLPick (fun ds T ⟨n, _, _, e, _⟩ => by subst e; rfl) fun cdv A outer s H E hr hgd hu ds U h => ?_
  obtain ⟨es, n0, n1, rfl, hU⟩ := h
  refine ss_end (sd_ret (xd_ixLP (S := Lo es.length) (ds := es) (T := U) (pd_v 1) (xd_pot C1 0 (pa_c (pd_len_list T.len (pa_c (pd_v 1) pa_n)) pa_n) fun ds e => ⟨es.length, by omega, by omega, e, rfl⟩) fun i hi => ?_) fun d h => h)
  obtain ⟨h1, h2⟩ := hi
  obtain ⟨k, rfl⟩ := Int.eq_ofNat_of_zero_le h1
  have hk : k < es.length := by omega
  exact ⟨es[k], atI_nat (List.getElem?_eq_getElem hk), hU _ (List.getElem_mem hk)⟩
abbrev NT : List Str := ["pot", "many", "high", "found", "one", "other", "number", "place", "row"]
theorem scLTable : FnScope NT ["pot", "many", "high"] (defScope sLTable) := ⟨rfl, rfl, rfl, by decide +kernel, rfl, by decide +kernel, by decide +kernel⟩
def tabD (n : Nat) (T : Nat → Nat → Int) : Dt := .tuple ((List.range n).map fun i => .tuple (rowD n T i))
def rLTable (ds : List Dt) (U : Dt → Prop) : Prop := ∃ (n : Nat) (h : Int), n ≤ 12 ∧ 1 ≤ h ∧ h ≤ 1000 ∧ ds = [.int ((n : Nat) : Int), .int h] ∧ U = fun d => ∃ T, Tab n h n 0 T ∧ d = tabD n T
theorem at_row {n m : Nat} {T : Nat → Nat → Int} (hm : m < n) : ∀ α (ys : List α), ys.length = (matD n T).length → ∃ y, atI ys ((m : Nat) : Int) = some y ∧ ys[m]? = some y := fun α ys hl => by
  have hy : m < ys.length := by rw [hl, matD_len]; exact hm
  exact ⟨ys[m], atI_nat (List.getElem?_eq_getElem hy), List.getElem?_eq_getElem hy⟩
theorem ix_row {n m k : Nat} {T : Nat → Nat → Int} (hk : k < n) : ixN (rowD n T m).length ((k : Nat) : Int) = some k := by
  rw [rowD_len]
  unfold ixN
  simp
  omega
theorem f_ltable (T : T0 K mg) (C1 : Cal P w K mg base 1 "_law_draw" ["pot", "many"] sLDraw (spP K rLDraw)) (F : Fun K "_law_table" "_law_table" sLTable f fd) : FnG P w K mg base 2 f fd ["pot", "many", "high"] (spP K rLTable) := by
  refine fn_pot F scLTable (fun ds T ⟨_, _, _, _, _, e, _⟩ => by subst e; rfl) fun cdv A outer s H E hr hgd hu ds U h => ?_
  obtain ⟨n, hh, n1, h1, h2, rfl, rfl⟩ := h
  refine ss_seq (N := fun y => ∃ as, y = [.pot, .d (.int ((n : Nat) : Int)), .d (.int hh), .own2 as (matD n fun _ _ => 0), .no, .no, .no, .no, .no]) (sd_lc2 (R := fun dss => dss = (List.range (rngD 0 ((n : Nat) : Int).toNat).length).map fun _ => (List.replicate ((n : Nat) : Int).toNat [PyData.int 0]).flatten) 3 scLTable.nd
    (lc2_of (es := rngD 0 ((n : Nat) : Int).toNat) (own := [("place", 7)]) (i_rng1 (pa_c (pd_v 1) pa_n) T.range (by omega)) (blkOk_by (N := NT) (sc := defScope sLTable) (by decide +kernel)) (by rw [rngD_length]; omega) (fun _ => (List.replicate ((n : Nat) : Int).toNat [PyData.int 0]).flatten) (fun d => [.pot, .d (.int ((n : Nat) : Int)), .d (.int hh), .no, .no, .no, .no, .d d, .no])
      (fun s H C cl fp i d e => tg_name 7 scLTable.nd) (fun s H C cl fp i d e => xo_rep (pa_c pd_int pa_n) (pd_v 1) (by omega) (by omega) (by decide))) fun as dss e => ⟨as, by
        have e2 : dss = matD n fun _ _ => 0 := by
          rw [e, rngD_length, Int.toNat_natCast]
          unfold matD rowD
          refine List.map_congr_left fun i _ => ?_
          exact rep_zero n
        rw [e2]; rfl⟩) fun δ' ⟨as, e⟩ => ?_
  subst e
  refine ss_seq (N := fun y => ∃ as T e4 e5 e6, Tab n hh n 0 T ∧ y = [.pot, .d (.int ((n : Nat) : Int)), .d (.int hh), .own2 as (matD n T), e4, e5, e6, .no, .no]) (sd_for (js := [4]) PassesOwn.never rfl (i_rng1 (j := ((n : Nat) : Int)) (pa_c (pd_v 1) pa_n) T.range (by omega))
    (fun _ i y => ∃ as T e4 e5 e6, Tab n hh i 0 T ∧ y = [.pot, .d (.int ((n : Nat) : Int)), .d (.int hh), .own2 as (matD n T), e4, e5, e6, .no, .no]) (fun _ _ => ⟨as, _, .no, .no, .no, ⟨fun _ _ => rfl, fun _ => rfl, fun i j _ _ s => by unfold Seen at s; omega⟩, rfl⟩) (fun d δ' => δ'.set 4 (.d d)) (fun ds i d δ' e h iv => tg_name 4 scLTable.nd) (fun ds i d δ' e h iv => ?_) (fun ds δ' e iv => ?_)) fun δ' iv => ?_
  · subst e
    obtain ⟨as, M, e4, e5, e6, tab, rfl⟩ := iv
    obtain ⟨hi, rfl⟩ := rngD_at h
    have z0 : (0 : Int) + ((i : Nat) : Int) = ((i : Nat) : Int) := by omega
    have hin : i < n := by omega
    rw [z0]
    refine ss_seq (N := fun y => ∃ as M e5 e6, Tab n hh i i M ∧ y = [.pot, .d (.int ((n : Nat) : Int)), .d (.int hh), .own2 as (matD n M), .d (.int ((i : Nat) : Int)), e5, e6, .no, .no]) (sd_for (js := [5]) PassesOwn.never rfl (i_rng1 (j := ((i : Nat) : Int)) (pa_c (pd_v 4) pa_n) T.range (by omega))
      (fun _ k y => ∃ as M e5 e6, Tab n hh i k M ∧ y = [.pot, .d (.int ((n : Nat) : Int)), .d (.int hh), .own2 as (matD n M), .d (.int ((i : Nat) : Int)), e5, e6, .no, .no]) (fun _ _ => ⟨as, M, e5, e6, tab, rfl⟩) (fun d δ' => δ'.set 5 (.d d)) (fun ds k d δ' e h iv => tg_name 5 scLTable.nd) (fun ds k d δ' e h iv => ?_) (fun ds δ' e iv => ?_)) fun δ' ⟨as, M, e5, e6, tab, e⟩ => ?_
    · subst e
      obtain ⟨as, M, e5, e6, tab, rfl⟩ := iv
      obtain ⟨hk, rfl⟩ := rngD_at h
      have z1 : (0 : Int) + ((k : Nat) : Int) = ((k : Nat) : Int) := by omega
      have hki : k < i := by omega
      rw [z1]
      refine ss_seq (N := fun y => ∃ v : Int, 1 ≤ v ∧ v ≤ hh ∧ y = [.pot, .d (.int ((n : Nat) : Int)), .d (.int hh), .own2 as (matD n M), .d (.int ((i : Nat) : Int)), .d (.int ((k : Nat) : Int)), .d (.int v), .no, .no]) (sd_set (R := IntP fun v => 1 ≤ v ∧ v ≤ hh) 6 scLTable.nd (xi_add (S := fun v => v = 1) (T := Lo hh) (xi_of pd_int rfl) (xd_pot C1 0 (pa_c (pd_v 2) pa_n) fun ds e => ⟨hh, by omega, by omega, e, rfl⟩) fun a b e ⟨b1, b2⟩ => by subst e; omega) fun d ⟨v, e, v0, v1⟩ => ⟨v, v0, v1, by subst e; rfl⟩) fun δ' ⟨v, v0, v1, e⟩ => ?_
      subst e
      refine s_asgX (pd_tup (pa_c (pd_v 6) (pa_c (pd_v 6) pa_n))) (tx_tup rfl (txs_cons (tx_row 3 i k rfl (pd_v 4) (pd_v 5) (at_row hin) (matD_row hin) (ix_row (by omega))) (txs_cons (tx_row (dss := matD n (upT M i k v)) (ds := rowD n (upT M i k v) k) 3 k i ?_ (pd_v 5) (pd_v 4) (at_row (by omega)) (matD_row (by omega)) (ix_row hin)) txs_nil))) (ss_nil ⟨as, upT (upT M i k v) k i v, .d (.int ((k : Nat) : Int)), .d (.int v), tab.step hki v0 v1, by rw [mat_set (by omega) hin]; rfl⟩)
      rw [mat_set hin (by omega)]; rfl
    · subst e
      rw [rngD_length] at iv
      exact iv
    · subst e
      exact ss_nil ⟨as, M, _, e5, e6, tab.next, rfl⟩
  · subst e
    rw [rngD_length] at iv
    exact iv
  · obtain ⟨as, M, e4, e5, e6, tab, rfl⟩ := iv
    refine ss_frz2 3 rfl ?_
    refine s_ret (d := tabD n M) (pd_tuple_of T.tuple (pa_c ((pd_map (xs := List.range n) (enc := fun i => PyData.list (rowD n M i)) (F := fun i => .tuple (rowD n M i)) (own := [("row", 8)]) rfl scLTable.nd (i_list ((pd_v 3).is (by unfold matD; rw [List.map_map]; rfl))) (blkOk_by (N := NT) (sc := defScope sLTable) (by decide +kernel)) (by rw [List.length_range]; omega)
      (fun d => [.pot, .d (.int ((n : Nat) : Int)), .d (.int hh), .d (.list ((matD n M).map PyData.list)), e4, e5, e6, .no, .d d]) (fun s H C cl fp i y hy => tg_name 8 scLTable.nd) (fun s H C cl fp i y hy => pd_tuple_of T.tuple (pa_c (pd_v 8) pa_n)))) pa_n)) ⟨M, tab, rfl⟩
end
end K11

set_option linter.all false
set_option maxRecDepth 100000
set_option maxHeartbeats 8000000
namespace Dv
open PySem PySem.Spec PyProof.Rows L2
section
variable {X : Cx} {sts : List Stmt} {a b c e : Expr} {δ : De} {o : Out} {d2 d3 : Dt} {pos : Pos} {N : De → Prop}
/-- x, y, z = [[..] for ..], b, c where one of the names is captured -/
theorem sd_asg3 (i j l : Nat) {x y z : Str} {px py pz pt : Pos} {kt k2 pt2} {R : List (List Dt) → Prop} (hX : X.N.Nodup) (ha : XO2 X a δ R) (hb : PAD X [b, c] δ [d2, d3]) (hR : ∀ as dss, R dss → N (((δ.set i (.own2 as dss)).set j (.d d2)).set l (.d d3))) (hc : X.calm = true := by rfl) (hi : X.N[i]? = some x := by rfl) (hj : X.N[j]? = some y := by rfl) (hl : X.N[l]? = some z := by rfl)
    (hx : Loc X.env.scope x := by first | exact Or.inl rfl | exact Or.inr rfl) (hy : Loc X.env.scope y := by first | exact Or.inl rfl | exact Or.inr rfl) (hz : Loc X.env.scope z := by first | exact Or.inl rfl | exact Or.inr rfl)
    (hfx : X.fn x = true ∨ X.env.scope.names.lookup x = some .local := by first | exact .inl rfl | exact .inr rfl | assumption) (hfy : X.fn y = true ∨ X.env.scope.names.lookup y = some .local := by first | exact .inl rfl | exact .inr rfl | assumption) (hfz : X.fn z = true ∨ X.env.scope.names.lookup z = some .local := by first | exact .inl rfl | exact .inr rfl | assumption)
    (h1 : starEach [a, b, c] X.env = (false, eval a X.env) :: starEach [b, c] X.env := by rfl)
    (hw : swappedStores [.Tuple [.Name x px, .Name y py, .Name z pz] kt pt] (.Tuple [a, b, c] k2 pt2) X.env = pure none := by rfl) (hs : swapsWithSole [.Tuple [.Name x px, .Name y py, .Name z pz] kt pt] (.Tuple [a, b, c] k2 pt2) pos.line X.env = pure false := by rfl)
    (h2 : (assignEach [.Tuple [.Name x px, .Name y py, .Name z pz] kt pt] X.env).map (·.2) = [assign (.Tuple [.Name x px, .Name y py, .Name z pz] kt pt) X.env] := by rfl)
    (e1 : (assignEach [.Name x px, .Name y py, .Name z pz] X.env).map (·.2) = assign (.Name x px) X.env :: (assignEach [.Name y py, .Name z pz] X.env).map (·.2) := by rfl) (e2 : (assignEach [.Name y py, .Name z pz] X.env).map (·.2) = assign (.Name y py) X.env :: (assignEach [.Name z pz] X.env).map (·.2) := by rfl)
    (e3 : (assignEach [.Name z pz] X.env).map (·.2) = assign (.Name z pz) X.env :: (assignEach [] X.env).map (·.2) := by rfl) (e4 : (assignEach [.Name x px, .Name y py, .Name z pz] X.env).length = 3 := by rfl) (e5 : (assignEach [.Name x px, .Name y py, .Name z pz] X.env).findIdx? (·.1) = none := by rfl) :
    SD X (.Assign [.Tuple [.Name x px, .Name y py, .Name z pz] kt pt] (.Tuple [a, b, c] k2 pt2) pos) δ { o with nx := N } :=
  PS.imp (ps_asg (pe_tup (pa_cons ha hb.pa h1)) (pg_tup hc (pgs_cons (pg_name hX hi hx hfx) (pgs_cons (pg_name hX hj hy hfy) (pgs_cons (pg_name hX hl hz hfz) pgs_nil e3) e2) e1) e4 e5) hs hw h2) fun D σ H ⟨p, B, G, i3, en, q⟩ => ⟨p, B, G, i3, en, fun la as dss G1 H1 r n h0 sl => ⟨p, B, G1, i3.nxt n, en.nxt n, fun vs dd G2 H2 r2 n2 hv => by
    subst r2
    obtain ⟨v, w, rfl, b1, b2⟩ := two_of hv
    refine ⟨by show 3 ≤ sizeLine; decide, fun t ht => ?_⟩
    have i31 := i3.nxt n
    have i32 := i31.nxt n2
    have n3 := Nxt.newH i32 (.tup [.ref la, v, w]) ht
    have n23 := n2.trans n3
    have nn3 := n.trans n23
    refine ⟨t, _, rfl, .inl (.inl upd_same), rfl, .ref la, [v, w], rfl, v, [w], rfl, w, [], rfl, rfl, ?_⟩
    have en1 := ((put2 en n h0 sl i).nxt n23)
    exact q.nx _ _ G2 _ (hR as dss r) (nn3.stepB i3) (i3.nxt nn3) ((en1.set b1).set b2)⟩⟩
end
end Dv
namespace K11
open PySem PySem.Spec PyProof.Rows L2 Dv
abbrev sLClosed : Stmt := at_def "_law_closed"
/-! ### walks -/
inductive Wk (n : Nat) (A : Nat → Nat → Int) : Nat → Nat → Int → Prop
  | nil (i : Nat) : Wk n A i i 0
  | snoc {i k j : Nat} {v : Int} : k < n → j < n → Wk n A i k v → Wk n A i j (v + A k j)
theorem Wk.cat {n : Nat} {A : Nat → Nat → Int} {i k j : Nat} {v u : Int} (a : Wk n A i k v) (b : Wk n A k j u) : Wk n A i j (v + u) := by
  induction b with
  | nil => rw [Int.add_zero]; exact a
  | snoc h1 h2 _ ih => rw [← Int.add_assoc]; exact .snoc h1 h2 ih
theorem Wk.rev {n : Nat} {A : Nat → Nat → Int} (sym : ∀ i j, A i j = A j i) {i j : Nat} {v : Int} (hi : i < n) (a : Wk n A i j v) : Wk n A j i v := by
  induction a with
  | nil => exact .nil i
  | @snoc k j v h1 h2 a ih =>
    have one : Wk n A j k (0 + A j k) := .snoc h2 h1 (.nil j)
    have e : 0 + A j k + v = v + A k j := by rw [sym j k]; omega
    exact e ▸ one.cat ih
structure Good (n : Nat) (A C : Nat → Nat → Int) : Prop where
  le : ∀ i j, i < n → j < n → C i j ≤ A i j
  dia : ∀ i, i < n → C i i = 0
  pos : ∀ i j, i < n → j < n → i ≠ j → 1 ≤ C i j
  wk : ∀ i j, i < n → j < n → Wk n A i j (C i j)
structure Way (n : Nat) (h : Int) (A : Nat → Nat → Int) : Prop where
  sym : ∀ i j, i < n → j < n → A i j = A j i
  dia : ∀ i, i < n → A i i = 0
  pos : ∀ i j, i < n → j < n → i ≠ j → 1 ≤ A i j ∧ A i j ≤ h
theorem Tab.way {n : Nat} {h : Int} {T : Nat → Nat → Int} (t : Tab n h n 0 T) : Way n h T := ⟨fun i j _ _ => t.sym i j, fun i _ => t.dia i, fun i j hi hj ne => t.see i j hi hj (.inl ⟨hi, hj, ne⟩)⟩
def Fin1 (n : Nat) (A C : Nat → Nat → Int) : Prop := ∀ i j k, i < n → j < n → k < n → C i j ≤ C i k + A k j
theorem least_walk {n : Nat} {A C : Nat → Nat → Int} (g : Good n A C) (f : Fin1 n A C) {i j : Nat} {v : Int} (hi : i < n) (a : Wk n A i j v) : C i j ≤ v := by
  induction a with
  | nil => rw [g.dia i hi]; exact Int.le_refl _
  | snoc h1 h2 _ ih =>
    have := f _ _ _ hi h2 h1
    have := ih
    omega
structure Closed (n : Nat) (h : Int) (C : Nat → Nat → Int) : Prop where
  way : Way n h C
  tri : ∀ i j k, i < n → j < n → k < n → C i j ≤ C i k + C k j
theorem closed_of {n : Nat} {h : Int} {A C : Nat → Nat → Int} (hA : ∀ i j, A i j = A j i) (w : Way n h A) (g : Good n A C) (f : Fin1 n A C) : Closed n h C :=
  ⟨⟨fun i j hi hj => Int.le_antisymm (least_walk g f hi ((g.wk j i hj hi).rev hA hj)) (least_walk g f hj ((g.wk i j hi hj).rev hA hi)), g.dia, fun i j hi hj ne => ⟨g.pos i j hi hj ne, Int.le_trans (g.le i j hi hj) (w.pos i j hi hj ne).2⟩⟩,
    fun i j k hi hj hk => least_walk g f hi ((g.wk i k hi hk).cat (g.wk k j hk hj))⟩
/-! ### the sum of all -/
def sumN (f : Nat → Int) : Nat → Int
  | 0 => 0
  | m + 1 => sumN f m + f m
theorem sumN_le {f g : Nat → Int} : ∀ {m : Nat}, (∀ i, i < m → f i ≤ g i) → sumN f m ≤ sumN g m
  | 0, _ => Int.le_refl _
  | m + 1, h => by
    have := sumN_le (m := m) fun i hi => h i (by omega)
    have := h m (by omega)
    show sumN f m + f m ≤ sumN g m + g m
    omega
theorem sumN_lt {f g : Nat → Int} {k : Nat} : ∀ {m : Nat}, (∀ i, i < m → f i ≤ g i) → k < m → f k < g k → sumN f m < sumN g m
  | m + 1, h, hk, lt => by
    show sumN f m + f m < sumN g m + g m
    by_cases e : k = m
    · subst e
      have := sumN_le (m := k) fun i hi => h i (by omega)
      omega
    · have := sumN_lt (m := m) (fun i hi => h i (by omega)) (by omega) lt
      have := h m (by omega)
      omega
def total (n : Nat) (C : Nat → Nat → Int) : Int := sumN (fun i => sumN (C i) n) n
theorem total_nn {n : Nat} {C : Nat → Nat → Int} (h : ∀ i j, i < n → j < n → 0 ≤ C i j) : 0 ≤ total n C := by
  have z : ∀ m, sumN (fun _ => 0) m = 0 := fun m => by induction m with
    | zero => rfl
    | succ m ih => show sumN (fun _ => 0) m + 0 = 0; rw [ih]; rfl
  have := sumN_le (f := fun _ => 0) (g := fun i => sumN (C i) n) (m := n) fun i hi => by
    have := sumN_le (f := fun _ => 0) (g := C i) (m := n) fun j hj => h i j hi hj
    rw [z] at this
    exact this
  rw [z] at this
  exact this
theorem total_lt {n i j : Nat} {C : Nat → Nat → Int} {v : Int} (hi : i < n) (hj : j < n) (lt : v < C i j) : total n (upT C i j v) < total n C := by
  have row : ∀ a b, upT C i j v a b ≤ C a b := fun a b => by
    unfold upT
    split
    · rename_i h; rw [h.1, h.2]; omega
    · exact Int.le_refl _
  refine sumN_lt (k := i) (fun a _ => sumN_le fun b _ => row a b) hi (sumN_lt (k := j) (fun b _ => row i b) hj ?_)
  unfold upT
  rw [if_pos ⟨rfl, rfl⟩]; exact lt
theorem Good.step {n i j k : Nat} {h : Int} {A C : Nat → Nat → Int} (w : Way n h A) (g : Good n A C) (hi : i < n) (hj : j < n) (hk : k < n) (lt : C i k + A k j < C i j) : Good n A (upT C i j (C i k + A k j)) := by
  have ne : i ≠ j := fun e => by
    subst e
    have h1 := g.dia i hi
    by_cases e2 : i = k
    · subst e2; have := w.dia i hi; omega
    · have := g.pos i k hi hk e2
      have := (w.pos k i hk hi (fun z => e2 z.symm)).1
      omega
  refine ⟨fun a b ha hb => ?_, fun a ha => ?_, fun a b ha hb nab => ?_, fun a b ha hb => ?_⟩
  · unfold upT
    split
    · rename_i z; have := g.le a b ha hb; rw [z.1, z.2] at *; omega
    · exact g.le a b ha hb
  · unfold upT
    rw [if_neg fun z => ne (z.1.symm.trans z.2)]
    exact g.dia a ha
  · unfold upT
    split
    · by_cases e2 : i = k
      · subst e2; have := g.dia i hi; have := (w.pos i j hi hj ne).1; omega
      · have := g.pos i k hi hk e2
        by_cases e3 : k = j
        · subst e3; have := w.dia k hk; omega
        · have := (w.pos k j hk hj e3).1; omega
    · exact g.pos a b ha hb nab
  · unfold upT
    split
    · rename_i z
      rw [z.1, z.2]
      exact .snoc hk hj (g.wk i k hi hk)
    · exact g.wk a b ha hb
theorem least_of : ∀ (ns : List Int), ns ≠ [] → ∃ m ∈ ns, ∀ y ∈ ns, m ≤ y
  | [], h => absurd rfl h
  | [x], _ => ⟨x, by simp, by simp⟩
  | x :: y :: r, _ => by
    obtain ⟨m, h1, h2⟩ := least_of (y :: r) (by simp)
    by_cases h : x ≤ m
    · exact ⟨x, by simp, fun z hz => by
        rcases List.mem_cons.mp hz with e | e
        · rw [e]; exact Int.le_refl _
        · have := h2 z e; omega⟩
    · exact ⟨m, List.mem_cons_of_mem _ h1, fun z hz => by
        rcases List.mem_cons.mp hz with e | e
        · rw [e]; omega
        · exact h2 z e⟩
end K11

set_option linter.all false
set_option maxRecDepth 100000
set_option maxHeartbeats 20000000
namespace K11
open PySem PySem.Spec PyProof.Rows L2 Dv
/-! ### the least weight of all walks -/
def Least (n : Nat) (A : Nat → Nat → Int) (i j : Nat) (v : Int) : Prop := Wk n A i j v ∧ ∀ u, Wk n A i j u → v ≤ u
open Classical in
noncomputable def closeL (n : Nat) (A : Nat → Nat → Int) (i j : Nat) : Int := if h : ∃ v, Least n A i j v then h.choose else 0
theorem close_eq {n : Nat} {A : Nat → Nat → Int} {i j : Nat} {v : Int} (h : Least n A i j v) : closeL n A i j = v := by
  have e : ∃ v, Least n A i j v := ⟨v, h⟩
  unfold closeL
  rw [dif_pos e]
  exact Int.le_antisymm (e.choose_spec.2 v h.1) (h.2 _ e.choose_spec.1)
theorem matD_congr {n : Nat} {C D : Nat → Nat → Int} (h : ∀ i j, i < n → j < n → C i j = D i j) : matD n C = matD n D := by
  unfold matD rowD
  exact List.map_congr_left fun i hi => List.map_congr_left fun j hj => by rw [h i j (List.mem_range.mp hi) (List.mem_range.mp hj)]
theorem tabD_congr {n : Nat} {C D : Nat → Nat → Int} (h : ∀ i j, i < n → j < n → C i j = D i j) : tabD n C = tabD n D := by
  unfold tabD rowD
  congr 1
  exact List.map_congr_left fun i hi => by
    congr 1
    exact List.map_congr_left fun j hj => by rw [h i j (List.mem_range.mp hi) (List.mem_range.mp hj)]
theorem at_rowD {n m k : Nat} {T : Nat → Nat → Int} (hk : k < n) : atI (rowD n T m) ((k : Nat) : Int) = some (.int (T m k)) := at_map (F := fun j => PyData.int (T m j)) (List.getElem?_range hk)
theorem at_tabD {n k : Nat} {T : Nat → Nat → Int} (hk : k < n) : atI ((List.range n).map fun i => PyData.tuple (rowD n T i)) ((k : Nat) : Int) = some (.tuple (rowD n T k)) := at_map (List.getElem?_range hk)
section
variable {P : Program} {w : World} {K : Fg} {mg : Str → Option Value} {base : Heap} {f : Addr} {fd : FuncData}
abbrev NC : List Str := ["table", "found", "many", "is_less", "one", "other", "least", "row", "over"]
theorem scLClosed : FnScope NC ["table"] (defScope sLClosed) := ⟨rfl, rfl, rfl, by decide +kernel, rfl, by decide +kernel, by decide +kernel⟩
def rLClosed (ds : List Dt) (d : Dt) : Prop := ∃ (n : Nat) (h : Int) (A : Nat → Nat → Int), 1 ≤ n ∧ n ≤ 12 ∧ (∀ i j, A i j = A j i) ∧ Way n h A ∧ ds = [tabD n A] ∧ d = tabD n (closeL n A)
theorem f_lclosed (T : T0 K mg) (F : Fun K "_law_closed" "_law_closed" sLClosed f fd) : FnG P w K mg base 1 f fd ["table"] (spD K rLClosed) := by
  refine fn_data F scLClosed (fun ds d ⟨_, _, _, _, _, _, _, e, _⟩ => by subst e; rfl) fun cdv A' outer s H E hr hgd hu ds d h => ?_
  obtain ⟨n, hh, A, n1, n2, hA, way, rfl, rfl⟩ := h
  have getA : ∀ (i : Nat) d, ((List.range n).map fun i => PyData.tuple (rowD n A i))[i]? = some d → i < n ∧ d = .tuple (rowD n A i) := fun i d e => by
    have hi : i < n := by
      have := (List.getElem?_eq_some_iff.mp e).1
      rw [List.length_map, List.length_range] at this
      exact this
    rw [List.getElem?_map, List.getElem?_range hi] at e
    cases e
    exact ⟨hi, rfl⟩
  refine ss_seq (N := fun y => ∃ as, y = [.d (tabD n A), .own2 as (matD n A), .d (.int ((n : Nat) : Int)), .d (.bool true), .no, .no, .no, .no, .no]) (sd_asg3 (R := fun dss => dss = matD n A) 1 2 3 scLClosed.nd
    (PE.imp ((lc2_of (es := (List.range n).map fun i => PyData.tuple (rowD n A i)) (own := [("row", 7)]) (i_tup (pd_v 0)) (blkOk_by (N := NC) (sc := defScope sLClosed) (by decide +kernel)) (by rw [List.length_map, List.length_range]; omega) (fun i => rowD n A i) (fun d => [.d (tabD n A), .no, .no, .no, .no, .no, .no, .d d, .no])
      (fun s H C cl fp i d e => tg_name 7 scLClosed.nd) (fun s H C cl fp i d e => xo_listOf T.list (pd_v 7) (.inr (getA i d e).2))).xo scLClosed.nd) fun σ H Q ⟨p, B, G, i3, en, q⟩ => ⟨p, B, G, i3, en, fun l as dss G' H' r => q l as dss G' H' (by rw [r, List.length_map, List.length_range]; rfl)⟩)
    (pa_c ((pd_len_tup T.len (pa_c (pd_v 0) pa_n)).is (d := .int ((n : Nat) : Int)) (by rw [List.length_map, List.length_range])) (pa_c pd_bl pa_n)) fun as dss e => ⟨as, by rw [e]; rfl⟩) fun δ' ⟨as, e⟩ => ?_
  subst e
  have good0 : Good n A A := ⟨fun _ _ _ _ => Int.le_refl _, way.dia, fun i j hi hj ne => (way.pos i j hi hj ne).1, fun i j hi hj => by
    have := Wk.snoc hi hj (Wk.nil (n := n) (A := A) i)
    rw [Int.zero_add] at this
    exact this⟩
  refine ss_seq (N := fun y => ∃ as C e4 e5 e6, Good n A C ∧ Fin1 n A C ∧ y = [.d (tabD n A), .own2 as (matD n C), .d (.int ((n : Nat) : Int)), .d (.bool false), e4, e5, e6, .no, .no]) (sd_while PassesOwn.never
    (fun m y => ∃ as C b e4 e5 e6, Good n A C ∧ (b = false → Fin1 n A C) ∧ m = 2 * (total n C).toNat + (if b = true then 1 else 0) ∧ y = [.d (tabD n A), .own2 as (matD n C), .d (.int ((n : Nat) : Int)), .d (.bool b), e4, e5, e6, .no, .no]) _ ⟨as, A, true, .no, .no, .no, good0, fun z => Bool.noConfusion z, rfl, rfl⟩
    (fun m y c => y[3]? = some (.d (.bool c))) (fun m y ⟨as, C, b, e4, e5, e6, g, fn, em, e⟩ => ?_) (fun m y ⟨as, C, b, e4, e5, e6, g, fn, em, e⟩ t => ?_) (fun m y ⟨as, C, b, e4, e5, e6, g, fn, em, e⟩ t => ?_)) fun δ' ⟨as, C, e4, e5, e6, g, fn, e⟩ => ?_
  · subst e
    exact XT.mono (pt_v (pd_v 3)) fun c ec => by rw [ec]; rfl
  · subst e
    cases t
    have tot0 : ∀ C, Good n A C → 0 ≤ total n C := fun C g => total_nn fun i j hi hj => by
      by_cases e : i = j
      · subst e; rw [g.dia i hi]; exact Int.le_refl _
      · have := g.pos i j hi hj e; omega
    refine s_set 3 scLClosed.nd pd_bl ?_
    refine ss_seq (N := fun y => ∃ as C' b' e4 e5 e6, Good n A C' ∧ (b' = false → C' = C ∧ Fin1 n A C) ∧ (b' = true → total n C' < total n C) ∧ y = [.d (tabD n A), .own2 as (matD n C'), .d (.int ((n : Nat) : Int)), .d (.bool b'), e4, e5, e6, .no, .no]) (sd_for (js := [4]) PassesOwn.never rfl (i_rng1 (j := ((n : Nat) : Int)) (pa_c (pd_v 2) pa_n) T.range (by omega))
      (fun _ i y => ∃ as C' b' e4 e5 e6, Good n A C' ∧ (b' = false → C' = C ∧ ∀ a b k, a < i → b < n → k < n → C a b ≤ C a k + A k b) ∧ (b' = true → total n C' < total n C) ∧ y = [.d (tabD n A), .own2 as (matD n C'), .d (.int ((n : Nat) : Int)), .d (.bool b'), e4, e5, e6, .no, .no])
      (fun _ _ => ⟨as, C, false, e4, e5, e6, g, fun _ => ⟨rfl, fun a b k h => by omega⟩, fun z => Bool.noConfusion z, rfl⟩) (fun d δ' => δ'.set 4 (.d d)) (fun ds i d δ' e h iv => tg_name 4 scLClosed.nd) (fun ds i d δ' e h iv => ?_) (fun ds δ' e iv => ?_)) fun δ' ⟨as, C', b', e4, e5, e6, g', f1, f2, e⟩ => ?_
    · subst e
      obtain ⟨as, C1, b1, e4, e5, e6, g1, f1, f2, rfl⟩ := iv
      obtain ⟨hi, rfl⟩ := rngD_at h
      rw [show (0 : Int) + ((i : Nat) : Int) = ((i : Nat) : Int) by omega]
      have hin : i < n := by omega
      refine ss_seq (N := fun y => ∃ as C' b' e5 e6, Good n A C' ∧ (b' = false → C' = C ∧ (∀ a b k, a < i → b < n → k < n → C a b ≤ C a k + A k b) ∧ ∀ b k, b < n → k < n → C i b ≤ C i k + A k b) ∧ (b' = true → total n C' < total n C) ∧ y = [.d (tabD n A), .own2 as (matD n C'), .d (.int ((n : Nat) : Int)), .d (.bool b'), .d (.int ((i : Nat) : Int)), e5, e6, .no, .no]) (sd_for (js := [5]) PassesOwn.never rfl (i_rng1 (j := ((n : Nat) : Int)) (pa_c (pd_v 2) pa_n) T.range (by omega))
        (fun _ j y => ∃ as C' b' e5 e6, Good n A C' ∧ (b' = false → C' = C ∧ (∀ a b k, a < i → b < n → k < n → C a b ≤ C a k + A k b) ∧ ∀ b k, b < j → k < n → C i b ≤ C i k + A k b) ∧ (b' = true → total n C' < total n C) ∧ y = [.d (tabD n A), .own2 as (matD n C'), .d (.int ((n : Nat) : Int)), .d (.bool b'), .d (.int ((i : Nat) : Int)), e5, e6, .no, .no])
        (fun _ _ => ⟨as, C1, b1, e5, e6, g1, fun z => ⟨(f1 z).1, (f1 z).2, fun b k h => by omega⟩, f2, rfl⟩) (fun d δ' => δ'.set 5 (.d d)) (fun ds j d δ' e h iv => tg_name 5 scLClosed.nd) (fun ds j d δ' e h iv => ?_) (fun ds δ' e iv => ?_)) fun δ' ⟨as, C', b', e5, e6, g', f3, f4, e⟩ => ?_
      · subst e
        obtain ⟨as, M, b2, e5, e6, gM, f3, f4, rfl⟩ := iv
        obtain ⟨hj, rfl⟩ := rngD_at h
        rw [show (0 : Int) + ((j : Nat) : Int) = ((j : Nat) : Int) by omega]
        have hjn : j < n := by omega
        obtain ⟨m, hm1, hm2⟩ := least_of ((List.range n).map fun k => M i k + A k j) (by
          intro z
          have := congrArg List.length z
          rw [List.length_map, List.length_range] at this
          simp at this
          omega)
        obtain ⟨k, hk, ek⟩ := List.mem_map.mp hm1
        have hkn := List.mem_range.mp hk
        have hmin : ∀ k, k < n → m ≤ M i k + A k j := fun k hk => hm2 _ (List.mem_map.mpr ⟨k, List.mem_range.mpr hk, rfl⟩)
        refine s_set 6 scLClosed.nd (d := .int m) (pd_minL (ns := (List.range n).map fun k => M i k + A k j) rfl T.min (pa_c ((pd_map (xs := List.range n) (enc := fun k : Nat => .int (0 + (k : Int))) (F := fun k => .int (M i k + A k j)) (own := [("over", 8)]) rfl scLClosed.nd (i_rng1 (j := ((n : Nat) : Int)) (pa_c (pd_v 2) pa_n) T.range (by omega)) (blkOk_by (N := NC) (sc := defScope sLClosed) (by decide +kernel)) (by rw [List.length_range]; omega)
          (fun d => [.d (tabD n A), .own2 as (matD n M), .d (.int ((n : Nat) : Int)), .d (.bool b2), .d (.int ((i : Nat) : Int)), .d (.int ((j : Nat) : Int)), e6, .no, .d d]) (fun s H C cl fp t y hy => tg_name 8 scLClosed.nd) (fun s H C cl fp t y hy => by
            have hy2 : y < n := List.mem_range.mp (List.mem_of_getElem? hy)
            rw [show (0 : Int) + ((y : Nat) : Int) = ((y : Nat) : Int) by omega]
            exact pd_add (pd_own2At 1 i rfl (pd_v 4) (pd_v 8) (at_row hin) (matD_row hin) (at_rowD hy2)) (pd_ixT (pd_ixT (pd_v 0) (pd_v 8) (at_tabD hy2)) (pd_v 5) (at_rowD hjn)))).is (by rw [List.map_map]; rfl)) pa_n) hm1 hm2) ?_
        refine s_when (pt_lt (pd_v 6) (pd_own2At (d := .int (M i j)) 1 i rfl (pd_v 4) (pd_v 5) (at_row hin) (matD_row hin) (at_rowD hjn))) (fun hlt => ?_) (fun hlt => ss_nil ⟨as, M, b2, _, _, gM, fun z => ⟨(f3 z).1, (f3 z).2.1, fun b k h1 h2 => ?_⟩, f4, rfl⟩)
        · have lt : m < M i j := of_decide_eq_true hlt
          have lt2 : M i k + A k j < M i j := by rw [ek]; exact lt
          refine s_asgX (pd_tup (pa_c (pd_v 6) (pa_c pd_bl pa_n))) (tx_tup rfl (txs_cons (tx_row 1 i j rfl (pd_v 4) (pd_v 5) (at_row hin) (matD_row hin) (ix_row hjn)) (txs_cons (tx_name 3 scLClosed.nd) txs_nil))) (ss_nil ⟨as, upT M i j (M i k + A k j), true, .d (.int ((j : Nat) : Int)), .d (.int m), gM.step way hin hjn hkn lt2, fun z => Bool.noConfusion z, fun _ => ?_, by rw [ek, mat_set hin hjn]; rfl⟩)
          have h1 := total_lt (n := n) hin hjn lt2
          cases b2 with
          | true => have := f4 rfl; omega
          | false => rw [← (f3 rfl).1]; exact h1
        · have nl : M i j ≤ m := by have := of_decide_eq_false hlt; omega
          by_cases e : b = j
          · subst e
            have := hmin k h2
            rw [← (f3 z).1]
            omega
          · exact (f3 z).2.2 b k (by omega) h2
      · subst e
        rw [rngD_length] at iv
        exact iv
      · subst e
        refine ss_nil ⟨as, C', b', _, e5, e6, g', fun z => ⟨(f3 z).1, fun a b k h1 h2 h3 => ?_⟩, f4, rfl⟩
        by_cases e : a = i
        · subst e; exact (f3 z).2.2 b k h2 h3
        · exact (f3 z).2.1 a b k (by omega) h2 h3
    · subst e
      rw [rngD_length] at iv
      obtain ⟨as, C', b', e4, e5, e6, g', f1, f2, e⟩ := iv
      exact ⟨as, C', b', e4, e5, e6, g', fun z => ⟨(f1 z).1, fun a b k h1 h2 h3 => (f1 z).2 a b k (by omega) h2 h3⟩, f2, e⟩
    · subst e
      have t1 := tot0 C g
      have t2 := tot0 C' g'
      refine ss_nil ⟨2 * (total n C').toNat + (if b' = true then 1 else 0), ?_, as, C', b', e4, e5, e6, g', fun z => by rw [(f1 z).1]; exact (f1 z).2, rfl, rfl⟩
      rw [em]
      cases b' with
      | true => have := f2 rfl; simp; omega
      | false => rw [(f1 rfl).1]; simp
  · subst e
    cases t
    exact ⟨as, C, e4, e5, e6, g, fn rfl, rfl⟩
  · subst e
    have ceq : ∀ i j, i < n → j < n → C i j = closeL n A i j := fun i j hi hj => (close_eq ⟨g.wk i j hi hj, fun u hu => least_walk g fn hi hu⟩).symm
    refine ss_frz2 1 rfl ?_
    refine s_ret (d := tabD n C) (pd_tuple_of T.tuple (pa_c ((pd_map (xs := List.range n) (enc := fun i => PyData.list (rowD n C i)) (F := fun i => .tuple (rowD n C i)) (own := [("row", 7)]) rfl scLClosed.nd (i_list ((pd_v 1).is (by unfold matD; rw [List.map_map]; rfl))) (blkOk_by (N := NC) (sc := defScope sLClosed) (by decide +kernel)) (by rw [List.length_range]; omega)
      (fun d => [.d (tabD n A), .d (.list ((matD n C).map PyData.list)), .d (.int ((n : Nat) : Int)), .d (.bool false), e4, e5, e6, .d d, .no]) (fun s H C cl fp i y hy => tg_name 7 scLClosed.nd) (fun s H C cl fp i y hy => pd_tuple_of T.tuple (pa_c (pd_v 7) pa_n)))) pa_n)) (tabD_congr ceq)
end
end K11

set_option linter.all false
set_option maxRecDepth 100000
set_option maxHeartbeats 8000000
namespace K11
open PySem PySem.Spec PyProof.Rows L2 Dv
section
variable {X : Cx} {a b e : Expr} {δ : De} {pos p : Pos} {R : Dt → Prop}
theorem xd_tuple_of {S : List Dt → Prop} (hm : X.mg "tuple" = none) (ha : XD X e δ fun d => ∃ ds, d = .list ds ∧ S ds) (hR : ∀ ds, S ds → R (.tuple ds)) (hg : Gl X "tuple" := by rfl) (hs : starEach [e] X.env = (false, eval e X.env) :: starEach [] X.env := by rfl) : XD X (.Call (.Name "tuple" p) [e] [] pos) δ R :=
  xd_ct call_tuple_of hg hm (by decide +kernel) (xa_xc ha xa_nil hs) fun ds' ⟨d, y, e1, ⟨ds, e2, s⟩, e3⟩ p B G H vs i3 hv Q q => by
    subst e3; subst e2; subst e1
    obtain ⟨v, rfl, h⟩ := one_of hv
    cases h with
    | lst hs ha => exact ⟨_, _, rfl, .inl ⟨exl i3.gh hs, fun l hl => q _ _ _ _ (hR ds s) (.new i3 _ hl) (.tup (.inl (.inl upd_same)) (dpAll_ex (Ex.new (i3.gh.free hl)) _ _ ha))⟩⟩
end
/-- a list that is made number by number, each one drawn -/
def Made (S : Int → Prop) (i : Nat) (out : List Dt) : Prop := ∃ ns : List Int, out = ns.map PyData.int ∧ ns.length = i ∧ ∀ t ∈ ns, S t
theorem Made.nil {S : Int → Prop} : Made S 0 [] := ⟨[], rfl, rfl, by simp⟩
theorem Made.snoc {S : Int → Prop} {i : Nat} {out : List Dt} {y : Dt} (h : Made S i out) (hy : IntP S y) : Made S (i + 1) (out ++ [y]) := by
  obtain ⟨ns, e1, e2, e3⟩ := h
  obtain ⟨k, ek, hk⟩ := hy
  refine ⟨ns ++ [k], by rw [e1, ek, List.map_append]; rfl, by rw [List.length_append, e2]; rfl, fun t ht => ?_⟩
  rcases List.mem_append.mp ht with h | h
  · exact e3 t h
  · rw [List.mem_singleton.mp h]; exact hk
theorem walk_nn {n : Nat} {h : Int} {A : Nat → Nat → Int} (w : Way n h A) {i j : Nat} {v : Int} (a : Wk n A i j v) : 0 ≤ v := by
  induction a with
  | nil => exact Int.le_refl _
  | @snoc k j v h1 h2 _ ih =>
    by_cases e : k = j
    · subst e; have := w.dia k h1; omega
    · have := (w.pos k j h1 h2 e).1; omega
theorem walk_pos {n : Nat} {h : Int} {A : Nat → Nat → Int} (w : Way n h A) {i j : Nat} {v : Int} (a : Wk n A i j v) : i ≠ j → 1 ≤ v := by
  induction a with
  | nil => exact fun z => absurd rfl z
  | @snoc k j v h1 h2 a ih =>
    intro ne
    have v0 := walk_nn w a
    by_cases e : k = j
    · subst e; have := w.dia k h1; have := ih ne; omega
    · have := (w.pos k j h1 h2 e).1; omega
theorem least_ex {n : Nat} {h : Int} {A : Nat → Nat → Int} (w : Way n h A) {i j : Nat} : ∀ (m : Nat) (v : Int), v ≤ m → Wk n A i j v → ∃ v, Least n A i j v
  | 0, v, hv, a => ⟨v, a, fun u b => by have := walk_nn w b; omega⟩
  | m + 1, v, hv, a => by
    by_cases h : ∃ u, Wk n A i j u ∧ u < v
    · obtain ⟨u, b, lt⟩ := h
      exact least_ex w m u (by omega) b
    · exact ⟨v, a, fun u b => by
        by_cases z : v ≤ u
        · exact z
        · exact absurd ⟨u, b, by omega⟩ h⟩
theorem close_spec {n : Nat} {h : Int} {A : Nat → Nat → Int} (w : Way n h A) {i j : Nat} (hi : i < n) (hj : j < n) : Least n A i j (closeL n A i j) := by
  have one := Wk.snoc hi hj (Wk.nil (n := n) (A := A) i)
  obtain ⟨v, hv⟩ := least_ex w (0 + A i j).toNat _ (by omega) one
  rw [close_eq hv]; exact hv
theorem close_closed {n : Nat} {h : Int} {A : Nat → Nat → Int} (hA : ∀ i j, A i j = A j i) (w : Way n h A) : Closed n h (closeL n A) := by
  have sp := fun {i j : Nat} (hi : i < n) (hj : j < n) => close_spec w hi hj
  refine ⟨⟨fun i j hi hj => Int.le_antisymm ((sp hi hj).2 _ ((sp hj hi).1.rev hA hj)) ((sp hj hi).2 _ ((sp hi hj).1.rev hA hi)), fun i hi => Int.le_antisymm ((sp hi hi).2 0 (.nil i)) (walk_nn w (sp hi hi).1), fun i j hi hj ne => ⟨walk_pos w (sp hi hj).1 ne, ?_⟩⟩, fun i j k hi hj hk => (sp hi hj).2 _ ((sp hi hk).1.cat (sp hk hj).1)⟩
  have one := Wk.snoc hi hj (Wk.nil (n := n) (A := A) i)
  rw [Int.zero_add] at one
  exact Int.le_trans ((sp hi hj).2 _ one) (w.pos i j hi hj ne).2
abbrev sLCity : Stmt := at_def "_law_city"
structure City where
  n : Nat
  zones : List Int
  changes : List Int
  walk : Nat → Nat → Int
  drive : Nat → Nat → Int
abbrev intsT (ns : List Int) : Dt := .tuple (ns.map PyData.int)
def City.d (c : City) : Dt := .tuple [.str "city", intsT c.zones, intsT c.changes, tabD c.n c.walk, tabD c.n c.drive]
structure City.ok (c : City) : Prop where
  n1 : 1 ≤ c.n
  n2 : c.n ≤ 12
  zl : c.zones.length = c.n
  zb : ∀ z ∈ c.zones, 1 ≤ z ∧ z ≤ 4
  cl : c.changes.length = c.n
  cb : ∀ z ∈ c.changes, 0 ≤ z ∧ z ≤ 9
  wk : Closed c.n 120 c.walk
  dr : Closed c.n 120 c.drive
theorem Closed.le {n : Nat} {h k : Int} {C : Nat → Nat → Int} (c : Closed n h C) (hk : h ≤ k) : Closed n k C := ⟨⟨c.way.sym, c.way.dia, fun i j hi hj ne => ⟨(c.way.pos i j hi hj ne).1, Int.le_trans (c.way.pos i j hi hj ne).2 hk⟩⟩, c.tri⟩
section
variable {P : Program} {w : World} {K : Fg} {mg : Str → Option Value} {base : Heap} {f : Addr} {fd : FuncData}
abbrev NY : List Str := ["pot", "many", "zones", "changes", "stop"]
theorem scLCity : FnScope NY ["pot", "many"] (defScope sLCity) := ⟨rfl, rfl, rfl, by decide +kernel, rfl, by decide +kernel, by decide +kernel⟩
def CityP (n : Nat) (d : Dt) : Prop := ∃ c : City, c.ok ∧ c.n = n ∧ Closed c.n 20 c.drive ∧ d = c.d
def rLCity (ds : List Dt) (U : Dt → Prop) : Prop := ∃ n : Nat, 1 ≤ n ∧ n ≤ 12 ∧ ds = [.int ((n : Nat) : Int)] ∧ U = CityP n
theorem f_lcity (T : T0 K mg) (C1 : Cal P w K mg base 1 "_law_draw" ["pot", "many"] sLDraw (spP K rLDraw)) (C2 : Cal P w K mg base 2 "_law_table" ["pot", "many", "high"] sLTable (spP K rLTable)) (C3 : Cal P w K mg base 1 "_law_closed" ["table"] sLClosed (spD K rLClosed)) (F : Fun K "_law_city" "_law_city" sLCity f fd) : FnG P w K mg base 3 f fd ["pot", "many"] (spP K rLCity) := by
  refine fn_pot F scLCity (fun ds T ⟨_, _, _, e, _⟩ => by subst e; rfl) fun cdv A outer s H E hr hgd hu ds U h => ?_
  obtain ⟨n, n1, n2, rfl, rfl⟩ := h
  refine ss_seq (N := fun y => ∃ zs cs : List Int, zs.length = n ∧ (∀ z ∈ zs, 1 ≤ z ∧ z ≤ 4) ∧ cs.length = n ∧ (∀ z ∈ cs, 0 ≤ z ∧ z ≤ 9) ∧ y = [.pot, .d (.int ((n : Nat) : Int)), .d (intsT zs), .d (intsT cs), .no]) (sd_par 2 3 scLCity.nd (by decide)
    (xa_xc (R := fun d => ∃ zs : List Int, zs.length = n ∧ (∀ z ∈ zs, 1 ≤ z ∧ z ≤ 4) ∧ d = intsT zs) (xd_tuple_of (S := fun out => Made (fun t => 1 ≤ t ∧ t ≤ 4) n out) T.tuple ((lc_of (R := fun d => ∃ ds, d = .list ds ∧ Made (fun t => 1 ≤ t ∧ t ≤ 4) n ds) (S := fun x => x = rngD 0 ((n : Nat) : Int).toNat) (own := [("stop", 4)]) (i_rng1 (pa_c (pd_v 1) pa_n) T.range (by omega)) (blkOk_by (N := NY) (sc := defScope sLCity) (by decide +kernel)) (fun ds e => by rw [e, rngD_length]; omega)
        (fun _ i out => Made (fun t => 1 ≤ t ∧ t ≤ 4) i out) (fun _ _ => .nil) (fun ds out e iv => ⟨out, rfl, by rw [e, rngD_length] at iv; exact iv⟩)
        (fun d => [.pot, .d (.int ((n : Nat) : Int)), .no, .no, .d d]) (fun _ _ _ b => b = true) (fun s H C cl fp ds i d e h => tg_name 4 scLCity.nd) (fun s H C cl fp ds i d e h => PTs.imp pts_nil fun σ H Q ⟨p, B, G, i3, en, q⟩ => q true G H rfl (.refl i3)) (fun _ _ _ _ _ _ h => by cases h)
        (fun s H C cl fp ds i d e h _ => XD.mono (xi_add (S := fun k => k = 1) (T := Lo 4) (U := fun t => 1 ≤ t ∧ t ≤ 4) (xi_of pd_int rfl) (xd_pot C1 0 (pa_c pd_int pa_n) fun ds e => ⟨4, by decide, by decide, e, rfl⟩) fun k j e ⟨h1, h2⟩ => by subst e; omega) fun y hy out iv => iv.snoc hy)).xd scLCity.nd) fun ds ⟨ns, e1, e2, e3⟩ => ⟨ns, e2, e3, by rw [e1]⟩)
    (xa_xc (R := fun d => ∃ zs : List Int, zs.length = n ∧ (∀ z ∈ zs, 0 ≤ z ∧ z ≤ 9) ∧ d = intsT zs) (xd_tuple_of (S := fun out => Made (Lo 10) n out) T.tuple ((lc_of (R := fun d => ∃ ds, d = .list ds ∧ Made (Lo 10) n ds) (S := fun x => x = rngD 0 ((n : Nat) : Int).toNat) (own := [("stop", 4)]) (i_rng1 (pa_c (pd_v 1) pa_n) T.range (by omega)) (blkOk_by (N := NY) (sc := defScope sLCity) (by decide +kernel)) (fun ds e => by rw [e, rngD_length]; omega)
        (fun _ i out => Made (Lo 10) i out) (fun _ _ => .nil) (fun ds out e iv => ⟨out, rfl, by rw [e, rngD_length] at iv; exact iv⟩)
        (fun d => [.pot, .d (.int ((n : Nat) : Int)), .no, .no, .d d]) (fun _ _ _ b => b = true) (fun s H C cl fp ds i d e h => tg_name 4 scLCity.nd) (fun s H C cl fp ds i d e h => PTs.imp pts_nil fun σ H Q ⟨p, B, G, i3, en, q⟩ => q true G H rfl (.refl i3)) (fun _ _ _ _ _ _ h => by cases h)
        (fun s H C cl fp ds i d e h _ => XD.mono (xd_pot (U := IntP (Lo 10)) C1 0 (pa_c pd_int pa_n) fun ds e => ⟨10, by decide, by decide, e, rfl⟩) fun y hy out iv => iv.snoc hy)).xd scLCity.nd) fun ds ⟨ns, e1, e2, e3⟩ => ⟨ns, e2, fun z hz => by have := e3 z hz; unfold Lo at this; omega, by rw [e1]⟩) xa_nil))
    fun ds ⟨d1, y1, e1, ⟨zs, z1, z2, z3⟩, d2, y2, e2, ⟨cs, c1, c2, c3⟩, e3⟩ => ⟨d1, d2, by rw [e1, e2, e3], zs, cs, z1, z2, c1, c2, by rw [z3, c3]; rfl⟩) fun δ' ⟨zs, cs, z1, z2, c1, c2, e⟩ => ?_
  subst e
  have cls : ∀ (h : Int) (ds : List Dt), (∃ d y, ds = d :: y ∧ (∃ T, Tab n h n 0 T ∧ d = tabD n T) ∧ y = []) → ∃ d, rLClosed ds d ∧ ∃ C, Closed n h C ∧ d = tabD n C := fun h ds ⟨d, y, e1, ⟨T, tab, e2⟩, e3⟩ => ⟨_, ⟨n, h, T, n1, n2, tab.sym, tab.way, by rw [e1, e2, e3], rfl⟩, _, close_closed tab.sym tab.way, rfl⟩
  refine ss_end (sd_ret (R := CityP n) (xd_tup (xa_pc (d := .str "city") pd_str (xa_pc (d := intsT zs) (pd_v 2) (xa_pc (d := intsT cs) (pd_v 3)
    (xa_xc (R := fun d => ∃ C, Closed n 30 C ∧ d = tabD n C) (xd_call C3 (xa_xc (xd_pot (U := fun d => ∃ T, Tab n 30 n 0 T ∧ d = tabD n T) C2 0 (pa_c (pd_v 1) (pa_c pd_int pa_n)) fun ds e => ⟨n, 30, n2, by decide, by decide, e, rfl⟩) xa_nil) (cls 30))
    (xa_xc (R := fun d => ∃ C, Closed n 20 C ∧ d = tabD n C) (xd_call C3 (xa_xc (xd_pot (U := fun d => ∃ T, Tab n 20 n 0 T ∧ d = tabD n T) C2 0 (pa_c (pd_v 1) (pa_c pd_int pa_n)) fun ds e => ⟨n, 20, n2, by decide, by decide, e, rfl⟩) xa_nil) (cls 20)) xa_nil))))) (by decide)
    fun ds ⟨y1, e1, y2, e2, y3, e3, d4, y4, e4, ⟨W, w1, w2⟩, d5, y5, e5, ⟨D, v1, v2⟩, e6⟩ => by
      subst e6; subst v2; subst e5; subst w2; subst e4; subst e3; subst e2; subst e1
      exact ⟨⟨⟨n, zs, cs, W, D⟩, ⟨n1, n2, z1, z2, c1, c2, w1.le (by decide), v1.le (by decide)⟩, rfl, v1, rfl⟩, by simp⟩) fun d h => h)
end
end K11

set_option linter.all false
set_option maxRecDepth 100000
set_option maxHeartbeats 4000000
section
open PySem PySem.Spec PyProof.Rows L2 RZ Dv in
local macro_rules | `(tactic| infer_instance) => `(tactic| first
  | (refine is_var ?_; refine c_var (by repeat (first | exact Nx.z | apply Nx.s)) (by rfl) ?_)
  | (refine is_var ?_; refine c_globI (by assumption) ?_)
  | (refine c_int ?_)
  | (refine c_bl ?_)
  | (refine c_str ?_)
  | (refine c_non ?_)
  | (refine c_dict0 ?_)
  | (refine c_ix ?_)
  | (refine ip_tup (by rfl) ?_)
  | (refine ip_list (by rfl) ?_)
  | (refine ip_tup at0 ?_)
  | (refine ip_list at0 ?_)
  | (refine c_bin ?_)
  | (refine bp_add ?_)
  | (refine bp_sub ?_)
  | (refine c_cmp (nomark _) ?_)
  | (refine c_cmpV (nomark _) ?_)
  | (refine cp_lt ?_)
  | (refine cp_le ?_)
  | (refine cp_gt ?_)
  | (refine cp_ge ?_)
  | (refine cp_eqI ?_)
  | (refine cp_neI ?_)
  | (refine cp_eqB ?_)
  | (refine cp_neB ?_)
  | (refine cp_isN ?_)
  | (refine cp_notN ?_)
  | (refine cp_eqS ?_)
  | (refine cp_neS ?_)
  | (refine c_tup ?_)
  | (refine c_lst ?_)
  | (refine a_c ?_)
  | (refine a_n ?_)
  | (refine c_w ?_)
  | (refine w_a ?_)
  | (refine w_o ?_)
  | (refine w_a1 ?_)
  | (refine w_o1 ?_)
  | (refine v_a ?_)
  | (refine v_o ?_)
  | (refine v_1 ?_)
  | (refine c_not ?_)
  | (refine c_notV ?_)
  | (refine c_if ?_)
  | (refine c_neg ?_)
  | (refine c_chain ?_)
  | (refine c_chainT ?_)
  | (refine c_len ?_)
  | (refine f_lenL ?_)
  | (refine f_lenT ?_)
  | (refine c_isiI ?_)
  | (refine c_isiB ?_)
  | (refine c_isiT ?_)
  | (refine c_isiL ?_)
  | (refine c_isiS ?_)
  | (refine c_isiLT ?_)
  | (refine c_repr ?_)
  | (refine c_tuple ?_)
  | (refine f_tupL ?_)
  | (refine f_tupT ?_)
  | (refine c_list ?_)
  | (refine f_listL ?_)
  | (refine f_listT ?_)
  | (refine c_max2 ?_)
  | (refine c_min2 ?_)
  | (refine f_max2 ?_)
  | (refine f_min2 ?_)
  | (refine c_slice ?_)
  | (refine c_sum ?_)
  | (refine f_sum ?_)
  | (refine f_sumT ?_)
  | (refine o_n ?_)
  | (refine o_s ?_)
  | (refine sl_l ?_)
  | (refine sl_t ?_)
  | (refine is_callN ?_; refine c_call (by assumption) ?_)
  | (refine is_rng ?_; refine s_rng1 (by repeat (first | exact Nx.z | apply Nx.s)) (by intro _; repeat (first | exact SetR.z | apply SetR.s)) ?_)
  | (refine is_let ?_; refine s_let (by repeat (first | exact Nx.z | apply Nx.s)) (by intro _; repeat (first | exact SetR.z | apply SetR.s)) ?_)
  | (refine s_ret' ?_)
  | (refine s_ifs ?_)
  | (refine is_two ?_; refine s_two (by repeat (first | exact Nx.z | apply Nx.s)) (by repeat (first | exact Nx.z | apply Nx.s)) (by intro _; repeat (first | exact SetR.z | apply SetR.s)) (by intro _ _; repeat (first | exact SetR.z | apply SetR.s)) ?_)
  | (refine is_three ?_; refine s_three (by repeat (first | exact Nx.z | apply Nx.s)) (by repeat (first | exact Nx.z | apply Nx.s)) (by repeat (first | exact Nx.z | apply Nx.s)) (by intro _; repeat (first | exact SetR.z | apply SetR.s)) (by intro _ _; repeat (first | exact SetR.z | apply SetR.s)) (by intro _ _ _; repeat (first | exact SetR.z | apply SetR.s)) ?_)
  | (refine s_do ?_)
  | (refine ss_n ?_)
  | (refine ⟨_, ⟨_, rfl, rfl⟩, ?_⟩)
  | (refine ⟨_, ⟨_, by assumption, rfl, rfl⟩, ?_⟩)
  | (refine ⟨_, ⟨_, _, rfl, rfl⟩, ?_⟩)
  | (refine ⟨_, ⟨_, _, _, rfl, rfl⟩, ?_⟩)
  | (refine ⟨_, ⟨_, _, _, _, rfl, rfl⟩, ?_⟩)
  | (refine ⟨_, ⟨_, _, _, by decide, rfl, rfl⟩, ?_⟩)
  | (refine i_range1 ?_)
  | (refine i_range2 ?_)
  | (refine i_zip ?_)
  | (refine is_src ?_; refine i_rngV (by repeat (first | exact Nx.z | apply Nx.s)) (by rfl) ?_ ?_)
  | (refine i_seq ?_)
  | (refine seq_l ?_)
  | (refine seq_t ?_)
  | (refine c_val ?_)
  | (refine s_unp ?_)
  | (refine is_exT ?_; refine ⟨_, _, by nofun, ?_⟩)
  | (refine br_t ?_)
  | (refine br_f ?_)
  | (refine br_t' ?_)
  | (refine br_f' ?_)
  | (refine ⟨_, _, rfl, rfl, ?_⟩)
  | (refine ⟨_, rfl, ?_⟩))
open PySem PySem.Spec PyProof.Rows L2 RZ Dv in
local macro_rules | `(tactic| and_intros) => `(tactic| first
  | (refine s_st (by repeat (first | exact StR.nil | apply StR.d | apply StR.no)) ?_; refine s_eq (by conv => { lhs; whnf }) ?_; (repeat infer_instance))
  | (infer_instance; (repeat infer_instance)))
open PySem PySem.Spec PyProof.Rows L2 RZ Dv in
local macro_rules | `(tactic| nofun) => `(tactic| first
  | (apply is_tgN; exact g_name (by assumption) (by repeat (first | exact Nx.z | apply Nx.s)) (by repeat (first | exact SetR.z | apply SetR.s)))
  | (apply is_tgN; refine g_sub (g_name (by assumption) (by repeat (first | exact Nx.z | apply Nx.s)) (by repeat (first | exact SetR.z | apply SetR.s))) (by rfl))
  | (apply is_tgT; first
    | exact g_tup (gs_c (by nofun) (gs_c (by nofun) tgs_nil))
    | exact g_tup (gs_c (by nofun) (gs_c (by nofun) (gs_c (by nofun) tgs_nil)))
    | exact g_tup (gs_c (by nofun) (gs_c (by nofun) (gs_c (by nofun) (gs_c (by nofun) tgs_nil))))
    | exact g_tup (gs_c (by nofun) (gs_c (by nofun) (gs_c (by nofun) (gs_c (by nofun) (gs_c (by nofun) tgs_nil)))))))
namespace K11
open PySem PySem.Spec PyProof.Rows L2 RZ Dv
abbrev sInteger : Stmt := at_def "is_integer"
abbrev sWithin : Stmt := at_def "is_within"
abbrev sTuple : Stmt := at_def "is_tuple"
abbrev sWord : Stmt := at_def "is_word"
abbrev sNamed : Stmt := at_def "is_named"
def isIntB : Dt → Bool
  | .int _ => true
  | _ => false
def withinB (v : Dt) (a b : Int) : Bool := match v with
  | .int i => decide (a ≤ i) && decide (i ≤ b)
  | _ => false
def tupB (v : Dt) (a b : Int) : Bool := match v with
  | .tuple es => decide (a ≤ (es.length : Int)) && decide ((es.length : Int) ≤ b)
  | _ => false
def wordB (v : Dt) (ss : List Str) : Bool := match v with
  | .str x => ss.any fun y => y == x
  | _ => false
def namedB (v : Dt) (x : Str) (n : Int) : Bool := tupB v n n && match v with
  | .tuple (e :: _) => wordB e [x]
  | _ => false
theorem tupB_of {v : Dt} {a b : Int} (h : tupB v a b = true) : ∃ es, v = .tuple es ∧ a ≤ (es.length : Int) ∧ (es.length : Int) ≤ b := by
  cases v with
  | tuple es =>
    simp only [tupB, Bool.and_eq_true, decide_eq_true_eq] at h
    exact ⟨es, rfl, h⟩
  | _ => cases h
theorem len2 {α : Type} {es : List α} (h : es.length = 2) : ∃ x y, es = [x, y] := by
  match es, h with
  | [x, y], _ => exact ⟨x, y, rfl⟩
theorem len3 {α : Type} {es : List α} (h : es.length = 3) : ∃ x y z, es = [x, y, z] := by
  match es, h with
  | [x, y, z], _ => exact ⟨x, y, z, rfl⟩
section
variable {P : Program} {w : World} {K : Fg} {mg : Str → Option Value} {base : Heap} {f : Addr} {fd : FuncData}
theorem scInteger : FnScope ["value"] ["value"] (defScope sInteger) := ⟨rfl, rfl, rfl, by decide +kernel, rfl, by decide +kernel, by decide +kernel⟩
def rInteger (ds : List Dt) (d : Dt) : Prop := ∃ v, ds = [v] ∧ d = .bool (isIntB v)
theorem f_integer (T : Free mg) (F : Fun K "is_integer" "is_integer" sInteger f fd) : FnG P w K mg base 1 f fd ["value"] (spD K rInteger) := by
  refine fn_data F scInteger (fun ds d ⟨i, e, _⟩ => by subst e; rfl) fun cdv A outer s H E hr hgd hu ds d h => ?_
  obtain ⟨v, rfl, rfl⟩ := h
  have hN := scInteger.nd
  and_intros
  refine ⟨fun h1 => ?_, fun h1 => ?_⟩
  · and_intros
    cases v <;> first | rfl | cases h1
  · cases v <;> first | rfl | cases h1
theorem scWithin : FnScope ["value", "least", "most"] ["value", "least", "most"] (defScope sWithin) := ⟨rfl, rfl, rfl, by decide +kernel, rfl, by decide +kernel, by decide +kernel⟩
def rWithin (ds : List Dt) (d : Dt) : Prop := ∃ v a b, ds = [v, .int a, .int b] ∧ d = .bool (withinB v a b)
theorem f_within (C1 : Cal P w K mg base 1 "is_integer" ["value"] sInteger (spD K rInteger)) (F : Fun K "is_within" "is_within" sWithin f fd) : FnG P w K mg base 2 f fd ["value", "least", "most"] (spD K rWithin) := by
  refine fn_data F scWithin (fun ds d ⟨i, _, _, e, _⟩ => by subst e; rfl) fun cdv A outer s H E hr hgd hu ds d h => ?_
  obtain ⟨v, a, b, rfl, rfl⟩ := h
  have hN := scWithin.nd
  and_intros
  refine ⟨fun h1 => ?_, fun h1 => ?_⟩
  · cases v with
    | int i =>
      and_intros
      refine ⟨fun h2 => ?_, fun h2 => ?_⟩
      · and_intros
        show _ = PyData.bool (decide (a ≤ i) && _)
        rw [decide_eq_true h2]; rfl
      · show _ = PyData.bool (decide (a ≤ i) && _)
        rw [decide_eq_false h2]; rfl
    | _ => cases h1
  · cases v <;> first | rfl | cases h1
theorem scTuple : FnScope ["value", "least", "most"] ["value", "least", "most"] (defScope sTuple) := ⟨rfl, rfl, rfl, by decide +kernel, rfl, by decide +kernel, by decide +kernel⟩
def rTuple (ds : List Dt) (d : Dt) : Prop := ∃ (v : Dt) (a b : Int), ds = [v, .int a, .int b] ∧ d = .bool (tupB v a b)
theorem f_tuple (T : Free mg) (F : Fun K "is_tuple" "is_tuple" sTuple f fd) : FnG P w K mg base 1 f fd ["value", "least", "most"] (spD K rTuple) := by
  refine fn_data F scTuple (fun ds d ⟨i, _, _, e, _⟩ => by subst e; rfl) fun cdv A outer s H E hr hgd hu ds d h => ?_
  obtain ⟨v, a, b, rfl, rfl⟩ := h
  have hN := scTuple.nd
  and_intros
  refine ⟨fun h1 => ?_, fun h1 => ?_⟩
  · cases v with
    | tuple es =>
      and_intros
      refine ⟨fun h2 => ?_, fun h2 => ?_⟩
      · and_intros
        show _ = PyData.bool (decide (a ≤ _) && _)
        rw [decide_eq_true h2]; rfl
      · show _ = PyData.bool (decide (a ≤ _) && _)
        rw [decide_eq_false h2]; rfl
    | _ => cases h1
  · cases v <;> first | rfl | cases h1
theorem scWord : FnScope ["value", "words"] ["value", "words"] (defScope sWord) := ⟨rfl, rfl, rfl, by decide +kernel, rfl, by decide +kernel, by decide +kernel⟩
def rWord (ds : List Dt) (d : Dt) : Prop := ∃ (v : Dt) (ss : List Str), ds = [v, .tuple (ss.map PyData.str)] ∧ d = .bool (wordB v ss)
theorem f_word (T : Free mg) (F : Fun K "is_word" "is_word" sWord f fd) : FnG P w K mg base 1 f fd ["value", "words"] (spD K rWord) := by
  refine fn_data F scWord (fun ds d ⟨i, _, e, _⟩ => by subst e; rfl) fun cdv A outer s H E hr hgd hu ds d h => ?_
  obtain ⟨v, ss, rfl, rfl⟩ := h
  have hN := scWord.nd
  and_intros
  refine ⟨fun h1 => ?_, fun h1 => ?_⟩
  · cases v with
    | str x =>
      refine v_1 ?_
      refine c_cmpV rfl ?_
      and_intros
      refine cp_inS ?_
      rfl
    | _ => cases h1
  · cases v <;> first | rfl | cases h1
theorem scNamed : FnScope ["value", "word", "many"] ["value", "word", "many"] (defScope sNamed) := ⟨rfl, rfl, rfl, by decide +kernel, rfl, by decide +kernel, by decide +kernel⟩
def rNamed (ds : List Dt) (d : Dt) : Prop := ∃ (v : Dt) (x : Str) (n : Int), 1 ≤ n ∧ ds = [v, .str x, .int n] ∧ d = .bool (namedB v x n)
theorem f_named (C1 : Cal P w K mg base 1 "is_tuple" ["value", "least", "most"] sTuple (spD K rTuple)) (C2 : Cal P w K mg base 1 "is_word" ["value", "words"] sWord (spD K rWord)) (F : Fun K "is_named" "is_named" sNamed f fd) : FnG P w K mg base 2 f fd ["value", "word", "many"] (spD K rNamed) := by
  refine fn_data F scNamed (fun ds d ⟨i, _, _, _, e, _⟩ => by subst e; rfl) fun cdv A outer s H E hr hgd hu ds d h => ?_
  obtain ⟨v, x, n, hn, rfl, rfl⟩ := h
  have hN := scNamed.nd
  and_intros
  refine ⟨fun h1 => ?_, fun h1 => ?_⟩
  · cases v with
    | tuple es =>
      cases es with
      | nil =>
        simp only [tupB, List.length_nil, Bool.and_eq_true, decide_eq_true_eq] at h1
        omega
      | cons e es =>
        and_intros
        refine ⟨by simp, ?_⟩
        and_intros
        refine ⟨_, ⟨e, [x], rfl, rfl⟩, ?_⟩
        show _ = PyData.bool (tupB _ _ _ && _)
        rw [h1]; rfl
    | _ => cases h1
  · show _ = PyData.bool (tupB _ _ _ && _)
    rw [h1]; rfl
abbrev sAreWithin : Stmt := at_def "are_within"
def tupOf : Dt → List Dt
  | .tuple es => es
  | _ => []
def arewB (v : Dt) (n a b : Int) : Bool := tupB v n n && (tupOf v).all fun x => withinB x a b
theorem arewB_of {v : Dt} {n a b : Int} (h : arewB v n a b = true) : ∃ ns : List Int, v = .tuple (ns.map PyData.int) ∧ (ns.length : Int) = n ∧ ∀ i ∈ ns, a ≤ i ∧ i ≤ b := by
  simp only [arewB, Bool.and_eq_true] at h
  obtain ⟨es, rfl, k1, k2⟩ := tupB_of h.1
  have e := h.2
  simp only [tupOf, List.all_eq_true] at e
  clear h
  have key : ∀ es : List Dt, (∀ x ∈ es, withinB x a b = true) → ∃ ns : List Int, es = ns.map PyData.int ∧ ∀ i ∈ ns, a ≤ i ∧ i ≤ b := fun es => by
    induction es with
    | nil => exact fun _ => ⟨[], rfl, by simp⟩
    | cons x xs ih =>
      intro h
      obtain ⟨ns, e1, e2⟩ := ih fun y hy => h y (List.mem_cons_of_mem _ hy)
      have hx := h x List.mem_cons_self
      cases x with
      | int i =>
        simp only [withinB, Bool.and_eq_true, decide_eq_true_eq] at hx
        exact ⟨i :: ns, by rw [e1]; rfl, fun k hk => by
          rcases List.mem_cons.mp hk with rfl | hk
          · exact hx
          · exact e2 k hk⟩
      | _ => cases hx
  obtain ⟨ns, e1, e2⟩ := key es e
  subst e1
  rw [List.length_map] at k1 k2
  exact ⟨ns, rfl, by omega, e2⟩
theorem arewB_ints {ns : List Int} {n a b : Int} (hn : (ns.length : Int) = n) (h : ∀ i ∈ ns, a ≤ i ∧ i ≤ b) : arewB (.tuple (ns.map PyData.int)) n a b = true := by
  simp only [arewB, tupB, tupOf, Bool.and_eq_true, List.length_map, decide_eq_true_eq, List.all_map, List.all_eq_true]
  exact ⟨⟨by omega, by omega⟩, fun i hi => by simpa [withinB] using h i hi⟩
theorem scAreWithin : FnScope ["value", "many", "least", "most", "part"] ["value", "many", "least", "most"] (defScope sAreWithin) := ⟨rfl, rfl, rfl, by decide +kernel, rfl, by decide +kernel, by decide +kernel⟩
def rAreWithin (ds : List Dt) (d : Dt) : Prop := ∃ v n a b, n ≤ 100000 ∧ ds = [v, .int n, .int a, .int b] ∧ d = .bool (arewB v n a b)
theorem f_arewithin (T : Free mg) (C1 : Cal P w K mg base 1 "is_tuple" ["value", "least", "most"] sTuple (spD K rTuple)) (C2 : Cal P w K mg base 2 "is_within" ["value", "least", "most"] sWithin (spD K rWithin)) (F : Fun K "are_within" "are_within" sAreWithin f fd) : FnG P w K mg base 3 f fd ["value", "many", "least", "most"] (spD K rAreWithin) := by
  refine fn_data F scAreWithin (fun ds d ⟨i, _, _, _, _, e, _⟩ => by subst e; rfl) fun cdv A outer s H E hr hgd hu ds d h => ?_
  obtain ⟨v, n, a, b, hl, rfl, rfl⟩ := h
  have hN := scAreWithin.nd
  and_intros
  refine ⟨fun h1 => ?_, fun h1 => ?_⟩
  · and_intros
    have h2 : tupB v n n = false := by simpa using h1
    show _ = PyData.bool (tupB v n n && _)
    rw [h2]; rfl
  · have h2 : tupB v n n = true := by simpa using h1
    obtain ⟨es, rfl, k2, k3⟩ := tupB_of h2
    and_intros
    refine c_allF (α := Dt) [("part", 4)] (blkOk_by (N := ["value", "many", "least", "most", "part"]) (sc := defScope sAreWithin) (by decide +kernel)) ?_
    and_intros
    refine ⟨es, _root_.id, fun x => withinB x a b, by simp, by omega, fun i x hx => ⟨_, fun s H C cl fp => by nofun, fun s H C cl fp => ?_⟩, ?_⟩
    · and_intros
      rfl
    · show _ = PyData.bool (tupB _ n n && _)
      rw [h2]; rfl
end
end K11

set_option linter.all false
set_option maxRecDepth 100000
set_option maxHeartbeats 4000000
namespace K11
open PySem PySem.Spec PyProof.Rows L2 RZ Dv
abbrev sIsCity : Stmt := at_def "is_city"
abbrev sWayTable : Stmt := at_def "is_way_table"
abbrev sIsWay : Stmt := at_def "is_way"
abbrev sIsClosed : Stmt := at_def "is_closed"
abbrev sShortest : Stmt := at_def "is_shortest"
structure Cn (mg : Str → Option Value) : Prop where
  stops : ∃ t, mg "MOST_STOPS" = some (.int 12 t)
  zone : ∃ t, mg "LAST_ZONE" = some (.int 4 t)
  change : ∃ t, mg "LONGEST_CHANGE" = some (.int 9 t)
  way : ∃ t, mg "LONGEST_WAY" = some (.int 120 t)
def intOf : Dt → Int
  | .int i => i
  | _ => 0
def matOf (v : Dt) (i j : Nat) : Int := intOf ((tupOf ((tupOf v).getD i .none)).getD j .none)
def szD (v : Dt) : Nat := (tupOf v).length
def tabB (v : Dt) : Bool := tupB v 1 12 && (tupOf v).all fun r => arewB r ((szD v : Nat) : Int) 0 120
def pairW (C : Nat → Nat → Int) (i j : Nat) : Bool := decide (C i j = C j i) && decide (decide (C i j = 0) = decide (i = j))
def shortW (n : Nat) (C : Nat → Nat → Int) (i j : Nat) : Bool := (List.range n).all fun k => decide (C i j ≤ C i k + C k j)
def waysB (v : Dt) : Bool := tabB v && (List.range (szD v)).all fun i => (List.range (szD v)).all (pairW (matOf v) i)
def closedB (v : Dt) : Bool := waysB v && (List.range (szD v)).all fun i => (List.range (szD v)).all (shortW (szD v) (matOf v) i)
structure TabI (v : Dt) : Prop where
  eq : v = tabD (szD v) (matOf v)
  n1 : 1 ≤ szD v
  n2 : szD v ≤ 12
  b : ∀ i j, i < szD v → j < szD v → 0 ≤ matOf v i j ∧ matOf v i j ≤ 120
  out : ∀ i j, ¬ (i < szD v ∧ j < szD v) → matOf v i j = 0
theorem tab_of {v : Dt} (h : tabB v = true) : TabI v := by
  unfold tabB at h
  rw [Bool.and_eq_true] at h
  obtain ⟨es, rfl, k1, k2⟩ := tupB_of h.1
  have hr : ∀ r ∈ es, ∃ ns : List Int, r = .tuple (ns.map PyData.int) ∧ ns.length = es.length ∧ ∀ i ∈ ns, 0 ≤ i ∧ i ≤ 120 := fun r hr => by
    obtain ⟨ns, e1, e2, e3⟩ := arewB_of (List.all_eq_true.mp h.2 r hr)
    exact ⟨ns, e1, by have : ((ns.length : Nat) : Int) = ((es.length : Nat) : Int) := e2; omega, e3⟩
  have sz : szD (.tuple es) = es.length := rfl
  have row : ∀ i, i < es.length → ∃ ns : List Int, es[i]? = some (.tuple (ns.map PyData.int)) ∧ ns.length = es.length ∧ (∀ x ∈ ns, 0 ≤ x ∧ x ≤ 120) ∧ ∀ j, matOf (.tuple es) i j = ns.getD j 0 := fun i hi => by
    obtain ⟨ns, e1, e2, e3⟩ := hr _ (List.getElem_mem hi)
    have e4 : es[i]? = some (.tuple (ns.map PyData.int)) := by rw [List.getElem?_eq_getElem hi, e1]
    refine ⟨ns, e4, e2, e3, fun j => ?_⟩
    show intOf ((tupOf (es.getD i .none)).getD j .none) = _
    rw [List.getD_eq_getElem?_getD (l := es), e4]
    show intOf ((ns.map PyData.int).getD j .none) = _
    rw [List.getD_eq_getElem?_getD, List.getElem?_map, List.getD_eq_getElem?_getD]
    cases ns[j]? <;> rfl
  refine ⟨?_, by rw [sz]; omega, by rw [sz]; omega, fun i j hi hj => ?_, fun i j hn => ?_⟩
  · unfold tabD
    congr 1
    apply List.ext_getElem?
    intro i
    rw [sz, List.getElem?_map]
    by_cases hi : i < es.length
    · obtain ⟨ns, e4, e2, _, e5⟩ := row i hi
      rw [e4, List.getElem?_range hi]
      show _ = some (PyData.tuple (rowD es.length (matOf (.tuple es)) i))
      congr 2
      unfold rowD
      apply List.ext_getElem?
      intro j
      rw [List.getElem?_map, List.getElem?_map]
      by_cases hj : j < es.length
      · rw [List.getElem?_range hj, List.getElem?_eq_getElem (by omega)]
        show some (PyData.int ns[j]) = some (PyData.int (matOf (.tuple es) i j))
        rw [e5, List.getD_eq_getElem?_getD, List.getElem?_eq_getElem (by omega)]; rfl
      · rw [List.getElem?_eq_none (by omega), List.getElem?_eq_none (by rw [List.length_range]; omega)]; rfl
    · rw [List.getElem?_eq_none (by omega), List.getElem?_eq_none (by rw [List.length_range]; omega)]; rfl
  · obtain ⟨ns, _, e2, e3, e5⟩ := row i hi
    have hj' : j < es.length := hj
    rw [e5, List.getD_eq_getElem?_getD, List.getElem?_eq_getElem (by omega)]
    exact e3 _ (List.getElem_mem _)
  · rw [sz] at hn
    by_cases hi : i < es.length
    · obtain ⟨ns, _, e2, _, e5⟩ := row i hi
      rw [e5, List.getD_eq_getElem?_getD, List.getElem?_eq_none (by omega)]; rfl
    · show intOf ((tupOf (es.getD i .none)).getD j .none) = 0
      rw [List.getD_eq_getElem?_getD (l := es), List.getElem?_eq_none (by omega)]; rfl
theorem ways_tab {v : Dt} (h : waysB v = true) : tabB v = true := by unfold waysB at h; rw [Bool.and_eq_true] at h; exact h.1
theorem ways_of {v : Dt} (h : waysB v = true) : Way (szD v) 120 (matOf v) ∧ ∀ i j, matOf v i j = matOf v j i := by
  have t := tab_of (ways_tab h)
  unfold waysB at h
  rw [Bool.and_eq_true] at h
  have hp : ∀ i j, i < szD v → j < szD v → matOf v i j = matOf v j i ∧ (decide (matOf v i j = 0) = decide (i = j)) := fun i j hi hj => by
    have z := List.all_eq_true.mp (List.all_eq_true.mp h.2 i (List.mem_range.mpr hi)) j (List.mem_range.mpr hj)
    unfold pairW at z
    rw [Bool.and_eq_true] at z
    exact ⟨of_decide_eq_true z.1, of_decide_eq_true z.2⟩
  refine ⟨⟨fun i j hi hj => (hp i j hi hj).1, fun i hi => ?_, fun i j hi hj ne => ?_⟩, fun i j => ?_⟩
  · have := (hp i i hi hi).2
    rw [decide_eq_true (rfl : i = i)] at this
    exact of_decide_eq_true this
  · have z := (hp i j hi hj).2
    rw [decide_eq_false ne] at z
    have := of_decide_eq_false z
    have := t.b i j hi hj
    omega
  · by_cases e : i < szD v ∧ j < szD v
    · exact (hp i j e.1 e.2).1
    · rw [t.out i j e, t.out j i fun q => e ⟨q.2, q.1⟩]
section
variable {P : Program} {w : World} {K : Fg} {mg : Str → Option Value} {base : Heap} {f : Addr} {fd : FuncData}
theorem scIsWay : FnScope ["table", "one", "other"] ["table", "one", "other"] (defScope sIsWay) := ⟨rfl, rfl, rfl, by decide +kernel, rfl, by decide +kernel, by decide +kernel⟩
def rIsWay (ds : List Dt) (d : Dt) : Prop := ∃ (n : Nat) (C : Nat → Nat → Int) (i j : Nat), i < n ∧ j < n ∧ ds = [tabD n C, .int ((i : Nat) : Int), .int ((j : Nat) : Int)] ∧ d = .bool (pairW C i j)
theorem f_isway (F : Fun K "is_way" "is_way" sIsWay f fd) : FnG P w K mg base 1 f fd ["table", "one", "other"] (spD K rIsWay) := by
  refine fn_data F scIsWay (fun ds d ⟨_, _, _, _, _, _, e, _⟩ => by subst e; rfl) fun cdv A outer s H E hr hgd hu ds d h => ?_
  obtain ⟨n, C, i, j, hi, hj, rfl, rfl⟩ := h
  have hN := scIsWay.nd
  and_intros
  refine ip_tup (at_tabD hi) ?_
  and_intros
  refine ip_tup (at_rowD hj) ?_
  and_intros
  refine ip_tup (at_tabD hj) ?_
  and_intros
  refine ip_tup (at_rowD hi) ?_
  and_intros
  refine ⟨fun h1 => ?_, fun h1 => ?_⟩
  · and_intros
    refine ip_tup (at_tabD hi) ?_
    and_intros
    refine ip_tup (at_rowD hj) ?_
    and_intros
    show _ = PyData.bool (pairW C i j)
    unfold pairW
    rw [h1, Bool.true_and, show decide (((i : Nat) : Int) = ((j : Nat) : Int)) = decide (i = j) from decide_eq_decide.mpr (by omega)]
  · show _ = PyData.bool (pairW C i j)
    unfold pairW
    rw [h1]; rfl
abbrev NW : List Str := ["value", "many", "places", "row", "one", "other"]
theorem scWayTable : FnScope NW ["value"] (defScope sWayTable) := ⟨rfl, rfl, rfl, by decide +kernel, rfl, by decide +kernel, by decide +kernel⟩
def rWayTable (ds : List Dt) (d : Dt) : Prop := ∃ v : Dt, ds = [v] ∧ d = .bool (waysB v)
theorem f_waytable (T : Free mg) (c : Cn mg) (C1 : Cal P w K mg base 1 "is_tuple" ["value", "least", "most"] sTuple (spD K rTuple)) (C2 : Cal P w K mg base 3 "are_within" ["value", "many", "least", "most"] sAreWithin (spD K rAreWithin)) (C3 : Cal P w K mg base 1 "is_way" ["table", "one", "other"] sIsWay (spD K rIsWay)) (F : Fun K "is_way_table" "is_way_table" sWayTable f fd) : FnG P w K mg base 4 f fd ["value"] (spD K rWayTable) := by
  refine fn_data F scWayTable (fun ds d ⟨_, e, _⟩ => by subst e; rfl) fun cdv A outer s H E hr hgd hu ds d h => ?_
  obtain ⟨v, rfl, rfl⟩ := h
  have hN := scWayTable.nd
  obtain ⟨c1, c2, c3, c4⟩ := c
  and_intros
  refine ⟨fun h1 => ?_, fun h1 => ?_⟩
  · and_intros
    show _ = PyData.bool ((tupB v 1 12 && _) && _)
    rw [show tupB v 1 12 = false by simpa using h1]; rfl
  have h2 : tupB v 1 12 = true := by simpa using h1
  obtain ⟨es, rfl, k2, k3⟩ := tupB_of h2
  have go : waysB (.tuple es) = ((tupB (.tuple es) 1 12 && es.all fun r => arewB r ((es.length : Nat) : Int) 0 120) && (List.range es.length).all fun i => (List.range es.length).all (pairW (matOf (.tuple es)) i)) := rfl
  have tb : tabB (.tuple es) = (tupB (.tuple es) 1 12 && es.all fun r => arewB r ((es.length : Nat) : Int) 0 120) := rfl
  rw [go, h2, Bool.true_and]
  and_intros
  refine c_allF (α := Dt) [("row", 3)] (blkOk_by (N := NW) (sc := defScope sWayTable) (by decide +kernel)) ?_
  and_intros
  refine ⟨es, _root_.id, fun r => arewB r ((es.length : Nat) : Int) 0 120, by simp, by omega, fun i x hx => ⟨_, fun s H C cl fp => by nofun, fun s H C cl fp => ?_⟩, ?_⟩
  · and_intros
    exact ⟨_, ⟨_, _, _, _, by omega, rfl, rfl⟩, rfl⟩
  and_intros
  refine ⟨fun h3 => ?_, fun h3 => ?_⟩
  · and_intros
    rw [show (es.all fun r => arewB r ((es.length : Nat) : Int) 0 120) = false by simpa using h3]; rfl
  have h4 : (es.all fun r => arewB r ((es.length : Nat) : Int) 0 120) = true := by simpa using h3
  have t := tab_of (v := .tuple es) (by rw [tb, h2, h4]; rfl)
  have ev := t.eq
  rw [h4, Bool.true_and]
  and_intros
  refine c_all2F es.length (pairW (matOf (.tuple es))) [("one", 4), ("other", 5)] [5] (blkOk_by (N := NW) (sc := defScope sWayTable) (by decide +kernel)) ?_
  and_intros
  · omega
  refine ⟨by congr 1, by omega, fun i hi => ?_, rfl⟩
  refine ⟨_, fun s H C cl fp => by nofun, rfl, fun s H C cl fp => ?_, fun j hj => ?_⟩
  · and_intros
    · omega
    · congr 1
  · refine ⟨_, fun s H C cl fp => by nofun, fun s H C cl fp => ?_⟩
    and_intros
    exact ⟨_, ⟨es.length, _, i, j, hi, hj, by rw [← show PyData.tuple es = tabD es.length (matOf (.tuple es)) from ev], rfl⟩, rfl⟩
theorem scShortest : FnScope ["table", "one", "other", "over"] ["table", "one", "other"] (defScope sShortest) := ⟨rfl, rfl, rfl, by decide +kernel, rfl, by decide +kernel, by decide +kernel⟩
def rShortest (ds : List Dt) (d : Dt) : Prop := ∃ (n : Nat) (C : Nat → Nat → Int) (i j : Nat), n ≤ 12 ∧ i < n ∧ j < n ∧ ds = [tabD n C, .int ((i : Nat) : Int), .int ((j : Nat) : Int)] ∧ d = .bool (shortW n C i j)
theorem f_shortest (T : Free mg) (F : Fun K "is_shortest" "is_shortest" sShortest f fd) : FnG P w K mg base 1 f fd ["table", "one", "other"] (spD K rShortest) := by
  refine fn_data F scShortest (fun ds d ⟨_, _, _, _, _, _, _, e, _⟩ => by subst e; rfl) fun cdv A outer s H E hr hgd hu ds d h => ?_
  obtain ⟨n, C, i, j, n2, hi, hj, rfl, rfl⟩ := h
  have hN := scShortest.nd
  and_intros
  refine c_allF (α := Nat) [("over", 3)] (blkOk_by (N := ["table", "one", "other", "over"]) (sc := defScope sShortest) (by decide +kernel)) ?_
  and_intros
  rw [List.length_map, List.length_range]
  refine ⟨by omega, List.range n, fun h => .int (0 + ((h : Nat) : Int)), fun k => decide (C i j ≤ C i k + C k j), by unfold rngD; rw [show ((n : Nat) : Int).toNat = n by omega], by rw [List.length_range]; omega, fun m x hx => ?_, rfl⟩
  have hx2 : x < n := List.mem_range.mp (List.mem_of_getElem? hx)
  refine ⟨_, fun s H C cl fp => by nofun, fun s H C cl fp => ?_⟩
  dsimp only
  rw [show (0 : Int) + ((x : Nat) : Int) = ((x : Nat) : Int) by omega]
  and_intros
  refine ip_tup (at_tabD hi) ?_
  and_intros
  refine ip_tup (at_rowD hj) ?_
  and_intros
  refine ip_tup (at_tabD hi) ?_
  and_intros
  refine ip_tup (at_rowD hx2) ?_
  and_intros
  refine ip_tup (at_tabD hx2) ?_
  and_intros
  refine ip_tup (at_rowD hj) ?_
  and_intros
  rfl
abbrev NC2 : List Str := ["value", "places", "one", "other"]
theorem scIsClosed : FnScope NC2 ["value"] (defScope sIsClosed) := ⟨rfl, rfl, rfl, by decide +kernel, rfl, by decide +kernel, by decide +kernel⟩
def rIsClosed (ds : List Dt) (d : Dt) : Prop := ∃ v : Dt, ds = [v] ∧ d = .bool (closedB v)
theorem f_isclosed (T : Free mg) (C1 : Cal P w K mg base 4 "is_way_table" ["value"] sWayTable (spD K rWayTable)) (C2 : Cal P w K mg base 1 "is_shortest" ["table", "one", "other"] sShortest (spD K rShortest)) (F : Fun K "is_closed" "is_closed" sIsClosed f fd) : FnG P w K mg base 5 f fd ["value"] (spD K rIsClosed) := by
  refine fn_data F scIsClosed (fun ds d ⟨_, e, _⟩ => by subst e; rfl) fun cdv A outer s H E hr hgd hu ds d h => ?_
  obtain ⟨v, rfl, rfl⟩ := h
  have hN := scIsClosed.nd
  and_intros
  have go : closedB v = (waysB v && (List.range (szD v)).all fun i => (List.range (szD v)).all (shortW (szD v) (matOf v) i)) := rfl
  rw [go]
  refine ⟨fun h1 => ?_, fun h1 => ?_⟩
  · and_intros
    rw [show waysB v = false by simpa using h1]; rfl
  have h2 : waysB v = true := by simpa using h1
  have t := tab_of (ways_tab h2)
  have n2 := t.n2
  have ev := t.eq
  rw [h2, Bool.true_and]
  generalize en : szD v = n at *
  generalize matOf v = C at *
  subst ev
  and_intros
  rw [List.length_map, List.length_range]
  refine c_all2F n (shortW n C) [("one", 2), ("other", 3)] [3] (blkOk_by (N := NC2) (sc := defScope sIsClosed) (by decide +kernel)) ?_
  and_intros
  · omega
  refine ⟨by congr 1, by omega, fun i hi => ?_, rfl⟩
  refine ⟨_, fun s H C cl fp => by nofun, rfl, fun s H C cl fp => ?_, fun j hj => ?_⟩
  · and_intros
    · omega
    · congr 1
  · refine ⟨_, fun s H C cl fp => by nofun, fun s H C cl fp => ?_⟩
    and_intros
    exact ⟨_, ⟨n, _, i, j, n2, hi, hj, rfl, rfl⟩, rfl⟩
end
end K11

set_option linter.all false
set_option maxRecDepth 100000
set_option maxHeartbeats 4000000
namespace K11
open PySem PySem.Spec PyProof.Rows L2 RZ Dv
def tblB (v : Dt) (m : Nat) : Bool := closedB v && decide (((szD v : Nat) : Int) = ((m : Nat) : Int))
def cityB (v : Dt) : Bool := match v with
  | .tuple [x0, x1, x2, x3, x4] => wordB x0 ["city"] && (tupB x1 1 12 && (arewB x1 ((szD x1 : Nat) : Int) 1 4 && (arewB x2 ((szD x1 : Nat) : Int) 0 9 && (tblB x3 (szD x1) && tblB x4 (szD x1)))))
  | _ => false
theorem named5 {v : Dt} {x : Str} (h : namedB v x 5 = true) : ∃ x0 x1 x2 x3 x4, v = .tuple [x0, x1, x2, x3, x4] ∧ wordB x0 [x] = true := by
  unfold namedB at h
  rw [Bool.and_eq_true] at h
  obtain ⟨es, rfl, k1, k2⟩ := tupB_of h.1
  match es, (show es.length = 5 by omega) with
  | [x0, x1, x2, x3, x4], _ => exact ⟨x0, x1, x2, x3, x4, rfl, h.2⟩
theorem city_not {v : Dt} (h : namedB v "city" 5 = false) : cityB v = false := by
  unfold cityB
  split
  · rename_i x0 x1 x2 x3 x4
    have e : wordB x0 ["city"] = false := h
    rw [e]; rfl
  · rfl
theorem closed_tab {v : Dt} (h : closedB v = true) : TabI v := by
  unfold closedB at h
  rw [Bool.and_eq_true] at h
  exact tab_of (ways_tab h.1)
section
variable {P : Program} {w : World} {K : Fg} {mg : Str → Option Value} {base : Heap} {f : Addr} {fd : FuncData}
abbrev NIC : List Str := ["value", "_", "zones", "changes", "walks", "drives", "many", "table"]
theorem scIsCity : FnScope NIC ["value"] (defScope sIsCity) := ⟨rfl, rfl, rfl, by decide +kernel, rfl, by decide +kernel, by decide +kernel⟩
def rIsCity (ds : List Dt) (d : Dt) : Prop := ∃ v : Dt, ds = [v] ∧ d = .bool (cityB v)
theorem f_iscity (T : Free mg) (c : Cn mg) (C1 : Cal P w K mg base 2 "is_named" ["value", "word", "many"] sNamed (spD K rNamed)) (C2 : Cal P w K mg base 1 "is_tuple" ["value", "least", "most"] sTuple (spD K rTuple)) (C3 : Cal P w K mg base 3 "are_within" ["value", "many", "least", "most"] sAreWithin (spD K rAreWithin)) (C4 : Cal P w K mg base 5 "is_closed" ["value"] sIsClosed (spD K rIsClosed)) (F : Fun K "is_city" "is_city" sIsCity f fd) : FnG P w K mg base 6 f fd ["value"] (spD K rIsCity) := by
  refine fn_data F scIsCity (fun ds d ⟨_, e, _⟩ => by subst e; rfl) fun cdv A outer s H E hr hgd hu ds d h => ?_
  obtain ⟨v, rfl, rfl⟩ := h
  have hN := scIsCity.nd
  obtain ⟨c1, c2, c3, c4⟩ := c
  and_intros
  refine ⟨fun h1 => ?_, fun h1 => ?_⟩
  · and_intros
    rw [city_not (by simpa using h1)]
  obtain ⟨x0, x1, x2, x3, x4, rfl, h0⟩ := named5 (v := v) (x := "city") (by simpa using h1)
  have go : cityB (.tuple [x0, x1, x2, x3, x4]) = (tupB x1 1 12 && (arewB x1 ((szD x1 : Nat) : Int) 1 4 && (arewB x2 ((szD x1 : Nat) : Int) 0 9 && (tblB x3 (szD x1) && tblB x4 (szD x1))))) := by
    show (wordB x0 ["city"] && _) = _
    rw [h0, Bool.true_and]
  rw [go]
  and_intros
  refine ⟨fun h2 => ?_, fun h2 => ?_⟩
  · and_intros
    rw [show tupB x1 1 12 = false by simpa using h2]; rfl
  have h3 : tupB x1 1 12 = true := by simpa using h2
  rw [h3, Bool.true_and]
  obtain ⟨es, rfl, k2, k3⟩ := tupB_of h3
  have sz : szD (.tuple es) = es.length := rfl
  rw [sz]
  and_intros
  refine ⟨_, ⟨_, _, _, _, by omega, rfl, rfl⟩, ?_⟩
  and_intros
  refine ⟨fun h4 => ?_, fun h4 => ?_⟩
  case refine_2 =>
    have h4 : arewB (.tuple es) ((es.length : Nat) : Int) 1 4 = false := by simpa using h4
    and_intros
    rw [h4]; rfl
  have h5 : arewB (.tuple es) ((es.length : Nat) : Int) 1 4 = true := by simpa using h4
  rw [h5, Bool.true_and]
  and_intros
  refine ⟨_, ⟨_, _, _, _, by omega, rfl, rfl⟩, ?_⟩
  and_intros
  refine ⟨fun h6 => ?_, fun h6 => ?_⟩
  · and_intros
    rw [show arewB x2 ((es.length : Nat) : Int) 0 9 = false by simpa using h6]; rfl
  have h7 : arewB x2 ((es.length : Nat) : Int) 0 9 = true := by simpa using h6
  rw [h7, Bool.true_and]
  and_intros
  refine c_allF (α := Dt) [("table", 7)] (blkOk_by (N := NIC) (sc := defScope sIsCity) (by decide +kernel)) ?_
  refine i_seq ?_
  and_intros
  refine ⟨by simp, ?_⟩
  refine seq_t ⟨[x3, x4], _root_.id, fun t => tblB t es.length, by simp, by simp, fun i x hx => ⟨_, fun s H C cl fp => by nofun, fun s H C cl fp => ?_⟩, ?_⟩
  · and_intros
    refine ⟨fun h8 => ?_, fun h8 => ?_⟩
    · have h8 : closedB x = true := h8
      have t := closed_tab h8
      have ev := t.eq
      have go2 : tblB x es.length = decide (((szD x : Nat) : Int) = ((es.length : Nat) : Int)) := by unfold tblB; rw [h8, Bool.true_and]
      show XD _ _ _ fun y => y = PyData.bool (tblB x es.length)
      rw [go2]
      have : ∃ rs, x = .tuple rs ∧ szD x = rs.length := ⟨_, ev, by rw [List.length_map, List.length_range]⟩
      obtain ⟨rs, rfl, e2⟩ := this
      rw [e2]
      and_intros
      rfl
    · have h8 : closedB x = false := h8
      show PyData.bool false = PyData.bool (tblB x es.length)
      unfold tblB
      rw [h8]; rfl
  · show PyData.bool ([x3, x4].all fun t => tblB t es.length) = _
    rw [List.all_cons, List.all_cons, List.all_nil, Bool.and_true]
end
end K11

set_option linter.all false
set_option maxRecDepth 100000
set_option maxHeartbeats 4000000
namespace K11
open PySem PySem.Spec PyProof.Rows L2 RZ Dv
abbrev sClosed : Stmt := at_def "closed"
theorem T0.of {K : Fg} {mg : Str → Option Value} (F : Free mg) : T0 K mg := by constructor <;> exact F _ (by decide +kernel)
/-! ### the program's own way: over each place in turn -/
structure Mid (n : Nat) (A D : Nat → Nat → Int) (m : Nat) : Prop where
  le : ∀ i j, i < n → j < n → D i j ≤ A i j
  dia : ∀ i, i < n → D i i = 0
  nn : ∀ i j, i < n → j < n → 0 ≤ D i j
  wk : ∀ i j, i < n → j < n → Wk n A i j (D i j)
  tri : ∀ i j k, i < n → j < n → k < m → D i j ≤ D i k + D k j
def stepD (D : Nat → Nat → Int) (m i j : Nat) : Int := min (D i j) (D i m + D m j)
theorem Mid.step {n m : Nat} {h : Int} {A D : Nat → Nat → Int} (w : Way n h A) (g : Mid n A D m) (hm : m < n) : Mid n A (stepD D m) (m + 1) := by
  have dm := g.dia m hm
  have rowm : ∀ j, j < n → stepD D m m j = D m j := fun j hj => by unfold stepD; rw [dm]; omega
  have colm : ∀ i, i < n → stepD D m i m = D i m := fun i hi => by unfold stepD; rw [dm]; omega
  refine ⟨fun i j hi hj => ?_, fun i hi => ?_, fun i j hi hj => ?_, fun i j hi hj => ?_, fun i j k hi hj hk => ?_⟩
  · have := g.le i j hi hj
    unfold stepD; omega
  · have h0 := g.dia i hi
    have h1 := g.nn i m hi hm
    have h2 := g.nn m i hm hi
    unfold stepD; omega
  · have h0 := g.nn i j hi hj
    have h1 := g.nn i m hi hm
    have h2 := g.nn m j hm hj
    unfold stepD; omega
  · unfold stepD
    by_cases c : D i j ≤ D i m + D m j
    · rw [Int.min_eq_left c]; exact g.wk i j hi hj
    · rw [Int.min_eq_right (by omega)]; exact (g.wk i m hi hm).cat (g.wk m j hm hj)
  · by_cases e : k = m
    · subst e
      rw [rowm j hj, colm i hi]
      unfold stepD; omega
    · have hk2 : k < m := by omega
      have kn : k < n := by omega
      have t1 := g.tri i j k hi hj hk2
      have t2 := g.tri i m k hi hm hk2
      have t3 := g.tri m j k hm hj hk2
      have n1 := g.nn m k hm kn
      have n2 := g.nn k m kn hm
      unfold stepD; omega
theorem mid_close {n : Nat} {h : Int} {A D : Nat → Nat → Int} (w : Way n h A) (g : Mid n A D n) : ∀ i j, i < n → j < n → D i j = closeL n A i j := fun i j hi hj => by
  have gd : Good n A D := ⟨g.le, g.dia, fun i j hi hj ne => walk_pos w (g.wk i j hi hj) ne, g.wk⟩
  have f1 : Fin1 n A D := fun i j k hi hj hk => by
    have := g.tri i j k hi hj hk
    have := g.le k j hk hj
    omega
  exact (close_eq ⟨g.wk i j hi hj, fun u hu => least_walk gd f1 hi hu⟩).symm
/-- within the turn m: rows ahead of one, and in row one places ahead of other, are done -/
def partD (D : Nat → Nat → Int) (m one other i j : Nat) : Int := if i < one ∨ (i = one ∧ j < other) then stepD D m i j else D i j
theorem part_at {n m one other : Nat} {h : Int} {A D : Nat → Nat → Int} (g : Mid n A D m) (hm : m < n) (h1 : one < n) (h2 : other < n) : min (partD D m one other one other) (partD D m one other one m + partD D m one other m other) = stepD D m one other := by
  have dm := g.dia m hm
  have e1 : partD D m one other one other = D one other := by unfold partD; rw [if_neg (by omega)]
  have e2 : partD D m one other one m = D one m := by
    unfold partD
    by_cases c : one < one ∨ (one = one ∧ m < other)
    · rw [if_pos c]; unfold stepD; rw [dm]; omega
    · rw [if_neg c]
  have e3 : partD D m one other m other = D m other := by
    unfold partD
    by_cases c : m < one ∨ (m = one ∧ other < other)
    · rw [if_pos c]; unfold stepD; rw [dm]; omega
    · rw [if_neg c]
  rw [e1, e2, e3]; rfl
theorem part_next {D : Nat → Nat → Int} {m one other : Nat} : upT (partD D m one other) one other (stepD D m one other) = partD D m one (other + 1) := by
  funext i j
  unfold upT partD
  by_cases e : i = one ∧ j = other
  · rw [if_pos e, e.1, e.2, if_pos (by omega)]
  · rw [if_neg e]
    by_cases c : i < one ∨ (i = one ∧ j < other)
    · rw [if_pos c, if_pos (by omega)]
    · rw [if_neg c, if_neg (by omega)]
theorem part_row {n : Nat} {D : Nat → Nat → Int} {m one : Nat} : matD n (partD D m one n) = matD n (partD D m (one + 1) 0) := matD_congr fun i j hi hj => by
  unfold partD
  by_cases c : i < one ∨ (i = one ∧ j < n)
  · rw [if_pos c, if_pos (by omega)]
  · rw [if_neg c, if_neg (by omega)]
theorem part_end {n : Nat} {D : Nat → Nat → Int} {m : Nat} : matD n (partD D m n 0) = matD n (stepD D m) := matD_congr fun i j hi hj => by
  unfold partD
  rw [if_pos (by omega)]
theorem part_start {n : Nat} {D : Nat → Nat → Int} {m : Nat} : matD n (partD D m 0 0) = matD n D := matD_congr fun i j hi hj => by
  unfold partD
  rw [if_neg (by omega)]
section
variable {P : Program} {w : World} {K : Fg} {mg : Str → Option Value} {base : Heap} {f : Addr} {fd : FuncData}
abbrev NCl : List Str := ["table", "places", "rows", "over", "one", "other", "row", "number"]
theorem scClosed : FnScope NCl ["table"] (defScope sClosed) := ⟨rfl, rfl, rfl, by decide +kernel, rfl, by decide +kernel, by decide +kernel⟩
def rClosed (ds : List Dt) (d : Dt) : Prop := ∃ v : Dt, waysB v = true ∧ ds = [v] ∧ d = tabD (szD v) (closeL (szD v) (matOf v))
theorem f_closed (T : Free mg) (C1 : Cal P w K mg base 4 "is_way_table" ["value"] sWayTable (spD K rWayTable)) (F : Fun K "closed" "closed" sClosed f fd) : FnG P w K mg base 5 f fd ["table"] (spD K rClosed) := by
  refine fn_data F scClosed (fun ds d ⟨_, _, e, _⟩ => by subst e; rfl) fun cdv A' outer s H E hr hgd hu ds d h => ?_
  obtain ⟨v, hw, rfl, rfl⟩ := h
  have hN := scClosed.nd
  have T0 := T0.of (K := K) T
  obtain ⟨way, sym⟩ := ways_of hw
  have t := tab_of (ways_tab hw)
  have n1 := t.n1
  have n2 := t.n2
  have ev := t.eq
  rw [ev] at hw
  clear t
  generalize szD v = n at *
  generalize matOf v = C at *
  subst ev
  and_intros
  refine br_nby hw ?_
  and_intros
  rw [List.length_map, List.length_range]
  have getA : ∀ (i : Nat) d, ((List.range n).map fun i => PyData.tuple (rowD n C i))[i]? = some d → i < n ∧ d = .tuple (rowD n C i) := fun i d e => by
    have hi : i < n := by
      have := (List.getElem?_eq_some_iff.mp e).1
      rw [List.length_map, List.length_range] at this
      exact this
    rw [List.getElem?_map, List.getElem?_range hi] at e
    cases e
    exact ⟨hi, rfl⟩
  refine ss_seq (N := fun y => ∃ as, y = [.d (tabD n C), .rng 0 ((n : Nat) : Int), .own2 as (matD n C), .no, .no, .no, .no, .no]) ?_ fun δ' ⟨as, e⟩ => ?_
  · refine sd_lc2 (R := fun dss => dss = (List.range ((List.range n).map fun i => PyData.tuple (rowD n C i)).length).map fun i => rowD n C i) 2 hN ?_ fun as dss e => ⟨as, by rw [e, List.length_map, List.length_range]; rfl⟩
    refine lc2_of (es := (List.range n).map fun i => PyData.tuple (rowD n C i)) (own := [("row", 6)]) (i_tup (pd_v 0)) (blkOk_by (N := NCl) (sc := defScope sClosed) (by decide +kernel)) (by rw [List.length_map, List.length_range]; omega) (fun i => rowD n C i) (fun d => [.d (tabD n C), .rng 0 ((n : Nat) : Int), .no, .no, .no, .no, .d d, .no]) (fun s H C' cl fp i d e => tg_name 6 scClosed.nd) (fun s H C' cl fp i d e => ?_)
    obtain ⟨hi, rfl⟩ := getA i d e
    refine (lco_fun (α := Nat) [("number", 7)] ?_ ?_).xo hN
    · exact blkOk_by (N := NCl) (sc := { kind := .function, names := [(".0", .local), ("row", .local)], isGenerator := false, isCoroutine := false }) (by decide +kernel)
    · refine i_seq ?_
      and_intros
      refine ⟨List.range n, fun j => PyData.int (C i j), fun j => PyData.int (C i j), rfl, by rw [List.length_range]; omega, fun j x hx => ⟨_, fun s H C cl fp => by nofun, fun s H C cl fp => ?_⟩, rfl⟩
      refine c_intc ?_
      and_intros
      exact f_int rfl
  subst e
  have g0 : Mid n C C 0 := ⟨fun _ _ _ _ => Int.le_refl _, way.dia, fun i j hi hj => by
    by_cases e : i = j
    · subst e; rw [way.dia i hi]; omega
    · have := (way.pos i j hi hj e).1; omega, fun i j hi hj => by
    have := Wk.snoc hi hj (Wk.nil (n := n) (A := C) i)
    rw [Int.zero_add] at this
    exact this, fun i j k hi hj hk => absurd hk (Nat.not_lt_zero _)⟩
  refine s_for ?_
  infer_instance
  · omega
  refine ⟨fun m y => ∃ (as : List Addr) (D : Nat → Nat → Int) (a b c : En), Mid n C D m ∧ y = [.d (tabD n C), .rng 0 ((n : Nat) : Int), .own2 as (matD n D), a, b, c, .no, .no], ⟨as, C, _, _, _, g0, rfl⟩, fun m v δ' hd iv => ?_, fun δ' iv => ?_⟩
  case refine_2 =>
    obtain ⟨as, D, a, b, c, g, rfl⟩ := iv
    rw [rngD_length, show (((n : Nat) : Int) - 0).toNat = n by omega] at g
    refine ss_frz2 2 rfl ?_
    refine s_ret' (c_tuple (c_comp (α := Nat) [("row", 6)] (blkOk_by (N := NCl) (sc := defScope sClosed) (by decide +kernel)) ?_))
    refine i_seq ?_
    and_intros
    refine ⟨List.range n, fun i => .list (rowD n D i), fun i => .tuple (rowD n D i), by unfold matD; rw [List.map_map]; rfl, by rw [List.length_range]; omega, fun j x hx => ⟨_, fun s H C cl fp => by nofun, fun s H C cl fp => ?_⟩, ?_⟩
    · and_intros
      rfl
    refine f_tupL ?_
    exact tabD_congr (mid_close way g)
  obtain ⟨as, D, a, b, c, g, rfl⟩ := iv
  obtain ⟨hm, rfl⟩ := rngD_at hd
  rw [show (0 : Int) + ((m : Nat) : Int) = ((m : Nat) : Int) by omega]
  have hm : m < n := by omega
  refine ⟨_, _, by nofun, ?_⟩
  refine s_for ?_
  infer_instance
  · omega
  refine ⟨fun one y => ∃ (as : List Addr) (b c : En), y = [.d (tabD n C), .rng 0 ((n : Nat) : Int), .own2 as (matD n (partD D m one 0)), .d (.int ((m : Nat) : Int)), b, c, .no, .no], ⟨as, _, _, by rw [part_start]⟩, fun one v δ' hd iv => ?_, fun δ' iv => ?_⟩
  case refine_2 =>
    obtain ⟨as, b, c, rfl⟩ := iv
    rw [rngD_length, show (((n : Nat) : Int) - 0).toNat = n by omega, part_end]
    and_intros
    exact ⟨as, stepD D m, _, _, _, g.step way hm, rfl⟩
  obtain ⟨as, b, c, rfl⟩ := iv
  obtain ⟨h1, rfl⟩ := rngD_at hd
  rw [show (0 : Int) + ((one : Nat) : Int) = ((one : Nat) : Int) by omega]
  have h1 : one < n := by omega
  refine ⟨_, _, by nofun, ?_⟩
  refine s_for ?_
  infer_instance
  · omega
  refine ⟨fun other y => ∃ (as : List Addr) (c : En), y = [.d (tabD n C), .rng 0 ((n : Nat) : Int), .own2 as (matD n (partD D m one other)), .d (.int ((m : Nat) : Int)), .d (.int ((one : Nat) : Int)), c, .no, .no], ⟨as, _, rfl⟩, fun other v δ' hd iv => ?_, fun δ' iv => ?_⟩
  case refine_2 =>
    obtain ⟨as, c, rfl⟩ := iv
    rw [rngD_length, show (((n : Nat) : Int) - 0).toNat = n by omega, part_row]
    and_intros
    exact ⟨as, _, _, rfl⟩
  obtain ⟨as, c, rfl⟩ := iv
  obtain ⟨h2, rfl⟩ := rngD_at hd
  rw [show (0 : Int) + ((other : Nat) : Int) = ((other : Nat) : Int) by omega]
  have h2 : other < n := by omega
  refine ⟨_, _, by nofun, ?_⟩
  refine s_unpX ?_
  refine c_min2 (c_of (pd_own2At 2 one rfl (pd_v 4) (pd_v 5) (at_row h1) (matD_row h1) (at_rowD h2)) (c_bin (c_of (pd_own2At 2 one rfl (pd_v 4) (pd_v 3) (at_row h1) (matD_row h1) (at_rowD hm)) (c_of (pd_own2At 2 m rfl (pd_v 3) (pd_v 5) (at_row hm) (matD_row hm) (at_rowD h2)) (bp_add (f_min2 ?_))))))
  rw [part_at g hm h1 h2]
  refine ⟨_, tx_row 2 one other rfl (pd_v 4) (pd_v 5) (at_row h1) (matD_row h1) (ix_row h2), ?_⟩
  and_intros
  · exact ⟨as, _, by rw [mat_set h1 h2, part_next]; rfl⟩
  exact 0
end
end K11

set_option linter.all false
set_option maxRecDepth 100000
set_option maxHeartbeats 4000000
namespace K11
open PySem PySem.Spec PyProof.Rows L2 RZ Dv
abbrev sCkCity : Stmt := at_def "check_city"
abbrev sIsStop : Stmt := at_def "is_stop"
abbrev sCkStops : Stmt := at_def "check_stops"
abbrev sChangeOf : Stmt := at_def "change_of"
abbrev sWalkOf : Stmt := at_def "walk_of"
abbrev sDriveOf : Stmt := at_def "drive_of"
abbrev sChange : Stmt := at_def "change_between"
abbrev sWalk : Stmt := at_def "walk_between"
abbrev sDrive : Stmt := at_def "drive_between"
abbrev sLRefused : Stmt := at_def "_law_refused"
theorem mat_tab {n : Nat} {C : Nat → Nat → Int} {i j : Nat} (hi : i < n) (hj : j < n) : matOf (tabD n C) i j = C i j := by
  show intOf ((tupOf (((List.range n).map fun i => PyData.tuple (rowD n C i)).getD i .none)).getD j .none) = _
  rw [List.getD_eq_getElem?_getD (l := (List.range n).map _), List.getElem?_map, List.getElem?_range hi]
  show intOf ((rowD n C i).getD j .none) = _
  unfold rowD
  rw [List.getD_eq_getElem?_getD, List.getElem?_map, List.getElem?_range hj]; rfl
theorem sz_tab {n : Nat} {C : Nat → Nat → Int} : szD (tabD n C) = n := by show ((List.range n).map _).length = n; rw [List.length_map, List.length_range]
theorem ways_ok {n : Nat} {C : Nat → Nat → Int} (w : Way n 120 C) (n1 : 1 ≤ n) (n2 : n ≤ 12) : waysB (tabD n C) = true := by
  have tl : ((List.range n).map fun i => PyData.tuple (rowD n C i)).length = n := by rw [List.length_map, List.length_range]
  unfold waysB
  rw [Bool.and_eq_true]
  constructor
  · unfold tabB
    rw [sz_tab, Bool.and_eq_true]
    constructor
    · show (decide (1 ≤ ((((List.range n).map fun i => PyData.tuple (rowD n C i)).length : Nat) : Int)) && decide (((((List.range n).map fun i => PyData.tuple (rowD n C i)).length : Nat) : Int) ≤ 12)) = true
      rw [tl, decide_eq_true (by omega), decide_eq_true (by omega)]; rfl
    · show (((List.range n).map fun i => PyData.tuple (rowD n C i)).all _) = true
      rw [List.all_map, List.all_eq_true]
      intro i hi
      have hi := List.mem_range.mp hi
      show arewB (.tuple (rowD n C i)) ((n : Nat) : Int) 0 120 = true
      rw [show rowD n C i = ((List.range n).map (C i)).map PyData.int by unfold rowD; rw [List.map_map]; rfl]
      refine arewB_ints (by rw [List.length_map, List.length_range]) fun x hx => ?_
      obtain ⟨j, hj, rfl⟩ := List.mem_map.mp hx
      have hj := List.mem_range.mp hj
      by_cases e : i = j
      · subst e; rw [w.dia i hi]; omega
      · have := w.pos i j hi hj e; omega
  · rw [sz_tab, List.all_eq_true]
    intro i hi
    rw [List.all_eq_true]
    intro j hj
    have hi := List.mem_range.mp hi
    have hj := List.mem_range.mp hj
    unfold pairW
    rw [mat_tab hi hj, mat_tab hj hi, decide_eq_true (w.sym i j hi hj), Bool.true_and]
    refine decide_eq_true ?_
    by_cases e : i = j
    · subst e
      rw [decide_eq_true (w.dia i hi), decide_eq_true rfl]
    · have := (w.pos i j hi hj e).1
      rw [decide_eq_false (by omega), decide_eq_false e]
theorem short_ok {n : Nat} {C : Nat → Nat → Int} : ((List.range (szD (tabD n C))).all fun i => (List.range (szD (tabD n C))).all (shortW (szD (tabD n C)) (matOf (tabD n C)) i)) = true ↔ ∀ i j k, i < n → j < n → k < n → C i j ≤ C i k + C k j := by
  rw [sz_tab, List.all_eq_true]
  constructor
  · intro h i j k hi hj hk
    have := of_decide_eq_true (List.all_eq_true.mp (List.all_eq_true.mp (h i (List.mem_range.mpr hi)) j (List.mem_range.mpr hj)) k (List.mem_range.mpr hk))
    rw [mat_tab hi hj, mat_tab hi hk, mat_tab hk hj] at this
    exact this
  · intro h i hi
    rw [List.all_eq_true]
    intro j hj
    unfold shortW
    rw [List.all_eq_true]
    intro k hk
    have hi := List.mem_range.mp hi
    have hj := List.mem_range.mp hj
    have hk := List.mem_range.mp hk
    refine decide_eq_true ?_
    rw [mat_tab hi hj, mat_tab hi hk, mat_tab hk hj]
    exact h i j k hi hj hk
theorem closed_ok {n : Nat} {C : Nat → Nat → Int} (c : Closed n 120 C) (n1 : 1 ≤ n) (n2 : n ≤ 12) : closedB (tabD n C) = true := by
  unfold closedB
  rw [ways_ok c.way n1 n2, Bool.true_and]
  exact short_ok.mpr fun i j k hi hj hk => c.tri i j k hi hj hk
theorem city_ok {c : City} (ok : c.ok) : cityB c.d = true := by
  have n1 := ok.n1
  have n2 := ok.n2
  have zl := ok.zl
  have cl0 := ok.cl
  have sz : szD (intsT c.zones) = c.n := by show (c.zones.map PyData.int).length = _; rw [List.length_map, zl]
  show (wordB (.str "city") ["city"] && (tupB (intsT c.zones) 1 12 && (arewB (intsT c.zones) ((szD (intsT c.zones) : Nat) : Int) 1 4 && (arewB (intsT c.changes) ((szD (intsT c.zones) : Nat) : Int) 0 9 && (tblB (tabD c.n c.walk) (szD (intsT c.zones)) && tblB (tabD c.n c.drive) (szD (intsT c.zones))))))) = true
  rw [sz]
  have e1 : tupB (intsT c.zones) 1 12 = true := by
    show (decide (1 ≤ (((c.zones.map PyData.int).length : Nat) : Int)) && decide ((((c.zones.map PyData.int).length : Nat) : Int) ≤ 12)) = true
    rw [List.length_map, decide_eq_true (by omega), decide_eq_true (by omega)]; rfl
  have e4 : ∀ C, Closed c.n 120 C → tblB (tabD c.n C) c.n = true := fun C cc => by unfold tblB; rw [closed_ok cc n1 n2, sz_tab, decide_eq_true rfl]; rfl
  rw [e1, arewB_ints (by rw [zl]) ok.zb, arewB_ints (by rw [cl0]) ok.cb, e4 _ ok.wk, e4 _ ok.dr]
  rfl
structure ErrIs (K : Fg) (mg : Str → Option Value) (C C0 : Addr) : Prop where
  g0 : mg "CityError" = some (.ref C0)
  ex : L2.ExcC K C
  is0 : PySem.W.kitOne K (.ref C) (.ref C0) = some true
  isV : PySem.W.kitOne K (.ref C) (.type "ValueError") = some true
section
variable {P : Program} {w : World} {K : Fg} {mg : Str → Option Value} {base : Heap} {f : Addr} {fd : FuncData}
theorem scCkCity : FnScope ["city"] ["city"] (defScope sCkCity) := ⟨rfl, rfl, rfl, by decide +kernel, rfl, by decide +kernel, by decide +kernel⟩
def rCkCity (ds : List Dt) (d : Dt) : Prop := ∃ c : City, c.ok ∧ ds = [c.d] ∧ d = .none
theorem f_ckcity (C1 : Cal P w K mg base 6 "is_city" ["value"] sIsCity (spD K rIsCity)) (F : Fun K "check_city" "check_city" sCkCity f fd) : FnG P w K mg base 7 f fd ["city"] (spD K rCkCity) := by
  refine fn_data F scCkCity (fun ds d ⟨_, _, e, _⟩ => by subst e; rfl) fun cdv A outer s H E hr hgd hu ds d h => ?_
  obtain ⟨y, ok, rfl, rfl⟩ := h
  have hN := scCkCity.nd
  and_intros
  refine br_nby (city_ok ok) ?_
  and_intros
  rfl
theorem scIsStop : FnScope ["city", "value"] ["city", "value"] (defScope sIsStop) := ⟨rfl, rfl, rfl, by decide +kernel, rfl, by decide +kernel, by decide +kernel⟩
def rIsStop (ds : List Dt) (d : Dt) : Prop := ∃ (c : City) (v : Dt), c.ok ∧ ds = [c.d, v] ∧ d = .bool (withinB v 0 ((c.n : Nat) - 1))
theorem f_isstop (T : Free mg) (C1 : Cal P w K mg base 2 "is_within" ["value", "least", "most"] sWithin (spD K rWithin)) (F : Fun K "is_stop" "is_stop" sIsStop f fd) : FnG P w K mg base 3 f fd ["city", "value"] (spD K rIsStop) := by
  refine fn_data F scIsStop (fun ds d ⟨_, _, _, e, _⟩ => by subst e; rfl) fun cdv A outer s H E hr hgd hu ds d h => ?_
  obtain ⟨y, v, ok, rfl, rfl⟩ := h
  have hN := scIsStop.nd
  and_intros
  rw [List.length_map, ok.zl]
abbrev NCS : List Str := ["city", "one", "other", "stop"]
theorem scCkStops : FnScope NCS ["city", "one", "other"] (defScope sCkStops) := ⟨rfl, rfl, rfl, by decide +kernel, rfl, by decide +kernel, by decide +kernel⟩
def rCkStops (ds : List Dt) (d : Dt) : Prop := ∃ (c : City) (i j : Nat), c.ok ∧ i < c.n ∧ j < c.n ∧ ds = [c.d, .int ((i : Nat) : Int), .int ((j : Nat) : Int)] ∧ d = .none
theorem f_ckstops (C1 : Cal P w K mg base 7 "check_city" ["city"] sCkCity (spD K rCkCity)) (C2 : Cal P w K mg base 3 "is_stop" ["city", "value"] sIsStop (spD K rIsStop)) (F : Fun K "check_stops" "check_stops" sCkStops f fd) : FnG P w K mg base 8 f fd ["city", "one", "other"] (spD K rCkStops) := by
  refine fn_data F scCkStops (fun ds d ⟨_, _, _, _, _, _, e, _⟩ => by subst e; rfl) fun cdv A outer s H E hr hgd hu ds d h => ?_
  obtain ⟨y, i, j, ok, hi, hj, rfl, rfl⟩ := h
  have hN := scCkStops.nd
  and_intros
  refine s_for ?_
  and_intros
  refine ⟨by simp, seq_t ⟨fun _ z => ∃ e, z = [.d y.d, .d (.int ((i : Nat) : Int)), .d (.int ((j : Nat) : Int)), e], ⟨_, rfl⟩, fun k d δ' hd iv => ?_, fun δ' iv => ?_⟩⟩
  · obtain ⟨e, rfl⟩ := iv
    have key : ∃ m : Nat, m < y.n ∧ d = .int ((m : Nat) : Int) := by
      match k, hd with
      | 0, hd => cases hd; exact ⟨i, hi, rfl⟩
      | 1, hd => cases hd; exact ⟨j, hj, rfl⟩
      | k + 2, hd => simp at hd
    obtain ⟨m, hm, rfl⟩ := key
    refine ⟨_, _, by nofun, ?_⟩
    and_intros
    refine ⟨_, ⟨y, _, ok, rfl, rfl⟩, ?_⟩
    and_intros
    refine br_nby (by simp [withinB]; omega) ?_
    and_intros
    exact ⟨_, rfl⟩
  · obtain ⟨e, rfl⟩ := iv
    and_intros
    rfl
theorem scWalkOf : FnScope ["city", "one", "other"] ["city", "one", "other"] (defScope sWalkOf) := ⟨rfl, rfl, rfl, by decide +kernel, rfl, by decide +kernel, by decide +kernel⟩
def rWalkOf (ds : List Dt) (d : Dt) : Prop := ∃ (c : City) (i j : Nat), c.ok ∧ i < c.n ∧ j < c.n ∧ ds = [c.d, .int ((i : Nat) : Int), .int ((j : Nat) : Int)] ∧ d = .int (c.walk i j)
theorem f_walkof (T : Free mg) (F : Fun K "walk_of" "walk_of" sWalkOf f fd) : FnG P w K mg base 1 f fd ["city", "one", "other"] (spD K rWalkOf) := by
  refine fn_data F scWalkOf (fun ds d ⟨_, _, _, _, _, _, e, _⟩ => by subst e; rfl) fun cdv A outer s H E hr hgd hu ds d h => ?_
  obtain ⟨y, i, j, ok, hi, hj, rfl, rfl⟩ := h
  have hN := scWalkOf.nd
  and_intros
  refine c_intc ?_
  and_intros
  refine ip_tup (at_tabD hi) ?_
  and_intros
  refine ip_tup (at_rowD hj) ?_
  exact f_int rfl
theorem scDriveOf : FnScope ["city", "one", "other"] ["city", "one", "other"] (defScope sDriveOf) := ⟨rfl, rfl, rfl, by decide +kernel, rfl, by decide +kernel, by decide +kernel⟩
def rDriveOf (ds : List Dt) (d : Dt) : Prop := ∃ (c : City) (i j : Nat), c.ok ∧ i < c.n ∧ j < c.n ∧ ds = [c.d, .int ((i : Nat) : Int), .int ((j : Nat) : Int)] ∧ d = .int (c.drive i j)
theorem f_driveof (T : Free mg) (F : Fun K "drive_of" "drive_of" sDriveOf f fd) : FnG P w K mg base 1 f fd ["city", "one", "other"] (spD K rDriveOf) := by
  refine fn_data F scDriveOf (fun ds d ⟨_, _, _, _, _, _, e, _⟩ => by subst e; rfl) fun cdv A outer s H E hr hgd hu ds d h => ?_
  obtain ⟨y, i, j, ok, hi, hj, rfl, rfl⟩ := h
  have hN := scDriveOf.nd
  and_intros
  refine c_intc ?_
  and_intros
  refine ip_tup (at_tabD hi) ?_
  and_intros
  refine ip_tup (at_rowD hj) ?_
  exact f_int rfl
def chgN (c : City) (i j : Nat) : Int := if i = j then c.changes.getD i 0 else c.walk i j
theorem getD_at {ns : List Int} {i : Nat} (h : i < ns.length) : ns[i]? = some (ns.getD i 0) := by rw [List.getD_eq_getElem?_getD, List.getElem?_eq_getElem h]; rfl
theorem scChangeOf : FnScope ["city", "one", "other"] ["city", "one", "other"] (defScope sChangeOf) := ⟨rfl, rfl, rfl, by decide +kernel, rfl, by decide +kernel, by decide +kernel⟩
def rChangeOf (ds : List Dt) (d : Dt) : Prop := ∃ (c : City) (i j : Nat), c.ok ∧ i < c.n ∧ j < c.n ∧ ds = [c.d, .int ((i : Nat) : Int), .int ((j : Nat) : Int)] ∧ d = .int (chgN c i j)
theorem f_changeof (T : Free mg) (C1 : Cal P w K mg base 1 "walk_of" ["city", "one", "other"] sWalkOf (spD K rWalkOf)) (F : Fun K "change_of" "change_of" sChangeOf f fd) : FnG P w K mg base 2 f fd ["city", "one", "other"] (spD K rChangeOf) := by
  refine fn_data F scChangeOf (fun ds d ⟨_, _, _, _, _, _, e, _⟩ => by subst e; rfl) fun cdv A outer s H E hr hgd hu ds d h => ?_
  obtain ⟨y, i, j, ok, hi, hj, rfl, rfl⟩ := h
  have hN := scChangeOf.nd
  have cl0 := ok.cl
  and_intros
  refine br_d (fun h1 => ?_) (fun h1 => ?_)
  · and_intros
    refine c_intc ?_
    and_intros
    refine ip_tup (at_map (getD_at (by omega))) ?_
    refine f_int ?_
    show _ = PyData.int (chgN y i j)
    unfold chgN
    rw [if_pos (by omega)]
  · and_intros
    refine ⟨_, ⟨y, i, j, ok, hi, hj, rfl, rfl⟩, ?_⟩
    show _ = PyData.int (chgN y i j)
    unfold chgN
    rw [if_neg (by omega)]
theorem scChange : FnScope ["city", "one", "other"] ["city", "one", "other"] (defScope sChange) := ⟨rfl, rfl, rfl, by decide +kernel, rfl, by decide +kernel, by decide +kernel⟩
theorem f_change (C1 : Cal P w K mg base 8 "check_stops" ["city", "one", "other"] sCkStops (spD K rCkStops)) (C2 : Cal P w K mg base 2 "change_of" ["city", "one", "other"] sChangeOf (spD K rChangeOf)) (F : Fun K "change_between" "change_between" sChange f fd) : FnG P w K mg base 9 f fd ["city", "one", "other"] (spD K rChangeOf) := by
  refine fn_data F scChange (fun ds d ⟨_, _, _, _, _, _, e, _⟩ => by subst e; rfl) fun cdv A outer s H E hr hgd hu ds d h => ?_
  obtain ⟨y, i, j, ok, hi, hj, rfl, rfl⟩ := h
  have hN := scChange.nd
  and_intros
  refine ⟨_, ⟨y, i, j, ok, hi, hj, rfl, rfl⟩, ?_⟩
  and_intros
  exact ⟨_, ⟨y, i, j, ok, hi, hj, rfl, rfl⟩, rfl⟩
theorem scWalk : FnScope ["city", "one", "other"] ["city", "one", "other"] (defScope sWalk) := ⟨rfl, rfl, rfl, by decide +kernel, rfl, by decide +kernel, by decide +kernel⟩
theorem f_walk (C1 : Cal P w K mg base 8 "check_stops" ["city", "one", "other"] sCkStops (spD K rCkStops)) (C2 : Cal P w K mg base 1 "walk_of" ["city", "one", "other"] sWalkOf (spD K rWalkOf)) (F : Fun K "walk_between" "walk_between" sWalk f fd) : FnG P w K mg base 9 f fd ["city", "one", "other"] (spD K rWalkOf) := by
  refine fn_data F scWalk (fun ds d ⟨_, _, _, _, _, _, e, _⟩ => by subst e; rfl) fun cdv A outer s H E hr hgd hu ds d h => ?_
  obtain ⟨y, i, j, ok, hi, hj, rfl, rfl⟩ := h
  have hN := scWalk.nd
  and_intros
  refine ⟨_, ⟨y, i, j, ok, hi, hj, rfl, rfl⟩, ?_⟩
  and_intros
  exact ⟨_, ⟨y, i, j, ok, hi, hj, rfl, rfl⟩, rfl⟩
theorem scDrive : FnScope ["city", "one", "other"] ["city", "one", "other"] (defScope sDrive) := ⟨rfl, rfl, rfl, by decide +kernel, rfl, by decide +kernel, by decide +kernel⟩
theorem f_drive (C1 : Cal P w K mg base 8 "check_stops" ["city", "one", "other"] sCkStops (spD K rCkStops)) (C2 : Cal P w K mg base 1 "drive_of" ["city", "one", "other"] sDriveOf (spD K rDriveOf)) (F : Fun K "drive_between" "drive_between" sDrive f fd) : FnG P w K mg base 9 f fd ["city", "one", "other"] (spD K rDriveOf) := by
  refine fn_data F scDrive (fun ds d ⟨_, _, _, _, _, _, e, _⟩ => by subst e; rfl) fun cdv A outer s H E hr hgd hu ds d h => ?_
  obtain ⟨y, i, j, ok, hi, hj, rfl, rfl⟩ := h
  have hN := scDrive.nd
  and_intros
  refine ⟨_, ⟨y, i, j, ok, hi, hj, rfl, rfl⟩, ?_⟩
  and_intros
  exact ⟨_, ⟨y, i, j, ok, hi, hj, rfl, rfl⟩, rfl⟩
/-! ### what is refused -/
def rClosedX (ds : List Dt) (cn : Str) (d : Dt) : Prop := ∃ v : Dt, waysB v = false ∧ ds = [v] ∧ cn = "InvalidTable" ∧ d = v
theorem fx_closed {C fI : Addr} (T : Free mg) (C1 : Cal P w K mg base 4 "is_way_table" ["value"] sWayTable (spD K rWayTable)) (Er : ErrTxt K mg "InvalidTable" "InvalidTable.__init__" C fI) (F : Fun K "closed" "closed" sClosed f fd) : FnX P w K mg base 5 f fd ["table"] (spX K mg rClosedX) := by
  refine fnX_data F scClosed (fun ds cn d ⟨_, _, e, _⟩ => by subst e; rfl) fun cdv A outer s H E hr hgd hu ds cn d h => ?_
  obtain ⟨v, hw, rfl, rfl, rfl⟩ := h
  have hN := scClosed.nd
  refine s_start (by repeat (first | exact StR.nil | apply StR.d | apply StR.no)) ?_
  refine x_eq (by conv => { lhs; whnf }) ?_
  refine x_if ?_ (x_raise Er ?_)
  · and_intros
    rw [hw]; rfl
  · and_intros
    exact ⟨rfl, rfl⟩
theorem scLRefused : FnScope ["value", "told", "e"] ["value"] (defScope sLRefused) := ⟨rfl, rfl, rfl, by decide +kernel, rfl, by decide +kernel, by decide +kernel⟩
def rLRefused (ds : List Dt) (d : Dt) : Prop := ∃ v : Dt, waysB v = false ∧ OkD v 390000 40 ∧ sok v = true ∧ ds = [v] ∧ d = .bool true
theorem f_lrefused {C fI C0 : Addr} (T : Free mg) (C1 : CalX P w K mg base 5 "closed" ["table"] sClosed (spX K mg rClosedX)) (Er : ErrTxt K mg "InvalidTable" "InvalidTable.__init__" C fI) (Ei : ErrIs K mg C C0) (F : Fun K "_law_refused" "_law_refused" sLRefused f fd) : FnG P w K mg base 6 f fd ["value"] (spD K rLRefused) := by
  refine fn_data F scLRefused (fun ds d ⟨_, _, _, _, e, _⟩ => by subst e; rfl) fun cdv A outer s H E hr hgd hu ds d h => ?_
  obtain ⟨v, hw, okv, sv, rfl, rfl⟩ := h
  have hN := scLRefused.nd
  refine s_st (by repeat (first | exact StR.nil | apply StR.d | apply StR.no)) ?_
  refine s_eq (by conv => { lhs; whnf }) ?_
  iterate 2 infer_instance
  refine s_try (i := 2) (j := 1) (V := fun x => x = v) (W := fun x => .list [.str v.shown, .bool true]) (F := fun z => [.d v, .d z, .no]) C1 Er (by repeat (first | exact Nx.z | apply Nx.s)) rfl (by repeat (first | exact Nx.z | apply Nx.s)) (by intro _; repeat (first | exact SetR.z | apply SetR.s)) (by decide) (fun pn xe => ?ha) (fun x hx a oe cls d pn hh => ?hs) (fun x hx => ?hk)
  case ha =>
    refine a_c ?_
    refine c_var (by repeat (first | exact Nx.z | apply Nx.s)) rfl ?_
    refine a_n ?_
    exact ⟨v, ⟨v, hw, rfl, rfl, rfl⟩, rfl⟩
  case hs =>
    subst hx
    refine ye_lst (ya_c (ye_fn1 (X := _) rfl (by decide +kernel) (ye_val hh ⟨_, _, _, _, Er⟩ (f_repr hgd hu okv rfl))) (ya_c (ye_and (ye_is hh Ei.ex (c := .ref C0) (cv := .ref C0) (pe_glob (v := .ref C0) rfl Ei.g0 rfl) (fun u h => h) Ei.is0 rfl) (ye_one (ye_is hh Ei.ex (c := .ty "ValueError") (cv := .type "ValueError") (pe_bltn (v := .ty "ValueError") (u := .type "ValueError") rfl (T _ (by decide +kernel)) (by decide +kernel) rfl) (fun u h => h) Ei.isV rfl))) ya_n))
  case hk =>
    and_intros
    refine f_repr hgd hu okv ?_
    and_intros
    refine ⟨by simp, cp_eqD hu (by simp [SeqAt.shaped, PyData.canLay0, PyData.canLayAll0, PyData.depth, PyData.depthAll, sok_shown sv]) (by simp [SeqAt.shaped, PyData.canLay0, PyData.canLayAll0, PyData.depth, PyData.depthAll, sok_shown sv]) ?_⟩
    show PyData.bool (PyData.eqv _ _) = PyData.bool true
    congr 1
    simp [PyData.eqv, PyData.eqvAll]
end
end K11

set_option linter.all false
set_option maxRecDepth 100000
set_option maxHeartbeats 4000000
namespace K11
open PySem PySem.Spec PyProof.Rows L2 RZ Dv
abbrev sLWithin : Stmt := at_def "_law_is_within"
abbrev sLPot : Stmt := at_def "_law_pot"
abbrev sLWays : Stmt := at_def "_law_is_ways"
abbrev sLIsClosed : Stmt := at_def "_law_is_closed"
theorem br_nX {c : Bool} {A B : Prop} (hc : c = false) (h : B) : ((!c) = false → A) ∧ ((!c) = true → B) := by subst hc; exact ⟨fun z => Bool.noConfusion z, fun _ => h⟩
theorem br_nY {c : Bool} {A B : Prop} (hc : c = true) (h : A) : ((!c) = false → A) ∧ ((!c) = true → B) := by subst hc; exact ⟨fun _ => h, fun z => Bool.noConfusion z⟩
theorem at_ints {ns : List Int} {p : Nat} (h : p < ns.length) : atI (ns.map PyData.int) ((p : Nat) : Int) = some (.int (ns.getD p 0)) := at_map (getD_at h)
theorem all_true {α : Type} {xs : List α} : (xs.map fun _ => true).all _root_.id = true := by rw [List.all_map]; exact List.all_eq_true.mpr fun _ _ => rfl
def absL (i : Int) : Int := if i < 0 then -i else i
def cellL (ns : List Int) (k : Int) : Int := if decide (k < ((ns.length : Nat) : Int)) = true then absL (ns.getD k.toNat 0) else 43 * k + 29
def potA (ns : List Int) (k : Int) : Int := max 0 (cellL ns k - 10 ^ (18 : Int).toNat)
def potB (ns : List Int) (k : Int) : Int := (cellL ns k % 2147483563 * 39373 + 6007 * k + 307) % 2147483587 + 1
theorem pot_ok (ns : List Int) (k : Int) : potOk (potA ns k) (potB ns k) := by
  unfold potOk potA potB
  have h1 := Int.emod_nonneg (cellL ns k % 2147483563 * 39373 + 6007 * k + 307) (b := 2147483587) (by omega)
  have h2 := Int.emod_lt_of_pos (cellL ns k % 2147483563 * 39373 + 6007 * k + 307) (b := 2147483587) (by omega)
  omega
theorem eqvAll_map {α : Type} {F G : α → Dt} : ∀ {xs : List α}, PyData.eqvAll (xs.map F) (xs.map G) = xs.all fun x => PyData.eqv (F x) (G x)
  | [] => by simp [PyData.eqvAll]
  | x :: xs => by
    rw [List.map_cons, List.map_cons, List.all_cons, ← eqvAll_map (xs := xs)]
    simp [PyData.eqvAll]
theorem eqv_tab {n : Nat} {A B : Nat → Nat → Int} : PyData.eqv (tabD n A) (tabD n B) = (List.range n).all fun i => (List.range n).all fun j => decide (A i j = B i j) := by
  unfold tabD
  simp only [PyData.eqv]
  rw [eqvAll_map]
  congr 1
  funext i
  unfold rowD
  simp only [PyData.eqv]
  rw [eqvAll_map]
  rfl
theorem shaped_tab {n : Nat} {A : Nat → Nat → Int} : SeqAt.shaped (tabD n A) = true := by
  have h1 : ∀ ns : List Int, PyData.canLayAll0 (ns.map PyData.int) = true ∧ PyData.depthAll (ns.map PyData.int) = 0 := fun ns => by
    induction ns with
    | nil => exact ⟨by simp [PyData.canLayAll0], by simp [PyData.depthAll]⟩
    | cons n r ih => exact ⟨by simp [PyData.canLayAll0, PyData.canLay0, ih.1], by simp [PyData.depthAll, PyData.depth, ih.2]⟩
  have hr : ∀ i, rowD n A i = ((List.range n).map (A i)).map PyData.int := fun i => by unfold rowD; rw [List.map_map]; rfl
  have h2 : ∀ xs : List Nat, PyData.canLayAll0 (xs.map fun i => PyData.tuple (rowD n A i)) = true ∧ PyData.depthAll (xs.map fun i => PyData.tuple (rowD n A i)) ≤ 1 := fun xs => by
    induction xs with
    | nil => exact ⟨by simp [PyData.canLayAll0], by simp [PyData.depthAll]⟩
    | cons a r ih =>
      obtain ⟨k1, k2⟩ := h1 ((List.range n).map (A a))
      rw [← hr] at k1 k2
      exact ⟨by simp [PyData.canLayAll0, PyData.canLay0, ih.1, k1], by simp [PyData.depthAll, PyData.depth, k2]; omega⟩
  obtain ⟨k1, k2⟩ := h2 (List.range n)
  unfold SeqAt.shaped
  unfold tabD
  simp only [PyData.canLay0, PyData.depth, k1, Bool.true_and]
  exact decide_eq_true (by omega)
theorem close_same {n : Nat} {A : Nat → Nat → Int} (w : Way n 120 A) : (∀ i j, i < n → j < n → closeL n A i j = A i j) ↔ ∀ i j k, i < n → j < n → k < n → A i j ≤ A i k + A k j := by
  constructor
  · intro h i j k hi hj hk
    have s := close_spec w hi hj
    rw [h i j hi hj] at s
    have a := Wk.snoc hk hj (Wk.snoc hi hk (Wk.nil (n := n) (A := A) i))
    have := s.2 _ a
    omega
  · intro h i j hi hj
    have gd : Good n A A := ⟨fun _ _ _ _ => Int.le_refl _, w.dia, fun i j hi hj ne => (w.pos i j hi hj ne).1, fun i j hi hj => by
      have := Wk.snoc hi hj (Wk.nil (n := n) (A := A) i)
      rw [Int.zero_add] at this
      exact this⟩
    exact close_eq ⟨gd.wk i j hi hj, fun u hu => least_walk gd (fun i j k hi hj hk => h i j k hi hj hk) hi hu⟩
section
variable {P : Program} {w : World} {K : Fg} {mg : Str → Option Value} {base : Heap} {f : Addr} {fd : FuncData}
theorem scLWithin : FnScope ["value", "low", "high"] ["value", "low", "high"] (defScope sLWithin) := ⟨rfl, rfl, rfl, by decide +kernel, rfl, by decide +kernel, by decide +kernel⟩
theorem f_lwithin (T : Free mg) (F : Fun K "_law_is_within" "_law_is_within" sLWithin f fd) : FnG P w K mg base 1 f fd ["value", "low", "high"] (spD K rWithin) := by
  refine fn_data F scLWithin (fun ds d ⟨i, _, _, e, _⟩ => by subst e; rfl) fun cdv A outer s H E hr hgd hu ds d h => ?_
  obtain ⟨v, a, b, rfl, rfl⟩ := h
  have hN := scLWithin.nd
  and_intros
  refine ⟨fun h1 => ?_, fun h1 => ?_⟩
  · and_intros
    cases v with
    | int i =>
      and_intros
      refine ⟨fun h2 => ?_, fun h2 => ?_⟩
      · and_intros
        show _ = PyData.bool (decide (a ≤ i) && _)
        rw [decide_eq_true h2]; rfl
      · show _ = PyData.bool (decide (a ≤ i) && _)
        rw [decide_eq_false h2]; rfl
    | bool i => and_intros; rfl
    | _ => cases h1
  · cases v <;> first | rfl | cases h1
theorem scLPot : FnScope ["script", "k", "cell"] ["script", "k"] (defScope sLPot) := ⟨rfl, rfl, rfl, by decide +kernel, rfl, by decide +kernel, by decide +kernel⟩
def rLPot (ds es : List Dt) : Prop := ∃ (ns : List Int) (k : Int), 0 ≤ k ∧ k ≤ 2 ∧ ds = [.list (ns.map PyData.int), .int k] ∧ es = [.int (potA ns k), .int (potB ns k)]
theorem f_lpot (T : T0 K mg) (F : Fun K "_law_pot" "_law_pot" sLPot f fd) : FnG P w K mg base 1 f fd ["script", "k"] (spO K rLPot) := by
  refine fn_own F scLPot (fun ds d ⟨_, _, _, _, e, _⟩ => by subst e; rfl) fun cdv A outer s H E hr hgd hu ds d h => ?_
  obtain ⟨ns, k, k0, k1, rfl, rfl⟩ := h
  refine s_set 2 scLPot.nd (d := .int (cellL ns k)) (pd_if (k := decide (k < ((ns.length : Nat) : Int))) ((pt_lt (pd_v 1) (pd_len_list T.len (pa_c (pd_v 0) pa_n))).mono fun c e => by rw [e, List.length_map]) (fun h => ?_) (fun h => ?_)) ?_
  · have hk : k.toNat < ns.length := by have := of_decide_eq_true h; omega
    refine (pd_abs T.abs (pa_c (pd_ixL (d := .int (ns.getD k.toNat 0)) (pd_v 0) (pd_v 1) ?_) pa_n)).is ?_
    · obtain ⟨j, rfl⟩ := Int.eq_ofNat_of_zero_le k0
      exact at_ints (by simpa using hk)
    · unfold cellL absL; rw [if_pos h]
  · refine (pd_add (pd_mul pd_int (pd_v 1) (by unfold CMul; omega)) pd_int).is ?_
    unfold cellL; rw [if_neg (by rw [h]; decide)]
  · refine s_retLst (pa_c (pd_max2 rfl T.max (pa_c pd_int (pa_c (pd_sub (pd_v 2) (pd_pow pd_int pd_int (by unfold CPow; decide))) pa_n))) (pa_c (pd_add (pd_mod (pd_int1 T.int (pa_c (pd_add (pd_add (pd_mul (pd_mod (pd_int1 T.int (pa_c (pd_v 2) pa_n)) pd_int (by decide)) pd_int (by unfold CMul; omega)) (pd_mul pd_int (pd_v 1) (by unfold CMul; omega))) pd_int) pa_n)) pd_int (by decide)) pd_int) pa_n)) rfl
abbrev NLW : List Str := ["value", "row", "one", "other", "number"]
theorem scLWays : FnScope NLW ["value"] (defScope sLWays) := ⟨rfl, rfl, rfl, by decide +kernel, rfl, by decide +kernel, by decide +kernel⟩
theorem f_lways (T : Free mg) (C1 : Cal P w K mg base 1 "_law_is_within" ["value", "low", "high"] sLWithin (spD K rWithin)) (F : Fun K "_law_is_ways" "_law_is_ways" sLWays f fd) : FnG P w K mg base 2 f fd ["value"] (spD K rWayTable) := by
  refine fn_data F scLWays (fun ds d ⟨_, e, _⟩ => by subst e; rfl) fun cdv A outer s H E hr hgd hu ds d h => ?_
  obtain ⟨v, rfl, rfl⟩ := h
  have hN := scLWays.nd
  and_intros
  by_cases ht : isTupT v = true
  case neg =>
    have ht2 : isTupT v = false := by simpa using ht
    refine br_nX ht2 ?_
    and_intros
    show _ = PyData.bool ((tupB v 1 12 && _) && _)
    rw [show tupB v 1 12 = false by (cases v <;> first | rfl | cases ht2)]; rfl
  obtain ⟨es, rfl⟩ : ∃ es, v = .tuple es := by cases v <;> first | exact ⟨_, rfl⟩ | cases ht
  have go : waysB (.tuple es) = ((tupB (.tuple es) 1 12 && es.all fun r => arewB r ((es.length : Nat) : Int) 0 120) && (List.range es.length).all fun i => (List.range es.length).all (pairW (matOf (.tuple es)) i)) := rfl
  have tb : tabB (.tuple es) = (tupB (.tuple es) 1 12 && es.all fun r => arewB r ((es.length : Nat) : Int) 0 120) := rfl
  refine br_nY ht ?_
  and_intros
  refine ⟨fun a1 => ?_, fun a1 => ?_⟩
  case refine_2 =>
    have := of_decide_eq_true a1
    and_intros
    rw [go, show tupB (.tuple es) 1 12 = false by simp [tupB]; omega]; rfl
  have a2 := of_decide_eq_false a1
  and_intros
  refine ⟨fun b1 => ?_, fun b1 => ?_⟩
  · have := of_decide_eq_true b1
    and_intros
    rw [go, show tupB (.tuple es) 1 12 = false by simp [tupB]; omega]; rfl
  have b2 := of_decide_eq_false b1
  have h2 : tupB (.tuple es) 1 12 = true := by simp [tupB]; omega
  and_intros
  refine s_for ?_
  and_intros
  refine ⟨fun k z => ∃ a b c d : En, (∀ r ∈ es.take k, arewB r ((es.length : Nat) : Int) 0 120 = true) ∧ z = [.d (.tuple es), a, b, c, d], ⟨_, _, _, _, fun r hr => by simp at hr, rfl⟩, fun k v δ' hd iv => ?_, fun δ' iv => ?_⟩
  · obtain ⟨a, b, c, d, ok, rfl⟩ := iv
    have bad : arewB v ((es.length : Nat) : Int) 0 120 = false → waysB (.tuple es) = false := fun h => by
      rw [go]
      have : (es.all fun r => arewB r ((es.length : Nat) : Int) 0 120) = false := by
        rw [Bool.eq_false_iff]
        intro z
        rw [List.all_eq_true] at z
        rw [z v (List.mem_of_getElem? hd)] at h
        cases h
      rw [this, Bool.and_false]; rfl
    refine ⟨_, _, by nofun, ?_⟩
    and_intros
    by_cases ht : isTupT v = true
    case neg =>
      have ht2 : isTupT v = false := by simpa using ht
      refine br_nX ht2 ?_
      and_intros
      rw [bad (by (cases v <;> first | rfl | cases ht2))]
    obtain ⟨rs, rfl⟩ : ∃ rs, v = .tuple rs := by cases v <;> first | exact ⟨_, rfl⟩ | cases ht
    refine br_nY ht ?_
    and_intros
    by_cases b3 : (rs.length : Int) = (es.length : Int)
    case neg =>
      refine br_nX (decide_eq_false b3) ?_
      and_intros
      rw [bad (by simp [arewB, tupB]; omega)]
    refine br_nY (decide_eq_true b3) ?_
    and_intros
    refine c_allF (α := Dt) [("number", 4)] (blkOk_by (N := NLW) (sc := defScope sLWays) (by decide +kernel)) ?_
    and_intros
    refine ⟨rs, _root_.id, fun x => withinB x 0 120, by simp, by omega, fun i x hx => ⟨_, fun s H C cl fp => by nofun, fun s H C cl fp => ?_⟩, ?_⟩
    · and_intros
      rfl
    have te : arewB (.tuple rs) ((es.length : Nat) : Int) 0 120 = rs.all fun x => withinB x 0 120 := by
      show (tupB (.tuple rs) _ _ && rs.all fun x => withinB x 0 120) = _
      rw [show tupB (.tuple rs) ((es.length : Nat) : Int) ((es.length : Nat) : Int) = true by simp [tupB]; omega, Bool.true_and]
    by_cases d4 : (rs.all fun x => withinB x 0 120) = true
    case neg =>
      have d5 : (rs.all fun x => withinB x 0 120) = false := by simpa using d4
      refine ⟨_, rfl, br_nbyf d5 ?_⟩
      and_intros
      rw [bad (by rw [te, d5])]
    refine ⟨_, rfl, br_nby d4 ?_⟩
    and_intros
    refine ⟨_, _, _, _, fun r hr => ?_, rfl⟩
    rw [List.take_succ, hd] at hr
    rcases List.mem_append.mp hr with hr | hr
    · exact ok r hr
    · have : r = .tuple rs := by simpa using hr
      rw [this, te, d4]
  obtain ⟨a, b, c, d, ok, rfl⟩ := iv
  rw [List.take_length] at ok
  have h4 : (es.all fun r => arewB r ((es.length : Nat) : Int) 0 120) = true := List.all_eq_true.mpr ok
  have t := tab_of (v := .tuple es) (by rw [tb, h2, h4]; rfl)
  have ev := t.eq
  have go2 : waysB (.tuple es) = (List.range es.length).all fun i => (List.range es.length).all (pairW (matOf (.tuple es)) i) := by rw [go, h2, h4]; rfl
  rw [go2]
  have n2 : es.length ≤ 12 := t.n2
  have ev : PyData.tuple es = tabD es.length (matOf (.tuple es)) := ev
  generalize matOf (.tuple es) = C at *
  generalize es.length = n at *
  rw [ev]
  clear go tb go2 t h4 ok h2 ev
  refine s_for ?_
  and_intros
  rw [List.length_map, List.length_range]
  refine ⟨by omega, ?_⟩
  refine ⟨fun k z => ∃ a b c d : En, (∀ i j, i < k → j < n → pairW C i j = true) ∧ z = [.d (tabD n C), a, b, c, d], ⟨_, _, _, _, fun i j hi => absurd hi (Nat.not_lt_zero _), rfl⟩, fun k v δ' hd iv => ?_, fun δ' iv => ?_⟩
  case refine_2 =>
    obtain ⟨a, b, c, d, ok, rfl⟩ := iv
    rw [rngD_length] at ok
    and_intros
    show PyData.bool true = _
    congr 1
    symm
    rw [List.all_eq_true]
    intro i hi
    rw [List.all_eq_true]
    intro j hj
    have hi := List.mem_range.mp hi
    exact ok i j (by omega) (List.mem_range.mp hj)
  obtain ⟨a, b, c, d, ok, rfl⟩ := iv
  obtain ⟨hk, rfl⟩ := rngD_at hd
  rw [show (0 : Int) + ((k : Nat) : Int) = ((k : Nat) : Int) by omega]
  have hk : k < n := by omega
  refine ⟨_, _, by nofun, ?_⟩
  refine s_for ?_
  and_intros
  rw [List.length_map, List.length_range]
  refine ⟨by omega, ?_⟩
  refine ⟨fun m z => ∃ a c d : En, (∀ j, j < m → pairW C k j = true) ∧ z = [.d (tabD n C), a, .d (.int ((k : Nat) : Int)), c, d], ⟨_, _, _, fun j hj => absurd hj (Nat.not_lt_zero _), rfl⟩, fun m v δ' hd iv => ?_, fun δ' iv => ?_⟩
  case refine_2 =>
    obtain ⟨a, c, d, ok2, rfl⟩ := iv
    rw [rngD_length] at ok2
    and_intros
    refine ⟨_, _, _, _, fun i j hi hj => ?_, rfl⟩
    by_cases e : i = k
    · subst e; exact ok2 j (by omega)
    · exact ok i j (by omega) hj
  obtain ⟨a, c, d, ok2, rfl⟩ := iv
  obtain ⟨hm, rfl⟩ := rngD_at hd
  rw [show (0 : Int) + ((m : Nat) : Int) = ((m : Nat) : Int) by omega]
  have hm : m < n := by omega
  have bad : pairW C k m = false → ((List.range n).all fun i => (List.range n).all (pairW C i)) = false := fun h => by
    rw [Bool.eq_false_iff]
    intro z
    have := List.all_eq_true.mp (List.all_eq_true.mp z k (List.mem_range.mpr hk)) m (List.mem_range.mpr hm)
    rw [h] at this
    cases this
  have good : pairW C k m = true → ∀ j, j < m + 1 → pairW C k j = true := fun h j hj => by
    by_cases e : j = m
    · subst e; exact h
    · exact ok2 j (by omega)
  refine ⟨_, _, by nofun, ?_⟩
  and_intros
  refine ip_tup (at_tabD hk) ?_
  and_intros
  refine ip_tup (at_rowD hm) ?_
  and_intros
  refine ip_tup (at_tabD hm) ?_
  and_intros
  refine ip_tup (at_rowD hk) ?_
  and_intros
  by_cases s1 : C k m = C m k
  case neg =>
    refine br_nX (decide_eq_false s1) ?_
    and_intros
    rw [bad (by unfold pairW; rw [decide_eq_false s1]; rfl)]
  refine br_nY (decide_eq_true s1) ?_
  and_intros
  by_cases e : k = m
  · subst e
    refine br_is rfl ?_
    and_intros
    refine ip_tup (at_tabD hk) ?_
    and_intros
    refine ip_tup (at_rowD hk) ?_
    and_intros
    by_cases z0 : C k k = 0
    · refine br_nY (decide_eq_true z0) ?_
      and_intros
      refine br_nis rfl ?_
      and_intros
      exact ⟨_, _, _, good (by unfold pairW; rw [decide_eq_true (rfl : C k k = C k k), decide_eq_true z0, decide_eq_true (rfl : k = k)]; rfl), rfl⟩
    · refine br_nX (decide_eq_false z0) ?_
      and_intros
      rw [bad (by unfold pairW; rw [decide_eq_true (rfl : C k k = C k k), decide_eq_false z0, decide_eq_true (rfl : k = k)]; rfl)]
  · refine br_no (by omega) ?_
    and_intros
    refine br_nno (by omega) ?_
    and_intros
    refine ip_tup (at_tabD hk) ?_
    and_intros
    refine ip_tup (at_rowD hm) ?_
    and_intros
    by_cases z0 : C k m = 0
    · refine br_is z0 ?_
      and_intros
      rw [bad (by unfold pairW; rw [decide_eq_true s1, decide_eq_true z0, decide_eq_false e]; rfl)]
    · refine br_no z0 ?_
      and_intros
      exact ⟨_, _, _, good (by unfold pairW; rw [decide_eq_true s1, decide_eq_false z0, decide_eq_false e]; rfl), rfl⟩
theorem scLIsClosed : FnScope ["value"] ["value"] (defScope sLIsClosed) := ⟨rfl, rfl, rfl, by decide +kernel, rfl, by decide +kernel, by decide +kernel⟩
theorem f_lisclosed (T : Free mg) (C1 : Cal P w K mg base 2 "_law_is_ways" ["value"] sLWays (spD K rWayTable)) (C2 : Cal P w K mg base 1 "_law_closed" ["table"] sLClosed (spD K rLClosed)) (F : Fun K "_law_is_closed" "_law_is_closed" sLIsClosed f fd) : FnG P w K mg base 3 f fd ["value"] (spD K rIsClosed) := by
  refine fn_data F scLIsClosed (fun ds d ⟨_, e, _⟩ => by subst e; rfl) fun cdv A outer s H E hr hgd hu ds d h => ?_
  obtain ⟨v, rfl, rfl⟩ := h
  have hN := scLIsClosed.nd
  and_intros
  refine ⟨fun h1 => ?_, fun h1 => ?_⟩
  case refine_2 =>
    show _ = PyData.bool (waysB v && _)
    rw [h1]; rfl
  obtain ⟨way, sym⟩ := ways_of h1
  have t := tab_of (ways_tab h1)
  have n1 := t.n1
  have n2 := t.n2
  have ev := t.eq
  have go : closedB v = (List.range (szD v)).all fun i => (List.range (szD v)).all (shortW (szD v) (matOf v) i) := by unfold closedB; rw [h1]; rfl
  rw [go]
  clear t h1 go
  generalize szD v = n at *
  generalize matOf v = C at *
  subst ev
  and_intros
  refine ⟨_, ⟨n, 120, C, n1, n2, sym, way, rfl, rfl⟩, ?_⟩
  and_intros
  refine cp_eqD hu shaped_tab shaped_tab ?_
  rw [eqv_tab]
  show PyData.bool _ = PyData.bool _
  congr 1
  rw [Bool.eq_iff_iff]
  have k1 : ((List.range n).all fun i => (List.range n).all fun j => decide (closeL n C i j = C i j)) = true ↔ ∀ i j, i < n → j < n → closeL n C i j = C i j := by
    rw [List.all_eq_true]
    constructor
    · intro h i j hi hj
      exact of_decide_eq_true (List.all_eq_true.mp (h i (List.mem_range.mpr hi)) j (List.mem_range.mpr hj))
    · intro h i hi
      rw [List.all_eq_true]
      exact fun j hj => decide_eq_true (h i j (List.mem_range.mp hi) (List.mem_range.mp hj))
  have k2 : ((List.range n).all fun i => (List.range n).all (shortW n C i)) = true ↔ ∀ i j k, i < n → j < n → k < n → C i j ≤ C i k + C k j := by
    rw [List.all_eq_true]
    constructor
    · intro h i j k hi hj hk
      exact of_decide_eq_true (List.all_eq_true.mp (List.all_eq_true.mp (h i (List.mem_range.mpr hi)) j (List.mem_range.mpr hj)) k (List.mem_range.mpr hk))
    · intro h i hi
      rw [List.all_eq_true]
      intro j hj
      unfold shortW
      rw [List.all_eq_true]
      exact fun k hk => decide_eq_true (h i j k (List.mem_range.mp hi) (List.mem_range.mp hj) (List.mem_range.mp hk))
  rw [k1, k2]
  exact close_same way
end
end K11

set_option linter.all false
set_option maxRecDepth 100000
set_option maxHeartbeats 4000000
namespace K11
open PySem PySem.Spec PyProof.Rows L2 RZ Dv
abbrev sLIsCity : Stmt := at_def "_law_is_city"
abbrev sLPut : Stmt := at_def "_law_put"
abbrev sLBent : Stmt := at_def "_law_rows_bent"
theorem cut_mem {ds : List Dt} {lo hi : Option Int} {d : Dt} (h : d ∈ Dv.cutD ds lo hi) : d ∈ ds := List.mem_of_mem_drop (List.mem_of_mem_take h)
theorem cut_le {ds : List Dt} {lo hi : Option Int} : (Dv.cutD ds lo hi).length ≤ ds.length := by unfold Dv.cutD; rw [List.length_take, List.length_drop]; omega
theorem okd_t {es : List Dt} (h : ∀ d ∈ es, OkD d 10 0) (hl : es.length ≤ 20) : OkD (.tuple es) 300 1 := (okd_tuple (n := 20) h hl).mono
theorem okd_l {es : List Dt} (h : ∀ d ∈ es, OkD d 10 0) (hl : es.length ≤ 20) : OkD (.list es) 300 1 := (okd_list (n := 20) h hl).mono
theorem okd_strS {x : Str} (h : (x.cps.toList.all fun c => decide (c < 16 ^ 8)) = true := by decide +kernel) (h2 : x.cps.size ≤ 10 := by decide +kernel) : OkD (.str x) 10 0 := (okd_str h).mono
theorem oi {i : Int} (h1 : -5000 ≤ i) (h2 : i ≤ 5000) : OkD (.int i) 10 0 := (okd_int (by omega)).mono
theorem all_out {V : Dt → Prop} {ds out : List Dt} (h : out.length = ds.length) (hr : ∀ (i : Nat) (d y : Dt), ds[i]? = some d → out[i]? = some y → V y) : ∀ y ∈ out, V y := fun y hy => by
  obtain ⟨j, hj⟩ := List.getElem?_of_mem hy
  have hjl : j < ds.length := by rw [← h]; exact (List.getElem?_eq_some_iff.mp hj).1
  exact hr j _ y (List.getElem?_eq_getElem hjl) hj
theorem all_app {V : Dt → Prop} {es fs : List Dt} (h1 : ∀ e ∈ es, V e) (h2 : ∀ e ∈ fs, V e) : ∀ e ∈ es ++ fs, V e := fun e he => by
  rcases List.mem_append.mp he with he | he
  · exact h1 e he
  · exact h2 e he
theorem all_one {V : Dt → Prop} {x : Dt} (h : V x) : ∀ e ∈ [x], V e := fun e he => by
  rcases List.mem_cons.mp he with rfl | he
  · exact h
  · cases he
theorem all_cut {V : Dt → Prop} {es : List Dt} {a b : Option Int} (h : ∀ e ∈ es, V e) : ∀ e ∈ Dv.cutD es a b, V e := fun e he => h e (cut_mem he)
section
variable {P : Program} {w : World} {K : Fg} {mg : Str → Option Value} {base : Heap} {f : Addr} {fd : FuncData}
abbrev NLC : List Str := ["value", "zones", "changes", "zone", "number", "table"]
theorem scLIsCity : FnScope NLC ["value"] (defScope sLIsCity) := ⟨rfl, rfl, rfl, by decide +kernel, rfl, by decide +kernel, by decide +kernel⟩
theorem f_liscity (T : Free mg) (C1 : Cal P w K mg base 1 "_law_is_within" ["value", "low", "high"] sLWithin (spD K rWithin)) (C2 : Cal P w K mg base 3 "_law_is_closed" ["value"] sLIsClosed (spD K rIsClosed)) (F : Fun K "_law_is_city" "_law_is_city" sLIsCity f fd) : FnG P w K mg base 4 f fd ["value"] (spD K rIsCity) := by
  refine fn_data F scLIsCity (fun ds d ⟨_, e, _⟩ => by subst e; rfl) fun cdv A outer s H E hr hgd hu ds d h => ?_
  obtain ⟨v, rfl, rfl⟩ := h
  have hN := scLIsCity.nd
  and_intros
  by_cases ht : isTupT v = true
  case neg =>
    have ht2 : isTupT v = false := by simpa using ht
    refine br_nX ht2 ?_
    and_intros
    rw [city_not (by cases v <;> first | rfl | cases ht2)]
  obtain ⟨es, rfl⟩ : ∃ es, v = .tuple es := by cases v <;> first | exact ⟨_, rfl⟩ | cases ht
  refine br_nY ht ?_
  and_intros
  by_cases h5 : es.length = 5
  case neg =>
    refine br_nX (decide_eq_false (by omega)) ?_
    and_intros
    rw [city_not (by simp [namedB, tupB]; omega)]
  match es, h5 with
  | [x0, x1, x2, x3, x4], _ =>
  refine br_nY (by simp) ?_
  and_intros
  by_cases hw : wordB x0 ["city"] = true
  case neg =>
    have hw2 : wordB x0 ["city"] = false := by simpa using hw
    have hL : cityB (.tuple [x0, x1, x2, x3, x4]) = false := by
      show (wordB x0 ["city"] && _) = false
      rw [hw2]; rfl
    rw [hL]
    cases x0 with
    | str s =>
      and_intros
      refine br_nno (fun e => by subst e; cases hw2) ?_
      and_intros
      rfl
    | _ =>
      and_intros
      rfl
  have hL : ∃ s, x0 = .str s ∧ s = "city" := by
    cases x0 with
    | str s => exact ⟨s, rfl, by have h := hw; simp [wordB] at h; exact h.symm⟩
    | _ => cases hw
  obtain ⟨_, rfl, rfl⟩ := hL
  and_intros
  have go : cityB (.tuple [.str "city", x1, x2, x3, x4]) = (tupB x1 1 12 && (arewB x1 ((szD x1 : Nat) : Int) 1 4 && (arewB x2 ((szD x1 : Nat) : Int) 0 9 && (tblB x3 (szD x1) && tblB x4 (szD x1))))) := by
    show (wordB (.str "city") ["city"] && _) = _
    rw [hw]; rfl
  rw [go]
  clear go
  refine ⟨by simp, _, _, by nofun, ?_⟩
  and_intros
  by_cases t1 : isTupT x1 = true
  case neg =>
    have t2 : isTupT x1 = false := by simpa using t1
    refine br_nX t2 ?_
    and_intros
    rw [show tupB x1 1 12 = false by (cases x1 <;> first | rfl | cases t2)]; rfl
  obtain ⟨zs, rfl⟩ : ∃ zs, x1 = .tuple zs := by cases x1 <;> first | exact ⟨_, rfl⟩ | cases t1
  have sz : szD (.tuple zs) = zs.length := rfl
  rw [sz]
  refine br_nY t1 ?_
  and_intros
  refine ⟨fun a1 => ?_, fun a1 => ?_⟩
  case refine_2 =>
    have := of_decide_eq_true a1
    and_intros
    rw [show tupB (.tuple zs) 1 12 = false by simp [tupB]; omega]; rfl
  have a2 := of_decide_eq_false a1
  and_intros
  refine ⟨fun b1 => ?_, fun b1 => ?_⟩
  case refine_2 =>
    have := of_decide_eq_true b1
    and_intros
    rw [show tupB (.tuple zs) 1 12 = false by simp [tupB]; omega]; rfl
  have b2 := of_decide_eq_false b1
  have q1 : tupB (.tuple zs) 1 12 = true := by simp [tupB]; omega
  rw [q1, Bool.true_and]
  and_intros
  refine c_allF (α := Dt) [("zone", 3)] (blkOk_by (N := NLC) (sc := defScope sLIsCity) (by decide +kernel)) ?_
  and_intros
  refine ⟨zs, _root_.id, fun x => withinB x 1 4, by simp, by omega, fun i x hx => ⟨_, fun s H C cl fp => by nofun, fun s H C cl fp => ?_⟩, ?_⟩
  · and_intros
    rfl
  have te : ∀ (rs : List Dt) (a b : Int), rs.length = zs.length → arewB (.tuple rs) ((zs.length : Nat) : Int) a b = rs.all fun x => withinB x a b := fun rs a b hl => by
    show (tupB (.tuple rs) _ _ && rs.all fun x => withinB x a b) = _
    rw [show tupB (.tuple rs) ((zs.length : Nat) : Int) ((zs.length : Nat) : Int) = true by simp [tupB]; omega, Bool.true_and]
  rw [te zs 1 4 rfl]
  by_cases d4 : (zs.all fun x => withinB x 1 4) = true
  case neg =>
    have d5 : (zs.all fun x => withinB x 1 4) = false := by simpa using d4
    refine ⟨_, rfl, br_nbyf d5 ?_⟩
    and_intros
    rw [d5]; rfl
  refine ⟨_, rfl, br_nby d4 ?_⟩
  rw [d4, Bool.true_and]
  and_intros
  by_cases t2 : isTupT x2 = true
  case neg =>
    have t3 : isTupT x2 = false := by simpa using t2
    refine br_nX t3 ?_
    and_intros
    rw [show arewB x2 ((zs.length : Nat) : Int) 0 9 = false by (cases x2 <;> first | rfl | cases t3)]; rfl
  obtain ⟨cs, rfl⟩ : ∃ cs, x2 = .tuple cs := by cases x2 <;> first | exact ⟨_, rfl⟩ | cases t2
  refine br_nY t2 ?_
  and_intros
  by_cases b3 : (cs.length : Int) = (zs.length : Int)
  case neg =>
    refine br_nX (decide_eq_false b3) ?_
    and_intros
    rw [show arewB (.tuple cs) ((zs.length : Nat) : Int) 0 9 = false by simp [arewB, tupB]; omega]; rfl
  refine br_nY (decide_eq_true b3) ?_
  and_intros
  refine c_allF (α := Dt) [("number", 4)] (blkOk_by (N := NLC) (sc := defScope sLIsCity) (by decide +kernel)) ?_
  and_intros
  refine ⟨cs, _root_.id, fun x => withinB x 0 9, by simp, by omega, fun i x hx => ⟨_, fun s H C cl fp => by nofun, fun s H C cl fp => ?_⟩, ?_⟩
  · and_intros
    rfl
  rw [te cs 0 9 (by omega)]
  by_cases d6 : (cs.all fun x => withinB x 0 9) = true
  case neg =>
    have d7 : (cs.all fun x => withinB x 0 9) = false := by simpa using d6
    refine ⟨_, rfl, br_nbyf d7 ?_⟩
    and_intros
    rw [d7]; rfl
  refine ⟨_, rfl, br_nby d6 ?_⟩
  rw [d6, Bool.true_and]
  and_intros
  refine c_allF (α := Dt) [("table", 5)] (blkOk_by (N := NLC) (sc := defScope sLIsCity) (by decide +kernel)) ?_
  refine i_seq ?_
  and_intros
  refine ⟨[x3, x4], _root_.id, fun t => tblB t zs.length, rfl, by simp, fun i x hx => ⟨_, fun s H C cl fp => by nofun, fun s H C cl fp => ?_⟩, ?_⟩
  · and_intros
    refine ⟨fun h8 => ?_, fun h8 => ?_⟩
    · have h8 : closedB x = true := h8
      have t := closed_tab h8
      have ev := t.eq
      have go2 : tblB x zs.length = decide (((szD x : Nat) : Int) = ((zs.length : Nat) : Int)) := by unfold tblB; rw [h8, Bool.true_and]
      show XD _ _ _ fun y => y = PyData.bool (tblB x zs.length)
      rw [go2]
      have : ∃ rs, x = .tuple rs ∧ szD x = rs.length := ⟨_, ev, by rw [List.length_map, List.length_range]⟩
      obtain ⟨rs, rfl, e2⟩ := this
      rw [e2]
      and_intros
      rfl
    · have h8 : closedB x = false := h8
      show PyData.bool false = PyData.bool (tblB x zs.length)
      unfold tblB
      rw [h8]; rfl
  · show PyData.bool ([x3, x4].all fun t => tblB t zs.length) = _
    rw [List.all_cons, List.all_cons, List.all_nil, Bool.and_true]
theorem scLPut : FnScope ["row", "at", "thing"] ["row", "at", "thing"] (defScope sLPut) := ⟨rfl, rfl, rfl, by decide +kernel, rfl, by decide +kernel, by decide +kernel⟩
def putD (ds : List Dt) (i : Nat) (x : Dt) : List Dt := ds.take i ++ [x] ++ ds.drop (i + 1)
def rLPut (ds : List Dt) (d : Dt) : Prop := ∃ (es : List Dt) (i : Nat) (x : Dt), es.length ≤ 1000 ∧ ds = [.tuple es, .int ((i : Nat) : Int), x] ∧ d = .tuple (putD es i x)
theorem cut_lo' {ds : List Dt} {k : Nat} : Dv.cutD ds (some ((k : Nat) : Int)) none = ds.drop k := by simpa using cut_lo (xs := ds) (F := _root_.id) (k := k)
theorem cut_hi' {ds : List Dt} {k : Nat} : Dv.cutD ds none (some ((k : Nat) : Int)) = ds.take k := by
  unfold Dv.cutD
  rw [HT.sIx_nat, HT.sIx_none, List.drop_zero, Nat.sub_zero]
  by_cases h : k ≤ ds.length
  · rw [Nat.min_eq_left h]
  · rw [Nat.min_eq_right (by omega), List.take_of_length_le (Nat.le_refl _), List.take_of_length_le (by omega)]
theorem put_len {ds : List Dt} {i : Nat} {x : Dt} : (putD ds i x).length ≤ ds.length + 1 := by unfold putD; rw [List.length_append, List.length_append, List.length_take, List.length_drop]; simp; omega
theorem put_all {V : Dt → Prop} {es : List Dt} {i : Nat} {x : Dt} (h : ∀ d ∈ es, V d) (hx : V x) : ∀ d ∈ putD es i x, V d := fun d hd => by
  unfold putD at hd
  rcases List.mem_append.mp hd with hd | hd
  · rcases List.mem_append.mp hd with hd | hd
    · exact h d (List.mem_of_mem_take hd)
    · rcases List.mem_cons.mp hd with rfl | hd
      · exact hx
      · cases hd
  · exact h d (List.mem_of_mem_drop hd)
theorem f_lput (T : Free mg) (F : Fun K "_law_put" "_law_put" sLPut f fd) : FnG P w K mg base 1 f fd ["row", "at", "thing"] (spD K rLPut) := by
  refine fn_data F scLPut (fun ds d ⟨i, _, _, _, e, _⟩ => by subst e; rfl) fun cdv A outer s H E hr hgd hu ds d h => ?_
  obtain ⟨es, i, x, hl, rfl, rfl⟩ := h
  have hN := scLPut.nd
  and_intros
  rw [cut_hi']
  refine ⟨by simp, bp_catT ?_ ?_⟩
  · rw [List.length_take]; simp; omega
  and_intros
  rw [show ((i : Nat) : Int) + 1 = ((i + 1 : Nat) : Int) by omega, cut_lo']
  refine bp_catT ?_ rfl
  rw [List.length_append, List.length_take, List.length_drop]; simp; omega
abbrev NLB : List Str := ["pot", "row", "odd", "spots", "found", "at", "thing"]
theorem scLBent : FnScope NLB ["pot", "row", "odd"] (defScope sLBent) := ⟨rfl, rfl, rfl, by decide +kernel, rfl, by decide +kernel, by decide +kernel⟩
def rLBent (ds : List Dt) (U : Dt → Prop) : Prop := ∃ (ns : List Int) (odd : List Dt), 1 ≤ ns.length ∧ ns.length ≤ 8 ∧ (∀ i ∈ ns, 0 ≤ i ∧ i ≤ 2000) ∧ odd.length ≤ 10 ∧ (∀ d ∈ odd, OkD d 10 0) ∧ ds = [intsT ns, .list odd] ∧ U = fun d => ∃ es, d = .list es ∧ es.length ≤ 50 ∧ ∀ e ∈ es, OkD e 300 1
theorem f_lbent (T : Free mg) (C1 : Cal P w K mg base 1 "_law_draw" ["pot", "many"] sLDraw (spP K rLDraw)) (C2 : Cal P w K mg base 1 "_law_put" ["row", "at", "thing"] sLPut (spD K rLPut)) (F : Fun K "_law_rows_bent" "_law_rows_bent" sLBent f fd) : FnG P w K mg base 2 f fd ["pot", "row", "odd"] (spP K rLBent) := by
  refine fn_pot F scLBent (fun ds U ⟨_, _, _, _, _, _, _, e, _⟩ => by subst e; rfl) fun cdv A outer s H E hr hgd hu ds U h => ?_
  obtain ⟨ns, odd, n1, hn, hb, ho, hodd, rfl, rfl⟩ := h
  have hN := scLBent.nd
  have okI : ∀ d ∈ ns.map PyData.int, OkD d 10 0 := fun d hd => by
    obtain ⟨i, hi, rfl⟩ := List.mem_map.mp hd
    have := hb i hi
    exact (okd_int (by omega)).mono
  have hl : (ns.map PyData.int).length ≤ 8 := by rw [List.length_map]; exact hn
  refine s_st (by repeat (first | exact StR.nil | apply StR.d | apply StR.no)) ?_
  refine s_eq (by conv => { lhs; whnf }) ?_
  infer_instance
  refine XD.mono (U1 := fun d => ∃ es, d = .list es ∧ es.length ≤ 3 ∧ ∀ e ∈ es, ∃ p : Nat, p < ns.length ∧ e = .int ((p : Nat) : Int)) ?_ fun d hd => ?_
  · and_intros
    refine c_pot C1 (i := 0) (by repeat (first | exact Nx.z | apply Nx.s)) rfl ?_
    and_intros
    rw [List.length_map]
    refine ⟨_, ⟨(ns.length : Int), by omega, by omega, rfl, rfl⟩, fun d ⟨i, e, g1, g2⟩ => ?_⟩
    subst e
    and_intros
    obtain ⟨p, rfl⟩ := Int.eq_ofNat_of_zero_le g1
    refine ⟨by simp, _, rfl, by simp, fun e he => ?_⟩
    simp only [List.mem_cons, List.not_mem_nil, or_false] at he
    rcases he with rfl | rfl | rfl
    · exact ⟨0, by omega, rfl⟩
    · exact ⟨ns.length - 1, by omega, by congr 1; omega⟩
    · exact ⟨p, by omega, rfl⟩
  obtain ⟨es0, rfl, l3, hes⟩ := hd
  refine s_newOwn (i := 4) (F := fun es => [.pot, .d (intsT ns), .d (.list odd), .d (.list es0), .own es, .no, .no]) (by repeat (first | exact Nx.z | apply Nx.s)) (by intro _; repeat (first | exact SetR.z | apply SetR.s)) ?_
  refine o_lst (a_n ⟨by simp, ?_⟩)
  refine s_for ?_
  and_intros
  refine ⟨fun k z => ∃ es e1 e2, z = [.pot, .d (intsT ns), .d (.list odd), .d (.list es0), .own es, e1, e2] ∧ es.length ≤ 10 * k ∧ ∀ d ∈ es, OkD d 300 1, ⟨_, _, _, rfl, by simp, fun d hd => by cases hd⟩, fun k d δ' hd iv => ?_, fun δ' iv => ?_⟩
  · obtain ⟨es, e1, e2, rfl, q1, q2⟩ := iv
    obtain ⟨p, hp, rfl⟩ := hes d (List.mem_of_getElem? hd)
    refine ⟨_, _, by nofun, ?_⟩
    refine s_extend (i := 4) (F := fun es2 => [.pot, .d (intsT ns), .d (.list odd), .d (.list es0), .own (es ++ es2), .d (.int ((p : Nat) : Int)), e2]) (by repeat (first | exact Nx.z | apply Nx.s)) rfl (by intro _; repeat (first | exact SetR.z | apply SetR.s)) ?_
    refine LcO.xo (lco_map [("thing", 6)] (blkOk_by (N := NLB) (sc := defScope sLBent) (by decide +kernel)) ?_) hN
    and_intros
    refine ⟨by omega, fun _ _ y => OkD y 300 1, fun i d hd => ⟨_, fun s H C cl fp => by nofun, fun s H C cl fp => ?_⟩, fun out ho2 hr2 => ?_⟩
    · and_intros
      refine ⟨_, ⟨ns.map PyData.int, p, d, by omega, rfl, rfl⟩, ?_⟩
      exact okd_t (put_all okI (hodd d (List.mem_of_getElem? hd))) (by have := put_len (ds := ns.map PyData.int) (i := p) (x := d); omega)
    refine ⟨by have : k < es0.length := (List.getElem?_eq_some_iff.mp hd).1; omega, ?_⟩
    and_intros
    exact ⟨_, _, _, rfl, by rw [List.length_append]; omega, all_app q2 (all_out ho2 hr2)⟩
  · obtain ⟨es, e1, e2, rfl, q1, q2⟩ := iv
    refine s_freeze 4 rfl (by repeat (first | exact SetR.z | apply SetR.s)) ?_
    have cl : ∀ a b, (Dv.cutD (ns.map PyData.int) a b).length ≤ 8 := fun a b => by have := cut_le (ds := ns.map PyData.int) (lo := a) (hi := b); omega
    and_intros
    refine bp_catT (by have := cl none (some 1); omega) ?_
    and_intros
    refine ip_tup (at_map (i := 0) (getD_at (by omega))) ?_
    and_intros
    refine ⟨by simp, ?_⟩
    and_intros
    have b0 := hb _ (List.mem_of_getElem? (getD_at (ns := ns) (i := 0) (by omega)))
    refine ⟨by simp, bp_cat (by simp; omega) ⟨_, rfl, by simp; omega, all_app q2 fun e he => ?_⟩⟩
    simp only [List.mem_cons, List.not_mem_nil, or_false] at he
    rcases he with rfl | rfl | rfl | rfl | rfl | rfl | rfl
    · exact okd_t (all_cut okI) (by have := cl (some 1) none; omega)
    · exact okd_t (all_cut okI) (by have := cl none (some (-1)); omega)
    · exact okd_t (all_app okI (all_cut okI)) (by have := cl none (some 1); rw [List.length_append]; omega)
    · exact okd_l okI (by omega)
    · exact okd_none.mono
    · exact (oi (by omega) (by omega)).mono
    · exact okd_t (fun d hd => by cases hd) (by simp)
end
end K11

set_option linter.all false
set_option maxRecDepth 100000
set_option maxHeartbeats 4000000
namespace K11
open PySem PySem.Spec PyProof.Rows L2 RZ Dv
abbrev sLTab : Stmt := at_def "_law_tables_bent"
abbrev Cel (e : Dt) : Prop := OkD e 10 0 ∧ sok e = true
abbrev Rw (e : Dt) : Prop := OkD e 300 1 ∧ sok e = true
abbrev Tb (e : Dt) : Prop := OkD e 9100 2 ∧ sok e = true
theorem cel_i {i : Int} (h1 : -5000 ≤ i) (h2 : i ≤ 5000) : Cel (.int i) := ⟨oi h1 h2, rfl⟩
theorem rw_t {es : List Dt} (h : ∀ d ∈ es, Cel d) (hl : es.length ≤ 20) : Rw (.tuple es) := ⟨okd_t (fun d hd => (h d hd).1) hl, sokAll_of fun d hd => (h d hd).2⟩
theorem rw_l {es : List Dt} (h : ∀ d ∈ es, Cel d) (hl : es.length ≤ 20) : Rw (.list es) := ⟨okd_l (fun d hd => (h d hd).1) hl, sokAll_of fun d hd => (h d hd).2⟩
theorem tb_t {es : List Dt} (h : ∀ d ∈ es, Rw d) (hl : es.length ≤ 30) : Tb (.tuple es) := ⟨(okd_tuple (n := 30) (fun d hd => (h d hd).1) hl).mono, sokAll_of fun d hd => (h d hd).2⟩
theorem tb_l {es : List Dt} (h : ∀ d ∈ es, Rw d) (hl : es.length ≤ 30) : Tb (.list es) := ⟨(okd_list (n := 30) (fun d hd => (h d hd).1) hl).mono, sokAll_of fun d hd => (h d hd).2⟩
def RowN (n : Nat) (r : Dt) : Prop := ∃ cs, r = .tuple cs ∧ cs.length = n ∧ ∀ c ∈ cs, Cel c
theorem RowN.rw {n : Nat} {r : Dt} (h : RowN n r) (hn : n ≤ 20) : Rw r := by
  obtain ⟨cs, rfl, hl, hc⟩ := h
  exact rw_t hc (by omega)
theorem put_same {ds : List Dt} {i : Nat} {x : Dt} (h : i < ds.length) : (putD ds i x).length = ds.length := by unfold putD; rw [List.length_append, List.length_append, List.length_take, List.length_drop]; simp; omega
theorem putN {n i : Nat} {cs : List Dt} {x : Dt} (hl : cs.length = n) (hi : i < n) (hc : ∀ c ∈ cs, Cel c) (hx : Cel x) : RowN n (.tuple (putD cs i x)) := ⟨_, rfl, by rw [put_same (by omega)]; exact hl, put_all hc hx⟩
theorem at_m1 {rs : List Dt} {r : Dt} {n : Nat} (hl : rs.length = n + 1) (h : rs[n]? = some r) : atI rs (-1) = some r := by
  rcases List.eq_nil_or_concat rs with rfl | ⟨xs, x, rfl⟩
  · cases hl
  · rw [List.concat_eq_append] at h hl ⊢
    rw [List.length_append, List.length_singleton] at hl
    rw [List.getElem?_append_right (by omega), show n - xs.length = 0 by omega] at h
    cases h
    exact atI_last _ _
def TabsP (d : Dt) : Prop := ∃ es, d = .list es ∧ 0 < es.length ∧ es.length ≤ 100 ∧ ∀ e ∈ es, Tb e
def rLTab (ds : List Dt) (U : Dt → Prop) : Prop := ∃ (n : Nat) (C : Nat → Nat → Int), 1 ≤ n ∧ n ≤ 12 ∧ (∀ i j, i < n → j < n → 0 ≤ C i j ∧ C i j ≤ 1000) ∧ ds = [tabD n C] ∧ U = TabsP
theorem tab_rows {n : Nat} {C : Nat → Nat → Int} (hb : ∀ i j, i < n → j < n → 0 ≤ C i j ∧ C i j ≤ 1000) : ∃ rs, tabD n C = .tuple rs ∧ rs.length = n ∧ (∀ i, i < n → rs[i]? = some (.tuple (rowD n C i))) ∧ ∀ r ∈ rs, RowN n r :=
  ⟨_, rfl, by rw [List.length_map, List.length_range], fun i hi => by rw [List.getElem?_map, List.getElem?_range hi]; rfl, fun r hr => by
    obtain ⟨i, hi, rfl⟩ := List.mem_map.mp hr
    have hi := List.mem_range.mp hi
    refine ⟨_, rfl, rowD_len, fun c hc => ?_⟩
    unfold rowD at hc
    obtain ⟨j, hj, rfl⟩ := List.mem_map.mp hc
    have := hb i j hi (List.mem_range.mp hj)
    exact cel_i (by omega) (by omega)⟩
theorem row_at {n : Nat} {C : Nat → Nat → Int} {i j : Nat} (hj : j < n) : (rowD n C i)[j]? = some (.int (C i j)) := by unfold rowD; rw [List.getElem?_map, List.getElem?_range hj]; rfl
theorem row_cel {n : Nat} {C : Nat → Nat → Int} {i : Nat} (hb : ∀ i j, i < n → j < n → 0 ≤ C i j ∧ C i j ≤ 1000) (hi : i < n) : ∀ c ∈ rowD n C i, Cel c := fun c hc => by
  unfold rowD at hc
  obtain ⟨j, hj, rfl⟩ := List.mem_map.mp hc
  have := hb i j hi (List.mem_range.mp hj)
  exact cel_i (by omega) (by omega)
section
variable {P : Program} {w : World} {K : Fg} {mg : Str → Option Value} {base : Heap} {f : Addr} {fd : FuncData}
abbrev NLT : List Str := ["pot", "table", "many", "found", "turn", "one", "other", "number", "alone", "at"]
theorem scLTab : FnScope NLT ["pot", "table"] (defScope sLTab) := ⟨rfl, rfl, rfl, by decide +kernel, rfl, by decide +kernel, by decide +kernel⟩
theorem f_ltab (T : Free mg) (C1 : Cal P w K mg base 1 "_law_draw" ["pot", "many"] sLDraw (spP K rLDraw)) (C2 : Cal P w K mg base 1 "_law_put" ["row", "at", "thing"] sLPut (spD K rLPut)) (F : Fun K "_law_tables_bent" "_law_tables_bent" sLTab f fd) : FnG P w K mg base 2 f fd ["pot", "table"] (spP K rLTab) := by
  refine fn_pot F scLTab (fun ds U ⟨_, _, _, _, _, e, _⟩ => by subst e; rfl) fun cdv A outer s H E hr hgd hu ds U h => ?_
  obtain ⟨n, M, n1, n2, hb, rfl, rfl⟩ := h
  have hN := scLTab.nd
  obtain ⟨rs, e, rl, rat, rall⟩ := tab_rows hb
  rw [e]
  clear e
  have rws : ∀ r ∈ rs, Rw r := fun r hr => (rall r hr).rw (by omega)
  have cl : ∀ a b, (Dv.cutD rs a b).length ≤ 12 := fun a b => by have := cut_le (ds := rs) (lo := a) (hi := b); omega
  refine s_st (by repeat (first | exact StR.nil | apply StR.d | apply StR.no)) ?_
  refine s_eq (by conv => { lhs; whnf }) ?_
  refine s_two (i := 2) (j := 3) (F := fun d => [.pot, .d (.tuple rs), .d d, .no, .no, .no, .no, .no, .no, .no]) (G := fun d d2 => [.pot, .d (.tuple rs), .d d, .d d2, .no, .no, .no, .no, .no, .no]) (by repeat (first | exact Nx.z | apply Nx.s)) (by repeat (first | exact Nx.z | apply Nx.s)) (by intro _; repeat (first | exact SetR.z | apply SetR.s)) (by intro _ _; repeat (first | exact SetR.z | apply SetR.s)) ?_
  iterate 3 infer_instance
  rw [rl]
  refine XD.mono (U1 := fun d => ∃ es, d = .list es ∧ es.length = 6 ∧ ∀ e ∈ es, Tb e) ?_ fun d hd => ?_
  · and_intros
    refine bp_catT (by have := cl none (some 1); omega) ?_
    and_intros
    refine ⟨by simp, ?_⟩
    and_intros
    refine ⟨by simp, _, rfl, rfl, fun e he => ?_⟩
    simp only [List.mem_cons, List.not_mem_nil, or_false] at he
    rcases he with rfl | rfl | rfl | rfl | rfl | rfl
    · exact tb_l rws (by omega)
    · exact tb_t (all_cut rws) (by have := cl (some 1) none; omega)
    · exact tb_t (all_app rws (all_cut rws)) (by have := cl none (some 1); rw [List.length_append]; omega)
    · exact ⟨okd_none.mono, rfl⟩
    · exact tb_t (fun d hd => by cases hd) (by simp)
    · exact ⟨(oi (by omega) (by omega)).mono, rfl⟩
  obtain ⟨es0, rfl, l0, a0⟩ := hd
  infer_instance
  refine XD.mono (U1 := fun d => ∃ es, d = .list es ∧ es.length = 9 ∧ ∀ e ∈ es, Tb e) ?_ fun d hd => ?_
  · and_intros
    refine c_compR [("at", 9)] (blkOk_by (N := NLT) (sc := defScope sLTab) (by decide +kernel)) ?_
    refine i_seq (XD.mono (U1 := fun d => ∃ es, d = .list es ∧ es.length = 2 ∧ ∀ e ∈ es, ∃ p : Nat, p < n ∧ e = .int ((p : Nat) : Int)) ?_ fun d hd => ?_)
    · and_intros
      refine ⟨by simp, _, rfl, rfl, fun e he => ?_⟩
      simp only [List.mem_cons, List.not_mem_nil, or_false] at he
      rcases he with rfl | rfl
      · exact ⟨0, by omega, rfl⟩
      · exact ⟨n - 1, by omega, by congr 1; omega⟩
    obtain ⟨ps, rfl, p2, hps⟩ := hd
    refine seq_l ⟨by omega, fun _ _ y => Tb y, fun i d hd => ?_, fun out ho hr2 => ?_⟩
    · obtain ⟨p, hp, rfl⟩ := hps d (List.mem_of_getElem? hd)
      refine ⟨_, fun s H C cl fp => by nofun, fun s H C cl fp => ?_⟩
      and_intros
      refine ip_tup (atI_nat (rat p hp)) ?_
      and_intros
      refine ⟨_, ⟨rs, p, .list (rowD n M p), by omega, rfl, rfl⟩, ?_⟩
      exact tb_t (put_all rws (rw_l (row_cel hb hp) (by rw [rowD_len]; omega))) (by rw [put_same (by omega)]; omega)
    have o2 : out.length = 2 := by omega
    have oo := all_out ho hr2
    refine bp_cat (by omega) ?_
    and_intros
    obtain ⟨m, rfl⟩ : ∃ m, n = m + 1 := ⟨n - 1, by omega⟩
    refine ip_tup (at_m1 rl (rat m (by omega))) ?_
    and_intros
    rw [show (((m + 1 : Nat) : Int)) - 1 = ((m : Nat) : Int) by omega]
    refine ⟨_, ⟨rs, m, .tuple (Dv.cutD (rowD (m + 1) M m) none (some (-1))), by omega, rfl, rfl⟩, ?_⟩
    and_intros
    have c2 := cut_le (ds := rowD (m + 1) M m) (lo := none) (hi := some (-1))
    rw [rowD_len] at c2
    refine ⟨by simp, bp_cat (by rw [List.length_append]; simp; omega) ⟨_, rfl, by rw [List.length_append, List.length_append, o2, l0]; rfl, all_app (all_app a0 oo) (all_one (tb_t (put_all rws (rw_t (all_cut (row_cel hb (by omega))) (by omega))) (by rw [put_same (by omega)]; omega)))⟩⟩
  obtain ⟨es1, rfl, l1, a1⟩ := hd
  refine s_for ?_
  and_intros
  refine ⟨by decide, fun k z => ∃ (es : List Dt) (a b c d e : En), z = [.pot, .d (.tuple rs), .d (.int ((n : Nat) : Int)), .d (.list es), a, b, c, d, e, .no] ∧ 9 ≤ es.length ∧ es.length ≤ 9 + 20 * k ∧ ∀ e ∈ es, Tb e, ⟨_, _, _, _, _, _, rfl, by omega, by omega, a1⟩, fun k d δ' hd iv => ?_, fun δ' iv => ?_⟩
  case refine_2 =>
    obtain ⟨es, a, b, c, d, e, rfl, q0, q1, q2⟩ := iv
    and_intros
    exact ⟨by omega, by rw [rngD_length] at q1; have : (4 : Int).toNat = 4 := rfl; omega, q2⟩
  obtain ⟨es, a, b, c, d', e, rfl, q0, q1, q2⟩ := iv
  obtain ⟨v4, rfl⟩ := rngD_at hd
  have v4 : k < 4 := v4
  refine ⟨_, _, by nofun, ?_⟩
  refine s_eq (by conv => { lhs; whnf }) ?_
  refine s_unp ?_
  refine XD.mono (U1 := fun d => ∃ p q : Nat, p < n ∧ q < n ∧ d = .tuple [.int ((p : Nat) : Int), .int ((q : Nat) : Int)]) ?_ fun d hd2 => ?_
  · and_intros
    refine ⟨by simp, ?_⟩
    and_intros
    refine ⟨by simp, ?_⟩
    and_intros
    refine c_pot C1 (i := 0) (by repeat (first | exact Nx.z | apply Nx.s)) rfl ?_
    and_intros
    refine ⟨_, ⟨(n : Int), by omega, by omega, rfl, rfl⟩, fun d ⟨i, e, g1, g2⟩ => ?_⟩
    subst e
    infer_instance
    refine c_pot C1 (i := 0) (by repeat (first | exact Nx.z | apply Nx.s)) rfl ?_
    and_intros
    refine ⟨_, ⟨(n : Int), by omega, by omega, rfl, rfl⟩, fun d ⟨j, e, g3, g4⟩ => ?_⟩
    subst e
    obtain ⟨i, rfl⟩ := Int.eq_ofNat_of_zero_le g1
    obtain ⟨j, rfl⟩ := Int.eq_ofNat_of_zero_le g3
    and_intros
    refine ⟨by simp, ?_⟩
    and_intros
    refine ⟨by simp, ?_⟩
    and_intros
    refine ⟨by simp, ?_⟩
    rcases (show k = 0 ∨ k = 1 ∨ k = 2 ∨ k = 3 by omega) with rfl | rfl | rfl | rfl
    · and_intros
      exact ⟨0, n - 1, by omega, by omega, congrArg (fun z => PyData.tuple [.int 0, .int z]) (show (n : Int) - 1 = ((n - 1 : Nat) : Int) by omega)⟩
    · and_intros
      exact ⟨n - 1, 0, by omega, by omega, congrArg (fun z => PyData.tuple [.int z, .int 0]) (show (n : Int) - 1 = ((n - 1 : Nat) : Int) by omega)⟩
    · and_intros
      exact ⟨i, j, by omega, by omega, rfl⟩
    · and_intros
      exact ⟨n - 1, n - 1, by omega, by omega, congrArg (fun z => PyData.tuple [.int z, .int z]) (show (n : Int) - 1 = ((n - 1 : Nat) : Int) by omega)⟩
  obtain ⟨p, q, hp, hq, rfl⟩ := hd2
  refine ⟨_, _, by nofun, ?_⟩
  refine s_eq (by conv => { lhs; whnf }) ?_
  refine s_for ?_
  refine i_seq (XD.mono (U1 := fun d => ∃ ns, d = .list ns ∧ ns.length = 10 ∧ ∀ c ∈ ns, Cel c) ?_ fun d hd2 => ?_)
  · and_intros
    refine ip_tup (atI_nat (rat p hp)) ?_
    and_intros
    refine ip_tup (atI_nat (row_at hq)) ?_
    and_intros
    refine ip_tup (atI_nat (rat p hp)) ?_
    and_intros
    refine ip_tup (atI_nat (row_at hq)) ?_
    and_intros
    have := hb p q hp hq
    refine ⟨by simp, _, rfl, rfl, fun e he => ?_⟩
    simp only [List.mem_cons, List.not_mem_nil, or_false] at he
    rcases he with rfl | rfl | rfl | rfl | rfl | rfl | rfl | rfl | rfl | rfl
    · exact cel_i (by omega) (by omega)
    · exact cel_i (by omega) (by omega)
    · exact cel_i (by omega) (by omega)
    · exact cel_i (by omega) (by omega)
    · exact cel_i (by omega) (by omega)
    · exact ⟨okd_bool.mono, rfl⟩
    · exact ⟨okd_none.mono, rfl⟩
    · exact ⟨(okd_strS : OkD (.str "3") 10 0), by decide +kernel⟩
    · exact cel_i (by omega) (by omega)
    · exact cel_i (by omega) (by omega)
  obtain ⟨ns, rfl, ns10, hns⟩ := hd2
  refine seq_l ⟨fun k2 z => ∃ (es : List Dt) (a b : En), z = [.pot, .d (.tuple rs), .d (.int ((n : Nat) : Int)), .d (.list es), .d (.int (0 + ((k : Nat) : Int))), .d (.int ((p : Nat) : Int)), .d (.int ((q : Nat) : Int)), a, b, .no] ∧ 9 ≤ es.length ∧ es.length ≤ 9 + 20 * k + 2 * k2 ∧ ∀ e ∈ es, Tb e, ⟨_, _, _, rfl, by omega, by omega, q2⟩, fun k2 d δ' hd iv => ?_, fun δ' iv => ?_⟩
  case refine_2 =>
    obtain ⟨es, a, b, rfl, q0, q1, q2⟩ := iv
    and_intros
    exact ⟨_, _, _, _, _, _, rfl, by omega, by omega, q2⟩
  obtain ⟨es, a, b, rfl, q0, q1, q2⟩ := iv
  have hc := hns d (List.mem_of_getElem? hd)
  have k3 : k2 < ns.length := (List.getElem?_eq_some_iff.mp hd).1
  refine ⟨_, _, by nofun, ?_⟩
  refine s_eq (by conv => { lhs; whnf }) ?_
  and_intros
  refine ip_tup (atI_nat (rat p hp)) ?_
  and_intros
  refine ⟨_, ⟨rowD n M p, q, d, by rw [rowD_len]; omega, rfl, rfl⟩, ?_⟩
  and_intros
  have rN : RowN n (.tuple (putD (rowD n M p) q d)) := putN rowD_len hq (row_cel hb hp) hc
  refine ⟨_, ⟨rs, p, .tuple (putD (rowD n M p) q d), by omega, rfl, rfl⟩, ?_⟩
  obtain ⟨al, eal, al1, al2⟩ : ∃ al, putD rs p (.tuple (putD (rowD n M p) q d)) = al ∧ al.length = n ∧ ∀ r ∈ al, RowN n r := ⟨_, rfl, by rw [put_same (by omega)]; exact rl, put_all rall rN⟩
  rw [eal]
  clear eal rN
  obtain ⟨r, hr2⟩ : ∃ r, al[q]? = some r := ⟨_, List.getElem?_eq_getElem (by omega)⟩
  obtain ⟨cs, rfl, cs1, cs2⟩ := al2 r (List.mem_of_getElem? hr2)
  and_intros
  refine ip_tup (atI_nat hr2) ?_
  and_intros
  refine ⟨_, ⟨cs, p, d, by omega, rfl, rfl⟩, ?_⟩
  and_intros
  refine ⟨_, ⟨al, q, .tuple (putD cs p d), by omega, rfl, rfl⟩, ?_⟩
  and_intros
  have all3 : ∀ e ∈ putD al q (.tuple (putD cs p d)), Rw e := put_all (fun e he => (al2 e he).rw (by omega)) ((putN cs1 hp cs2 hc).rw (by omega))
  refine ⟨by simp, bp_cat (by simp; omega) ?_⟩
  and_intros
  refine ⟨_, _, _, rfl, by rw [List.length_append]; omega, by rw [List.length_append]; simp; omega, all_app q2 fun e he => ?_⟩
  simp only [List.mem_cons, List.not_mem_nil, or_false] at he
  rcases he with rfl | rfl
  · exact tb_t (fun e he => (al2 e he).rw (by omega)) (by omega)
  · exact tb_t all3 (by rw [put_same (by omega)]; omega)
end
end K11

set_option linter.all false
set_option maxRecDepth 100000
set_option maxHeartbeats 4000000
namespace K11
open PySem PySem.Spec PyProof.Rows L2 RZ Dv
abbrev sLValues : Stmt := at_def "_law_values"
abbrev Val (e : Dt) : Prop := OkD e 300000 6
theorem val_t {es : List Dt} (h : ∀ d ∈ es, OkD d 9100 3) (hl : es.length ≤ 20) : Val (.tuple es) := (okd_tuple (n := 20) h hl).mono
theorem val_l {es : List Dt} (h : ∀ d ∈ es, OkD d 9100 3) (hl : es.length ≤ 20) : Val (.list es) := (okd_list (n := 20) h hl).mono
theorem Closed.num {n : Nat} {C : Nat → Nat → Int} (c : Closed n 120 C) : ∀ i j, i < n → j < n → 0 ≤ C i j ∧ C i j ≤ 1000 := fun i j hi hj => by
  by_cases e : i = j
  · subst e; rw [c.way.dia i hi]; omega
  · have := c.way.pos i j hi hj e; omega
theorem tab_ok {n : Nat} {C : Nat → Nat → Int} (hb : ∀ i j, i < n → j < n → 0 ≤ C i j ∧ C i j ≤ 1000) (hn : n ≤ 12) : OkD (tabD n C) 9100 2 := by
  obtain ⟨rs, e, rl, _, ra⟩ := tab_rows hb
  rw [e]
  exact (tb_t (fun r hr => (ra r hr).rw (by omega)) (by omega)).1
def ValsP (d : Dt) : Prop := ∃ es, d = .list es ∧ 0 < es.length ∧ es.length ≤ 500 ∧ ∀ e ∈ es, Val e
section
variable {P : Program} {w : World} {K : Fg} {mg : Str → Option Value} {base : Heap} {f : Addr} {fd : FuncData}
abbrev NLV : List Str := ["pot", "city", "found", "table", "zones", "changes"]
theorem scLValues : FnScope NLV ["pot", "city"] (defScope sLValues) := ⟨rfl, rfl, rfl, by decide +kernel, rfl, by decide +kernel, by decide +kernel⟩
def rLValues (ds : List Dt) (U : Dt → Prop) : Prop := ∃ c : City, c.ok ∧ c.n ≤ 8 ∧ ds = [c.d] ∧ U = ValsP
theorem f_lvalues (T : Free mg) (C1 : Cal P w K mg base 2 "_law_rows_bent" ["pot", "row", "odd"] sLBent (spP K rLBent)) (C2 : Cal P w K mg base 2 "_law_tables_bent" ["pot", "table"] sLTab (spP K rLTab)) (F : Fun K "_law_values" "_law_values" sLValues f fd) : FnG P w K mg base 3 f fd ["pot", "city"] (spP K rLValues) := by
  refine fn_pot F scLValues (fun ds U ⟨_, _, _, e, _⟩ => by subst e; rfl) fun cdv A outer s H E hr hgd hu ds U h => ?_
  obtain ⟨y, ok, n8, rfl, rfl⟩ := h
  have hN := scLValues.nd
  have zi : ∀ d ∈ y.zones.map PyData.int, OkD d 10 0 := fun d hd => by
    obtain ⟨i, hi, rfl⟩ := List.mem_map.mp hd
    have := ok.zb i hi
    exact oi (by omega) (by omega)
  have ci : ∀ d ∈ y.changes.map PyData.int, OkD d 10 0 := fun d hd => by
    obtain ⟨i, hi, rfl⟩ := List.mem_map.mp hd
    have := ok.cb i hi
    exact oi (by omega) (by omega)
  have wb := ok.wk.num
  have db := ok.dr.num
  have zl := ok.zl
  have cl0 := ok.cl
  have n1 := ok.n1
  obtain ⟨es5, e5, l5, a1, a2, a3, a4, ob⟩ : ∃ es5, y.d = .tuple es5 ∧ es5.length = 5 ∧ es5[1]? = some (intsT y.zones) ∧ es5[2]? = some (intsT y.changes) ∧ es5[3]? = some (tabD y.n y.walk) ∧ es5[4]? = some (tabD y.n y.drive) ∧ ∀ d ∈ es5, OkD d 9100 3 := by
    refine ⟨_, rfl, rfl, rfl, rfl, rfl, rfl, fun d hd => ?_⟩
    simp only [List.mem_cons, List.not_mem_nil, or_false] at hd
    rcases hd with rfl | rfl | rfl | rfl | rfl
    · exact (okd_strS : OkD (.str "city") 10 0).mono
    · exact (okd_t zi (by rw [List.length_map]; omega)).mono
    · exact (okd_t ci (by rw [List.length_map]; omega)).mono
    · exact (tab_ok wb (by omega)).mono
    · exact (tab_ok db (by omega)).mono
  rw [e5]
  clear e5
  have cl : ∀ a b, (Dv.cutD es5 a b).length ≤ 5 := fun a b => by have := cut_le (ds := es5) (lo := a) (hi := b); omega
  have oc : ∀ {a b}, ∀ d ∈ Dv.cutD es5 a b, OkD d 9100 3 := all_cut ob
  refine s_st (by repeat (first | exact StR.nil | apply StR.d | apply StR.no)) ?_
  refine s_eq (by conv => { lhs; whnf }) ?_
  refine s_let (i := 2) (F := fun d => [.pot, .d (.tuple es5), .d d, .no, .no, .no]) (by repeat (first | exact Nx.z | apply Nx.s)) (by intro _; repeat (first | exact SetR.z | apply SetR.s)) ?_
  refine XD.mono (U1 := fun d => ∃ es, d = .list es ∧ es.length = 7 ∧ ∀ e ∈ es, Val e) ?_ fun d hd => ?_
  · and_intros
    refine ⟨by simp, bp_catT (by simp; omega) ?_⟩
    and_intros
    refine ⟨by simp, ?_⟩
    and_intros
    have c1 := cl (some 1) none
    refine bp_catT (by simp; omega) ?_
    and_intros
    refine ⟨by simp, ?_⟩
    and_intros
    refine bp_catT (by simp; omega) ?_
    and_intros
    refine ⟨by simp, ?_⟩
    and_intros
    refine ⟨by simp, ?_⟩
    and_intros
    refine bp_catT (by simp; omega) ?_
    and_intros
    refine ⟨by simp, _, rfl, rfl, fun e he => ?_⟩
    simp only [List.mem_cons, List.not_mem_nil, or_false] at he
    have c2 := cl none (some (-1))
    rcases he with rfl | rfl | rfl | rfl | rfl | rfl | rfl
    · exact val_t ob (by omega)
    · exact val_l ob (by omega)
    · exact val_t oc (by omega)
    · exact val_t (all_app ob (all_one (oi (by omega) (by omega)).mono)) (by simp; omega)
    · exact val_t (all_app (all_one (okd_strS : OkD (.str "City") 10 0).mono) oc) (by simp; omega)
    · exact val_t (all_app (all_one (oi (by omega) (by omega)).mono) oc) (by simp; omega)
    · exact val_t (all_app (all_one (okd_l (all_one (okd_strS : OkD (.str "city") 10 0)) (by simp)).mono) oc) (by simp; omega)
  obtain ⟨es0, rfl, l0, q0⟩ := hd
  refine s_eq (by conv => { lhs; whnf }) ?_
  refine s_let (i := 2) (F := fun d => [.pot, .d (.tuple es5), .d d, .no, .no, .no]) (by repeat (first | exact Nx.z | apply Nx.s)) (by intro _; repeat (first | exact SetR.z | apply SetR.s)) ?_
  refine XD.mono (U1 := fun d => ∃ es, d = .list es ∧ 7 ≤ es.length ∧ es.length ≤ 57 ∧ ∀ e ∈ es, Val e) ?_ fun d hd => ?_
  · and_intros
    refine c_compR [("zones", 4)] (blkOk_by (N := NLV) (sc := defScope sLValues) (by decide +kernel)) ?_
    refine i_seq ?_
    refine c_pot C1 (i := 0) (by repeat (first | exact Nx.z | apply Nx.s)) rfl ?_
    and_intros
    refine ip_tup (atI_nat (j := 1) a1) ?_
    and_intros
    refine ⟨by simp, ?_⟩
    and_intros
    refine ⟨_, ⟨y.zones, _, by omega, by omega, fun i hi => by have := ok.zb i hi; omega, ?_, ?_, rfl, rfl⟩, fun d ⟨es, e, el, ev⟩ => ?_⟩
    · simp
    · intro d hd
      simp only [List.mem_cons, List.not_mem_nil, or_false] at hd
      rcases hd with rfl | rfl | rfl | rfl | rfl | rfl | rfl <;> first | exact oi (by omega) (by omega) | exact okd_bool.mono | exact okd_none.mono | exact okd_strS
    subst e
    refine seq_l ⟨by omega, fun _ _ y => Val y, fun i d hd => ⟨_, fun s H C cl fp => by nofun, fun s H C cl fp => ?_⟩, fun out ho hr2 => ?_⟩
    · have hd := ev d (List.mem_of_getElem? hd)
      and_intros
      refine ⟨by simp, ?_⟩
      and_intros
      have c1 := cut_le (ds := es5) (lo := some 2) (hi := none)
      refine bp_catT (by simp; omega) ?_
      refine val_t (all_app (fun d hd => ?_) oc) (by simp; omega)
      simp only [List.mem_cons, List.not_mem_nil, or_false] at hd
      rcases hd with rfl | rfl
      · exact (okd_strS : OkD (.str "city") 10 0).mono
      · exact OkD.mono (by assumption)
    exact bp_cat (by omega) ⟨_, rfl, by rw [List.length_append]; omega, by rw [List.length_append]; omega, all_app q0 (all_out ho hr2)⟩
  obtain ⟨es1, rfl, l1, l1', q1⟩ := hd
  refine s_eq (by conv => { lhs; whnf }) ?_
  refine s_newOwn (i := 2) (F := fun es => [.pot, .d (.tuple es5), .own es, .no, .no, .no]) (by repeat (first | exact Nx.z | apply Nx.s)) (by intro _; repeat (first | exact SetR.z | apply SetR.s)) ?_
  refine o_cat ?_
  infer_instance
  refine c_compR [("changes", 5)] (blkOk_by (N := NLV) (sc := defScope sLValues) (by decide +kernel)) ?_
  refine i_seq ?_
  refine c_pot C1 (i := 0) (by repeat (first | exact Nx.z | apply Nx.s)) rfl ?_
  and_intros
  refine ip_tup (atI_nat (j := 2) a2) ?_
  and_intros
  refine ⟨by simp, ?_⟩
  and_intros
  refine ⟨_, ⟨y.changes, _, by omega, by omega, fun i hi => by have := ok.cb i hi; omega, ?_, ?_, rfl, rfl⟩, fun d ⟨es, e, el, ev⟩ => ?_⟩
  · simp
  · intro d hd
    simp only [List.mem_cons, List.not_mem_nil, or_false] at hd
    rcases hd with rfl | rfl | rfl | rfl | rfl | rfl | rfl <;> first | exact oi (by omega) (by omega) | exact okd_bool.mono | exact okd_none.mono | exact okd_strS
  subst e
  refine seq_l ⟨by omega, fun _ _ y => Val y, fun i d hd => ⟨_, fun s H C cl fp => by nofun, fun s H C cl fp => ?_⟩, fun out ho hr2 => ?_⟩
  · have hd := ev d (List.mem_of_getElem? hd)
    and_intros
    have c1 := cut_le (ds := es5) (lo := none) (hi := some 2)
    have c2 := cut_le (ds := es5) (lo := some 3) (hi := none)
    refine ⟨by simp, bp_catT (by simp; omega) ?_⟩
    and_intros
    refine bp_catT (by simp; omega) ?_
    exact val_t (all_app (all_app oc (all_one (OkD.mono (by assumption)))) oc) (by simp; omega)
  refine ⟨_, _, rfl, rfl, by omega, ?_⟩
  obtain ⟨zs, ez, z1, z2, zv⟩ : ∃ zs, es1 ++ out = zs ∧ 7 ≤ zs.length ∧ zs.length ≤ 107 ∧ ∀ e ∈ zs, Val e := ⟨_, rfl, by rw [List.length_append]; omega, by rw [List.length_append]; omega, all_app q1 (all_out ho hr2)⟩
  rw [ez]
  clear ez q1 hr2 ho l1 l1'
  refine s_eq (by conv => { lhs; whnf }) ?_
  refine s_for ?_
  refine i_seq ?_
  refine c_pot C2 (i := 0) (by repeat (first | exact Nx.z | apply Nx.s)) rfl ?_
  and_intros
  refine ip_tup (atI_nat (j := 3) a3) ?_
  and_intros
  refine ⟨_, ⟨_, _, n1, by omega, wb, rfl, rfl⟩, fun d ⟨ts, e, t0, t1, tv⟩ => ?_⟩
  subst e
  refine seq_l ⟨fun k z => ∃ (es : List Dt) (a : En), z = [.pot, .d (.tuple es5), .own es, a, .no, .no] ∧ 7 ≤ es.length ∧ es.length ≤ 107 + k ∧ ∀ e ∈ es, Val e, ⟨_, _, rfl, by omega, by omega, zv⟩, fun k d δ' hd iv => ?_, fun δ' iv => ?_⟩
  · obtain ⟨es, a, rfl, l2, l3, ev⟩ := iv
    have hv := tv d (List.mem_of_getElem? hd)
    have kt : k < ts.length := (List.getElem?_eq_some_iff.mp hd).1
    refine ⟨_, _, by nofun, ?_⟩
    refine s_append (i := 2) (F := fun x => [.pot, .d (.tuple es5), .own (es ++ [x]), .d d, .no, .no]) (by repeat (first | exact Nx.z | apply Nx.s)) rfl (by intro _; repeat (first | exact SetR.z | apply SetR.s)) (by omega) ?_
    and_intros
    have c1 := cut_le (ds := es5) (lo := none) (hi := some 3)
    have c2 := cut_le (ds := es5) (lo := some 4) (hi := none)
    refine ⟨by simp, bp_catT (by simp; omega) ?_⟩
    and_intros
    refine bp_catT (by simp; omega) ?_
    and_intros
    exact ⟨_, _, rfl, by rw [List.length_append]; omega, by rw [List.length_append]; simp; omega, all_app ev (all_one (val_t (all_app (all_app oc (all_one hv.1.mono)) oc) (by simp; omega)))⟩
  obtain ⟨es, a, rfl, l2, l3, ev⟩ := iv
  refine s_eq (by conv => { lhs; whnf }) ?_
  refine s_for ?_
  refine i_seq ?_
  refine c_pot C2 (i := 0) (by repeat (first | exact Nx.z | apply Nx.s)) rfl ?_
  and_intros
  refine ip_tup (atI_nat (j := 4) a4) ?_
  and_intros
  refine ⟨_, ⟨_, _, n1, by omega, db, rfl, rfl⟩, fun d ⟨ts2, e, t0', t1', tv2⟩ => ?_⟩
  subst e
  refine seq_l ⟨fun k z => ∃ (es : List Dt) (a : En), z = [.pot, .d (.tuple es5), .own es, a, .no, .no] ∧ 7 ≤ es.length ∧ es.length ≤ 207 + k ∧ ∀ e ∈ es, Val e, ⟨_, _, rfl, by omega, by omega, ev⟩, fun k d δ' hd iv => ?_, fun δ' iv => ?_⟩
  · obtain ⟨es, a, rfl, l2, l3, ev⟩ := iv
    have hv := tv2 d (List.mem_of_getElem? hd)
    have kt : k < ts2.length := (List.getElem?_eq_some_iff.mp hd).1
    refine ⟨_, _, by nofun, ?_⟩
    refine s_append (i := 2) (F := fun x => [.pot, .d (.tuple es5), .own (es ++ [x]), .d d, .no, .no]) (by repeat (first | exact Nx.z | apply Nx.s)) rfl (by intro _; repeat (first | exact SetR.z | apply SetR.s)) (by omega) ?_
    and_intros
    have c1 := cut_le (ds := es5) (lo := none) (hi := some 4)
    refine ⟨by simp, bp_catT (by simp; omega) ?_⟩
    and_intros
    exact ⟨_, _, rfl, by rw [List.length_append]; omega, by rw [List.length_append]; simp; omega, all_app ev (all_one (val_t (all_app oc (all_one hv.1.mono)) (by simp; omega)))⟩
  obtain ⟨es, a, rfl, l2, l3, ev⟩ := iv
  refine s_freeze 2 rfl (by repeat (first | exact SetR.z | apply SetR.s)) ?_
  and_intros
  iterate 15 (refine ⟨by simp, ?_⟩; and_intros)
  refine ⟨by simp, bp_cat (by simp; omega) ⟨_, rfl, by rw [List.length_append]; omega, by rw [List.length_append]; simp; omega, all_app ev fun e he => ?_⟩⟩
  have sC : OkD (.str "city") 10 0 := okd_strS
  have r1 : OkD (.tuple [.int 1]) 300 1 := okd_t (all_one (oi (by omega) (by omega))) (by simp)
  have r0 : OkD (.tuple [.int 0]) 300 1 := okd_t (all_one (oi (by omega) (by omega))) (by simp)
  have rr : OkD (.tuple [.tuple [.int 0]]) 9100 3 := (okd_tuple (n := 1) (all_one r0)).mono
  have re : OkD (.tuple []) 300 1 := okd_t (fun d hd => by cases hd) (by simp)
  simp only [List.mem_cons, List.not_mem_nil, or_false] at he
  rcases he with rfl | rfl | rfl | rfl | rfl | rfl | rfl | rfl | rfl | rfl | rfl
  · exact okd_none.mono
  · exact (oi (by omega) (by omega)).mono
  · exact okd_bool.mono
  · exact sC.mono
  · exact (okd_strS : OkD (.str "") 10 0).mono
  · exact val_l (fun d hd => by cases hd) (by simp)
  · exact val_t (fun d hd => by cases hd) (by simp)
  · exact okd_dict.mono
  · exact val_t (all_one sC.mono) (by simp)
  · refine val_t (fun d hd => ?_) (by simp)
    simp only [List.mem_cons, List.not_mem_nil, or_false] at hd
    rcases hd with rfl | rfl | rfl | rfl | rfl <;> first | exact sC.mono | exact r1.mono | exact r0.mono | exact rr
  · refine val_t (fun d hd => ?_) (by simp)
    simp only [List.mem_cons, List.not_mem_nil, or_false] at hd
    rcases hd with rfl | rfl | rfl | rfl | rfl <;> first | exact sC.mono | exact re.mono
end
end K11

set_option linter.all false
set_option maxRecDepth 100000
set_option maxHeartbeats 4000000
namespace K11
open PySem PySem.Spec PyProof.Rows L2 RZ Dv
abbrev sLClosedR : Stmt := at_def "_law_closed_right"
abbrev sLBetw : Stmt := at_def "_law_between_right"
abbrev sLSome : Stmt := at_def "_law_some"
theorem close_two {v : Dt} (h : waysB v = true) : waysB (tabD (szD v) (closeL (szD v) (matOf v))) = true ∧ tabD (szD v) (closeL (szD v) (matOf v)) = tabD (szD (tabD (szD v) (closeL (szD v) (matOf v)))) (closeL (szD (tabD (szD v) (closeL (szD v) (matOf v)))) (matOf (tabD (szD v) (closeL (szD v) (matOf v))))) ∧ OkD (tabD (szD v) (closeL (szD v) (matOf v))) 9100 2 := by
  obtain ⟨way, sym⟩ := ways_of h
  have t := tab_of (ways_tab h)
  have n1 := t.n1
  have n2 := t.n2
  have cc := close_closed sym way
  generalize szD v = n at *
  generalize matOf v = M at *
  clear t h way sym
  generalize closeL n M = C at *
  have w2 := ways_ok cc.way n1 n2
  refine ⟨w2, ?_, tab_ok cc.num n2⟩
  rw [sz_tab]
  obtain ⟨way2, _⟩ := ways_of w2
  rw [sz_tab] at way2
  have tri : ∀ i j k, i < n → j < n → k < n → matOf (tabD n C) i j ≤ matOf (tabD n C) i k + matOf (tabD n C) k j := fun i j k hi hj hk => by
    rw [mat_tab hi hj, mat_tab hi hk, mat_tab hk hj]; exact cc.tri i j k hi hj hk
  refine tabD_congr fun i j hi hj => ?_
  rw [(close_same way2).mpr tri i j hi hj, mat_tab hi hj]
section
variable {P : Program} {w : World} {K : Fg} {mg : Str → Option Value} {base : Heap} {f : Addr} {fd : FuncData}
abbrev NCR : List Str := ["table", "shown", "told", "due", "row"]
theorem scLClosedR : FnScope NCR ["table"] (defScope sLClosedR) := ⟨rfl, rfl, rfl, by decide +kernel, rfl, by decide +kernel, by decide +kernel⟩
def rLClosedR (ds : List Dt) (d : Dt) : Prop := ∃ v : Dt, waysB v = true ∧ OkD v 390000 40 ∧ ds = [v] ∧ d = .bool true
theorem f_lclosedr (T : Free mg) (C1 : Cal P w K mg base 5 "closed" ["table"] sClosed (spD K rClosed)) (C2 : Cal P w K mg base 1 "_law_closed" ["table"] sLClosed (spD K rLClosed)) (F : Fun K "_law_closed_right" "_law_closed_right" sLClosedR f fd) : FnG P w K mg base 6 f fd ["table"] (spD K rLClosedR) := by
  refine fn_data F scLClosedR (fun ds d ⟨_, _, _, e, _⟩ => by subst e; rfl) fun cdv A outer s H E hr hgd hu ds d h => ?_
  obtain ⟨v, hw, okv, rfl, rfl⟩ := h
  have hN := scLClosedR.nd
  obtain ⟨way, sym⟩ := ways_of hw
  have t := tab_of (ways_tab hw)
  have n1 := t.n1
  have n2 := t.n2
  have ev := t.eq
  obtain ⟨w2, e2, okD2⟩ := close_two hw
  obtain ⟨D, eD⟩ : ∃ D, tabD (szD v) (closeL (szD v) (matOf v)) = D := ⟨_, rfl⟩
  rw [eD] at w2 e2 okD2
  have okL : OkD (.list [D, D, D]) 390000 40 := (okd_list (n := 3) (b := 9100) (k := 2) fun d hd => by
    simp only [List.mem_cons, List.not_mem_nil, or_false] at hd
    rcases hd with rfl | rfl | rfl <;> exact okD2).mono
  refine s_st (by repeat (first | exact StR.nil | apply StR.d | apply StR.no)) ?_
  refine s_eq (by conv => { lhs; whnf }) ?_
  refine s_three (i := 1) (j := 2) (l := 3) (F := fun d => [.d v, .d d, .no, .no, .no]) (G := fun d d2 => [.d v, .d d, .d d2, .no, .no]) (L := fun d d2 d3 => [.d v, .d d, .d d2, .d d3, .no]) (by repeat (first | exact Nx.z | apply Nx.s)) (by repeat (first | exact Nx.z | apply Nx.s)) (by repeat (first | exact Nx.z | apply Nx.s)) (by intro _; repeat (first | exact SetR.z | apply SetR.s)) (by intro _ _; repeat (first | exact SetR.z | apply SetR.s)) (by intro _ _ _; repeat (first | exact SetR.z | apply SetR.s)) ?_
  and_intros
  refine f_repr hgd hu okv ?_
  and_intros
  refine ⟨D, ⟨_, 120, _, n1, n2, sym, way, congrArg (fun z => [z]) ev, eD.symm⟩, ?_⟩
  rw [eD]
  and_intros
  refine c_callK (ks := ["table"]) [0] C1 (kw_c ?_) (fun _ _ _ _ _ _ us hl => match us, hl with | [_], _ => rfl)
  and_intros
  refine kw_n ⟨rfl, D, ⟨v, hw, rfl, eD.symm⟩, ?_⟩
  and_intros
  rw [← e2]
  refine ⟨by simp, f_repr hgd hu okL ?_⟩
  and_intros
  refine ⟨by simp, f_repr hgd hu okL ?_⟩
  and_intros
  refine br_nY (decide_eq_true rfl) ?_
  and_intros
  refine f_repr hgd hu okv ?_
  and_intros
  refine br_nis rfl ?_
  and_intros
  refine ⟨fun _ => ?_, fun z => by rw [← eD] at z; cases z⟩
  infer_instance
  refine c_allF (α := Nat) [("row", 4)] (blkOk_by (N := NCR) (sc := defScope sLClosedR) (by decide +kernel)) ?_
  and_intros
  rw [← eD]
  refine seq_t ⟨List.range (szD v), fun i => .tuple (rowD (szD v) (closeL (szD v) (matOf v)) i), fun _ => true, rfl, by rw [List.length_range]; omega, fun i x hx => ⟨_, fun s H C cl fp => by nofun, fun s H C cl fp => ?_⟩, ?_⟩
  · and_intros
    rfl
  · show PyData.bool _ = PyData.bool true
    congr 1
    exact List.all_eq_true.mpr fun _ _ => rfl
theorem scLSome : FnScope ["pot", "values", "many", "turn"] ["pot", "values", "many"] (defScope sLSome) := ⟨rfl, rfl, rfl, by decide +kernel, rfl, by decide +kernel, by decide +kernel⟩
def rLSome (ds : List Dt) (U : Dt → Prop) : Prop := ∃ (es : List Dt) (V : Dt → Prop) (m : Nat), 0 < es.length ∧ es.length < 1000 ∧ (∀ e ∈ es, V e) ∧ ds = [.list es, .int ((m : Nat) : Int)] ∧ U = fun d => ∃ fs, d = .list fs ∧ 0 < fs.length ∧ fs.length ≤ 1000 ∧ ∀ e ∈ fs, V e
theorem f_lsome (T : Free mg) (C1 : Cal P w K mg base 2 "_law_pick" ["pot", "some"] sLPick (spP K rLPick)) (F : Fun K "_law_some" "_law_some" sLSome f fd) : FnG P w K mg base 3 f fd ["pot", "values", "many"] (spP K rLSome) := by
  refine fn_pot F scLSome (fun ds U ⟨_, _, _, _, _, _, e, _⟩ => by subst e; rfl) fun cdv A outer s H E hr hgd hu ds U h => ?_
  obtain ⟨es, V, m, l0, l1, hv, rfl, rfl⟩ := h
  have hN := scLSome.nd
  and_intros
  refine ⟨fun h1 => ?_, fun h1 => ?_⟩
  · and_intros
    exact ⟨l0, by omega, hv⟩
  and_intros
  refine c_compR [("turn", 3)] (blkOk_by (N := ["pot", "values", "many", "turn"]) (sc := defScope sLSome) (by decide +kernel)) ?_
  and_intros
  refine ⟨by decide, by rw [rngD_length]; decide, fun _ _ y => V y, fun i d hd => ⟨_, fun s H C cl fp => by nofun, fun s H C cl fp => ?_⟩, fun out ho hr2 => ?_⟩
  · refine c_pot C1 (i := 0) (by repeat (first | exact Nx.z | apply Nx.s)) rfl ?_
    and_intros
    exact ⟨_, ⟨es, l0, l1, rfl, hv⟩, fun d h => h⟩
  have oo := all_out ho hr2
  rw [rngD_length] at ho
  have ho : out.length = 10 := ho
  have c1 : (Dv.cutD es none (some 1)).length ≤ 1 := by
    have e : Dv.cutD es none (some 1) = es.take 1 := cut_hi' (k := 1)
    rw [e, List.length_take]; omega
  refine bp_cat (by omega) ?_
  exact ⟨_, rfl, by rw [List.length_append]; omega, by rw [List.length_append]; omega, all_app (all_cut hv) oo⟩
abbrev NBR : List Str := ["pot", "city", "places", "many", "one", "other", "due", "told"]
theorem scLBetw : FnScope NBR ["pot", "city"] (defScope sLBetw) := ⟨rfl, rfl, rfl, by decide +kernel, rfl, by decide +kernel, by decide +kernel⟩
def rLBetw (ds : List Dt) (U : Dt → Prop) : Prop := ∃ y : City, y.ok ∧ ds = [y.d] ∧ U = fun d => d = .bool true
def PlaceP (n : Nat) (d : Dt) : Prop := ∃ ps, d = .list ps ∧ ∀ e ∈ ps, ∃ p : Nat, p < n ∧ e = .int ((p : Nat) : Int)
theorem f_lbetw (T : Free mg) (C1 : Cal P w K mg base 1 "_law_draw" ["pot", "many"] sLDraw (spP K rLDraw)) (C2 : Cal P w K mg base 9 "change_between" ["city", "one", "other"] sChange (spD K rChangeOf)) (C3 : Cal P w K mg base 9 "walk_between" ["city", "one", "other"] sWalk (spD K rWalkOf)) (C4 : Cal P w K mg base 9 "drive_between" ["city", "one", "other"] sDrive (spD K rDriveOf)) (F : Fun K "_law_between_right" "_law_between_right" sLBetw f fd) : FnG P w K mg base 10 f fd ["pot", "city"] (spP K rLBetw) := by
  refine fn_pot F scLBetw (fun ds U ⟨_, _, e, _⟩ => by subst e; rfl) fun cdv A outer s H E hr hgd hu ds U h => ?_
  obtain ⟨y, ok, rfl, rfl⟩ := h
  have hN := scLBetw.nd
  have zl := ok.zl
  have n1 := ok.n1
  have n2 := ok.n2
  obtain ⟨es5, e5, a1, a2, a3, a4⟩ : ∃ es5, y.d = .tuple es5 ∧ es5[1]? = some (intsT y.zones) ∧ es5[2]? = some (intsT y.changes) ∧ es5[3]? = some (tabD y.n y.walk) ∧ es5[4]? = some (tabD y.n y.drive) := ⟨_, rfl, rfl, rfl, rfl, rfl⟩
  refine s_st (by repeat (first | exact StR.nil | apply StR.d | apply StR.no)) ?_
  refine s_eq (by conv => { lhs; whnf }) ?_
  refine s_two (i := 2) (j := 3) (F := fun d => [.pot, .d y.d, .d d, .no, .no, .no, .no, .no]) (G := fun d d2 => [.pot, .d y.d, .d d, .d d2, .no, .no, .no, .no]) (by repeat (first | exact Nx.z | apply Nx.s)) (by repeat (first | exact Nx.z | apply Nx.s)) (by intro _; repeat (first | exact SetR.z | apply SetR.s)) (by intro _ _; repeat (first | exact SetR.z | apply SetR.s)) ?_
  refine c_listRg1 ?_
  and_intros
  rw [List.length_map, zl]
  refine ⟨by omega, ?_⟩
  and_intros
  rw [List.length_map, zl]
  have plc : ∀ e ∈ (List.range y.n).map (fun i => PyData.int ((i : Nat) : Int)), ∃ p : Nat, p < y.n ∧ e = .int ((p : Nat) : Int) := fun e he => by
    obtain ⟨p, hp, rfl⟩ := List.mem_map.mp he
    exact ⟨p, List.mem_range.mp hp, rfl⟩
  generalize (List.range y.n).map (fun i => PyData.int ((i : Nat) : Int)) = pls at *
  refine s_eq (by conv => { lhs; whnf }) ?_
  refine s_for ?_
  refine i_seq (XD.mono (U1 := PlaceP y.n) ?_ fun d hd => ?_)
  · infer_instance
    and_intros
    refine ⟨fun h1 => ?_, fun h1 => ?_⟩
    · and_intros
      exact plc
    have h1 := of_decide_eq_false h1
    and_intros
    refine c_pot C1 (i := 0) (by repeat (first | exact Nx.z | apply Nx.s)) rfl ?_
    and_intros
    refine ⟨_, ⟨(y.n : Int), by omega, by omega, rfl, rfl⟩, fun d ⟨i, e, g1, g2⟩ => ?_⟩
    subst e
    obtain ⟨i, rfl⟩ := Int.eq_ofNat_of_zero_le g1
    and_intros
    refine ⟨by simp, _, rfl, fun e he => ?_⟩
    simp only [List.mem_cons, List.not_mem_nil, or_false] at he
    rcases he with rfl | rfl | rfl
    · exact ⟨0, by omega, rfl⟩
    · exact ⟨y.n - 1, by omega, congrArg PyData.int (by omega)⟩
    · exact ⟨i, by omega, rfl⟩
  obtain ⟨ps, rfl, hps⟩ := hd
  refine seq_l ⟨fun _ z => ∃ a b c d : En, z = [.pot, .d y.d, .d (.list pls), .d (.int ((y.n : Nat) : Int)), a, b, c, d], ⟨_, _, _, _, rfl⟩, fun k d δ' hd iv => ?_, fun δ' iv => ?_⟩
  case refine_2 =>
    obtain ⟨a, b, c, d, rfl⟩ := iv
    and_intros
    rfl
  obtain ⟨a, b, c, d', rfl⟩ := iv
  obtain ⟨p, hp, rfl⟩ := hps d (List.mem_of_getElem? hd)
  refine ⟨_, _, by nofun, ?_⟩
  refine s_eq (by conv => { lhs; whnf }) ?_
  refine s_for ?_
  refine i_seq (XD.mono (U1 := PlaceP y.n) ?_ fun d hd2 => ?_)
  · infer_instance
    and_intros
    refine ⟨fun h1 => ?_, fun h1 => ?_⟩
    · and_intros
      exact plc
    have h1 := of_decide_eq_false h1
    infer_instance
    and_intros
    refine c_intc ?_
    and_intros
    refine c_pot C1 (i := 0) (by repeat (first | exact Nx.z | apply Nx.s)) rfl ?_
    and_intros
    refine ⟨_, ⟨(y.n : Int) - 1, by omega, by omega, rfl, rfl⟩, fun d ⟨i, e, g1, g2⟩ => ?_⟩
    subst e
    and_intros
    refine f_int ?_
    and_intros
    refine bp_mod (by omega) ?_
    and_intros
    have m1 := Int.emod_nonneg (((p : Nat) : Int) + 1 + i) (b := (y.n : Int)) (by omega)
    have m2 := Int.emod_lt_of_pos (((p : Nat) : Int) + 1 + i) (b := (y.n : Int)) (by omega)
    refine ⟨by simp, _, rfl, fun e he => ?_⟩
    simp only [List.mem_cons, List.not_mem_nil, or_false] at he
    rcases he with rfl | rfl
    · exact ⟨p, hp, rfl⟩
    · exact ⟨((((p : Nat) : Int) + 1 + i) % (y.n : Int)).toNat, by omega, congrArg PyData.int (by omega)⟩
  obtain ⟨qs, rfl, hqs⟩ := hd2
  refine seq_l ⟨fun _ z => ∃ b c d : En, z = [.pot, .d y.d, .d (.list pls), .d (.int ((y.n : Nat) : Int)), .d (.int ((p : Nat) : Int)), b, c, d], ⟨_, _, _, rfl⟩, fun k d δ' hd iv => ?_, fun δ' iv => ?_⟩
  case refine_2 =>
    obtain ⟨b, c, d, rfl⟩ := iv
    and_intros
    exact ⟨_, _, _, _, rfl⟩
  obtain ⟨b, c, d', rfl⟩ := iv
  obtain ⟨q, hq, rfl⟩ := hqs d (List.mem_of_getElem? hd)
  refine ⟨_, _, by nofun, ?_⟩
  have cc := ok.cl
  have cb := ok.cb _ (List.mem_of_getElem? (getD_at (ns := y.changes) (i := p) (by omega)))
  have wb := ok.wk.num p q hp hq
  have db := ok.dr.num p q hp hq
  refine s_eq (by conv => { lhs; whnf }) ?_
  refine s_let (i := 6) (F := fun d => [.pot, .d y.d, .d (.list pls), .d (.int ((y.n : Nat) : Int)), .d (.int ((p : Nat) : Int)), .d (.int ((q : Nat) : Int)), .d d, d']) (by repeat (first | exact Nx.z | apply Nx.s)) (by intro _; repeat (first | exact SetR.z | apply SetR.s)) ?_
  refine XD.mono (U1 := fun d => d = .list [.int (chgN y p q), .int (y.walk p q), .int (y.drive p q)]) ?_ fun d hd2 => ?_
  · have tw : ∀ M : Nat → Nat → Int, atI ((List.range y.n).map fun i => PyData.tuple (rowD y.n M i)) ((p : Nat) : Int) = some (.tuple (rowD y.n M p)) := fun M => at_map (List.getElem?_range hp)
    have tr : ∀ M : Nat → Nat → Int, atI (rowD y.n M p) ((q : Nat) : Int) = some (.int (M p q)) := fun M => atI_nat (row_at hq)
    and_intros
    refine ⟨fun h1 => ?_, fun h1 => ?_⟩
    · have e : p = q := by have := of_decide_eq_true h1; omega
      and_intros
      refine ip_tup (at_ints (by omega)) ?_
      and_intros
      refine ip_tup (tw _) ?_
      and_intros
      refine ip_tup (tr _) ?_
      and_intros
      refine ip_tup (tw _) ?_
      and_intros
      refine ip_tup (tr _) ?_
      and_intros
      unfold chgN
      rw [if_pos e]
      exact ⟨by simp, rfl⟩
    · have e : p ≠ q := fun z => by have := of_decide_eq_false h1; omega
      and_intros
      refine ip_tup (tw _) ?_
      and_intros
      refine ip_tup (tr _) ?_
      and_intros
      refine ip_tup (tw _) ?_
      and_intros
      refine ip_tup (tr _) ?_
      and_intros
      refine ip_tup (tw _) ?_
      and_intros
      refine ip_tup (tr _) ?_
      and_intros
      unfold chgN
      rw [if_neg e]
      exact ⟨by simp, rfl⟩
  subst hd2
  have okT : OkD (.list [.int (chgN y p q), .int (y.walk p q), .int (y.drive p q)]) 390000 40 := by
    have hx : -5000 ≤ chgN y p q ∧ chgN y p q ≤ 5000 := by
      unfold chgN
      split <;> omega
    refine (okd_list (n := 3) (b := 10) (k := 0) fun d hd => ?_).mono
    simp only [List.mem_cons, List.not_mem_nil, or_false] at hd
    rcases hd with rfl | rfl | rfl
    · exact oi hx.1 hx.2
    · exact oi (by omega) (by omega)
    · exact oi (by omega) (by omega)
  and_intros
  refine ⟨_, ⟨y, p, q, ok, hp, hq, rfl, rfl⟩, ?_⟩
  and_intros
  refine ⟨_, ⟨y, p, q, ok, hp, hq, rfl, rfl⟩, ?_⟩
  and_intros
  refine ⟨_, ⟨y, p, q, ok, hp, hq, rfl, rfl⟩, ?_⟩
  and_intros
  refine ⟨by simp, f_repr hgd hu okT ?_⟩
  and_intros
  refine f_repr hgd hu okT ?_
  and_intros
  refine br_nis rfl ?_
  and_intros
  refine c_callK (ks := ["other", "one", "city"]) [2, 1, 0] C2 (kw_c ?_) (fun _ _ _ _ _ _ us hl => match us, hl with | [_, _, _], _ => rfl)
  and_intros
  refine kw_c ?_
  and_intros
  refine kw_c ?_
  and_intros
  refine kw_n ⟨rfl, _, ⟨y, p, q, ok, hp, hq, rfl, rfl⟩, ?_⟩
  and_intros
  refine c_callK (ks := ["other", "one", "city"]) [2, 1, 0] C3 (kw_c ?_) (fun _ _ _ _ _ _ us hl => match us, hl with | [_, _, _], _ => rfl)
  and_intros
  refine kw_c ?_
  and_intros
  refine kw_c ?_
  and_intros
  refine kw_n ⟨rfl, _, ⟨y, p, q, ok, hp, hq, rfl, rfl⟩, ?_⟩
  and_intros
  refine ⟨by simp, ?_⟩
  and_intros
  refine c_callK (ks := ["other", "one", "city"]) [2, 1, 0] C4 (kw_c ?_) (fun _ _ _ _ _ _ us hl => match us, hl with | [_, _, _], _ => rfl)
  and_intros
  refine kw_c ?_
  and_intros
  refine kw_c ?_
  and_intros
  refine kw_n ⟨rfl, _, ⟨y, p, q, ok, hp, hq, rfl, rfl⟩, ?_⟩
  and_intros
  refine ⟨by simp, bp_cat (by simp) ?_⟩
  refine f_repr hgd hu okT ?_
  and_intros
  refine f_repr hgd hu okT ?_
  and_intros
  refine br_nis rfl ?_
  and_intros
  exact ⟨_, _, _, rfl⟩
end
end K11

set_option linter.all false
set_option maxRecDepth 100000
set_option maxHeartbeats 4000000
namespace K11
open PySem PySem.Spec PyProof.Rows L2 RZ Dv
abbrev sLRight : Stmt := at_def "_law_right"
abbrev sLaw : Stmt := at_def "law"
theorem Way.num {n : Nat} {h : Int} {C : Nat → Nat → Int} (c : Way n h C) (hh : h ≤ 1000) : ∀ i j, i < n → j < n → 0 ≤ C i j ∧ C i j ≤ 1000 := fun i j hi hj => by
  by_cases e : i = j
  · subst e; rw [c.dia i hi]; omega
  · have := c.pos i j hi hj e; omega
theorem tab_tb {n : Nat} {C : Nat → Nat → Int} (hb : ∀ i j, i < n → j < n → 0 ≤ C i j ∧ C i j ≤ 1000) (hn : n ≤ 12) : Tb (tabD n C) := by
  obtain ⟨rs, e, rl, _, ra⟩ := tab_rows hb
  rw [e]
  exact tb_t (fun r hr => (ra r hr).rw (by omega)) (by omega)
theorem okd_bb {c d : Bool} : OkD (.list [.bool c, .bool d]) 390000 40 := (okd_list (n := 2) (b := 0) (k := 0) fun x hd => by
  rcases List.mem_cons.mp hd with rfl | hd
  · exact okd_bool
  · rcases List.mem_cons.mp hd with rfl | hd
    · exact okd_bool
    · cases hd).mono
section
variable {P : Program} {w : World} {K : Fg} {mg : Str → Option Value} {base : Heap} {f : Addr} {fd : FuncData}
abbrev NRt : List Str := ["pot", "many", "city", "loose", "value", "due", "shown", "bent"]
theorem scLRight : FnScope NRt ["pot"] (defScope sLRight) := ⟨rfl, rfl, rfl, by decide +kernel, rfl, by decide +kernel, by decide +kernel⟩
def rLRight (ds : List Dt) (U : Dt → Prop) : Prop := ds = [] ∧ U = fun d => d = .bool true
theorem f_lright (T : Free mg) (C1 : Cal P w K mg base 2 "_law_pick" ["pot", "some"] sLPick (spP K rLPick)) (C2 : Cal P w K mg base 3 "_law_city" ["pot", "many"] sLCity (spP K rLCity)) (C3 : Cal P w K mg base 2 "_law_table" ["pot", "many", "high"] sLTable (spP K rLTable)) (C4 : Cal P w K mg base 3 "_law_some" ["pot", "values", "many"] sLSome (spP K rLSome)) (C5 : Cal P w K mg base 3 "_law_values" ["pot", "city"] sLValues (spP K rLValues)) (C6 : Cal P w K mg base 4 "_law_is_city" ["value"] sLIsCity (spD K rIsCity)) (C7 : Cal P w K mg base 6 "is_city" ["value"] sIsCity (spD K rIsCity)) (C8 : Cal P w K mg base 2 "_law_tables_bent" ["pot", "table"] sLTab (spP K rLTab)) (C9 : Cal P w K mg base 2 "_law_is_ways" ["value"] sLWays (spD K rWayTable)) (C10 : Cal P w K mg base 3 "_law_is_closed" ["value"] sLIsClosed (spD K rIsClosed)) (C11 : Cal P w K mg base 4 "is_way_table" ["value"] sWayTable (spD K rWayTable)) (C12 : Cal P w K mg base 5 "is_closed" ["value"] sIsClosed (spD K rIsClosed)) (C13 : Cal P w K mg base 6 "_law_closed_right" ["table"] sLClosedR (spD K rLClosedR)) (C14 : Cal P w K mg base 6 "_law_refused" ["value"] sLRefused (spD K rLRefused)) (C15 : Cal P w K mg base 10 "_law_between_right" ["pot", "city"] sLBetw (spP K rLBetw)) (F : Fun K "_law_right" "_law_right" sLRight f fd) : FnG P w K mg base 11 f fd ["pot"] (spP K rLRight) := by
  refine fn_pot F scLRight (fun ds U ⟨e, _⟩ => by subst e; rfl) fun cdv A outer s H E hr hgd hu ds U h => ?_
  obtain ⟨rfl, rfl⟩ := h
  have hN := scLRight.nd
  refine s_st (by repeat (first | exact StR.nil | apply StR.d | apply StR.no)) ?_
  refine s_eq (by conv => { lhs; whnf }) ?_
  infer_instance
  refine XD.mono (U1 := fun d => ∃ n : Nat, 1 ≤ n ∧ n ≤ 6 ∧ d = .int ((n : Nat) : Int)) ?_ fun d hd => ?_
  · refine c_pot C1 (i := 0) (by repeat (first | exact Nx.z | apply Nx.s)) rfl ?_
    and_intros
    refine ⟨by simp, ?_⟩
    and_intros
    refine ⟨fun d => ∃ n : Nat, 1 ≤ n ∧ n ≤ 6 ∧ d = .int ((n : Nat) : Int), ⟨_, by simp, by simp, rfl, fun d hd => ?_⟩, fun d h => h⟩
    simp only [List.mem_cons, List.not_mem_nil, or_false] at hd
    rcases hd with rfl | rfl | rfl | rfl | rfl | rfl | rfl | rfl <;> first | exact ⟨1, by omega, by omega, rfl⟩ | exact ⟨2, by omega, by omega, rfl⟩ | exact ⟨3, by omega, by omega, rfl⟩ | exact ⟨4, by omega, by omega, rfl⟩ | exact ⟨5, by omega, by omega, rfl⟩ | exact ⟨6, by omega, by omega, rfl⟩
  obtain ⟨n, n1, n6, rfl⟩ := hd
  refine s_eq (by conv => { lhs; whnf }) ?_
  refine s_two (i := 2) (j := 3) (F := fun d => [.pot, .d (.int ((n : Nat) : Int)), .d d, .no, .no, .no, .no, .no]) (G := fun d d2 => [.pot, .d (.int ((n : Nat) : Int)), .d d, .d d2, .no, .no, .no, .no]) (by repeat (first | exact Nx.z | apply Nx.s)) (by repeat (first | exact Nx.z | apply Nx.s)) (by intro _; repeat (first | exact SetR.z | apply SetR.s)) (by intro _ _; repeat (first | exact SetR.z | apply SetR.s)) ?_
  refine c_pot C2 (i := 0) (by repeat (first | exact Nx.z | apply Nx.s)) rfl ?_
  and_intros
  refine ⟨_, ⟨n, n1, by omega, rfl, rfl⟩, fun d ⟨y, ok, yn, _, e⟩ => ?_⟩
  subst e
  refine c_pot C3 (i := 0) (by repeat (first | exact Nx.z | apply Nx.s)) rfl ?_
  and_intros
  refine ⟨_, ⟨n, 60, by omega, by omega, by omega, rfl, rfl⟩, fun d ⟨M, tm, e⟩ => ?_⟩
  subst e
  have wm := tm.way.num (by omega)
  refine s_eq (by conv => { lhs; whnf }) ?_
  refine s_for ?_
  refine i_seq ?_
  refine c_pot C4 (i := 0) (by repeat (first | exact Nx.z | apply Nx.s)) rfl ?_
  infer_instance
  refine c_pot C5 (i := 0) (by repeat (first | exact Nx.z | apply Nx.s)) rfl ?_
  and_intros
  refine ⟨_, ⟨y, ok, by omega, rfl, rfl⟩, fun d ⟨es, e, l0, l1, ev⟩ => ?_⟩
  subst e
  and_intros
  refine ⟨_, ⟨es, Val, n, l0, by omega, ev, rfl, rfl⟩, fun d ⟨fs, e, f0, f1, fv⟩ => ?_⟩
  subst e
  refine seq_l ⟨fun _ z => ∃ a b c : En, z = [.pot, .d (.int ((n : Nat) : Int)), .d y.d, .d (tabD n M), a, b, c, .no], ⟨_, _, _, rfl⟩, fun k v δ' hd iv => ?_, fun δ' iv => ?_⟩
  · obtain ⟨a, b, c, rfl⟩ := iv
    have hv : OkD v 300000 6 := fv v (List.mem_of_getElem? hd)
    refine ⟨_, _, by nofun, ?_⟩
    and_intros
    refine f_repr hgd hu hv.mono ?_
    and_intros
    refine c_callK (ks := ["value"]) [0] C7 (kw_c ?_) (fun _ _ _ _ _ _ us hl => match us, hl with | [_], _ => rfl)
    and_intros
    refine kw_n ⟨rfl, _, ⟨v, rfl, rfl⟩, ?_⟩
    and_intros
    refine ⟨by simp, f_repr hgd hu okd_bb ?_⟩
    and_intros
    refine ⟨by simp, f_repr hgd hu okd_bb ?_⟩
    and_intros
    refine br_nY (decide_eq_true rfl) ?_
    and_intros
    refine f_repr hgd hu hv.mono ?_
    and_intros
    refine br_nis rfl ?_
    and_intros
    exact ⟨_, _, _, rfl⟩
  obtain ⟨a, b, c, rfl⟩ := iv
  refine s_eq (by conv => { lhs; whnf }) ?_
  infer_instance
  refine XD.mono (U1 := fun d => ∃ es, d = .list es ∧ es.length ≤ 2000 ∧ ∀ e ∈ es, Tb e) ?_ fun d hd => ?_
  · refine c_bin ?_
    refine c_pot C4 (i := 0) (by repeat (first | exact Nx.z | apply Nx.s)) rfl ?_
    infer_instance
    refine c_pot C8 (i := 0) (by repeat (first | exact Nx.z | apply Nx.s)) rfl ?_
    and_intros
    refine ⟨_, ⟨y.n, y.drive, by omega, by omega, ok.dr.num, rfl, rfl⟩, fun d ⟨es, e, l0, l1, ev⟩ => ?_⟩
    subst e
    and_intros
    refine ⟨_, ⟨es, Tb, n, l0, by omega, ev, rfl, rfl⟩, fun d ⟨fs, e, f0, f1, fv⟩ => ?_⟩
    subst e
    refine c_pot C4 (i := 0) (by repeat (first | exact Nx.z | apply Nx.s)) rfl ?_
    infer_instance
    refine c_pot C8 (i := 0) (by repeat (first | exact Nx.z | apply Nx.s)) rfl ?_
    and_intros
    refine ⟨_, ⟨n, M, by omega, by omega, wm, rfl, rfl⟩, fun d ⟨es2, e, l0, l1, ev2⟩ => ?_⟩
    subst e
    and_intros
    refine ⟨_, ⟨es2, Tb, n, l0, by omega, ev2, rfl, rfl⟩, fun d ⟨fs2, e, f0, f1, fv2⟩ => ?_⟩
    subst e
    exact bp_cat (by omega) ⟨_, rfl, by rw [List.length_append]; omega, all_app fv fv2⟩
  obtain ⟨bs, rfl, b2, bv⟩ := hd
  refine s_eq (by conv => { lhs; whnf }) ?_
  refine s_for ?_
  refine i_seq ?_
  and_intros
  iterate 7 (refine ⟨by simp, ?_⟩; and_intros)
  have av : ∀ e ∈ bs ++ [tabD n M, tabD y.n y.walk, .list [], .dict [], .str "", .tuple [.tuple [.int 0]], .tuple [.tuple [.int 1]], .tuple [.tuple []]], Tb e := all_app bv fun e he => by
    have r1 : ∀ i : Int, -5000 ≤ i → i ≤ 5000 → Tb (.tuple [.tuple [.int i]]) := fun i h1 h2 => tb_t (all_one (rw_t (all_one (cel_i h1 h2)) (by simp))) (by simp)
    simp only [List.mem_cons, List.not_mem_nil, or_false] at he
    rcases he with rfl | rfl | rfl | rfl | rfl | rfl | rfl | rfl
    · exact tab_tb wm (by omega)
    · exact tab_tb ok.wk.num (by omega)
    · exact tb_l (fun d hd => by cases hd) (by simp)
    · exact ⟨okd_dict.mono, rfl⟩
    · exact ⟨(okd_strS : OkD (.str "") 10 0).mono, by decide +kernel⟩
    · exact r1 0 (by omega) (by omega)
    · exact r1 1 (by omega) (by omega)
    · exact tb_t (all_one (rw_t (fun d hd => by cases hd) (by simp))) (by simp)
  refine ⟨by simp, bp_cat (by simp; omega) ?_⟩
  generalize bs ++ [tabD n M, tabD y.n y.walk, .list [], .dict [], .str "", .tuple [.tuple [.int 0]], .tuple [.tuple [.int 1]], .tuple [.tuple []]] = vs at *
  refine seq_l ⟨fun _ z => ∃ a b c : En, z = [.pot, .d (.int ((n : Nat) : Int)), .d y.d, .d (tabD n M), a, b, c, .d (.list bs)], ⟨_, _, _, rfl⟩, fun k v δ' hd iv => ?_, fun δ' iv => ?_⟩
  case refine_2 =>
    obtain ⟨a, b, c, rfl⟩ := iv
    and_intros
    refine c_pot C15 (i := 0) (by repeat (first | exact Nx.z | apply Nx.s)) rfl ?_
    and_intros
    exact fun d h => h
  obtain ⟨a, b, c, rfl⟩ := iv
  obtain ⟨okv, sv⟩ := av v (List.mem_of_getElem? hd)
  refine ⟨_, _, by nofun, ?_⟩
  refine s_eq (by conv => { lhs; whnf }) ?_
  infer_instance
  refine XD.mono (U1 := fun d => d = .list [.bool (waysB v), .bool (closedB v)]) ?_ fun d hd => ?_
  · and_intros
    exact ⟨by simp, rfl⟩
  subst hd
  and_intros
  refine ⟨by simp, f_repr hgd hu okd_bb ?_⟩
  and_intros
  refine f_repr hgd hu okd_bb ?_
  and_intros
  refine br_nY (decide_eq_true rfl) ?_
  and_intros
  refine c_callK (ks := ["value"]) [0] C11 (kw_c ?_) (fun _ _ _ _ _ _ us hl => match us, hl with | [_], _ => rfl)
  and_intros
  refine kw_n ⟨rfl, _, ⟨v, rfl, rfl⟩, ?_⟩
  and_intros
  refine c_callK (ks := ["value"]) [0] C12 (kw_c ?_) (fun _ _ _ _ _ _ us hl => match us, hl with | [_], _ => rfl)
  and_intros
  refine kw_n ⟨rfl, _, ⟨v, rfl, rfl⟩, ?_⟩
  and_intros
  refine ⟨by simp, f_repr hgd hu okd_bb ?_⟩
  and_intros
  refine f_repr hgd hu okd_bb ?_
  and_intros
  refine br_nis rfl ?_
  and_intros
  cases hw : waysB v with
  | true =>
    and_intros
    refine ⟨_, ⟨v, hw, okv.mono, rfl, rfl⟩, ?_⟩
    and_intros
    trace_state
    exact ⟨_, _, _, rfl⟩
  | false =>
    and_intros
    refine ⟨_, ⟨v, hw, okv.mono, sv, rfl, rfl⟩, ?_⟩
    and_intros
    trace_state
    exact ⟨_, _, _, rfl⟩
theorem scLaw : FnScope ["script", "k"] ["script"] (defScope sLaw) := ⟨rfl, rfl, rfl, by decide +kernel, rfl, by decide +kernel, by decide +kernel⟩
theorem f_law (T : T0 K mg) (C1 : Cal P w K mg base 11 "_law_right" ["pot"] sLRight (spP K rLRight)) (C2 : Cal P w K mg base 1 "_law_pot" ["script", "k"] sLPot (spO K rLPot)) (F : Fun K "law" "law" sLaw f fd) : FnG P w K mg base 12 f fd ["script"] (spD K (rLaw 63)) := by
  refine fn_data F scLaw (fun ds d ⟨_, _, e, _⟩ => by subst e; rfl) fun cdv A outer s H E hr hgd hu ds d h => ?_
  obtain ⟨ns, hn, rfl, rfl⟩ := h
  refine s_ret ((pd_all (bs := (List.range (max 1 (min 2 (((ns.map PyData.int).length : Nat) : Int))).toNat).map fun _ => true) rfl T.all (pa_c ((pd_map (xs := List.range (max 1 (min 2 (((ns.map PyData.int).length : Nat) : Int))).toNat) (enc := fun i : Nat => .int (0 + (i : Int))) (F := fun _ => .bool true) (own := [("k", 1)]) rfl scLaw.nd
      (i_rng1 (pa_c (pd_max2 rfl T.max (pa_c pd_int (pa_c (pd_min2 rfl T.min (pa_c pd_int (pa_c (pd_len_list T.len (pa_c (pd_v 0) pa_n)) pa_n))) pa_n))) pa_n) T.range (by omega)) (blkOk_by (N := ["script", "k"]) (sc := defScope sLaw) (by decide +kernel)) (by rw [List.length_range]; omega)
      (fun d => [.d (.list (ns.map PyData.int)), .d d]) (fun s H C cl fp i y hy => tg_name 1 scLaw.nd) (fun s H C cl fp i y hy => xd_potNew C1 C2 (pa_c (pd_v 0) (pa_c (pd_v 1) pa_n)) ⟨rfl, rfl⟩ ⟨ns, 0 + (y : Int), by omega, by have := List.mem_range.mp (List.mem_of_getElem? hy); omega, rfl, rfl⟩ (pot_ok ns _))).is (by rw [List.map_map]; rfl)) pa_n)).is ?_) rfl
  rw [all_true]
end
end K11

end
set_option linter.all false
set_option maxHeartbeats 8000000
open PySem PySem.Spec PyProof.Rows L2 Dv
theorem K11.all_mk {l : PySem.W.OpenLaw} {w : World} {K : Fg} {h : Heap} {mg : Str → Option Value} {fa : Addr} (X : K.In h) (G : h.Ns mainGlobals mg) (hfa : mg "law" = some (.ref fa))
    {t0 t1 t2 t3 : _} (e_stops : PySem.W.nsIn K mainGlobals "MOST_STOPS" = some (some (.int 12 t0))) (e_zone : PySem.W.nsIn K mainGlobals "LAST_ZONE" = some (some (.int 4 t1))) (e_change : PySem.W.nsIn K mainGlobals "LONGEST_CHANGE" = some (some (.int 9 t2))) (e_way : PySem.W.nsIn K mainGlobals "LONGEST_WAY" = some (some (.int 120 t3)))
    {nm0 q0 : Str} {N0 C0 fI0 : Addr} {bs0 bm0 : List Value} {sn0 : List Str} {sub0 : List Value} {ab0 : Bool} {col0 : Option Bool} {dd0 : Option Addr} {k00 k10 k20 k30 k50 : Option Value} {od0 an0 : Option Addr} {sl0 : Array (Option Value)} {oc0 dc0 pm0 cd0 ct0 : Value}
    (aC0 : PySem.W.nsIn K mainGlobals "InvalidTable" = some (some (.ref C0)))
    (xL0 : K.lookup C0 = some (excClassObj nm0 q0 C0 N0 bs0 bm0 true sn0 sub0 ab0 col0 dd0 k00 k10 k20 k30 k50 "ValueError.__new__"))
    (rv0 : PySem.HandSPX.refsVE bm0 = true)
    (sa0 : PySem.W.findIn K (.ref C0) "__setattr__" = some (some (.builtin "object.__setattr__")))
    (ga0 : PySem.W.findIn K (.ref C0) "__getattribute__" = some (some (.builtin "BaseException.__getattribute__")))
    (gg0 : PySem.W.findIn K (.ref C0) "__getattr__" = some none)
    (nv0 : PySem.W.findIn K (.ref C0) "value" = some none)
    (iI0 : PySem.W.findIn K (.ref C0) "__init__" = some (some (.ref fI0)))
    (tI0 : PySem.W.typeIn K (.ref fI0) = some (.type "function"))
    (lI0 : K.lookup fI0 = some ⟨oc0, od0, .func (PySem.W.fnOf "__init__" "InvalidTable.__init__" (iA ⟨14, 17, 14, 21⟩ ⟨14, 23, 14, 28⟩) (iB ⟨15, 8, 15, 12⟩ ⟨15, 8, 15, 18⟩ ⟨15, 21, 15, 26⟩ ⟨15, 8, 15, 26⟩) iS .none .none dc0 pm0 an0 cd0 ct0), sl0⟩)
    (cI0 : PySem.W.codeIn K cd0 "InvalidTable.__init__" = true)
    (kC0 : PySem.W.keepIn K (.ref C0) = true)
    (eC0 : PySem.W.subIn K (.ref C0) (.type "BaseException") = some true)
    (tC0 : PySem.W.typeIn K (.ref C0) = some (.type "type"))
    (hC0 : PySem.W.hasDictIn K C0 = true)
    (iC0 : PySem.W.isClsIn K C0 = true)
    (sC0 : PySem.W.subIn K (.ref C0) (.ref C0) = some true)
    (ha0 : PySem.W.findIn K (.ref C0) "__class__" = some (some (.builtin "object.__class__")))
    (hm0 : PySem.W.mroIn K C0 (.type "object") = some true)
    (iV0 : PySem.W.subIn K (.ref C0) (.type "ValueError") = some true)
    {CB : Addr} (aB : PySem.W.nsIn K mainGlobals "CityError" = some (some (.ref CB)))
    (cB : PySem.W.isClsIn K CB = true) (tB : PySem.W.typeIn K (.ref CB) = some (.type "type"))
    (hn : PySem.W.specialIn K (.builtin "object.__class__") "__get__" = some (some (.builtin "getset_descriptor.__get__")))
    (ht : PySem.W.takesIn K (.builtin "object.__class__") = some true)
    (iB0 : PySem.W.subIn K (.ref C0) (.ref CB) = some true)
    (z_isinstance : PySem.W.nsIn K mainGlobals "isinstance" = some none)
    (z_int : PySem.W.nsIn K mainGlobals "int" = some none)
    (z_bool : PySem.W.nsIn K mainGlobals "bool" = some none)
    (z_tuple : PySem.W.nsIn K mainGlobals "tuple" = some none)
    (z_list : PySem.W.nsIn K mainGlobals "list" = some none)
    (z_str : PySem.W.nsIn K mainGlobals "str" = some none)
    (z_len : PySem.W.nsIn K mainGlobals "len" = some none)
    (z_all : PySem.W.nsIn K mainGlobals "all" = some none)
    (z_any : PySem.W.nsIn K mainGlobals "any" = some none)
    (z_max : PySem.W.nsIn K mainGlobals "max" = some none)
    (z_min : PySem.W.nsIn K mainGlobals "min" = some none)
    (z_abs : PySem.W.nsIn K mainGlobals "abs" = some none)
    (z_sorted : PySem.W.nsIn K mainGlobals "sorted" = some none)
    (z_repr : PySem.W.nsIn K mainGlobals "repr" = some none)
    (z_range : PySem.W.nsIn K mainGlobals "range" = some none)
    (z_enumerate : PySem.W.nsIn K mainGlobals "enumerate" = some none)
    (z_divmod : PySem.W.nsIn K mainGlobals "divmod" = some none)
    (z_set : PySem.W.nsIn K mainGlobals "set" = some none)
    (z_sum : PySem.W.nsIn K mainGlobals "sum" = some none)
    (z_zip : PySem.W.nsIn K mainGlobals "zip" = some none)
    (z_dict : PySem.W.nsIn K mainGlobals "dict" = some none)
    (z_ValueError : PySem.W.nsIn K mainGlobals "ValueError" = some none)
    (z_ArithmeticError : PySem.W.nsIn K mainGlobals "ArithmeticError" = some none)
    (z_LookupError : PySem.W.nsIn K mainGlobals "LookupError" = some none)
    (d_law_draw : Df K "_law_draw" K11.sLDraw)
    (d_law_pick : Df K "_law_pick" K11.sLPick)
    (d_law_table : Df K "_law_table" K11.sLTable)
    (d_law_closed : Df K "_law_closed" K11.sLClosed)
    (d_law_city : Df K "_law_city" K11.sLCity)
    (d_law_some : Df K "_law_some" K11.sLSome)
    (d_law_put : Df K "_law_put" K11.sLPut)
    (d_law_rows_bent : Df K "_law_rows_bent" K11.sLBent)
    (d_law_tables_bent : Df K "_law_tables_bent" K11.sLTab)
    (d_law_values : Df K "_law_values" K11.sLValues)
    (d_law_is_within : Df K "_law_is_within" K11.sLWithin)
    (d_law_is_ways : Df K "_law_is_ways" K11.sLWays)
    (d_law_is_closed : Df K "_law_is_closed" K11.sLIsClosed)
    (d_law_is_city : Df K "_law_is_city" K11.sLIsCity)
    (d_is_tuple : Df K "is_tuple" K11.sTuple)
    (d_is_word : Df K "is_word" K11.sWord)
    (d_is_named : Df K "is_named" K11.sNamed)
    (d_is_integer : Df K "is_integer" K11.sInteger)
    (d_is_within : Df K "is_within" K11.sWithin)
    (d_are_within : Df K "are_within" K11.sAreWithin)
    (d_is_way : Df K "is_way" K11.sIsWay)
    (d_is_way_table : Df K "is_way_table" K11.sWayTable)
    (d_is_shortest : Df K "is_shortest" K11.sShortest)
    (d_is_closed : Df K "is_closed" K11.sIsClosed)
    (d_is_city : Df K "is_city" K11.sIsCity)
    (d_closed : Df K "closed" K11.sClosed)
    (d_law_closed_right : Df K "_law_closed_right" K11.sLClosedR)
    (d_law_refused : Df K "_law_refused" K11.sLRefused)
    (d_check_city : Df K "check_city" K11.sCkCity)
    (d_is_stop : Df K "is_stop" K11.sIsStop)
    (d_check_stops : Df K "check_stops" K11.sCkStops)
    (d_walk_of : Df K "walk_of" K11.sWalkOf)
    (d_change_of : Df K "change_of" K11.sChangeOf)
    (d_change_between : Df K "change_between" K11.sChange)
    (d_walk_between : Df K "walk_between" K11.sWalk)
    (d_drive_of : Df K "drive_of" K11.sDriveOf)
    (d_drive_between : Df K "drive_between" K11.sDrive)
    (d_law_between_right : Df K "_law_between_right" K11.sLBetw)
    (d_law_right : Df K "_law_right" K11.sLRight)
    (d_law_pot : Df K "_law_pot" K11.sLPot)
    (d_law : Df K "law" K11.sLaw)
    : ∃ fd : FuncData, (∀ (s : Shared) (v : Value), BindsTo s fd ⟨[v], []⟩ [("script", v)]) ∧ ∀ base : Heap, K.In base → base.Ns mainGlobals mg → FnG l.prog w K mg base 12 fa fd ["script"] (spD K (rLaw 63)) := by
  have T : Dv.Free mg := Dv.free_mk (PySem.W.mg_none_of X G z_isinstance) (PySem.W.mg_none_of X G z_int) (PySem.W.mg_none_of X G z_bool) (PySem.W.mg_none_of X G z_tuple) (PySem.W.mg_none_of X G z_list) (PySem.W.mg_none_of X G z_str) (PySem.W.mg_none_of X G z_len) (PySem.W.mg_none_of X G z_all) (PySem.W.mg_none_of X G z_any) (PySem.W.mg_none_of X G z_max) (PySem.W.mg_none_of X G z_min) (PySem.W.mg_none_of X G z_abs) (PySem.W.mg_none_of X G z_sorted) (PySem.W.mg_none_of X G z_repr) (PySem.W.mg_none_of X G z_range) (PySem.W.mg_none_of X G z_enumerate) (PySem.W.mg_none_of X G z_divmod) (PySem.W.mg_none_of X G z_set) (PySem.W.mg_none_of X G z_sum) (PySem.W.mg_none_of X G z_zip) (PySem.W.mg_none_of X G z_dict) (PySem.W.mg_none_of X G z_ValueError) (PySem.W.mg_none_of X G z_ArithmeticError) (PySem.W.mg_none_of X G z_LookupError)
  have T0 : K11.T0 K mg := K11.T0.of T
  have hz : mg "zip" = none := PySem.W.mg_none_of X G z_zip
  have cn : K11.Cn mg := ⟨⟨t0, PySem.W.mg_of X G e_stops⟩, ⟨t1, PySem.W.mg_of X G e_zone⟩, ⟨t2, PySem.W.mg_of X G e_change⟩, ⟨t3, PySem.W.mg_of X G e_way⟩⟩
  have et_InvalidTable : ErrTxt K mg "InvalidTable" "InvalidTable.__init__" C0 fI0 := { gC := PySem.W.mg_of X G aC0, cls := ⟨_, _, _, _, _, _, _, _, _, _, _, _, _, _, _, xL0, rv0⟩, sa := sa0, ga := ga0, gg := gg0, noN := nv0, iC := iI0, tC := tI0, kC := kC0, exC := eC0, tyC := tC0, hdC := hC0, te := Dv.exm_own eC0 iC0 tC0 sC0, fn := ⟨_, _, _, _, _, _, _, _, _, _, _, _, _, _, lI0, cI0⟩ }
  have ei_InvalidTable : K11.ErrIs K mg C0 CB := ⟨PySem.W.mg_of X G aB, ⟨ga0, gg0, eC0, hC0, ha0, hn, ht, hm0⟩, Dv.kit_ref cB tB iB0, Dv.kit_ty (by decide +kernel) iV0⟩
  refine Df.law d_law X G hfa (fun _ _ _ _ _ _ us hl => match us, hl with | [_], _ => rfl) fun base f fd hK hn F => ?_
  have c_law_draw := d_law_draw.cal (P := l.prog) (w := w) (base := base) (ps := ["pot", "many"]) X G (fun _ _ _ _ _ _ us hl => match us, hl with | [_, _], _ => rfl) fun f fd F => K11.f_ldraw T0 F
  have c_law_pick := d_law_pick.cal (P := l.prog) (w := w) (base := base) (ps := ["pot", "some"]) X G (fun _ _ _ _ _ _ us hl => match us, hl with | [_, _], _ => rfl) fun f fd F => K11.f_lpick T0 c_law_draw F
  have c_law_table := d_law_table.cal (P := l.prog) (w := w) (base := base) (ps := ["pot", "many", "high"]) X G (fun _ _ _ _ _ _ us hl => match us, hl with | [_, _, _], _ => rfl) fun f fd F => K11.f_ltable T0 c_law_draw F
  have c_law_closed := d_law_closed.cal (P := l.prog) (w := w) (base := base) (ps := ["table"]) X G (fun _ _ _ _ _ _ us hl => match us, hl with | [_], _ => rfl) fun f fd F => K11.f_lclosed T0 F
  have c_law_city := d_law_city.cal (P := l.prog) (w := w) (base := base) (ps := ["pot", "many"]) X G (fun _ _ _ _ _ _ us hl => match us, hl with | [_, _], _ => rfl) fun f fd F => K11.f_lcity T0 c_law_draw c_law_table c_law_closed F
  have c_law_some := d_law_some.cal (P := l.prog) (w := w) (base := base) (ps := ["pot", "values", "many"]) X G (fun _ _ _ _ _ _ us hl => match us, hl with | [_, _, _], _ => rfl) fun f fd F => K11.f_lsome T c_law_pick F
  have c_law_put := d_law_put.cal (P := l.prog) (w := w) (base := base) (ps := ["row", "at", "thing"]) X G (fun _ _ _ _ _ _ us hl => match us, hl with | [_, _, _], _ => rfl) fun f fd F => K11.f_lput T F
  have c_law_rows_bent := d_law_rows_bent.cal (P := l.prog) (w := w) (base := base) (ps := ["pot", "row", "odd"]) X G (fun _ _ _ _ _ _ us hl => match us, hl with | [_, _, _], _ => rfl) fun f fd F => K11.f_lbent T c_law_draw c_law_put F
  have c_law_tables_bent := d_law_tables_bent.cal (P := l.prog) (w := w) (base := base) (ps := ["pot", "table"]) X G (fun _ _ _ _ _ _ us hl => match us, hl with | [_, _], _ => rfl) fun f fd F => K11.f_ltab T c_law_draw c_law_put F
  have c_law_values := d_law_values.cal (P := l.prog) (w := w) (base := base) (ps := ["pot", "city"]) X G (fun _ _ _ _ _ _ us hl => match us, hl with | [_, _], _ => rfl) fun f fd F => K11.f_lvalues T c_law_rows_bent c_law_tables_bent F
  have c_law_is_within := d_law_is_within.cal (P := l.prog) (w := w) (base := base) (ps := ["value", "low", "high"]) X G (fun _ _ _ _ _ _ us hl => match us, hl with | [_, _, _], _ => rfl) fun f fd F => K11.f_lwithin T F
  have c_law_is_ways := d_law_is_ways.cal (P := l.prog) (w := w) (base := base) (ps := ["value"]) X G (fun _ _ _ _ _ _ us hl => match us, hl with | [_], _ => rfl) fun f fd F => K11.f_lways T c_law_is_within F
  have c_law_is_closed := d_law_is_closed.cal (P := l.prog) (w := w) (base := base) (ps := ["value"]) X G (fun _ _ _ _ _ _ us hl => match us, hl with | [_], _ => rfl) fun f fd F => K11.f_lisclosed T c_law_is_ways c_law_closed F
  have c_law_is_city := d_law_is_city.cal (P := l.prog) (w := w) (base := base) (ps := ["value"]) X G (fun _ _ _ _ _ _ us hl => match us, hl with | [_], _ => rfl) fun f fd F => K11.f_liscity T c_law_is_within c_law_is_closed F
  have c_is_tuple := d_is_tuple.cal (P := l.prog) (w := w) (base := base) (ps := ["value", "least", "most"]) X G (fun _ _ _ _ _ _ us hl => match us, hl with | [_, _, _], _ => rfl) fun f fd F => K11.f_tuple T F
  have c_is_word := d_is_word.cal (P := l.prog) (w := w) (base := base) (ps := ["value", "words"]) X G (fun _ _ _ _ _ _ us hl => match us, hl with | [_, _], _ => rfl) fun f fd F => K11.f_word T F
  have c_is_named := d_is_named.cal (P := l.prog) (w := w) (base := base) (ps := ["value", "word", "many"]) X G (fun _ _ _ _ _ _ us hl => match us, hl with | [_, _, _], _ => rfl) fun f fd F => K11.f_named c_is_tuple c_is_word F
  have c_is_integer := d_is_integer.cal (P := l.prog) (w := w) (base := base) (ps := ["value"]) X G (fun _ _ _ _ _ _ us hl => match us, hl with | [_], _ => rfl) fun f fd F => K11.f_integer T F
  have c_is_within := d_is_within.cal (P := l.prog) (w := w) (base := base) (ps := ["value", "least", "most"]) X G (fun _ _ _ _ _ _ us hl => match us, hl with | [_, _, _], _ => rfl) fun f fd F => K11.f_within c_is_integer F
  have c_are_within := d_are_within.cal (P := l.prog) (w := w) (base := base) (ps := ["value", "many", "least", "most"]) X G (fun _ _ _ _ _ _ us hl => match us, hl with | [_, _, _, _], _ => rfl) fun f fd F => K11.f_arewithin T c_is_tuple c_is_within F
  have c_is_way := d_is_way.cal (P := l.prog) (w := w) (base := base) (ps := ["table", "one", "other"]) X G (fun _ _ _ _ _ _ us hl => match us, hl with | [_, _, _], _ => rfl) fun f fd F => K11.f_isway F
  have c_is_way_table := d_is_way_table.cal (P := l.prog) (w := w) (base := base) (ps := ["value"]) X G (fun _ _ _ _ _ _ us hl => match us, hl with | [_], _ => rfl) fun f fd F => K11.f_waytable T cn c_is_tuple c_are_within c_is_way F
  have c_is_shortest := d_is_shortest.cal (P := l.prog) (w := w) (base := base) (ps := ["table", "one", "other"]) X G (fun _ _ _ _ _ _ us hl => match us, hl with | [_, _, _], _ => rfl) fun f fd F => K11.f_shortest T F
  have c_is_closed := d_is_closed.cal (P := l.prog) (w := w) (base := base) (ps := ["value"]) X G (fun _ _ _ _ _ _ us hl => match us, hl with | [_], _ => rfl) fun f fd F => K11.f_isclosed T c_is_way_table c_is_shortest F
  have c_is_city := d_is_city.cal (P := l.prog) (w := w) (base := base) (ps := ["value"]) X G (fun _ _ _ _ _ _ us hl => match us, hl with | [_], _ => rfl) fun f fd F => K11.f_iscity T cn c_is_named c_is_tuple c_are_within c_is_closed F
  have c_closed := d_closed.cal (P := l.prog) (w := w) (base := base) (ps := ["table"]) X G (fun _ _ _ _ _ _ us hl => match us, hl with | [_], _ => rfl) fun f fd F => K11.f_closed T c_is_way_table F
  have c_law_closed_right := d_law_closed_right.cal (P := l.prog) (w := w) (base := base) (ps := ["table"]) X G (fun _ _ _ _ _ _ us hl => match us, hl with | [_], _ => rfl) fun f fd F => K11.f_lclosedr T c_closed c_law_closed F
  have cx_closed := d_closed.calX (P := l.prog) (w := w) (base := base) (ps := ["table"]) X G (fun _ _ _ _ _ _ us hl => match us, hl with | [_], _ => rfl) fun f fd F => K11.fx_closed T c_is_way_table et_InvalidTable F
  have c_law_refused := d_law_refused.cal (P := l.prog) (w := w) (base := base) (ps := ["value"]) X G (fun _ _ _ _ _ _ us hl => match us, hl with | [_], _ => rfl) fun f fd F => K11.f_lrefused T cx_closed et_InvalidTable ei_InvalidTable F
  have c_check_city := d_check_city.cal (P := l.prog) (w := w) (base := base) (ps := ["city"]) X G (fun _ _ _ _ _ _ us hl => match us, hl with | [_], _ => rfl) fun f fd F => K11.f_ckcity c_is_city F
  have c_is_stop := d_is_stop.cal (P := l.prog) (w := w) (base := base) (ps := ["city", "value"]) X G (fun _ _ _ _ _ _ us hl => match us, hl with | [_, _], _ => rfl) fun f fd F => K11.f_isstop T c_is_within F
  have c_check_stops := d_check_stops.cal (P := l.prog) (w := w) (base := base) (ps := ["city", "one", "other"]) X G (fun _ _ _ _ _ _ us hl => match us, hl with | [_, _, _], _ => rfl) fun f fd F => K11.f_ckstops c_check_city c_is_stop F
  have c_walk_of := d_walk_of.cal (P := l.prog) (w := w) (base := base) (ps := ["city", "one", "other"]) X G (fun _ _ _ _ _ _ us hl => match us, hl with | [_, _, _], _ => rfl) fun f fd F => K11.f_walkof T F
  have c_change_of := d_change_of.cal (P := l.prog) (w := w) (base := base) (ps := ["city", "one", "other"]) X G (fun _ _ _ _ _ _ us hl => match us, hl with | [_, _, _], _ => rfl) fun f fd F => K11.f_changeof T c_walk_of F
  have c_change_between := d_change_between.cal (P := l.prog) (w := w) (base := base) (ps := ["city", "one", "other"]) X G (fun _ _ _ _ _ _ us hl => match us, hl with | [_, _, _], _ => rfl) fun f fd F => K11.f_change c_check_stops c_change_of F
  have c_walk_between := d_walk_between.cal (P := l.prog) (w := w) (base := base) (ps := ["city", "one", "other"]) X G (fun _ _ _ _ _ _ us hl => match us, hl with | [_, _, _], _ => rfl) fun f fd F => K11.f_walk c_check_stops c_walk_of F
  have c_drive_of := d_drive_of.cal (P := l.prog) (w := w) (base := base) (ps := ["city", "one", "other"]) X G (fun _ _ _ _ _ _ us hl => match us, hl with | [_, _, _], _ => rfl) fun f fd F => K11.f_driveof T F
  have c_drive_between := d_drive_between.cal (P := l.prog) (w := w) (base := base) (ps := ["city", "one", "other"]) X G (fun _ _ _ _ _ _ us hl => match us, hl with | [_, _, _], _ => rfl) fun f fd F => K11.f_drive c_check_stops c_drive_of F
  have c_law_between_right := d_law_between_right.cal (P := l.prog) (w := w) (base := base) (ps := ["pot", "city"]) X G (fun _ _ _ _ _ _ us hl => match us, hl with | [_, _], _ => rfl) fun f fd F => K11.f_lbetw T c_law_draw c_change_between c_walk_between c_drive_between F
  have c_law_right := d_law_right.cal (P := l.prog) (w := w) (base := base) (ps := ["pot"]) X G (fun _ _ _ _ _ _ us hl => match us, hl with | [_], _ => rfl) fun f fd F => K11.f_lright T c_law_pick c_law_city c_law_table c_law_some c_law_values c_law_is_city c_is_city c_law_tables_bent c_law_is_ways c_law_is_closed c_is_way_table c_is_closed c_law_closed_right c_law_refused c_law_between_right F
  have c_law_pot := d_law_pot.cal (P := l.prog) (w := w) (base := base) (ps := ["script", "k"]) X G (fun _ _ _ _ _ _ us hl => match us, hl with | [_, _], _ => rfl) fun f fd F => K11.f_lpot T0 F
  exact K11.f_law T0 c_law_right c_law_pot F
open PySem PySem.W PyProof.Rows in
set_option maxRecDepth 100000 in
set_option maxHeartbeats 0 in
theorem PySem.Challenge.cw_citylines_k11_any_value_as_city_holds : PySem.Challenge.rw_citylines_k11_any_value_as_city.Holds := by
  w_on; o_law; k_head; (case hw => w_witness2)
  k_fill
  refine Dv.walkG (l := PySem.Challenge.rw_citylines_k11_any_value_as_city) (n := 63) (k := 12) (x := "script") rfl (by decide) rfl ⟨rfl, by decide, by decide⟩ (fun w h Y => PySem.W.kIn_of Y) ?F
  case F =>
    intro w mg fa h KX G hmg
    refine' K11.all_mk KX G hmg ?e_stops ?e_zone ?e_change ?e_way ?aC0 ?xL0 ?rv0 ?sa0 ?ga0 ?gg0 ?nv0 ?iI0 ?tI0 ?lI0 ?cI0 ?kC0 ?eC0 ?tC0 ?hC0 ?iC0 ?sC0 ?ha0 ?hm0 ?iV0 ?aB ?cB ?tB ?hn ?ht ?iB0 ?z_isinstance ?z_int ?z_bool ?z_tuple ?z_list ?z_str ?z_len ?z_all ?z_any ?z_max ?z_min ?z_abs ?z_sorted ?z_repr ?z_range ?z_enumerate ?z_divmod ?z_set ?z_sum ?z_zip ?z_dict ?z_ValueError ?z_ArithmeticError ?z_LookupError ?d_law_draw ?d_law_pick ?d_law_table ?d_law_closed ?d_law_city ?d_law_some ?d_law_put ?d_law_rows_bent ?d_law_tables_bent ?d_law_values ?d_law_is_within ?d_law_is_ways ?d_law_is_closed ?d_law_is_city ?d_is_tuple ?d_is_word ?d_is_named ?d_is_integer ?d_is_within ?d_are_within ?d_is_way ?d_is_way_table ?d_is_shortest ?d_is_closed ?d_is_city ?d_closed ?d_law_closed_right ?d_law_refused ?d_check_city ?d_is_stop ?d_check_stops ?d_walk_of ?d_change_of ?d_change_between ?d_walk_between ?d_drive_of ?d_drive_between ?d_law_between_right ?d_law_right ?d_law_pot ?d_law
    (case e_stops => k_is)
    (case e_zone => k_is)
    (case e_change => k_is)
    (case e_way => k_is)
    (case aC0 => k_is)
    (case xL0 => k_is)
    (case rv0 => decide +kernel)
    (case sa0 => k_is)
    (case ga0 => k_is)
    (case gg0 => k_is)
    (case nv0 => k_is)
    (case iI0 => k_is)
    (case tI0 => k_is)
    (case lI0 => k_is)
    (case cI0 => k_is)
    (case kC0 => k_is)
    (case eC0 => k_is)
    (case tC0 => k_is)
    (case hC0 => k_is)
    (case iC0 => k_is)
    (case sC0 => first | rfl | k_is)
    (case ha0 => k_is)
    (case hm0 => k_is)
    (case iV0 => k_is)
    (case aB => k_is)
    (case cB => k_is)
    (case tB => k_is)
    (case hn => k_is)
    (case ht => k_is)
    (case iB0 => k_is)
    (case z_isinstance => k_is)
    (case z_int => k_is)
    (case z_bool => k_is)
    (case z_tuple => k_is)
    (case z_list => k_is)
    (case z_str => k_is)
    (case z_len => k_is)
    (case z_all => k_is)
    (case z_any => k_is)
    (case z_max => k_is)
    (case z_min => k_is)
    (case z_abs => k_is)
    (case z_sorted => k_is)
    (case z_repr => k_is)
    (case z_range => k_is)
    (case z_enumerate => k_is)
    (case z_divmod => k_is)
    (case z_set => k_is)
    (case z_sum => k_is)
    (case z_zip => k_is)
    (case z_dict => k_is)
    (case z_ValueError => k_is)
    (case z_ArithmeticError => k_is)
    (case z_LookupError => k_is)
    (case d_law_draw => (refine' Dv.df_mk ?a ?l ?c ?k; (case a => k_is); (case l => k_is); (case c => k_is); (case k => k_is)))
    (case d_law_pick => (refine' Dv.df_mk ?a ?l ?c ?k; (case a => k_is); (case l => k_is); (case c => k_is); (case k => k_is)))
    (case d_law_table => (refine' Dv.df_mk ?a ?l ?c ?k; (case a => k_is); (case l => k_is); (case c => k_is); (case k => k_is)))
    (case d_law_closed => (refine' Dv.df_mk ?a ?l ?c ?k; (case a => k_is); (case l => k_is); (case c => k_is); (case k => k_is)))
    (case d_law_city => (refine' Dv.df_mk ?a ?l ?c ?k; (case a => k_is); (case l => k_is); (case c => k_is); (case k => k_is)))
    (case d_law_some => (refine' Dv.df_mk ?a ?l ?c ?k; (case a => k_is); (case l => k_is); (case c => k_is); (case k => k_is)))
    (case d_law_put => (refine' Dv.df_mk ?a ?l ?c ?k; (case a => k_is); (case l => k_is); (case c => k_is); (case k => k_is)))
    (case d_law_rows_bent => (refine' Dv.df_mk ?a ?l ?c ?k; (case a => k_is); (case l => k_is); (case c => k_is); (case k => k_is)))
    (case d_law_tables_bent => (refine' Dv.df_mk ?a ?l ?c ?k; (case a => k_is); (case l => k_is); (case c => k_is); (case k => k_is)))
    (case d_law_values => (refine' Dv.df_mk ?a ?l ?c ?k; (case a => k_is); (case l => k_is); (case c => k_is); (case k => k_is)))
    (case d_law_is_within => (refine' Dv.df_mk ?a ?l ?c ?k; (case a => k_is); (case l => k_is); (case c => k_is); (case k => k_is)))
    (case d_law_is_ways => (refine' Dv.df_mk ?a ?l ?c ?k; (case a => k_is); (case l => k_is); (case c => k_is); (case k => k_is)))
    (case d_law_is_closed => (refine' Dv.df_mk ?a ?l ?c ?k; (case a => k_is); (case l => k_is); (case c => k_is); (case k => k_is)))
    (case d_law_is_city => (refine' Dv.df_mk ?a ?l ?c ?k; (case a => k_is); (case l => k_is); (case c => k_is); (case k => k_is)))
    (case d_is_tuple => (refine' Dv.df_mk ?a ?l ?c ?k; (case a => k_is); (case l => k_is); (case c => k_is); (case k => k_is)))
    (case d_is_word => (refine' Dv.df_mk ?a ?l ?c ?k; (case a => k_is); (case l => k_is); (case c => k_is); (case k => k_is)))
    (case d_is_named => (refine' Dv.df_mk ?a ?l ?c ?k; (case a => k_is); (case l => k_is); (case c => k_is); (case k => k_is)))
    (case d_is_integer => (refine' Dv.df_mk ?a ?l ?c ?k; (case a => k_is); (case l => k_is); (case c => k_is); (case k => k_is)))
    (case d_is_within => (refine' Dv.df_mk ?a ?l ?c ?k; (case a => k_is); (case l => k_is); (case c => k_is); (case k => k_is)))
    (case d_are_within => (refine' Dv.df_mk ?a ?l ?c ?k; (case a => k_is); (case l => k_is); (case c => k_is); (case k => k_is)))
    (case d_is_way => (refine' Dv.df_mk ?a ?l ?c ?k; (case a => k_is); (case l => k_is); (case c => k_is); (case k => k_is)))
    (case d_is_way_table => (refine' Dv.df_mk ?a ?l ?c ?k; (case a => k_is); (case l => k_is); (case c => k_is); (case k => k_is)))
    (case d_is_shortest => (refine' Dv.df_mk ?a ?l ?c ?k; (case a => k_is); (case l => k_is); (case c => k_is); (case k => k_is)))
    (case d_is_closed => (refine' Dv.df_mk ?a ?l ?c ?k; (case a => k_is); (case l => k_is); (case c => k_is); (case k => k_is)))
    (case d_is_city => (refine' Dv.df_mk ?a ?l ?c ?k; (case a => k_is); (case l => k_is); (case c => k_is); (case k => k_is)))
    (case d_closed => (refine' Dv.df_mk ?a ?l ?c ?k; (case a => k_is); (case l => k_is); (case c => k_is); (case k => k_is)))
    (case d_law_closed_right => (refine' Dv.df_mk ?a ?l ?c ?k; (case a => k_is); (case l => k_is); (case c => k_is); (case k => k_is)))
    (case d_law_refused => (refine' Dv.df_mk ?a ?l ?c ?k; (case a => k_is); (case l => k_is); (case c => k_is); (case k => k_is)))
    (case d_check_city => (refine' Dv.df_mk ?a ?l ?c ?k; (case a => k_is); (case l => k_is); (case c => k_is); (case k => k_is)))
    (case d_is_stop => (refine' Dv.df_mk ?a ?l ?c ?k; (case a => k_is); (case l => k_is); (case c => k_is); (case k => k_is)))
    (case d_check_stops => (refine' Dv.df_mk ?a ?l ?c ?k; (case a => k_is); (case l => k_is); (case c => k_is); (case k => k_is)))
    (case d_walk_of => (refine' Dv.df_mk ?a ?l ?c ?k; (case a => k_is); (case l => k_is); (case c => k_is); (case k => k_is)))
    (case d_change_of => (refine' Dv.df_mk ?a ?l ?c ?k; (case a => k_is); (case l => k_is); (case c => k_is); (case k => k_is)))
    (case d_change_between => (refine' Dv.df_mk ?a ?l ?c ?k; (case a => k_is); (case l => k_is); (case c => k_is); (case k => k_is)))
    (case d_walk_between => (refine' Dv.df_mk ?a ?l ?c ?k; (case a => k_is); (case l => k_is); (case c => k_is); (case k => k_is)))
    (case d_drive_of => (refine' Dv.df_mk ?a ?l ?c ?k; (case a => k_is); (case l => k_is); (case c => k_is); (case k => k_is)))
    (case d_drive_between => (refine' Dv.df_mk ?a ?l ?c ?k; (case a => k_is); (case l => k_is); (case c => k_is); (case k => k_is)))
    (case d_law_between_right => (refine' Dv.df_mk ?a ?l ?c ?k; (case a => k_is); (case l => k_is); (case c => k_is); (case k => k_is)))
    (case d_law_right => (refine' Dv.df_mk ?a ?l ?c ?k; (case a => k_is); (case l => k_is); (case c => k_is); (case k => k_is)))
    (case d_law_pot => (refine' Dv.df_mk ?a ?l ?c ?k; (case a => k_is); (case l => k_is); (case c => k_is); (case k => k_is)))
    (case d_law => (refine' Dv.df_mk ?a ?l ?c ?k; (case a => k_is); (case l => k_is); (case c => k_is); (case k => k_is)))

