import PyProof.Rows.All
import Wide.All
import OpenK.AllK
import Wide.FinOn
import HandS.ForMost
import HandS.Style
import HandS.IsInst
import HandS.Defaults
import PyProof.ReprRoads
import PyProof.ReprBulk
import PyProof.Rows.SortShellAny
import KE.GoesMore
import HandS.Conv
import HandS.SetFor
import PySem.Challenge.RW_citylines_k21_ready_and_charged_by_minut
set_option Elab.async false
set_option linter.all false
set_option maxRecDepth 100000
set_option maxHeartbeats 2000000
/-! Dv: readings of pure code by data. G: the part of the heap that is data (never changed); B: what stood when the def began (but for a pot). -/
namespace Dv
open PySem L2
abbrev Fg := PySem.W.Frag
abbrev Dt := PyData
def Ex (H H' : Hp) : Prop := ∀ a o, H a = some o → H' a = some o
theorem Ex.refl (H : Hp) : Ex H H := fun _ _ h => h
theorem Ex.trans {H H1 H2 : Hp} (a : Ex H H1) (b : Ex H1 H2) : Ex H H2 := fun x o h => b x o (a x o h)
theorem Ex.new {H : Hp} {p : Addr} {o : HO} (h : H p = none) : Ex H (upd H p o) := fun a u e => by
  rw [upd_ne (ne_of_none e h)]; exact e
theorem Ex.mut {H H' : Hp} {p : Addr} {o : HO} (e : Ex H H') (h : H p = none) : Ex H (upd H' p o) := fun a u ha => by
  rw [upd_ne (ne_of_none ha h)]; exact e a u ha
theorem Ex.both {H H' : Hp} {p : Addr} {o : HO} (e : Ex H H') : Ex (upd H p o) (upd H' p o) := fun a u ha => by
  by_cases h : a = p
  · subst h; rw [upd_same] at ha ⊢; exact ha
  · rw [upd_ne h] at ha ⊢; exact e a u ha
theorem Ex.free {H H' : Hp} {p : Addr} (e : Ex H H') (h : H' p = none) : H p = none := by
  cases h1 : H p with
  | none => rfl
  | some o => rw [e p o h1] at h; cases h
theorem ex_rd {H H' : Hp} {a : Addr} {u : HO} (e : Ex H H') (h : Rd H a u) : Rd H' a u := by
  rcases h with h | ⟨o, h⟩
  · exact .inl (e a _ h)
  · exact .inr ⟨o, e a _ h⟩
theorem ex_l {K : Fg} {H H' : Hp} {a : Addr} {xs : List V} (e : Ex H H') (h : SqL K H a xs) : SqL K H' a xs := by
  rcases h with h | h
  · exact .inl (ex_rd e h)
  · exact .inr h
theorem ex_t {K : Fg} {H H' : Hp} {a : Addr} {xs : List V} (e : Ex H H') (h : SqT K H a xs) : SqT K H' a xs := by
  rcases h with h | h
  · exact .inl (ex_rd e h)
  · exact .inr h
/-- a list that is tracked or locked, or a plain list of the module -/
def SqX (K : Fg) (H : Hp) (a : Addr) (xs : List V) : Prop := Rd H a (.lst xs) ∨ ∃ (its : List Value) (n : Nat), K.lookup a = some { cls := .type "list", data := .seq its.toArray n } ∧ its.length ≤ sizeLine ∧ Vals xs its
theorem ex_x {K : Fg} {H H' : Hp} {a : Addr} {xs : List V} (e : Ex H H') (h : SqX K H a xs) : SqX K H' a xs := by
  rcases h with h | h
  · exact .inl (ex_rd e h)
  · exact .inr h
theorem sqx_l {K : Fg} {H : Hp} {a : Addr} {xs : List V} (h : SqX K H a xs) : SqL K H a xs := by
  rcases h with h | ⟨its, n, h1, h2, h3⟩
  · exact .inl h
  · exact .inr ⟨_, its.toArray, n, h1, rfl, rfl, rfl, by simpa using h2, by simpa using h3⟩
theorem exl {K : Fg} {H H' : Hp} {a : Addr} {xs : List V} (e : Ex H H') (h : SqX K H a xs) : SqL K H' a xs := sqx_l (ex_x e h)
/-! a value that reads as data; lists are tracked (or locked), tuples may stand in the written part -/
mutual
inductive Dz (K : Fg) (H : Hp) : V → PyData → Prop
  | non : Dz K H .non .none
  | bl (b : Bool) : Dz K H (.bl b) (.bool b)
  | int (i : Int) : Dz K H (.int i) (.int i)
  | str (x : Str) : Dz K H (.str x) (.str x)
  | lst {a : Addr} {xs : List V} {ds : List PyData} : SqX K H a xs → DzAll K H xs ds → Dz K H (.ref a) (.list ds)
  | tup {a : Addr} {xs : List V} {ds : List PyData} : SqT K H a xs → DzAll K H xs ds → Dz K H (.ref a) (.tuple ds)
inductive DzAll (K : Fg) (H : Hp) : List V → List PyData → Prop
  | nil : DzAll K H [] []
  | cons {v : V} {vs : List V} {d : PyData} {ds : List PyData} : Dz K H v d → DzAll K H vs ds → DzAll K H (v :: vs) (d :: ds)
end
mutual
theorem dz_dp {K : Fg} {H : Hp} : ∀ (d : PyData) (v : V), Dz K H v d → Dp K H v d
  | .none, _, h => by cases h; exact .non
  | .bool b, _, h => by cases h; exact .bl b
  | .int i, _, h => by cases h; exact .int i
  | .str x, _, h => by cases h; exact .str x
  | .list ds, _, h => by
    cases h with
    | lst hs ha => exact .lst (sqx_l hs) (dzAll_dp ds _ ha)
  | .tuple ds, _, h => by
    cases h with
    | tup hs ha => exact .tup hs (dzAll_dp ds _ ha)
  | .dict _, _, h => by cases h
theorem dzAll_dp {K : Fg} {H : Hp} : ∀ (ds : List PyData) (vs : List V), DzAll K H vs ds → DpAll K H vs ds
  | [], _, h => by cases h; exact .nil
  | d :: ds, _, h => by
    cases h with
    | cons h1 h2 => exact .cons (dz_dp d _ h1) (dzAll_dp ds _ h2)
end
section
variable {K : Fg} {H H' : Hp}
mutual
theorem dp_ex (e : Ex H H') : ∀ (d : Dt) (v : V), Dz K H v d → Dz K H' v d
  | .none, _, h => by cases h; exact .non
  | .bool b, _, h => by cases h; exact .bl b
  | .int i, _, h => by cases h; exact .int i
  | .str x, _, h => by cases h; exact .str x
  | .list ds, _, h => by
    cases h with
    | lst hs ha => exact .lst (ex_x e hs) (dpAll_ex e ds _ ha)
  | .tuple ds, _, h => by
    cases h with
    | tup hs ha => exact .tup (ex_t e hs) (dpAll_ex e ds _ ha)
  | .dict _, _, h => by cases h
theorem dpAll_ex (e : Ex H H') : ∀ (ds : List Dt) (vs : List V), DzAll K H vs ds → DzAll K H' vs ds
  | [], _, h => by cases h; exact .nil
  | d :: ds, _, h => by
    cases h with
    | cons h1 h2 => exact .cons (dp_ex e d _ h1) (dpAll_ex e ds _ h2)
end
theorem dpAll_length : ∀ {vs : List V} {ds : List Dt}, DzAll K H vs ds → vs.length = ds.length
  | _, [], h => by cases h; rfl
  | _, _ :: _, h => by
    cases h with
    | cons h1 h2 => rw [List.length_cons, List.length_cons, dpAll_length h2]
theorem dpAll_get : ∀ {vs : List V} {ds : List Dt} {i : Nat} {d : Dt}, DzAll K H vs ds → ds[i]? = some d → ∃ v, vs[i]? = some v ∧ Dz K H v d
  | _, [], _, _, _, e => by simp at e
  | _, _ :: _, 0, _, h, e => by
    cases h with
    | cons h1 h2 => simp at e; subst e; exact ⟨_, rfl, h1⟩
  | _, _ :: _, i + 1, d, h, e => by
    cases h with
    | cons h1 h2 =>
      obtain ⟨v, q1, q2⟩ := dpAll_get (i := i) (d := d) h2 (by simpa using e)
      exact ⟨v, by simpa using q1, q2⟩
theorem dpAll_get' : ∀ {vs : List V} {ds : List Dt} {i : Nat} {v : V}, DzAll K H vs ds → vs[i]? = some v → ∃ d, ds[i]? = some d ∧ Dz K H v d
  | _, [], _, _, h, e => by cases h; simp at e
  | _, _ :: _, 0, _, h, e => by
    cases h with
    | cons h1 h2 => simp at e; subst e; exact ⟨_, rfl, h1⟩
  | _, _ :: _, i + 1, v, h, e => by
    cases h with
    | cons h1 h2 =>
      obtain ⟨d, q1, q2⟩ := dpAll_get' (i := i) (v := v) h2 (by simpa using e)
      exact ⟨d, by simpa using q1, q2⟩
theorem dpAll_append : ∀ {vs ws : List V} {ds es : List Dt}, DzAll K H vs ds → DzAll K H ws es → DzAll K H (vs ++ ws) (ds ++ es)
  | _, _, [], _, h, g => by cases h; exact g
  | _, _, _ :: _, _, h, g => by
    cases h with
    | cons h1 h2 => exact .cons h1 (dpAll_append h2 g)
theorem dpAll_take : ∀ {vs : List V} {ds : List Dt} (n : Nat), DzAll K H vs ds → DzAll K H (vs.take n) (ds.take n)
  | _, _, 0, _ => by simpa using (.nil : DzAll K H [] [])
  | _, [], n + 1, h => by cases h; exact .nil
  | _, _ :: _, n + 1, h => by
    cases h with
    | cons h1 h2 => exact .cons h1 (dpAll_take n h2)
theorem dpAll_drop : ∀ {vs : List V} {ds : List Dt} (n : Nat), DzAll K H vs ds → DzAll K H (vs.drop n) (ds.drop n)
  | _, _, 0, h => h
  | _, [], n + 1, h => by cases h; exact .nil
  | _, _ :: _, n + 1, h => by
    cases h with
    | cons h1 h2 => exact dpAll_drop n h2
theorem dpAll_reverse : ∀ {vs : List V} {ds : List Dt}, DzAll K H vs ds → DzAll K H vs.reverse ds.reverse
  | _, [], h => by cases h; exact .nil
  | _, _ :: _, h => by
    cases h with
    | cons h1 h2 => rw [List.reverse_cons, List.reverse_cons]; exact dpAll_append (dpAll_reverse h2) (.cons h1 .nil)
theorem dpAll_ints : ∀ {vs : List V} {ns : List Int}, DzAll K H vs (ns.map PyData.int) → vs = ns.map V.int
  | _, [], h => by cases h; rfl
  | _, n :: ns, h => by
    cases h with
    | cons h1 h2 => cases h1; rw [dpAll_ints h2]; rfl
theorem dpAll_bools : ∀ {vs : List V} {ns : List Bool}, DzAll K H vs (ns.map PyData.bool) → vs = ns.map V.bl
  | _, [], h => by cases h; rfl
  | _, n :: ns, h => by
    cases h with
    | cons h1 h2 => cases h1; rw [dpAll_bools h2]; rfl
theorem dpAll_of_ints : ∀ (ns : List Int), DzAll K H (ns.map V.int) (ns.map PyData.int)
  | [] => .nil
  | n :: ns => .cons (.int n) (dpAll_of_ints ns)
end

/-! ### what the slots hold. p: the pot's address, if there is a pot -/
inductive En where
  | no | d (x : Dt) | own (ds : List Dt) | pot
abbrev De := List En
def potOk (a b : Int) : Prop := 0 ≤ a ∧ 0 ≤ b ∧ b ≤ 2147483588
def PotI (p : Option Addr) (B G H : Hp) : Prop := ∀ q, p = some q → B q = none ∧ G q = none ∧ ∃ a b, H q = some (.lst [.int a, .int b]) ∧ potOk a b
structure I3 (p : Option Addr) (B G H : Hp) : Prop where
  bh : Ex B H
  gh : Ex G H
  pot : PotI p B G H
def En.isOwn : En → Prop
  | .own _ => True
  | _ => False
def Slot (K : Fg) (p : Option Addr) (B G H : Hp) : En → Option V → Prop
  | .no, _ => True
  | .d x, o => ∃ v, o = some v ∧ Dz K G v x
  | .own ds, o => ∃ l xs, o = some (.ref l) ∧ B l = none ∧ G l = none ∧ p ≠ some l ∧ H l = some (.lst xs) ∧ DzAll K G xs ds
  | .pot, o => ∃ q, o = some (.ref q) ∧ p = some q
structure EnvD (K : Fg) (p : Option Addr) (B G H : Hp) (σ : L2.St) (δ : De) : Prop where
  len : σ.length = δ.length
  slot : ∀ (i : Nat) en, δ[i]? = some en → ∃ o, σ[i]? = some o ∧ Slot K p B G H en o
  apart : ∀ (i j : Nat) e f l, i ≠ j → δ[i]? = some e → e.isOwn → δ[j]? = some f → f.isOwn → σ[i]? = some (some (.ref l)) → σ[j]? = some (some (.ref l)) → False
def del (p : Option Addr) (H : Hp) : Hp := fun a => if p = some a then none else H a
theorem del_none (H : Hp) : del none H = H := by funext a; unfold del; simp
theorem del_ne {p : Option Addr} {H : Hp} {a : Addr} (h : p ≠ some a) : del p H a = H a := by unfold del; rw [if_neg h]
theorem del_le {p : Option Addr} {H : Hp} {a : Addr} {o : HO} (h : del p H a = some o) : H a = some o ∧ p ≠ some a := by
  unfold del at h
  by_cases q : p = some a
  · rw [if_pos q] at h; cases h
  · rw [if_neg q] at h; exact ⟨h, q⟩
def Step (B G G' : Hp) : Prop := Ex G G' ∧ ∀ a, B a ≠ none → G a = none → G' a = none
theorem Step.refl (B G : Hp) : Step B G G := ⟨Ex.refl G, fun _ _ h => h⟩
theorem Step.trans {B G G1 G2 : Hp} (h : Step B G G1) (k : Step B G1 G2) : Step B G G2 := ⟨h.1.trans k.1, fun a b c => k.2 a b (h.2 a b c)⟩
theorem nn {o : Option HO} {u : HO} (h : o = some u) : o ≠ none := by rw [h]; intro z; cases z
theorem Step.le {B B' G G' : Hp} (h : Step B' G G') (e : ∀ a, B a ≠ none → B' a ≠ none) : Step B G G' := ⟨h.1, fun a b c => h.2 a (e a b) c⟩
/-- from (G, H) on: all but the pot stands; what is new in G' was not there -/
structure Nxt (p : Option Addr) (G H G' H' : Hp) : Prop where
  st : Step H G G'
  ex : Ex (del p H) H'
  gh : Ex G' H'
  pot : ∀ q, p = some q → ∃ a b, H' q = some (.lst [.int a, .int b]) ∧ potOk a b
theorem Nxt.dom {p : Option Addr} {G H G' H' : Hp} (n : Nxt p G H G' H') : ∀ a, H a ≠ none → H' a ≠ none := fun a h => by
  by_cases q : p = some a
  · obtain ⟨x, y, e, _⟩ := n.pot a q
    exact nn e
  · cases e : H a with
    | none => exact absurd e h
    | some o => exact nn (n.ex a o (by rw [del_ne q]; exact e))
theorem Nxt.exd {p : Option Addr} {G H G' H' : Hp} (n : Nxt p G H G' H') : Ex (del p H) (del p H') := fun a o h => by
  obtain ⟨_, q⟩ := del_le h
  rw [del_ne q]
  exact n.ex a o h
theorem Nxt.trans {p : Option Addr} {G H G1 H1 G2 H2 : Hp} (a : Nxt p G H G1 H1) (b : Nxt p G1 H1 G2 H2) : Nxt p G H G2 H2 :=
  ⟨a.st.trans (b.st.le a.dom), a.exd.trans b.ex, b.gh, b.pot⟩
theorem Nxt.refl {p : Option Addr} {B G H : Hp} (i : I3 p B G H) : Nxt p G H G H :=
  ⟨Step.refl _ _, fun a o h => (del_le h).1, i.gh, fun q e => (i.pot q e).2.2⟩
theorem I3.nxt {p : Option Addr} {B G H G' H' : Hp} (i : I3 p B G H) (n : Nxt p G H G' H') : I3 p B G' H' := by
  refine ⟨fun a o h => ?_, n.gh, fun q e => ?_⟩
  · have h1 := i.bh a o h
    by_cases q : p = some a
    · rw [(i.pot a q).1] at h; cases h
    · exact n.ex a o (by rw [del_ne q]; exact h1)
  · obtain ⟨h1, h2, x, y, h3, _⟩ := i.pot q e
    exact ⟨h1, n.st.2 q (nn h3) h2, n.pot q e⟩
/-- a new object, data or not -/
theorem Nxt.new {p : Option Addr} {B G H : Hp} (i : I3 p B G H) {a : Addr} (o : HO) (h : H a = none) : Nxt p G H (upd G a o) (upd H a o) := by
  refine ⟨⟨Ex.new (i.gh.free h), fun b hb hg => ?_⟩, fun b u hu => ?_, i.gh.both, fun q e => ?_⟩
  · have : b ≠ a := fun z => hb (z ▸ h)
    rw [upd_ne this]; exact hg
  · obtain ⟨h1, _⟩ := del_le hu
    rw [upd_ne (ne_of_none h1 h)]; exact h1
  · obtain ⟨_, _, x, y, h3, h4⟩ := i.pot q e
    exact ⟨x, y, by rw [upd_ne (ne_of_none h3 h)]; exact h3, h4⟩
theorem Nxt.newH {p : Option Addr} {B G H : Hp} (i : I3 p B G H) {a : Addr} (o : HO) (h : H a = none) : Nxt p G H G (upd H a o) := by
  refine ⟨Step.refl _ _, fun b u hu => ?_, i.gh.trans (Ex.new h), fun q e => ?_⟩
  · obtain ⟨h1, _⟩ := del_le hu
    rw [upd_ne (ne_of_none h1 h)]; exact h1
  · obtain ⟨_, _, x, y, h3, h4⟩ := i.pot q e
    exact ⟨x, y, by rw [upd_ne (ne_of_none h3 h)]; exact h3, h4⟩
theorem Slot.nxt {K : Fg} {p : Option Addr} {B G H G' H' : Hp} {en : En} {o : Option V} (h : Slot K p B G H en o) (n : Nxt p G H G' H') : Slot K p B G' H' en o := by
  cases en with
  | no => trivial
  | d x => obtain ⟨v, a, b⟩ := h; exact ⟨v, a, dp_ex n.st.1 _ _ b⟩
  | own ds => obtain ⟨l, xs, a, b, c, e, d, f⟩ := h; exact ⟨l, xs, a, b, n.st.2 l (nn d) c, e, n.ex _ _ (by rw [del_ne e]; exact d), dpAll_ex n.st.1 _ _ f⟩
  | pot => exact h
theorem EnvD.nxt {K : Fg} {p : Option Addr} {B G H G' H' : Hp} {σ : L2.St} {δ : De} (h : EnvD K p B G H σ δ) (n : Nxt p G H G' H') : EnvD K p B G' H' σ δ :=
  ⟨h.len, fun i en q => let ⟨o, a, b⟩ := h.slot i en q; ⟨o, a, b.nxt n⟩, h.apart⟩
section
variable {K : Fg} {p : Option Addr} {B G H : Hp} {σ σ' : L2.St} {δ : De}
/-- a slot is set to something that is no own list (or a new one) -/
theorem EnvD.put (h : EnvD K p B G H σ δ) {i : Nat} {o : Option V} {en : En} (hv : Slot K p B G H en o) (ha : en.isOwn → ∀ (j : Nat) f l, j ≠ i → δ[j]? = some f → f.isOwn → o = some (.ref l) → σ[j]? = some (some (.ref l)) → False) : EnvD K p B G H (σ.set i o) (δ.set i en) := by
  refine ⟨by rw [List.length_set, List.length_set]; exact h.len, fun j e q => ?_, fun j k e f l hjk q1 m1 q2 m2 r1 r2 => ?_⟩
  · by_cases hj : i = j
    · subst hj
      have hl : i < (δ.set i en).length := (List.getElem?_eq_some_iff.mp q).1
      rw [List.length_set] at hl
      rw [List.getElem?_set_self hl] at q
      cases q
      exact ⟨o, List.getElem?_set_self (by rw [h.len]; exact hl), hv⟩
    · rw [List.getElem?_set_ne hj] at q ⊢
      exact h.slot j e q
  · by_cases hj : i = j
    · subst hj
      have hl : i < (δ.set i en).length := (List.getElem?_eq_some_iff.mp q1).1
      rw [List.length_set] at hl
      rw [List.getElem?_set_self hl] at q1
      rw [List.getElem?_set_self (by rw [h.len]; exact hl)] at r1
      rw [List.getElem?_set_ne hjk] at q2 r2
      cases q1
      exact ha m1 k f l (Ne.symm hjk) q2 m2 (Option.some.inj r1) r2
    · by_cases hk : i = k
      · subst hk
        have hl : i < (δ.set i en).length := (List.getElem?_eq_some_iff.mp q2).1
        rw [List.length_set] at hl
        rw [List.getElem?_set_self hl] at q2
        rw [List.getElem?_set_self (by rw [h.len]; exact hl)] at r2
        rw [List.getElem?_set_ne hj] at q1 r1
        cases q2
        exact ha m2 j e l hjk q1 m1 (Option.some.inj r2) r1
      · rw [List.getElem?_set_ne hj] at q1 r1
        rw [List.getElem?_set_ne hk] at q2 r2
        exact h.apart j k e f l hjk q1 m1 q2 m2 r1 r2
theorem EnvD.set (h : EnvD K p B G H σ δ) {i : Nat} {v : V} {x : Dt} (hv : Dz K G v x) : EnvD K p B G H (σ.set i (some v)) (δ.set i (.d x)) :=
  h.put (en := .d x) ⟨v, rfl, hv⟩ fun z => False.elim z
theorem EnvD.wipe (h : EnvD K p B G H σ δ) (i : Nat) : EnvD K p B G H (σ.set i none) (δ.set i .no) := h.put (en := .no) (by trivial) fun z => False.elim z
/-- σ may be otherwise where δ says nothing -/
theorem EnvD.other (h : EnvD K p B G H σ δ) (hl : σ'.length = σ.length) (hs : ∀ (i : Nat) en, δ[i]? = some en → en ≠ .no → σ'[i]? = σ[i]?) : EnvD K p B G H σ' δ := by
  refine ⟨by rw [hl]; exact h.len, fun j en q => ?_, fun j k e f l hjk q1 m1 q2 m2 r1 r2 => ?_⟩
  · obtain ⟨o, a, b⟩ := h.slot j en q
    by_cases hn : en = .no
    · subst hn
      have hj : j < σ'.length := by rw [hl]; exact (List.getElem?_eq_some_iff.mp a).1
      exact ⟨σ'[j], List.getElem?_eq_getElem hj, trivial⟩
    · exact ⟨o, by rw [hs j en q hn]; exact a, b⟩
  · have n1 : e ≠ .no := fun z => by subst z; exact m1
    have n2 : f ≠ .no := fun z => by subst z; exact m2
    rw [hs j e q1 n1] at r1
    rw [hs k f q2 n2] at r2
    exact h.apart j k e f l hjk q1 m1 q2 m2 r1 r2
end
end Dv

set_option linter.all false
set_option maxRecDepth 100000
set_option maxHeartbeats 2000000
namespace Dv
open PySem L2
/-! ### the judgements -/
def rX (K : Fg) (δ : De) (R : Dt → Prop) : TE := fun σ H Q => ∃ p B G, I3 p B G H ∧ EnvD K p B G H σ δ ∧ ∀ v d G' H', R d → Nxt p G H G' H' → Dz K G' v d → Q v H'
def rA (K : Fg) (δ : De) (R : List Dt → Prop) : TA := fun σ H Q => ∃ p B G, I3 p B G H ∧ EnvD K p B G H σ δ ∧ ∀ vs ds G' H', R ds → Nxt p G H G' H' → DzAll K G' vs ds → Q vs H'
def rT (K : Fg) (δ : De) (R : Bool → Prop) : TT := fun σ H Q => ∃ p B G, I3 p B G H ∧ EnvD K p B G H σ δ ∧ ∀ c G' H', R c → Nxt p G H G' H' → Q c H'
def XD (X : Cx) (e : Expr) (δ : De) (R : Dt → Prop) : Prop := PE X e (rX X.K δ R)
structure XA (X : Cx) (es : List Expr) (δ : De) (R : List Dt → Prop) : Prop where
  pa : PA X es (rA X.K δ R)
  pl : starEach es X.env = es.map fun e => (false, eval e X.env)
theorem XA.he {X : Cx} {e : Expr} {es : List Expr} {δ : De} {R : List Dt → Prop} (h : XA X (e :: es) δ R) : starEach (e :: es) X.env = (false, eval e X.env) :: (es.map fun e => (false, eval e X.env)) := h.pl
theorem back_plain {X : Cx} {es : List Expr} {pos : Pos} (h : starEach es X.env = es.map fun e => (false, eval e X.env)) : (backTo pos (starEach es X.env)).any (·.1) = false := by
  rw [h]
  unfold backTo
  rw [List.map_map, List.any_map]
  exact List.any_eq_false.mpr fun e _ => by simp
def XT (X : Cx) (e : Expr) (δ : De) (R : Bool → Prop) : Prop := PT X e (rT X.K δ R)
def XW (X : Cx) (e : Expr) (δ : De) (R : Bool → Prop) : Prop := PW X e (rT X.K δ R)
abbrev PD (X : Cx) (e : Expr) (δ : De) (d : Dt) : Prop := XD X e δ (fun x => x = d)
abbrev PAD (X : Cx) (es : List Expr) (δ : De) (ds : List Dt) : Prop := XA X es δ (fun x => x = ds)
abbrev PTD (X : Cx) (e : Expr) (δ : De) (c : Bool) : Prop := XT X e δ (fun x => x = c)
abbrev PWD (X : Cx) (e : Expr) (δ : De) (c : Bool) : Prop := XW X e δ (fun x => x = c)

theorem PE.imp {X : Cx} {e : Expr} {t t' : TE} (h : PE X e t) (k : ∀ σ H Q, t' σ H Q → t σ H Q) : PE X e t' := ⟨fun pins s σ H Q I q => h.run pins s σ H Q I (k σ H Q q)⟩
theorem PA.imp {X : Cx} {e : List Expr} {t t' : TA} (h : PA X e t) (k : ∀ σ H Q, t' σ H Q → t σ H Q) : PA X e t' := ⟨fun pos pins s σ H Q I q => h.run pos pins s σ H Q I (k σ H Q q)⟩
theorem PT.imp {X : Cx} {e : Expr} {t t' : TT} (h : PT X e t) (k : ∀ σ H Q, t' σ H Q → t σ H Q) : PT X e t' := ⟨fun pins s σ H Q I q => h.run pins s σ H Q I (k σ H Q q)⟩
theorem PW.imp {X : Cx} {e : Expr} {t t' : TT} (h : PW X e t) (k : ∀ σ H Q, t' σ H Q → t σ H Q) : PW X e t' := ⟨fun w pins s σ H Q I q => h.run w pins s σ H Q I (k σ H Q q)⟩
theorem PS.imp {X : Cx} {e : Stmt} {t t' : TS} (h : PS X e t) (k : ∀ D σ H, t' D σ H → t D σ H) : PS X e t' := ⟨fun pins s σ H Q I q => h.run pins s σ H Q I (k Q σ H q)⟩
theorem PSs.imp {X : Cx} {e : List Stmt} {t t' : TS} (h : PSs X e t) (k : ∀ D σ H, t' D σ H → t D σ H) : PSs X e t' := ⟨fun pins s σ H Q I q => h.run pins s σ H Q I (k Q σ H q)⟩
section
variable {X : Cx} {a b c e : Expr} {es : List Expr} {δ : De} {pos : Pos} {R U1 U2 : Dt → Prop} {d x y : Dt} {ds : List Dt}
theorem XD.mono (h : XD X e δ U1) (k : ∀ d, U1 d → R d) : XD X e δ R := PE.imp h fun σ H Q ⟨p, B, G, i, en, q⟩ => ⟨p, B, G, i, en, fun v d G' H' r => q v d G' H' (k d r)⟩
theorem XT.mono {U1 R : Bool → Prop} (h : XT X e δ U1) (k : ∀ d, U1 d → R d) : XT X e δ R := PT.imp h fun σ H Q ⟨p, B, G, i, en, q⟩ => ⟨p, B, G, i, en, fun c G' H' r => q c G' H' (k c r)⟩
theorem XA.mono {U1 R : List Dt → Prop} (h : XA X es δ U1) (k : ∀ d, U1 d → R d) : XA X es δ R := ⟨PA.imp h.pa fun σ H Q ⟨p, B, G, i, en, q⟩ => ⟨p, B, G, i, en, fun v d G' H' r => q v d G' H' (k d r)⟩, h.pl⟩
theorem PD.is (h : PD X e δ x) (k : x = d) : PD X e δ d := k ▸ h
theorem pd_v (i : Nat) {x : Str} (hs : δ[i]? = some (.d d) := by rfl) (hN : X.N[i]? = some x := by rfl) (hv : Vis X.env.scope x := by first | exact Or.inl rfl | exact Or.inr (Or.inl rfl) | exact Or.inr (Or.inr rfl)) (hd : (x == ("__debug__" : Str)) = false := by decide)
    (hcd : (x == ("__classdict__" : Str)) = false := by decide) : PD X (.Name x pos) δ d := PE.imp (pe_var hN hv hd hcd) fun σ H Q ⟨p, B, G, i3, en, q⟩ => by
  obtain ⟨o, h1, v, rfl, h2⟩ := en.slot i _ hs
  exact ⟨v, h1, q v d G H rfl (.refl i3) h2⟩
theorem pd_int {i : Int} {j} : PD X (.Constant (.int i) j pos) δ (.int i) := PE.imp pe_int fun σ H Q ⟨p, B, G, i3, en, q⟩ => q _ _ G H rfl (.refl i3) (.int i)
theorem pd_bl {i : Bool} {j} : PD X (.Constant (.bool i) j pos) δ (.bool i) := PE.imp pe_bl fun σ H Q ⟨p, B, G, i3, en, q⟩ => q _ _ G H rfl (.refl i3) (.bl i)
theorem pd_str {i : Str} {j} : PD X (.Constant (.str i) j pos) δ (.str i) := PE.imp pe_str fun σ H Q ⟨p, B, G, i3, en, q⟩ => q _ _ G H rfl (.refl i3) (.str i)
theorem pd_non {j} : PD X (.Constant .none j pos) δ .none := PE.imp pe_non fun σ H Q ⟨p, B, G, i3, en, q⟩ => q _ _ G H rfl (.refl i3) .non
/-- a constant of the module -/
theorem pd_glob {x : Str} {v : V} {u : Value} (hg : Gl X x) (hm : X.mg x = some u) (r : RelV v u) (hv : ∀ G, Dz X.K G v d) (hd : (x == ("__debug__" : Str)) = false := by decide) : PD X (.Name x pos) δ d :=
  PE.imp (pe_glob hg hm r hd) fun σ H Q ⟨p, B, G, i3, en, q⟩ => q _ _ G H rfl (.refl i3) (hv G)
/-- two in a row -/
theorem two {U1 U2 : Dt → Prop} {K : Fg} {p : Option Addr} {B G H : Hp} {σ : L2.St} {Q : V → V → Hp → Prop} (i3 : I3 p B G H) (en : EnvD K p B G H σ δ)
    (k : ∀ v w d1 d2 G' H', U1 d1 → U2 d2 → Nxt p G H G' H' → I3 p B G' H' → Dz K G' v d1 → Dz K G' w d2 → Q v w H') : rX K δ U1 σ H fun v H1 => rX K δ U2 σ H1 fun w H2 => Q v w H2 :=
  ⟨p, B, G, i3, en, fun v d1 G1 H1 r1 n1 h1 => ⟨p, B, G1, i3.nxt n1, en.nxt n1, fun w d2 G2 H2 r2 n2 h2 => k v w d1 d2 G2 H2 r1 r2 (n1.trans n2) (i3.nxt (n1.trans n2)) (dp_ex n2.st.1 _ _ h1) h2⟩⟩
/-- what a relation of two values gives -/
def RD (K : Fg) (r : R2) (x y : Dt) (R : Dt → Prop) : Prop := ∀ p B G H v w, I3 p B G H → Dz K G v x → Dz K G w y → ∀ Q : VK, (∀ u d G' H', R d → Nxt p G H G' H' → Dz K G' u d → Q u H') → r v w H Q
theorem xd_op {op : Operator} {r : R2} (ho : OpR X (binaryOp op) r) (ha : XD X a δ U1) (hb : XD X b δ U2) (hr : ∀ x y, U1 x → U2 y → RD X.K r x y R) : XD X (.BinOp a op b pos) δ R :=
  PE.imp (pe_op ho ha hb) fun σ H Q ⟨p, B, G, i3, en, q⟩ => two i3 en fun v w d1 d2 G' H' r1 r2 n i' h1 h2 => hr d1 d2 r1 r2 p B G' H' v w i' h1 h2 Q fun u d G2 H2 rr n2 hu => q u d G2 H2 rr (n.trans n2) hu
theorem xd_cmp {op : CmpOp} {r : R2} (ho : OpR X (compareOp op) r) (ha : XD X a δ U1) (hb : XD X b δ U2) (hm : behindInMarks op b = false) (hr : ∀ x y, U1 x → U2 y → RD X.K r x y R) : XD X (.Compare a [op] [b] pos) δ R :=
  PE.imp (pe_cmpR ho ha hb hm) fun σ H Q ⟨p, B, G, i3, en, q⟩ => two i3 en fun v w d1 d2 G' H' r1 r2 n i' h1 h2 => hr d1 d2 r1 r2 p B G' H' v w i' h1 h2 Q fun u d G2 H2 rr n2 hu => q u d G2 H2 rr (n.trans n2) hu
theorem xd_ix {r : R2} (ho : IxR X r) (ha : XD X a δ U1) (hb : XD X b δ U2) (hs : PlainIx b) (hr : ∀ x y, U1 x → U2 y → RD X.K r x y R) : XD X (.Subscript a b pos) δ R :=
  PE.imp (pe_ix ho ha hb hs) fun σ H Q ⟨p, B, G, i3, en, q⟩ => two i3 en fun v w d1 d2 G' H' r1 r2 n i' h1 h2 => hr d1 d2 r1 r2 p B G' H' v w i' h1 h2 Q fun u d G2 H2 rr n2 hu => q u d G2 H2 rr (n.trans n2) hu
theorem rd_i {g : Int → Int → Int} {i j : Int} (hR : R (.int (g i j))) {K : Fg} : RD K (rI0 fun i j => .int (g i j)) (.int i) (.int j) R := by
  intro p B G H v w i3 h1 h2 Q q
  cases h1; cases h2
  exact ⟨i, j, rfl, rfl, q _ _ G H hR (.refl i3) (.int _)⟩
theorem rd_b {g : Int → Int → Bool} {i j : Int} (hR : R (.bool (g i j))) {K : Fg} : RD K (rI0 fun i j => .bl (g i j)) (.int i) (.int j) R := by
  intro p B G H v w i3 h1 h2 Q q
  cases h1; cases h2
  exact ⟨i, j, rfl, rfl, q _ _ G H hR (.refl i3) (.bl _)⟩
theorem rd_c {C : Int → Int → Prop} {g : Int → Int → Int} {i j : Int} (hc : C i j) (hR : R (.int (g i j))) {K : Fg} : RD K (rI C fun i j => .int (g i j)) (.int i) (.int j) R := by
  intro p B G H v w i3 h1 h2 Q q
  cases h1; cases h2
  exact ⟨i, j, rfl, rfl, hc, q _ _ G H hR (.refl i3) (.int _)⟩
variable {i j : Int}
theorem pd_add (ha : PD X a δ (.int i)) (hb : PD X b δ (.int j)) : PD X (.BinOp a .Add b pos) δ (.int (i + j)) := xd_op op_add ha hb fun x y e1 e2 => by subst e1; subst e2; (refine rd_i ?_; rfl)
theorem pd_sub (ha : PD X a δ (.int i)) (hb : PD X b δ (.int j)) : PD X (.BinOp a .Sub b pos) δ (.int (i - j)) := xd_op op_sub ha hb fun x y e1 e2 => by subst e1; subst e2; (refine rd_i ?_; rfl)
theorem pd_mul (ha : PD X a δ (.int i)) (hb : PD X b δ (.int j)) (hc : CMul i j) : PD X (.BinOp a .Mult b pos) δ (.int (i * j)) := xd_op op_mul ha hb fun x y e1 e2 => by subst e1; subst e2; (refine rd_c ?_ ?_; exact hc; rfl)
theorem pd_mod (ha : PD X a δ (.int i)) (hb : PD X b δ (.int j)) (hc : 0 < j) : PD X (.BinOp a .Mod b pos) δ (.int (i % j)) := xd_op op_mod ha hb fun x y e1 e2 => by subst e1; subst e2; (refine rd_c ?_ ?_; exact hc; rfl)
theorem pd_fdiv (ha : PD X a δ (.int i)) (hb : PD X b δ (.int j)) (hc : CDiv i j) : PD X (.BinOp a .FloorDiv b pos) δ (.int (i / j)) := xd_op op_fdiv ha hb fun x y e1 e2 => by subst e1; subst e2; (refine rd_c ?_ ?_; exact hc; rfl)
theorem pd_pow (ha : PD X a δ (.int i)) (hb : PD X b δ (.int j)) (hc : CPow i j) : PD X (.BinOp a .Pow b pos) δ (.int (i ^ j.toNat)) := xd_op op_pow ha hb fun x y e1 e2 => by subst e1; subst e2; (refine rd_c ?_ ?_; exact hc; rfl)
theorem pd_lt (ha : PD X a δ (.int i)) (hb : PD X b δ (.int j)) : PD X (.Compare a [.Lt] [b] pos) δ (.bool (decide (i < j))) := xd_cmp op_lt ha hb (nomark _) fun x y e1 e2 => by subst e1; subst e2; (refine rd_b ?_; rfl)
theorem pd_le (ha : PD X a δ (.int i)) (hb : PD X b δ (.int j)) : PD X (.Compare a [.LtE] [b] pos) δ (.bool (decide (i ≤ j))) := xd_cmp op_le ha hb (nomark _) fun x y e1 e2 => by subst e1; subst e2; (refine rd_b ?_; rfl)
theorem pd_gt (ha : PD X a δ (.int i)) (hb : PD X b δ (.int j)) : PD X (.Compare a [.Gt] [b] pos) δ (.bool (decide (j < i))) := xd_cmp op_gt ha hb (nomark _) fun x y e1 e2 => by subst e1; subst e2; (refine rd_b ?_; rfl)
theorem pd_ge (ha : PD X a δ (.int i)) (hb : PD X b δ (.int j)) : PD X (.Compare a [.GtE] [b] pos) δ (.bool (decide (j ≤ i))) := xd_cmp op_ge ha hb (nomark _) fun x y e1 e2 => by subst e1; subst e2; (refine rd_b ?_; rfl)
theorem pd_eqI (ha : PD X a δ (.int i)) (hb : PD X b δ (.int j)) : PD X (.Compare a [.Eq] [b] pos) δ (.bool (decide (i = j))) := xd_cmp op_eq ha hb (nomark _) fun x y e1 e2 => by
  subst e1; subst e2
  intro p B G H v w i3 h1 h2 Q q
  cases h1; cases h2
  refine ⟨rfl, q _ _ G H rfl (.refl i3) ?_⟩
  have : decide (V.int i = V.int j) = decide (i = j) := by rw [dec_int]; rfl
  rw [this]; exact .bl _
theorem pd_neI (ha : PD X a δ (.int i)) (hb : PD X b δ (.int j)) : PD X (.Compare a [.NotEq] [b] pos) δ (.bool (!decide (i = j))) := xd_cmp op_ne ha hb (nomark _) fun x y e1 e2 => by
  subst e1; subst e2
  intro p B G H v w i3 h1 h2 Q q
  cases h1; cases h2
  refine ⟨rfl, q _ _ G H rfl (.refl i3) ?_⟩
  have : decide (V.int i = V.int j) = decide (i = j) := by rw [dec_int]; rfl
  rw [this]; exact .bl _
theorem pd_eqS {i j : Str} (ha : PD X a δ (.str i)) (hb : PD X b δ (.str j)) : PD X (.Compare a [.Eq] [b] pos) δ (.bool (decide (i = j))) := xd_cmp op_eq ha hb (nomark _) fun x y e1 e2 => by
  subst e1; subst e2
  intro p B G H v w i3 h1 h2 Q q
  cases h1; cases h2
  refine ⟨rfl, q _ _ G H rfl (.refl i3) ?_⟩
  have : decide (V.str i = V.str j) = decide (i = j) := by by_cases h : i = j <;> simp [h]
  rw [this]; exact .bl _
theorem pd_neS {i j : Str} (ha : PD X a δ (.str i)) (hb : PD X b δ (.str j)) : PD X (.Compare a [.NotEq] [b] pos) δ (.bool (!decide (i = j))) := xd_cmp op_ne ha hb (nomark _) fun x y e1 e2 => by
  subst e1; subst e2
  intro p B G H v w i3 h1 h2 Q q
  cases h1; cases h2
  refine ⟨rfl, q _ _ G H rfl (.refl i3) ?_⟩
  have : decide (V.str i = V.str j) = decide (i = j) := by by_cases h : i = j <;> simp [h]
  rw [this]; exact .bl _
theorem pd_eqB {i j : Bool} (ha : PD X a δ (.bool i)) (hb : PD X b δ (.bool j)) : PD X (.Compare a [.Eq] [b] pos) δ (.bool (decide (i = j))) := xd_cmp op_eq ha hb (nomark _) fun x y e1 e2 => by
  subst e1; subst e2
  intro p B G H v w i3 h1 h2 Q q
  cases h1; cases h2
  refine ⟨rfl, q _ _ G H rfl (.refl i3) ?_⟩
  have : decide (V.bl i = V.bl j) = decide (i = j) := by by_cases h : i = j <;> simp [h]
  rw [this]; exact .bl _
theorem pd_neB {i j : Bool} (ha : PD X a δ (.bool i)) (hb : PD X b δ (.bool j)) : PD X (.Compare a [.NotEq] [b] pos) δ (.bool (!decide (i = j))) := xd_cmp op_ne ha hb (nomark _) fun x y e1 e2 => by
  subst e1; subst e2
  intro p B G H v w i3 h1 h2 Q q
  cases h1; cases h2
  refine ⟨rfl, q _ _ G H rfl (.refl i3) ?_⟩
  have : decide (V.bl i = V.bl j) = decide (i = j) := by by_cases h : i = j <;> simp [h]
  rw [this]; exact .bl _
/-- == and != of data -/
theorem pd_eqD (hu : X.A.units + 64 < cLine) (ha : PD X a δ x) (hb : PD X b δ y) (hx : SeqAt.shaped x = true) (hy : SeqAt.shaped y = true) : PD X (.Compare a [.Eq] [b] pos) δ (.bool (PyData.eqv x y)) := xd_cmp (op_eqD hu) ha hb (nomark _) fun x y e1 e2 => by
  subst e1; subst e2
  intro p B G H v w i3 h1 h2 Q q
  exact ⟨_, _, dz_dp _ _ (dp_ex i3.gh _ _ h1), dz_dp _ _ (dp_ex i3.gh _ _ h2), hx, hy, q _ _ G H rfl (.refl i3) (.bl _)⟩
theorem pd_neD (hu : X.A.units + 64 < cLine) (ha : PD X a δ x) (hb : PD X b δ y) (hx : SeqAt.shaped x = true) (hy : SeqAt.shaped y = true) : PD X (.Compare a [.NotEq] [b] pos) δ (.bool (!PyData.eqv x y)) := xd_cmp (op_neD hu) ha hb (nomark _) fun x y e1 e2 => by
  subst e1; subst e2
  intro p B G H v w i3 h1 h2 Q q
  exact ⟨_, _, dz_dp _ _ (dp_ex i3.gh _ _ h1), dz_dp _ _ (dp_ex i3.gh _ _ h2), hx, hy, q _ _ G H rfl (.refl i3) (.bl _)⟩
theorem pd_isN {c : Bool} (ha : PD X a δ x) (hb : PD X b δ .none) (hc : c = (match x with | .none => true | _ => false) := by rfl) : PD X (.Compare a [.Is] [b] pos) δ (.bool c) := xd_cmp op_isN ha hb (nomark _) fun x y e1 e2 => by
  subst e1; subst e2
  intro p B G H v w i3 h1 h2 Q q
  cases h2
  refine ⟨rfl, q _ _ G H rfl (.refl i3) ?_⟩
  subst hc
  cases h1 <;> exact .bl _
theorem pd_notN {c : Bool} (ha : PD X a δ x) (hb : PD X b δ .none) (hc : c = (match x with | .none => false | _ => true) := by rfl) : PD X (.Compare a [.IsNot] [b] pos) δ (.bool c) := xd_cmp op_notN ha hb (nomark _) fun x y e1 e2 => by
  subst e1; subst e2
  intro p B G H v w i3 h1 h2 Q q
  cases h2
  refine ⟨rfl, q _ _ G H rfl (.refl i3) ?_⟩
  subst hc
  cases h1 <;> exact .bl _
/-! places -/
theorem atI_all {K : Fg} {G : Hp} {xs : List V} {ds : List Dt} {i : Int} {d : Dt} (h : DzAll K G xs ds) (e : atI ds i = some d) : ∃ v, atI xs i = some v ∧ Dz K G v d := by
  unfold atI at e ⊢
  rw [← dpAll_length h] at e
  cases q : ixN xs.length i with
  | none => rw [q] at e; cases e
  | some j => rw [q] at e; exact dpAll_get h e
theorem rd_ixT {K : Fg} {i : Int} (h : ∃ d, atI ds i = some d ∧ R d) : RD K (rIxT K) (.tuple ds) (.int i) R := by
  intro p B G H v w i3 h1 h2 Q q
  cases h2
  cases h1 with
  | tup hs ha =>
    obtain ⟨d, e, hR⟩ := h
    obtain ⟨u, e1, e2⟩ := atI_all ha e
    exact ⟨_, _, i, u, rfl, rfl, ex_t i3.gh hs, e1, q u d G H hR (.refl i3) e2⟩
theorem rd_ixL {K : Fg} {i : Int} (h : ∃ d, atI ds i = some d ∧ R d) : RD K (rIxL K) (.list ds) (.int i) R := by
  intro p B G H v w i3 h1 h2 Q q
  cases h2
  cases h1 with
  | lst hs ha =>
    obtain ⟨d, e, hR⟩ := h
    obtain ⟨u, e1, e2⟩ := atI_all ha e
    exact ⟨_, _, i, u, rfl, rfl, exl i3.gh hs, e1, q u d G H hR (.refl i3) e2⟩
theorem pd_ixT (ha : PD X a δ (.tuple ds)) (hb : PD X b δ (.int i)) (h : atI ds i = some d) (hs : PlainIx b := by exact fun _ _ => rfl) : PD X (.Subscript a b pos) δ d := xd_ix ix_tup ha hb hs fun x y e1 e2 => by subst e1; subst e2; exact rd_ixT ⟨d, h, rfl⟩
theorem pd_ixL (ha : PD X a δ (.list ds)) (hb : PD X b δ (.int i)) (h : atI ds i = some d) (hs : PlainIx b := by exact fun _ _ => rfl) : PD X (.Subscript a b pos) δ d := xd_ix ix_list ha hb hs fun x y e1 e2 => by subst e1; subst e2; exact rd_ixL ⟨d, h, rfl⟩
/-! bool values, conditional expressions -/
theorem pd_not {c : Bool} (ha : PD X a δ (.bool c)) : PD X (.UnaryOp .Not a pos) δ (.bool (!c)) := PE.imp (pe_not ha) fun σ H Q ⟨p, B, G, i3, en, q⟩ => ⟨p, B, G, i3, en, fun v d G' H' r n h => by
  subst r; cases h; exact ⟨c, rfl, q _ _ G' H' rfl n (.bl _)⟩⟩
theorem pd_one {op} (h : XD X a δ R) : XD X (.BoolOp op [a] pos) δ R := pe_one h
theorem pd_and {rest : List Expr} {u w : Bool} (ha : PD X a δ (.bool u)) (hb : u = true → PD X (.BoolOp .And (b :: rest) pos) δ (.bool w)) : PD X (.BoolOp .And (a :: b :: rest) pos) δ (.bool (u && w)) := by
  cases u with
  | true => exact PE.imp (pe_and ha (hb rfl)) fun σ H Q ⟨p, B, G, i3, en, q⟩ => ⟨p, B, G, i3, en, fun v d G' H' r n h => by
      subst r; cases h
      exact ⟨true, rfl, iteT ⟨p, B, G', i3.nxt n, en.nxt n, fun v2 d2 G2 H2 r2 n2 h2 => by subst r2; exact q v2 _ G2 H2 rfl (n.trans n2) h2⟩⟩⟩
  | false =>
    have hz : PE X (.BoolOp .And (b :: rest) pos) (fun _ _ _ => False) := ⟨fun _ _ _ _ _ _ z => z.elim⟩
    exact PE.imp (pe_and ha hz) fun σ H Q ⟨p, B, G, i3, en, q⟩ => ⟨p, B, G, i3, en, fun v d G' H' r n h => by
      subst r; cases h
      exact ⟨false, rfl, iteF (q _ _ G' H' rfl n (.bl _))⟩⟩
theorem pd_or {rest : List Expr} {u w : Bool} (ha : PD X a δ (.bool u)) (hb : u = false → PD X (.BoolOp .Or (b :: rest) pos) δ (.bool w)) : PD X (.BoolOp .Or (a :: b :: rest) pos) δ (.bool (u || w)) := by
  cases u with
  | false => exact PE.imp (pe_or ha (hb rfl)) fun σ H Q ⟨p, B, G, i3, en, q⟩ => ⟨p, B, G, i3, en, fun v d G' H' r n h => by
      subst r; cases h
      exact ⟨false, rfl, iteF ⟨p, B, G', i3.nxt n, en.nxt n, fun v2 d2 G2 H2 r2 n2 h2 => by subst r2; exact q v2 _ G2 H2 rfl (n.trans n2) h2⟩⟩⟩
  | true =>
    have hz : PE X (.BoolOp .Or (b :: rest) pos) (fun _ _ _ => False) := ⟨fun _ _ _ _ _ _ z => z.elim⟩
    exact PE.imp (pe_or ha hz) fun σ H Q ⟨p, B, G, i3, en, q⟩ => ⟨p, B, G, i3, en, fun v d G' H' r n h => by
      subst r; cases h
      exact ⟨true, rfl, iteT (q _ _ G' H' rfl n (.bl _))⟩⟩
/-! tests -/
theorem xt_val {R : Bool → Prop} (h : XD X e δ fun d => ∃ c, d = .bool c ∧ R c) (he : ∀ whole, isTrue e X.env whole = (do let v ← whole; standAt e.pos; holding [v] (truthy v)) := by intro _; rfl) : XT X e δ R := PT.imp (pt_val h he) fun σ H Q ⟨p, B, G, i3, en, q⟩ =>
  ⟨p, B, G, i3, en, fun v d G' H' ⟨c, r, rc⟩ n hv => by subst r; cases hv; exact ⟨c, rfl, q c G' H' rc n⟩⟩
theorem pt_v {u : Bool} (h : PD X e δ (.bool u)) (he : ∀ whole, isTrue e X.env whole = (do let v ← whole; standAt e.pos; holding [v] (truthy v)) := by intro _; rfl) : PTD X e δ u := xt_val (h.mono fun d e => ⟨u, e, rfl⟩) he
theorem xt_cmp {op : CmpOp} {r : R2} {R : Bool → Prop} (ho : OpR X (compareOp op) r) (ha : XD X a δ U1) (hb : XD X b δ U2) (hm : behindInMarks op b = false) (hr : ∀ x y, U1 x → U2 y → RD X.K r x y fun d => ∃ c, d = .bool c ∧ R c) : XT X (.Compare a [op] [b] pos) δ R :=
  PT.imp (pt_cmpR ho ha hb hm) fun σ H Q ⟨p, B, G, i3, en, q⟩ => two i3 en fun v w d1 d2 G' H' r1 r2 n i' h1 h2 => hr d1 d2 r1 r2 p B G' H' v w i' h1 h2 _ fun u d G2 H2 ⟨c, rr, rc⟩ n2 hu => by
    subst rr; cases hu; exact ⟨c, rfl, q c G2 H2 rc (n.trans n2)⟩
theorem xt_not {R : Bool → Prop} (h : XT X e δ fun c => R (!c)) : XT X (.UnaryOp .Not e pos) δ R := PT.imp (pt_not h) fun σ H Q ⟨p, B, G, i3, en, q⟩ => ⟨p, B, G, i3, en, fun c G' H' r n => q _ G' H' r n⟩
theorem pt_n {u : Bool} (h : PTD X e δ u) : PTD X (.UnaryOp .Not e pos) δ (!u) := xt_not (h.mono fun c e => by rw [e])
theorem XW.pt {R : Bool → Prop} (h : XW X e δ R) : XT X e δ R := L2.PW.pt h
theorem pw_a1 {R : Bool → Prop} (h : XT X a δ R) : XW X (.BoolOp .And [a] pos) δ R := pw_and1 h
theorem pw_o1 {R : Bool → Prop} (h : XT X a δ R) : XW X (.BoolOp .Or [a] pos) δ R := pw_or1 h
theorem pw_a {rest : List Expr} {u w : Bool} (ha : PTD X a δ u) (hb : u = true → PWD X (.BoolOp .And (b :: rest) pos) δ w) : PWD X (.BoolOp .And (a :: b :: rest) pos) δ (u && w) := by
  cases u with
  | true => exact PW.imp (pw_and ha (hb rfl)) fun σ H Q ⟨p, B, G, i3, en, q⟩ => ⟨p, B, G, i3, en, fun c G' H' r n => by
      subst r
      exact iteT ⟨p, B, G', i3.nxt n, en.nxt n, fun c2 G2 H2 r2 n2 => by subst r2; exact q _ G2 H2 rfl (n.trans n2)⟩⟩
  | false =>
    have hz : PW X (.BoolOp .And (b :: rest) pos) (fun _ _ _ => False) := ⟨fun _ _ _ _ _ _ _ z => z.elim⟩
    exact PW.imp (pw_and ha hz) fun σ H Q ⟨p, B, G, i3, en, q⟩ => ⟨p, B, G, i3, en, fun c G' H' r n => by
      subst r
      exact iteF (q _ G' H' rfl n)⟩
theorem pw_o {rest : List Expr} {u w : Bool} (ha : PTD X a δ u) (hb : u = false → PWD X (.BoolOp .Or (b :: rest) pos) δ w) : PWD X (.BoolOp .Or (a :: b :: rest) pos) δ (u || w) := by
  cases u with
  | false => exact PW.imp (pw_or ha (hb rfl)) fun σ H Q ⟨p, B, G, i3, en, q⟩ => ⟨p, B, G, i3, en, fun c G' H' r n => by
      subst r
      exact iteF ⟨p, B, G', i3.nxt n, en.nxt n, fun c2 G2 H2 r2 n2 => by subst r2; exact q _ G2 H2 rfl (n.trans n2)⟩⟩
  | true =>
    have hz : PW X (.BoolOp .Or (b :: rest) pos) (fun _ _ _ => False) := ⟨fun _ _ _ _ _ _ _ z => z.elim⟩
    exact PW.imp (pw_or ha hz) fun σ H Q ⟨p, B, G, i3, en, q⟩ => ⟨p, B, G, i3, en, fun c G' H' r n => by
      subst r
      exact iteT (q _ G' H' rfl n)⟩
/-- conditional expressions -/
theorem xd_if {S : Bool → Prop} (hc : XT X c δ S) (ha : S true → XD X a δ R) (hb : S false → XD X b δ R) : XD X (.IfExp c a b pos) δ R := by
  have za : PE X a (fun σ H Q => S true ∧ rX X.K δ R σ H Q) := ⟨fun pins s σ H Q I h => (ha h.1).run pins s σ H Q I h.2⟩
  have zb : PE X b (fun σ H Q => S false ∧ rX X.K δ R σ H Q) := ⟨fun pins s σ H Q I h => (hb h.1).run pins s σ H Q I h.2⟩
  exact PE.imp (pe_ifExp hc za zb) fun σ H Q ⟨p, B, G, i3, en, q⟩ => ⟨p, B, G, i3, en, fun k G' H' r n => by
    cases k with
    | true => exact iteT ⟨r, p, B, G', i3.nxt n, en.nxt n, fun v d G2 H2 r2 n2 h2 => q v d G2 H2 r2 (n.trans n2) h2⟩
    | false => exact iteF ⟨r, p, B, G', i3.nxt n, en.nxt n, fun v d G2 H2 r2 n2 h2 => q v d G2 H2 r2 (n.trans n2) h2⟩⟩
theorem pd_if {k : Bool} (hc : PTD X c δ k) (ha : k = true → PD X a δ d) (hb : k = false → PD X b δ d) : PD X (.IfExp c a b pos) δ d := xd_if hc (fun h => ha h.symm) fun h => hb h.symm
/-! argument lists, displays -/
theorem xa_nil : XA X [] δ (fun ds => ds = []) := ⟨PA.imp pa_nil fun σ H Q ⟨p, B, G, i3, en, q⟩ => q [] [] G H rfl (.refl i3) .nil, rfl⟩
theorem xa_cons {S T : List Dt → Prop} (ha : XD X e δ R) (hr : XA X es δ S) (hT : ∀ d ds, R d → S ds → T (d :: ds)) (hs : starEach (e :: es) X.env = (false, eval e X.env) :: starEach es X.env := by rfl) : XA X (e :: es) δ T :=
  ⟨PA.imp (pa_cons ha hr.pa hs) fun σ H Q ⟨p, B, G, i3, en, q⟩ => ⟨p, B, G, i3, en, fun v d G1 H1 r1 n1 h1 => ⟨p, B, G1, i3.nxt n1, en.nxt n1, fun vs ds G2 H2 r2 n2 h2 => q (v :: vs) (d :: ds) G2 H2 (hT d ds r1 r2) (n1.trans n2) (.cons (dp_ex n2.st.1 _ _ h1) h2)⟩⟩, by rw [hs, hr.pl]; rfl⟩
theorem pa_n : PAD X [] δ [] := xa_nil
theorem pa_c (ha : PD X e δ d) (hr : PAD X es δ ds) (hs : starEach (e :: es) X.env = (false, eval e X.env) :: starEach es X.env := by rfl) : PAD X (e :: es) δ (d :: ds) := xa_cons ha hr (fun a b h1 h2 => by rw [h1, h2]) hs
theorem xd_tup {S : List Dt → Prop} {k} (h : XA X es δ S) (hl : es.length ≤ 1000) (hS : ∀ ds, S ds → R (.tuple ds) ∧ ds.length ≤ 100000) : XD X (.Tuple es k pos) δ R := PE.imp (pe_tup h.pa) fun σ H Q ⟨p, B, G, i3, en, q⟩ => ⟨p, B, G, i3, en, fun vs ds G' H' r n h' =>
  ⟨by rw [dpAll_length h']; exact Nat.le_trans (hS ds r).2 (by decide), fun a ha => q (.ref a) _ _ _ (hS ds r).1 (n.trans (.new (i3.nxt n) (.tup vs) ha)) (.tup (.inl (.inl upd_same)) (dpAll_ex (Ex.new ((i3.nxt n).gh.free ha)) _ _ h'))⟩⟩
theorem xd_lst {S : List Dt → Prop} (h : XA X es δ S) (hS : ∀ ds, S ds → R (.list ds) ∧ ds.length ≤ 100000) : XD X (.List es pos) δ R := PE.imp (pe_lst h.pa) fun σ H Q ⟨p, B, G, i3, en, q⟩ => ⟨p, B, G, i3, en, fun vs ds G' H' r n h' =>
  ⟨by rw [dpAll_length h']; exact Nat.le_trans (hS ds r).2 (by decide), fun a ha => q (.ref a) _ _ _ (hS ds r).1 (n.trans (.new (i3.nxt n) (.lst vs) ha)) (.lst (.inl (.inl upd_same)) (dpAll_ex (Ex.new ((i3.nxt n).gh.free ha)) _ _ h'))⟩⟩
theorem pd_tup {k} (h : PAD X es δ ds) (hl : ds.length ≤ 100000 := by first | decide | simp) : PD X (.Tuple es k pos) δ (.tuple ds) := PE.imp (pe_tup h.pa) fun σ H Q ⟨p, B, G, i3, en, q⟩ => ⟨p, B, G, i3, en, fun vs ds G' H' r n h' =>
  ⟨by rw [dpAll_length h', r]; exact Nat.le_trans hl (by decide), fun a ha => q (.ref a) _ _ _ (by rw [r]) (n.trans (.new (i3.nxt n) (.tup vs) ha)) (.tup (.inl (.inl upd_same)) (dpAll_ex (Ex.new ((i3.nxt n).gh.free ha)) _ _ h'))⟩⟩
theorem pd_lst (h : PAD X es δ ds) (hl : ds.length ≤ 100000 := by first | decide | simp) : PD X (.List es pos) δ (.list ds) := xd_lst h fun ds' e => by subst e; exact ⟨rfl, hl⟩
end
end Dv

set_option linter.all false
set_option maxRecDepth 100000
set_option maxHeartbeats 2000000
namespace Dv
open PySem PySem.Spec PyProof.Rows L2
/-! ### defs, where no repr is under way -/
structure FnG (P : Program) (w : World) (K : Fg) (mg : Str → Option Value) (base : Heap) (k : Nat) (f : Addr) (fd : FuncData) (ps : List Str) (sp : Sp) : Prop where
  len : ∀ vs H Q E, sp vs H Q E → vs.length = ps.length
  run : ∀ (A : Around) (outer : List Env) (s : Shared) (H : Hp) (args : Args) (us : List Value) (vs : List V) (Q : VK) (E : XK),
    Room k A → A.guards = some [] → Env0 P w K mg base A outer s H → BindsTo s fd args (ps.zip us) → Vals vs us → sp vs H Q E →
      codeAny (model P w) A (.call (.ref f) args) (CR CX0 outer P w H s Q E) s
section
variable {P : Program} {w : World} {K : Fg} {mg : Str → Option Value} {base : Heap}
abbrev xc (P : Program) (w : World) (K : Fg) (mg : Str → Option Value) (base : Heap) (N : List Str) (x : Str) (st : Stmt) (f : Addr) (cdv : Value) (A : Around) (outer : List Env) (s : Shared) (H : Hp) (E : XK) : Cx :=
  (cxOf CX0 P w K mg base N x (defScope st) f cdv A outer s H E).nox
theorem fnG_of {x : Str} {st : Stmt} {f : Addr} {fd : FuncData} {N ps : List Str} {k : Nat} {sp : Sp} (F : Fun K x x st f fd) (S : FnScope N ps (defScope st)) (len : ∀ vs H Q E, sp vs H Q E → vs.length = ps.length)
    (body : ∀ (cdv : Value) (A : Around) (outer : List Env) (s : Shared) (H : Hp) (vs : List V) (Q : VK) (E : XK), Room k (A.deeper (envOfC x (defScope st) s.heap.objs.size f cdv)) → A.guards = some [] → sp vs H Q E →
      ∃ t, PSs (xc P w K mg base N x st f cdv A outer s H E) (defBody st) t ∧ t { nx := fun _ H' => Q .non H', rt := Q } (start N vs) H) : FnG P w K mg base (k + 1) f fd ps sp := by
  obtain ⟨oc, od, kV, doc, pm, an, cdv, ct, osl, rfl, lk, hcd⟩ := F.ex
  refine ⟨len, fun A outer s H args us vs Q E hr hg e0 hb r hsp => ?_⟩
  have hl := len _ _ _ _ hsp
  have KX : K.In s.heap := e0.mod.kin.keeps fun b o e => (e0.bs b o e).1
  have lim : s.heap.NoLimit := e0.mod.nolimit.keeps fun b o e => (e0.bs b o e).1
  refine codeAny_call_function hr.depth (KX _ _ lk) rfl S.co S.gen rfl (PySem.W.codeRec_of KX hcd) (hb _ _ _ _ ?_)
  refine wpAny_newFunctionEnv_cells S.kind (fun ⟨n, v⟩ hy => ?_) fun env he s1 z => ?_
  · rcases S.par n (List.of_mem_zip hy).1 with q | q
    · exact .inl q
    · exact .inr ⟨q, PySem.W.cellsFrom_some _ _ _ (.inl q)⟩
  · subst he
    refine ⟨lim.keeps z.toInCall.keep, codeAny_func ?_⟩
    obtain ⟨t, ht, hq⟩ := body cdv A outer s H vs Q E (hr.deeper _) hg hsp
    have I : Inv (cxOf CX0 P w K mg base N x (defScope st) f cdv A outer s H E) [] (start N vs) H s1 := inv_start S hr.hd e0 hl r z
    refine wpAny_mono (ht.nox.run [] s1 (start N vs) H _ I hq) (fun fl s' hs => ?_) fun e s' hs => hs
    cases fl with
    | ret u => obtain ⟨v, σ', H', J, rv, q⟩ := hs; exact ⟨v, H', J.os, J.bare, J.base, J.hok, rv, q⟩
    | next => obtain ⟨σ', H', J, q⟩ := hs; exact ⟨V.non, H', J.os, J.bare, J.base, J.hok, rfl, q⟩
    | brk => obtain ⟨_, _, _, q⟩ := hs; exact False.elim q
    | cont => obtain ⟨_, _, _, q⟩ := hs; exact False.elim q
end
section
variable {X : Cx} {k n : Nat} {f : Addr} {fd : FuncData} {ps ks : List Str} {sp : Sp} {x : Str} {p pos : Pos} {e : Expr} {es : List Expr} {t tk : TA} {kws : List Keyword} {g : List Value → List Value → List Value} {gV : List V → List V → List V}
theorem fnG_end {pins : List (Addr × Obj)} {σ : L2.St} {H : Hp} {s s' : Shared} {Q : VK} {E : XK} {r : Result} (I : Inv X pins σ H s) (hq : CR CX0 X.stack X.prog X.w H s Q E r s') : match r with
    | .ok (.ret u) => EP X pins σ Q u s'
    | .ok _ => False
    | .error e => X.xe e s' := by
  cases r with
  | error e => exact False.elim hq
  | ok fl =>
    cases fl with
    | ret u => exact I.after hq
    | next => exact False.elim hq
    | brk => exact False.elim hq
    | cont => exact False.elim hq
theorem run_g {pins : List (Addr × Obj)} {σ : L2.St} {H : Hp} {s : Shared} {Q : VK} {us : List Value} {vs : List V} (F : FnG X.prog X.w X.K X.mg X.base k f fd ps sp) (hr : Room k X.A) (hgd : X.A.guards = some []) (hb : Binds X.K fd ps [])
    (I : Inv X pins σ H s) (r : Vals vs us) (h : sp vs H Q E0) : wpAny (model X.prog X.w) X.A (call (.ref f) us) (EP X pins σ Q) X.xe s := by
  have hl : (us ++ []).length = ps.length := by rw [List.append_nil, ← r.length]; exact F.len _ _ _ _ h
  have hb' := hb s us I.kIn hl
  rw [List.append_nil] at hb'
  refine wpAny_call (codeAny_mono (F.run X.A X.stack s H ⟨us, []⟩ us vs Q E0 hr hgd I.env0 hb' r h) fun r s' hq => ?_)
  have z := fnG_end I hq
  cases r with
  | error e => exact z
  | ok fl => cases fl <;> first | exact z | exact False.elim z
theorem pe_g (F : FnG X.prog X.w X.K X.mg X.base k f fd ps sp) (hr : Room k X.A) (hgd : X.A.guards = some []) (hg : Gl X x) (hm : X.mg x = some (.ref f)) (hk : PySem.W.keepIn X.K (.ref f) = true) (hb : Binds X.K fd ps [])
    (ha : PA X (e :: es) t) (hdb : (x == ("__debug__" : Str)) = false := by decide) (he : starEach (e :: es) X.env = (false, eval e X.env) :: starEach es X.env := by rfl) (hpl : (backTo pos (starEach es X.env)).any (·.1) = false := by rfl) :
    PE X (.Call (.Name x p) (e :: es) [] pos) (fun σ H Q => t σ H fun vs H1 => sp vs H1 Q E0) := by
  refine ⟨fun pins s σ H Q I h => ?_⟩
  refine wpAny_Call_Name_kw (ld_glob I hg hm ?_ hdb)
  refine PySem.W.callWith_K (h₀ := X.base) I.ok.mod.kin hk (thn (ha.run pos pins s σ H _ I h) fun us s1 ⟨vs, H1, I1, r, q⟩ => ⟨I1.kIn, ?_⟩) he hpl
  exact run_g F hr hgd hb I1 r q
theorem pe_g0 (F : FnG X.prog X.w X.K X.mg X.base k f fd ps sp) (hr : Room k X.A) (hgd : X.A.guards = some []) (hg : Gl X x) (hm : X.mg x = some (.ref f)) (hk : PySem.W.keepIn X.K (.ref f) = true) (hb : Binds X.K fd ps [])
    (hdb : (x == ("__debug__" : Str)) = false := by decide) : PE X (.Call (.Name x p) [] [] pos) (fun σ H Q => sp [] H Q E0) := by
  refine ⟨fun pins s σ H Q I h => ?_⟩
  refine wpAny_Call_Name_kw (ld_glob I hg hm ?_ hdb)
  exact PySem.W.callWith_K0 I.kIn hk (run_g (us := []) F hr hgd hb I .nil h)
end
end Dv

set_option linter.all false
set_option maxRecDepth 100000
set_option maxHeartbeats 2000000
namespace Dv
open PySem PySem.Spec PyProof.Rows L2
/-! ### what is walked -/
def Yld (K : Fg) (J : It) (G : Hp) (ds : List Dt) : Prop := ∀ p B G1 H1, Ex G G1 → I3 p B G1 H1 → ∀ i : Nat,
  (i < ds.length → J.go i H1 ∧ ∀ x H2, J.yld i H1 x H2 → ∃ G2 d, ds[i]? = some d ∧ Nxt p G1 H1 G2 H2 ∧ Dz K G2 x d) ∧ (i = ds.length → J.stop i H1)
def rI (K : Fg) (δ : De) (S : List Dt → Prop) : TI := fun σ H R => ∃ p B G, I3 p B G H ∧ EnvD K p B G H σ δ ∧ ∀ J ds G' H', S ds → Nxt p G H G' H' → Yld K J G' ds → R J H'
def XI (X : Cx) (tg e : Expr) (δ : De) (S : List Dt → Prop) : Prop := PI X tg e (rI X.K δ S)
abbrev ID (X : Cx) (tg e : Expr) (δ : De) (ds : List Dt) : Prop := XI X tg e δ (fun x => x = ds)
theorem PI.imp {X : Cx} {tg e : Expr} {t t' : TI} (h : PI X tg e t) (k : ∀ σ H Q, t' σ H Q → t σ H Q) : PI X tg e t' := ⟨fun pins s σ H Q I q => h.run pins s σ H Q I (k σ H Q q)⟩
theorem yld_list {K : Fg} {G : Hp} {a : Addr} {xs : List V} {ds : List Dt} (hs : SqX K G a xs) (ha : DzAll K G xs ds) (inj : ∀ H, Ex G H → ∀ ys, SqL K H a ys → True := by intros; trivial) : Yld K (Itl K a) G ds := by
  intro p B G1 H1 e i3 i
  have h1 : SqL K H1 a xs := exl (e.trans i3.gh) hs
  refine ⟨fun hi => ?_, fun hi => ⟨xs, h1, by rw [dpAll_length ha]; omega⟩⟩
  obtain ⟨v, hv, hd⟩ := dpAll_get (i := i) (d := ds[i]) ha (List.getElem?_eq_getElem hi)
  refine ⟨⟨xs, v, h1, hv⟩, fun x H2 ⟨e2, hx⟩ => ?_⟩
  subst e2
  have := hx xs h1
  rw [hv] at this
  cases this
  exact ⟨G1, ds[i], List.getElem?_eq_getElem hi, .refl i3, dp_ex e _ _ hd⟩
theorem yld_tup {K : Fg} {G : Hp} {a : Addr} {xs : List V} {ds : List Dt} (hs : SqT K G a xs) (ha : DzAll K G xs ds) : Yld K (Itt K a) G ds := by
  intro p B G1 H1 e i3 i
  have h1 : SqT K H1 a xs := ex_t (e.trans i3.gh) hs
  refine ⟨fun hi => ?_, fun hi => ⟨xs, h1, by rw [dpAll_length ha]; omega⟩⟩
  obtain ⟨v, hv, hd⟩ := dpAll_get (i := i) (d := ds[i]) ha (List.getElem?_eq_getElem hi)
  refine ⟨⟨xs, v, h1, hv⟩, fun x H2 ⟨e2, hx⟩ => ?_⟩
  subst e2
  have := hx xs h1
  rw [hv] at this
  cases this
  exact ⟨G1, ds[i], List.getElem?_eq_getElem hi, .refl i3, dp_ex e _ _ hd⟩
def rngD (lo : Int) (n : Nat) : List Dt := (List.range n).map fun i => .int (lo + (i : Nat))
theorem rngD_get {lo : Int} {n i : Nat} (h : i < n) : (rngD lo n)[i]? = some (.int (lo + (i : Nat))) := by
  unfold rngD
  rw [List.getElem?_map, List.getElem?_range h]; rfl
theorem rngD_length {lo : Int} {n : Nat} : (rngD lo n).length = n := by unfold rngD; rw [List.length_map, List.length_range]
theorem yld_rng {K : Fg} {G : Hp} {lo : Int} {n : Nat} : Yld K (Itr lo n) G (rngD lo n) := by
  intro p B G1 H1 e i3 i
  rw [rngD_length]
  refine ⟨fun hi => ⟨hi, fun x H2 ⟨e2, hx⟩ => ?_⟩, fun hi => Nat.le_of_eq hi.symm⟩
  subst e2; subst hx
  exact ⟨G1, _, rngD_get hi, .refl i3, .int _⟩
def enD (ds : List Dt) : List Dt := ds.zipIdx.map fun q => .tuple [.int ((q.2 : Nat) : Int), q.1]
theorem enD_length {ds : List Dt} : (enD ds).length = ds.length := by unfold enD; rw [List.length_map, List.length_zipIdx]
theorem enD_get {ds : List Dt} {i : Nat} {d : Dt} (h : ds[i]? = some d) : (enD ds)[i]? = some (.tuple [.int ((i : Nat) : Int), d]) := by
  unfold enD
  rw [List.getElem?_map, List.getElem?_zipIdx, h]
  simp
theorem yld_enum {K : Fg} {G : Hp} {a : Addr} {xs : List V} {ds : List Dt} (hs : SqX K G a xs) (ha : DzAll K G xs ds) : Yld K (Ite K a) G (enD ds) := by
  intro p B G1 H1 e i3 i
  rw [enD_length]
  have h1 : SqL K H1 a xs := exl (e.trans i3.gh) hs
  refine ⟨fun hi => ?_, fun hi => ⟨xs, h1, by rw [dpAll_length ha]; omega⟩⟩
  obtain ⟨v, hv, hd⟩ := dpAll_get (i := i) (d := ds[i]) ha (List.getElem?_eq_getElem hi)
  refine ⟨⟨xs, v, h1, hv⟩, fun x H2 ⟨T, z, e1, hT, e2, hx⟩ => ?_⟩
  subst e1; subst e2
  have := hx xs h1
  rw [hv] at this
  cases this
  exact ⟨_, _, enD_get (List.getElem?_eq_getElem hi), .new i3 _ hT, .tup (.inl (.inl upd_same)) (.cons (.int _) (.cons (dp_ex (e.trans (Ex.new (i3.gh.free hT))) _ _ hd) .nil))⟩
section
variable {X : Cx} {tg e a b : Expr} {es : List Expr} {δ : De} {ds : List Dt} {p pos tpos : Pos} {S : List Dt → Prop} {R : Dt → Prop}
theorem xi_list (h : XD X e δ fun d => ∃ ds, d = .list ds ∧ S ds) : XI X tg e δ S := PI.imp (pi_list h) fun σ H Q ⟨p, B, G, i3, en, q⟩ => ⟨p, B, G, i3, en, fun v d G' H' ⟨ds, e1, s⟩ n hv => by
  subst e1
  cases hv with
  | lst hs ha => exact ⟨_, rfl, ⟨_, exl n.gh hs⟩, q _ ds G' H' s n (yld_list hs ha)⟩⟩
theorem xi_tup (h : XD X e δ fun d => ∃ ds, d = .tuple ds ∧ S ds) : XI X tg e δ S := PI.imp (pi_tup h) fun σ H Q ⟨p, B, G, i3, en, q⟩ => ⟨p, B, G, i3, en, fun v d G' H' ⟨ds, e1, s⟩ n hv => by
  subst e1
  cases hv with
  | tup hs ha => exact ⟨_, rfl, ⟨_, ex_t n.gh hs⟩, q _ ds G' H' s n (yld_tup hs ha)⟩⟩
theorem i_list (h : PD X e δ (.list ds)) : ID X tg e δ ds := xi_list (h.mono fun d e => ⟨ds, e, rfl⟩)
theorem i_tup (h : PD X e δ (.tuple ds)) : ID X tg e δ ds := xi_tup (h.mono fun d e => ⟨ds, e, rfl⟩)
theorem i_rng1 {j : Int} (h : PAD X [e] δ [.int j]) (hm : X.mg "range" = none) (hj : -(2 ^ 62) ≤ j ∧ j < 2 ^ 62) (hg : Gl X "range" := by rfl) : ID X tg (.Call (.Name "range" p) [e] [] pos) δ (rngD 0 j.toNat) :=
  PI.imp (pi_range1 hg hm h.pa h.pl) fun σ H Q ⟨p, B, G, i3, en, q⟩ => ⟨p, B, G, i3, en, fun v d G' H' r n hv => by
    subst r
    cases hv with
    | cons h1 h2 => cases h2; cases h1; exact ⟨j, rfl, hj.1, hj.2, q _ _ G' H' rfl n yld_rng⟩⟩
theorem i_rng2 {i j : Int} (h : PAD X [a, b] δ [.int i, .int j]) (hm : X.mg "range" = none) (hj : (-(2 ^ 62) ≤ i ∧ i < 2 ^ 62 ∧ -(2 ^ 62) ≤ j ∧ j < 2 ^ 62)) (hg : Gl X "range" := by rfl) (hs2 : starEach [b] X.env = [(false, eval b X.env)] := by rfl) : ID X tg (.Call (.Name "range" p) [a, b] [] pos) δ (rngD i (j - i).toNat) :=
  PI.imp (pi_range2 hg hm h.pa h.pl hs2) fun σ H Q ⟨p, B, G, i3, en, q⟩ => ⟨p, B, G, i3, en, fun v d G' H' r n hv => by
    subst r
    cases hv with
    | cons h1 h2 => cases h2 with
      | cons h2 h3 => cases h3; cases h1; cases h2; exact ⟨i, j, rfl, hj, q _ _ G' H' rfl n yld_rng⟩⟩
theorem i_enum {elts : List Expr} {kk : Nat} (h : PAD X [e] δ [.list ds]) (hm : X.mg "enumerate" = none) (hg : Gl X "enumerate" := by rfl) : ID X (.Tuple elts kk tpos) (.Call (.Name "enumerate" p) [e] [] pos) δ (enD ds) :=
  PI.imp (pi_enum hg hm h.pa h.pl) fun σ H Q ⟨p, B, G, i3, en, q⟩ => ⟨p, B, G, i3, en, fun v d G' H' r n hv => by
    subst r
    cases hv with
    | cons h1 h2 => cases h2; cases h1 with
      | lst hs ha => exact ⟨_, _, rfl, exl n.gh hs, q _ _ G' H' rfl n (yld_enum hs ha)⟩⟩
end

/-! ### targets: js, the slots that are set -/
def rG (K : Fg) (js : List Nat) (d : Dt) (δ δ' : De) : TG := fun v σ H Q => ∃ p B G, I3 p B G H ∧ EnvD K p B G H σ δ ∧ Dz K G v d ∧ ∀ σ', EnvD K p B G H σ' δ' → σ'.length = σ.length ∧ (∀ i, i ∉ js → σ'[i]? = σ[i]?) → Q σ' H
def rGs (K : Fg) (js : List Nat) (ds : List Dt) (δ δ' : De) : TGs := fun vs σ H Q => ∃ p B G, I3 p B G H ∧ EnvD K p B G H σ δ ∧ DzAll K G vs ds ∧ ∀ σ', EnvD K p B G H σ' δ' → σ'.length = σ.length ∧ (∀ i, i ∉ js → σ'[i]? = σ[i]?) → Q σ' H
def TgD (X : Cx) (tg : Expr) (js : List Nat) (d : Dt) (δ δ' : De) : Prop := PG X tg (rG X.K js d δ δ')
def TgsD (X : Cx) (tg : List Expr) (js : List Nat) (d : List Dt) (δ δ' : De) : Prop := PGs X tg (rGs X.K js d δ δ')
theorem PG.imp {X : Cx} {tg : Expr} {t t' : TG} (h : PG X tg t) (k : ∀ v σ H Q, t' v σ H Q → t v σ H Q) : PG X tg t' := ⟨fun pins s σ H v u Q I r q => h.run pins s σ H v u Q I r (k v σ H Q q)⟩
theorem PGs.imp {X : Cx} {tg : List Expr} {t t' : TGs} (h : PGs X tg t) (k : ∀ v σ H Q, t' v σ H Q → t v σ H Q) : PGs X tg t' := ⟨fun pins s σ H v u Q I r q => h.run pins s σ H v u Q I r (k v σ H Q q)⟩
section
variable {X : Cx} {pos : Pos} {δ δ1 δ2 : De} {d : Dt} {ds : List Dt} {js ks : List Nat}
theorem tg_name (i : Nat) {x : Str} (hN : X.N.Nodup) (hi : X.N[i]? = some x := by rfl) (hx : Loc X.env.scope x := by first | exact Or.inl rfl | exact Or.inr rfl) (hf : X.fn x = true ∨ X.env.scope.names.lookup x = some .local := by first | exact .inl rfl | exact .inr rfl | assumption) : TgD X (.Name x pos) [i] d δ (δ.set i (.d d)) :=
  PG.imp (pg_name hN hi hx hf) fun v σ H Q ⟨p, B, G, i3, en, hv, q⟩ => q _ (en.set hv) ⟨by rw [List.length_set], fun j hj => by
    have : i ≠ j := fun e => hj (by simp [e])
    rw [List.getElem?_set_ne this]⟩
theorem tgs_nil : TgsD X [] [] [] δ δ := PGs.imp pgs_nil fun v σ H Q ⟨p, B, G, i3, en, hv, q⟩ => by
  cases hv
  exact ⟨rfl, q σ en ⟨rfl, fun _ _ => rfl⟩⟩
theorem tgs_cons {e : Expr} {es : List Expr} (h1 : TgD X e js d δ δ1) (h2 : TgsD X es ks ds δ1 δ2) (hs : (assignEach (e :: es) X.env).map (·.2) = assign e X.env :: (assignEach es X.env).map (·.2) := by rfl) : TgsD X (e :: es) (js ++ ks) (d :: ds) δ δ2 :=
  PGs.imp (pgs_cons h1 h2 hs) fun v σ H Q ⟨p, B, G, i3, en, hv, q⟩ => by
    cases hv with
    | cons a b =>
      refine ⟨_, _, rfl, p, B, G, i3, en, a, fun σ1 en1 ⟨l1, k1⟩ => ⟨p, B, G, i3, en1, b, fun σ2 en2 ⟨l2, k2⟩ => q σ2 en2 ⟨l2.trans l1, fun i hi => ?_⟩⟩⟩
      rw [List.mem_append, not_or] at hi
      rw [k2 i hi.2, k1 i hi.1]
theorem tg_tup {es : List Expr} {k : Nat} (hc : X.calm = true) (h : TgsD X es js ds δ δ1) (hn : (assignEach es X.env).length = ds.length := by rfl) (hst : (assignEach es X.env).findIdx? (·.1) = none := by rfl) : TgD X (.Tuple es k pos) js (.tuple ds) δ δ1 :=
  PG.imp (pg_tup hc h hn hst) fun v σ H Q ⟨p, B, G, i3, en, hv, q⟩ => by
    cases hv with
    | tup hs ha => exact ⟨_, _, rfl, ex_t i3.gh hs, dpAll_length ha, p, B, G, i3, en, ha, q⟩
end

/-! ### list comprehensions of one clause -/
def wipeD (δ : De) : List Nat → De
  | [] => δ
  | v :: vs => (wipeD δ vs).set v .no
theorem EnvD.wipes {K : Fg} {p : Option Addr} {B G H : Hp} {σ : L2.St} {δ : De} (h : EnvD K p B G H σ δ) : ∀ vs : List Nat, EnvD K p B G H (L2.wipe σ vs) (wipeD δ vs)
  | [] => h
  | v :: vs => (h.wipes vs).wipe v
theorem wipe_in {σ : L2.St} {i : Nat} : ∀ {vs : List Nat}, i ∈ vs → i < σ.length → (wipe σ vs)[i]? = some none
  | v :: vs, h, hl => by
    unfold wipe
    by_cases e : v = i
    · subst e; rw [List.getElem?_set_self (by rw [wipe_length]; exact hl)]
    · rw [List.getElem?_set_ne e]
      exact wipe_in (by rcases List.mem_cons.mp h with z | z; exact absurd z.symm e; exact z) hl
theorem wipe_same {σ σ' : L2.St} {vs : List Nat} (hl : σ'.length = σ.length) (h : ∀ i, i ∉ vs → σ'[i]? = (wipe σ vs)[i]?) : wipe σ' vs = wipe σ vs := by
  refine List.ext_getElem? fun i => ?_
  by_cases hi : i ∈ vs
  · by_cases hb : i < σ.length
    · rw [wipe_in hi hb, wipe_in hi (by rw [hl]; exact hb)]
    · rw [List.getElem?_eq_none (by rw [wipe_length, hl]; omega), List.getElem?_eq_none (by rw [wipe_length]; omega)]
  · rw [wipe_out hi, h i hi]
structure Makes (K : Fg) (p : Option Addr) (G H : Hp) (D : Addr) (out : List Dt → Prop) (n : Nat) (H' : Hp) : Prop where
  ex : ∃ G' acc os, Nxt p G H G' H' ∧ G' D = none ∧ H' D = some (.lst acc) ∧ DzAll K G' acc os ∧ out os ∧ os.length ≤ n
abbrev bX (X : Cx) (sc : Scope) (s : Shared) (H : Hp) (C : Addr) (cl : List (Str × Addr)) (fp : List Addr) : Cx := X.blk s H sc (compEnvC sc cl C X.env) fp
def rPs (K : Fg) (δ : De) (R : Bool → Prop) : TT := rT K δ R
def XPs (X : Cx) (ifs : List Expr) (δ : De) (R : Bool → Prop) : Prop := PTs X ifs (rT X.K δ R)
theorem PTs.imp {X : Cx} {e : List Expr} {t t' : TT} (h : PTs X e t) (k : ∀ σ H Q, t' σ H Q → t σ H Q) : PTs X e t' := ⟨fun pins s σ H Q I q => h.run pins s σ H Q I (k σ H Q q)⟩
section
variable {X : Cx} {elt tg iter : Expr} {ifs : List Expr} {scope : Scope} {own : List (Str × Nat)} {pos : Pos} {δ : De} {S : List Dt → Prop} {R : Dt → Prop}
/-- a comprehension's parts, and what it makes -/
structure Lc (X : Cx) (elt tg iter : Expr) (ifs : List Expr) (scope : Scope) (δ : De) (R : Dt → Prop) : Prop where
  ex : ∃ (own : List (Str × Nat)) (wi : TI) (g : TG) (tt : TT) (te : TE), PI X tg iter wi ∧ BlkOk X.N X.env.scope scope own ∧ (∀ s H C cl fp, PG (bX X scope s H C cl fp) tg g) ∧ (∀ s H C cl fp, PTs (bX X scope s H C cl fp) ifs tt) ∧ (∀ s H C cl fp, PE (bX X scope s H C cl fp) elt te) ∧
    ∀ σ H Q, rX X.K δ R σ H Q → tLc wi g tt te (own.map (·.2)) σ H Q
/-- Iv: what has been made behind so many turns -/
theorem lc_of (hi : XI X tg iter δ S) (ok : BlkOk X.N X.env.scope scope own) (hS : ∀ ds, S ds → ds.length ≤ 100000)
    (Iv : List Dt → Nat → List Dt → Prop) (h0 : ∀ ds, S ds → Iv ds 0 []) (hR : ∀ ds out, S ds → Iv ds ds.length out → R (.list out))
    (δt : Dt → De) (T : List Dt → Nat → Dt → Bool → Prop)
    (hg : ∀ s H C cl fp ds (i : Nat) d, S ds → ds[i]? = some d → TgD (bX X scope s H C cl fp) tg (own.map (·.2)) d (wipeD δ (own.map (·.2))) (δt d))
    (ht : ∀ s H C cl fp ds (i : Nat) d, S ds → ds[i]? = some d → XPs (bX X scope s H C cl fp) ifs (δt d) (T ds i d))
    (hf : ∀ ds (i : Nat) d out, S ds → ds[i]? = some d → T ds i d false → Iv ds i out → Iv ds (i + 1) out)
    (he : ∀ s H C cl fp ds (i : Nat) d, S ds → ds[i]? = some d → T ds i d true → XD (bX X scope s H C cl fp) elt (δt d) fun y => ∀ out, Iv ds i out → Iv ds (i + 1) (out ++ [y])) : Lc X elt tg iter ifs scope δ R := by
  have pg : ∀ s H C cl fp, PG (bX X scope s H C cl fp) tg (fun v σ H Q => ∃ ds, ∃ (i : Nat), ∃ d, S ds ∧ ds[i]? = some d ∧ rG X.K (own.map (·.2)) d (wipeD δ (own.map (·.2))) (δt d) v σ H Q) := fun s H C cl fp =>
    ⟨fun pins s1 σ H1 v u Q I r ⟨ds, i, d, a, b, q⟩ => (hg s H C cl fp ds i d a b).run pins s1 σ H1 v u Q I r q⟩
  have pt : ∀ s H C cl fp, PTs (bX X scope s H C cl fp) ifs (fun σ H Q => ∃ ds, ∃ (i : Nat), ∃ d, S ds ∧ ds[i]? = some d ∧ rT X.K (δt d) (T ds i d) σ H Q) := fun s H C cl fp =>
    ⟨fun pins s1 σ H1 Q I ⟨ds, i, d, a, b, q⟩ => (ht s H C cl fp ds i d a b).run pins s1 σ H1 Q I q⟩
  have pe : ∀ s H C cl fp, PE (bX X scope s H C cl fp) elt (fun σ H Q => ∃ ds, ∃ (i : Nat), ∃ d, S ds ∧ ds[i]? = some d ∧ T ds i d true ∧ rX X.K (δt d) (fun y => ∀ out, Iv ds i out → Iv ds (i + 1) (out ++ [y])) σ H Q) := fun s H C cl fp =>
    ⟨fun pins s1 σ H1 Q I ⟨ds, i, d, a, b, c, q⟩ => (he s H C cl fp ds i d a b c).run pins s1 σ H1 Q I q⟩
  refine ⟨own, _, _, _, _, hi, ok, pg, pt, pe, fun σ H Q ⟨p, B, G, i3, en, q⟩ => ⟨p, B, G, i3, en, fun J ds G1 H1 s n yl Dl hD => ?_⟩⟩
  have i31 := i3.nxt n
  have en1 := en.nxt n
  have gD : G1 Dl = none := i31.gh.free hD
  have pD : p ≠ some Dl := fun z => by
    obtain ⟨_, _, _, _, h3, _⟩ := i31.pot Dl z
    rw [hD] at h3; cases h3
  refine ⟨fun i m H' => m = ds.length - i ∧ i ≤ ds.length ∧ Makes X.K p G1 H1 Dl (Iv ds i) i H', ⟨_, rfl, Nat.zero_le _, ⟨G1, [], [], .newH i31 _ hD, gD, upd_same, .nil, h0 ds s, Nat.le_refl _⟩⟩, ?_⟩
  rintro i m H' ⟨em, hle, ⟨G', acc, os, n', gd, hd, ha, iv, hl⟩⟩
  have i3' := i31.nxt n'
  by_cases hlt : i < ds.length
  · obtain ⟨go, yd⟩ := (yl p B G' H' n'.st.1 i3' i).1 hlt
    refine .inr ⟨go, fun H'' => Makes X.K p G1 H1 Dl (Iv ds (i + 1)) (i + 1) H'', fun H'' k => ⟨_, by omega, rfl, by omega, k⟩, fun x H2 hy => ?_⟩
    obtain ⟨G2, d, e2, n2, hx⟩ := yd x H2 hy
    have n12 := n'.trans n2
    have gd2 : G2 Dl = none := n2.st.2 Dl (nn hd) gd
    have hd2 : H2 Dl = some (.lst acc) := n2.ex Dl _ (by rw [del_ne pD]; exact hd)
    refine ⟨ds, i, d, s, e2, p, B, G2, i31.nxt n12, (en1.nxt n12).wipes _, hx, fun σ2 en2 ⟨ks', ks⟩ => ⟨?_, ds, i, d, s, e2, p, B, G2, i31.nxt n12, en2, fun c G3 H3 hc3 n3 => ?_⟩⟩
    · refine wipe_same ?_ ks
      rw [ks', wipe_length]
    · have n13 := n12.trans n3
      have gd3 : G3 Dl = none := n3.st.2 Dl (nn hd2) gd2
      have hd3 : H3 Dl = some (.lst acc) := n3.ex Dl _ (by rw [del_ne pD]; exact hd2)
      have ha3 := dpAll_ex (n2.st.1.trans n3.st.1) _ _ ha
      cases c with
      | false => exact iteF ⟨G3, acc, os, n13, gd3, hd3, ha3, hf ds i d os s e2 hc3 iv, by omega⟩
      | true =>
        refine iteT ⟨ds, i, d, s, e2, hc3, p, B, G3, i31.nxt n13, en2.nxt n3, fun y dy G4 H4 ry n4 hy4 => ?_⟩
        have n14 := n13.trans n4
        have gd4 : G4 Dl = none := n4.st.2 Dl (nn hd3) gd3
        have hd4 : H4 Dl = some (.lst acc) := n4.ex Dl _ (by rw [del_ne pD]; exact hd3)
        have ha4 := dpAll_ex n4.st.1 _ _ ha3
        refine ⟨acc, hd4, ?_, ⟨G4, acc ++ [y], os ++ [dy], ⟨⟨n14.st.1, n14.st.2⟩, fun a o h => ?_, n14.gh.mut gd4, fun z hz => ?_⟩, gd4, upd_same, dpAll_append ha4 (.cons hy4 .nil), ry os iv, by rw [List.length_append, List.length_singleton]; omega⟩⟩
        · rw [dpAll_length ha4]
          exact Nat.lt_of_le_of_lt (Nat.le_trans hl (Nat.le_trans hle (hS ds s))) (by decide)
        · have : a ≠ Dl := ne_of_none (del_le h).1 hD
          rw [upd_ne this]; exact n14.ex a o h
        · have : z ≠ Dl := fun w => pD (by rw [hz, w])
          rw [upd_ne this]; exact n14.pot z hz
  · have e : i = ds.length := by omega
    subst e
    refine .inl ⟨(yl p B G' H' n'.st.1 i3' _).2 rfl, q (.ref Dl) (.list os) (upd G' Dl (.lst acc)) H' (hR ds os s iv) (n.trans ⟨⟨n'.st.1.mut gD, fun a h1 h2 => ?_⟩, n'.ex, fun a o h => ?_, n'.pot⟩) (.lst (.inl (.inl upd_same)) (dpAll_ex (Ex.new gd) _ _ ha))⟩
    · have : a ≠ Dl := fun z => h1 (z ▸ hD)
      rw [upd_ne this]; exact n'.st.2 a h1 h2
    · by_cases z : a = Dl
      · subst z; rw [upd_same] at h; cases h; exact hd
      · rw [upd_ne z] at h; exact n'.gh a o h
theorem Lc.xd (h : Lc X elt tg iter ifs scope δ R) (hN : X.N.Nodup) (hc : X.calm = true := by rfl) (hs : ∀ x, foldedSetIterable iter X.env x = pure x := by intro _; rfl) : XD X (.ListComp elt [⟨tg, iter, ifs, 0⟩] scope pos) δ R := by
  obtain ⟨own, wi, g, tt, te, a1, a2, a3, a4, a5, a6⟩ := h.ex
  exact PE.imp (pe_lc hc hN a1 a2 a3 a4 a5 hs) a6
end
end Dv

set_option linter.all false
set_option maxRecDepth 100000
set_option maxHeartbeats 2000000
namespace Dv
open PySem PySem.Spec PyProof.Rows L2
/-! ### built-in functions -/
def RC (K : Fg) (r : List V → Hp → VK → Prop) (ds : List Dt) (R : Dt → Prop) : Prop := ∀ p B G H vs, I3 p B G H → DzAll K G vs ds → ∀ Q : VK, (∀ u d G' H', R d → Nxt p G H G' H' → Dz K G' u d → Q u H') → r vs H Q
section
variable {X : Cx} {a b c e : Expr} {es : List Expr} {δ : De} {p pos : Pos} {R : Dt → Prop} {S : List Dt → Prop} {d : Dt} {ds : List Dt} {i j : Int} {x T id : String} {r : List V → Hp → VK → Prop}
theorem xd_cb {x : Str} (hc : CallR X (.builtin id) r) (hg : Gl X x) (hm : X.mg x = none) (hv : bootBuiltins x = some (.builtin id)) (ha : XA X (e :: es) δ S) (hr : ∀ ds, S ds → RC X.K r ds R) (hpl : starEach es X.env = es.map fun e => (false, eval e X.env) := by rfl) (hn : x ≠ "__name__" := by decide) (hdb : (x == ("__debug__" : Str)) = false := by decide) : XD X (.Call (.Name x p) (e :: es) [] pos) δ R :=
  PE.imp (pe_callB hc hg hm hv ha.pa hn hdb (by rw [hpl]; exact ha.pl) (back_plain hpl)) fun σ H Q ⟨p, B, G, i3, en, q⟩ => ⟨p, B, G, i3, en, fun vs ds G' H' s n hv => hr ds s p B G' H' vs (i3.nxt n) hv Q fun u d G2 H2 rr n2 hu => q u d G2 H2 rr (n.trans n2) hu⟩
theorem xd_ct {x : Str} (hc : CallR X (.type T) r) (hg : Gl X x) (hm : X.mg x = none) (hv : bootBuiltins x = some (.type T)) (ha : XA X (e :: es) δ S) (hr : ∀ ds, S ds → RC X.K r ds R) (hpl : starEach es X.env = es.map fun e => (false, eval e X.env) := by rfl) (hn : x ≠ "__name__" := by decide) (hdb : (x == ("__debug__" : Str)) = false := by decide) : XD X (.Call (.Name x p) (e :: es) [] pos) δ R :=
  PE.imp (pe_callTy hc hg hm hv ha.pa hn hdb (by rw [hpl]; exact ha.pl) (back_plain hpl)) fun σ H Q ⟨p, B, G, i3, en, q⟩ => ⟨p, B, G, i3, en, fun vs ds G' H' s n hv => hr ds s p B G' H' vs (i3.nxt n) hv Q fun u d G2 H2 rr n2 hu => q u d G2 H2 rr (n.trans n2) hu⟩
theorem one_of {K : Fg} {G : Hp} {vs : List V} (h : DzAll K G vs [d]) : ∃ v, vs = [v] ∧ Dz K G v d := by
  cases h with
  | cons a b => cases b; exact ⟨_, rfl, a⟩
theorem two_of {K : Fg} {G : Hp} {d d' : Dt} {vs : List V} (h : DzAll K G vs [d, d']) : ∃ v w, vs = [v, w] ∧ Dz K G v d ∧ Dz K G w d' := by
  cases h with
  | cons a b => obtain ⟨w, e, f⟩ := one_of b; exact ⟨_, w, by rw [e], a, f⟩
theorem pd_len_list (hm : X.mg "len" = none) (ha : PAD X [e] δ [.list ds]) (hg : Gl X "len" := by rfl) : PD X (.Call (.Name "len" p) [e] [] pos) δ (.int (ds.length : Int)) :=
  xd_cb call_len_seq hg hm PySem.boot_len ha fun ds' e p B G H vs i3 hv Q q => by
    subst e
    obtain ⟨v, rfl, h⟩ := one_of hv
    cases h with
    | lst hs ha => exact ⟨_, _, rfl, .inl (exl i3.gh hs), q _ _ G H (by rw [dpAll_length ha]) (.refl i3) (.int _)⟩
theorem pd_len_tup (hm : X.mg "len" = none) (ha : PAD X [e] δ [.tuple ds]) (hg : Gl X "len" := by rfl) : PD X (.Call (.Name "len" p) [e] [] pos) δ (.int (ds.length : Int)) :=
  xd_cb call_len_seq hg hm PySem.boot_len ha fun ds' e p B G H vs i3 hv Q q => by
    subst e
    obtain ⟨v, rfl, h⟩ := one_of hv
    cases h with
    | tup hs ha => exact ⟨_, _, rfl, .inr (ex_t i3.gh hs), q _ _ G H (by rw [dpAll_length ha]) (.refl i3) (.int _)⟩
theorem pd_abs (hm : X.mg "abs" = none) (ha : PAD X [e] δ [.int i]) (hg : Gl X "abs" := by rfl) : PD X (.Call (.Name "abs" p) [e] [] pos) δ (.int (if i < 0 then -i else i)) :=
  xd_cb call_abs hg hm (by decide +kernel) ha fun ds' e p B G H vs i3 hv Q q => by
    subst e
    obtain ⟨v, rfl, h⟩ := one_of hv
    cases h
    exact ⟨i, rfl, q _ _ G H rfl (.refl i3) (.int _)⟩
theorem pd_max2 (hc : X.calm = true) (hm : X.mg "max" = none) (ha : PAD X [a, b] δ [.int i, .int j]) (hg : Gl X "max" := by rfl) (hpl : starEach [b] X.env = [(false, eval b X.env)] := by rfl) : PD X (.Call (.Name "max" p) [a, b] [] pos) δ (.int (max i j)) :=
  xd_cb (call_max2 hc) hg hm (by decide +kernel) ha (fun ds' e p B G H vs i3 hv Q q => by
    subst e
    obtain ⟨v, w, rfl, h1, h2⟩ := two_of hv
    cases h1; cases h2
    refine ⟨i, j, rfl, q _ _ G H rfl (.refl i3) ?_⟩
    have : (if j > i then j else i) = max i j := by omega
    rw [this]; exact .int _) (hpl := hpl)
theorem pd_min2 (hc : X.calm = true) (hm : X.mg "min" = none) (ha : PAD X [a, b] δ [.int i, .int j]) (hg : Gl X "min" := by rfl) (hpl : starEach [b] X.env = [(false, eval b X.env)] := by rfl) : PD X (.Call (.Name "min" p) [a, b] [] pos) δ (.int (min i j)) :=
  xd_cb (call_min2 hc) hg hm (by decide +kernel) ha (fun ds' e p B G H vs i3 hv Q q => by
    subst e
    obtain ⟨v, w, rfl, h1, h2⟩ := two_of hv
    cases h1; cases h2
    refine ⟨i, j, rfl, q _ _ G H rfl (.refl i3) ?_⟩
    have : (if j < i then j else i) = min i j := by omega
    rw [this]; exact .int _) (hpl := hpl)
theorem xd_int {S : Int → Prop} (hm : X.mg "int" = none) (ha : XA X [e] δ fun ds => ∃ i, ds = [.int i] ∧ S i) (hg : Gl X "int" := by rfl) : XD X (.Call (.Name "int" p) [e] [] pos) δ fun d => ∃ i, d = .int i ∧ S i :=
  xd_ct call_int1 hg hm (by decide +kernel) ha fun ds' ⟨i, e, s⟩ p B G H vs i3 hv Q q => by
    subst e
    obtain ⟨v, rfl, h⟩ := one_of hv
    cases h
    exact .inl ⟨i, rfl, q _ _ G H ⟨i, rfl, s⟩ (.refl i3) (.int _)⟩
theorem pd_int1 (hm : X.mg "int" = none) (ha : PAD X [e] δ [.int i]) (hg : Gl X "int" := by rfl) : PD X (.Call (.Name "int" p) [e] [] pos) δ (.int i) :=
  (xd_int (S := fun j => j = i) hm (ha.mono fun ds e => ⟨i, e, rfl⟩) hg).mono fun d ⟨j, e, f⟩ => by rw [e, f]
theorem pd_maxL {ns : List Int} {m : Int} (hc : X.calm = true) (hm : X.mg "max" = none) (ha : PAD X [e] δ [.list (ns.map PyData.int)]) (h1 : m ∈ ns) (h2 : ∀ y ∈ ns, y ≤ m) (hg : Gl X "max" := by rfl) : PD X (.Call (.Name "max" p) [e] [] pos) δ (.int m) :=
  xd_cb (cr_max hc) hg hm (by decide +kernel) ha fun ds' e p B G H vs i3 hv Q q => by
    subst e
    obtain ⟨v, rfl, h⟩ := one_of hv
    cases h with
    | lst hs ha =>
      have e := dpAll_ints ha
      subst e
      refine ⟨_, ns, rfl, exl i3.gh hs, List.length_pos_of_mem h1, fun k k1 k2 => q _ _ G H rfl (.refl i3) ?_⟩
      have : k = m := Int.le_antisymm (h2 k k1) (k2 m h1)
      rw [this]; exact .int _
theorem pd_any {bs : List Bool} (hc : X.calm = true) (hm : X.mg "any" = none) (ha : PAD X [e] δ [.list (bs.map PyData.bool)]) (hg : Gl X "any" := by rfl) : PD X (.Call (.Name "any" p) [e] [] pos) δ (.bool (bs.any _root_.id)) :=
  xd_cb (cr_any hc) hg hm (by decide +kernel) ha fun ds' e p B G H vs i3 hv Q q => by
    subst e
    obtain ⟨v, rfl, h⟩ := one_of hv
    cases h with
    | lst hs ha =>
      have e := dpAll_bools ha
      subst e
      exact ⟨_, bs, rfl, exl i3.gh hs, q _ _ G H rfl (.refl i3) (.bl _)⟩
theorem xd_all {S : List Bool → Prop} {R : Bool → Prop} (hc : X.calm = true) (hm : X.mg "all" = none) (ha : XA X [e] δ fun ds => ∃ bs : List Bool, ds = [.list (bs.map PyData.bool)] ∧ S bs) (hR : ∀ bs, S bs → R (bs.all _root_.id)) (hg : Gl X "all" := by rfl) : XD X (.Call (.Name "all" p) [e] [] pos) δ (fun d => ∃ b, d = .bool b ∧ R b) :=
  xd_cb (cr_all hc) hg hm (by decide +kernel) ha fun ds' ⟨bs, e, sb⟩ p B G H vs i3 hv Q q => by
    subst e
    obtain ⟨v, rfl, h⟩ := one_of hv
    cases h with
    | lst hs ha =>
      have e := dpAll_bools ha
      subst e
      exact ⟨_, bs, rfl, exl i3.gh hs, q _ _ G H ⟨_, rfl, hR bs sb⟩ (.refl i3) (.bl _)⟩
theorem pd_all {bs : List Bool} (hc : X.calm = true) (hm : X.mg "all" = none) (ha : PAD X [e] δ [.list (bs.map PyData.bool)]) (hg : Gl X "all" := by rfl) : PD X (.Call (.Name "all" p) [e] [] pos) δ (.bool (bs.all _root_.id)) :=
  (xd_all (S := fun x => x = bs) (R := fun c => c = bs.all _root_.id) hc hm (ha.mono fun ds e => ⟨bs, e, rfl⟩) (fun x e => by rw [e]) hg).mono fun d ⟨b, e, f⟩ => by rw [e, f]
/-- sorted of whole numbers, any number of them -/
def rSortA (K : Fg) : List V → Hp → VK → Prop := fun vs H Q => ∃ (a : Addr) (ns : List Int), vs = [V.ref a] ∧ SqL K H a (ns.map V.int) ∧
  ∀ (ms : List Int) (p : Addr), ms.Perm ns → ms.Pairwise (· ≤ ·) → H p = none → Q (.ref p) (upd H p (.lst (ms.map V.int)))
theorem cr_sortA : CallR X (.builtin "sorted") (rSortA X.K) := by
  intro pins s σ H vs us Q I r h
  obtain ⟨a, ns, rfl, hs, q⟩ := h
  obtain ⟨its, rv, hl, hz⟩ := I.list hs
  rw [Vals.ref1 r]
  have hi := rv.ints
  have hz' : its.length ≤ sizeLine := by rw [← rv.length]; exact hz
  refine PyProof.Rows.sorted_intsAny hl.isList hi hz' fun out ms h1 h2 h3 => ?_
  obtain ⟨ep, he⟩ := PyProof.Rows.sortedAll_at s.heap its out
  have hlen : (ms.map V.int).length ≤ sizeLine := by rw [List.length_map, h2.length_eq, ← List.length_map (f := V.int)]; exact hz
  exact ⟨.ref _, upd H (s.heap.objs.size + 1) (.lst (ms.map V.int)), I.laid (t' := s.toks) (fun _ _ => PyProof.Rows.sortedAll_old) (Nat.le_succ _) ⟨hlen, out.toList, ep, vals_of_ints h1, he⟩, rfl, q ms _ h2 h3 (I.hok.fresh (Nat.le_succ _))⟩
theorem pd_sorted {ns ms : List Int} (hm : X.mg "sorted" = none) (ha : PAD X [e] δ [.list (ns.map PyData.int)]) (hp : ms.Perm ns) (hw : ms.Pairwise (· ≤ ·)) (hg : Gl X "sorted" := by rfl) : PD X (.Call (.Name "sorted" p) [e] [] pos) δ (.list (ms.map PyData.int)) :=
  xd_cb cr_sortA hg hm (by decide +kernel) ha fun ds' e p B G H vs i3 hv Q q => by
    subst e
    obtain ⟨v, rfl, h⟩ := one_of hv
    cases h with
    | lst hs ha =>
      have e := dpAll_ints ha
      subst e
      refine ⟨_, ns, rfl, exl i3.gh hs, fun ks l k1 k2 hl => ?_⟩
      have : ks = ms := List.Perm.eq_of_pairwise (fun a b _ _ h1 h2 => Int.le_antisymm h1 h2) k2 hw (k1.trans hp.symm)
      subst this
      exact q _ _ _ _ rfl (.new i3 _ hl) (.lst (.inl (.inl upd_same)) (dpAll_of_ints ks))
/-- list(..), tuple(..) -/
theorem pd_tuple_of (hm : X.mg "tuple" = none) (ha : PAD X [e] δ [.list ds]) (hg : Gl X "tuple" := by rfl) : PD X (.Call (.Name "tuple" p) [e] [] pos) δ (.tuple ds) :=
  xd_ct call_tuple_of hg hm (by decide +kernel) ha fun ds' e p B G H vs i3 hv Q q => by
    subst e
    obtain ⟨v, rfl, h⟩ := one_of hv
    cases h with
    | lst hs ha => exact ⟨_, _, rfl, .inl ⟨exl i3.gh hs, fun l hl => q _ _ _ _ rfl (.new i3 _ hl) (.tup (.inl (.inl upd_same)) (dpAll_ex (Ex.new (i3.gh.free hl)) _ _ ha))⟩⟩
/-! repr -/
structure OkD (d : Dt) (b k : Nat) : Prop where
  sh : d.leavesShort 40 = true
  ok : d.showable = true
  nd : d.hasDict = false
  dp : d.depth ≤ k
  bk : d.bulk ≤ b
theorem OkD.mono {b k b' k' : Nat} (h : OkD d b k) (hb : b ≤ b' := by omega) (hk : k ≤ k' := by omega) : OkD d b' k' := ⟨h.sh, h.ok, h.nd, Nat.le_trans h.dp hk, Nat.le_trans h.bk hb⟩
theorem okd_bool {c : Bool} : OkD (.bool c) 0 0 := ⟨by simp [PyData.leavesShort], by simp [PyData.showable], by simp [PyData.hasDict], by simp [PyData.depth], by simp [PyData.bulk]⟩
theorem okd_none : OkD .none 0 0 := ⟨by simp [PyData.leavesShort], by simp [PyData.showable], by simp [PyData.hasDict], by simp [PyData.depth], by simp [PyData.bulk]⟩
theorem okd_int (h : i.natAbs < 10 ^ 38) : OkD (.int i) 0 0 := by
  refine ⟨?_, ?_, by simp [PyData.hasDict], by simp [PyData.depth], by simp [PyData.bulk]⟩
  · simp only [PyData.leavesShort, decide_eq_true_eq]
    have e := int_text_length_le10 (k := 38) (by decide) h
    show (Str.ofString (toString i)).length ≤ 40
    rw [PySem.ofString_length]; omega
  · simp only [PyData.showable, decide_eq_true_eq]
    by_cases z : i.natAbs = 0
    · rw [z]; decide
    · have h2 : i.natAbs.log2 < 127 := (Nat.log2_lt z).mpr (Nat.lt_of_lt_of_le h (by decide))
      omega
theorem okd_str {x : Str} (h : (x.cps.toList.all fun c => decide (c < 16 ^ 8)) = true) : OkD (.str x) x.cps.size 0 := ⟨by simpa [PyData.leavesShort] using h, by simp [PyData.showable], by simp [PyData.hasDict], by simp [PyData.depth], by simp [PyData.bulk]⟩
theorem okd_all {b k : Nat} : ∀ {ds : List Dt}, (∀ d ∈ ds, OkD d b k) → PyData.leavesShortAll 40 ds = true ∧ PyData.showableAll ds = true ∧ PyData.hasDictAll ds = false ∧ PyData.depthAll ds ≤ k ∧ PyData.bulkAll ds ≤ ds.length * (b + 1)
  | [], _ => ⟨by simp [PyData.leavesShortAll], by simp [PyData.showableAll], by simp [PyData.hasDictAll], by simp [PyData.depthAll], by simp [PyData.bulkAll]⟩
  | d :: ds, h => by
    obtain ⟨h1, h2, h3, h4, h5⟩ := okd_all fun x hx => h x (List.mem_cons_of_mem _ hx)
    have g := h d List.mem_cons_self
    refine ⟨by simp [PyData.leavesShortAll, g.sh, h1], by simp [PyData.showableAll, g.ok, h2], by simp [PyData.hasDictAll, g.nd, h3], ?_, ?_⟩
    · simp only [PyData.depthAll]; exact Nat.max_le.mpr ⟨g.dp, h4⟩
    · simp only [PyData.bulkAll, List.length_cons]
      have := g.bk
      rw [Nat.add_mul]; omega
theorem okd_list {b k n : Nat} (h : ∀ d ∈ ds, OkD d b k) (hn : ds.length ≤ n := by simp) : OkD (.list ds) (n * (b + 1)) (k + 1) := by
  obtain ⟨h1, h2, h3, h4, h5⟩ := okd_all h
  exact ⟨by simp only [PyData.leavesShort]; exact h1, by simp only [PyData.showable]; exact h2, by simp only [PyData.hasDict]; exact h3, by simp only [PyData.depth]; omega, by simp only [PyData.bulk]; exact Nat.le_trans h5 (Nat.mul_le_mul_right _ hn)⟩
theorem okd_tuple {b k n : Nat} (h : ∀ d ∈ ds, OkD d b k) (hn : ds.length ≤ n := by simp) : OkD (.tuple ds) (n * (b + 1)) (k + 1) := by
  obtain ⟨h1, h2, h3, h4, h5⟩ := okd_all h
  exact ⟨by simp only [PyData.leavesShort]; exact h1, by simp only [PyData.showable]; exact h2, by simp only [PyData.hasDict]; exact h3, by simp only [PyData.depth]; omega, by simp only [PyData.bulk]; exact Nat.le_trans h5 (Nat.mul_le_mul_right _ hn)⟩
theorem OkD.fits (h : OkD d 390000 40) : d.shown.length ≤ sizeLine := by
  have h1 := PyData.shown_le_bulk 40 (by decide) d h.sh
  have h2 := h.bk
  rw [sizeLine_eq]
  omega
/-- repr of a value that reads as data -/
def rRepr (K : Fg) : List V → Hp → VK → Prop := fun vs H Q => ∃ v d, vs = [v] ∧ Dp K H v d ∧ OkD d 390000 40 ∧ Q (.str d.shown) H
theorem cr_repr (hg : X.A.guards = some []) (hu : X.A.units + 64 < cLine) : CallR X (.builtin "repr") (rRepr X.K) := by
  intro pins s σ H vs us Q I r h
  obtain ⟨v, d, rfl, hd, ok, q⟩ := h
  obtain ⟨u, rfl, ru⟩ := r.one
  obtain ⟨as, rd⟩ := Dp.reads I d v u hd ru
  have fin : ∀ (h' : Heap) (t : Tok) (k : Nat), (∀ b o, s.heap.get? b = some o → h'.get? b = some o) → EP X pins σ Q (.str d.shown t) { s with heap := h', toks := k } := fun h' t k kp => ⟨.str d.shown, H, I.kept (t' := k) kp, ⟨t, rfl⟩, q⟩
  have hsz := ok.fits
  cases rd with
  | none => exact PySem.P.repr_of_none (fin s.heap _ _ fun _ _ e => e)
  | bool b => exact PySem.P.repr_of_bool (fin s.heap _ _ fun _ _ e => e)
  | int i t => exact PySem.P.repr_of_int (by simpa [PyData.showable] using ok.ok) (fin s.heap _ _ fun _ _ e => e)
  | str x t => exact PySem.P.repr_of_str (fin s.heap _ _ fun _ _ e => e) hsz
  | list h1 h2 h3 h4 => exact repr_of_reads' (.list h1 h2 h3 h4) ok.ok (PyData.noDict_hsm ok.nd) hg (by have := ok.dp; omega) (fun _ _ e => e) (fun h' u tk kp => fin h' u tk kp) hsz
  | tuple h1 h2 h3 h4 => exact repr_of_reads' (.tuple h1 h2 h3 h4) ok.ok (PyData.noDict_hsm ok.nd) hg (by have := ok.dp; omega) (fun _ _ e => e) (fun h' u tk kp => fin h' u tk kp) hsz
  | dict h1 h2 h3 h4 h5 => exact absurd ok.nd (by simp [PyData.hasDict])
theorem pd_repr (hgd : X.A.guards = some []) (hu : X.A.units + 64 < cLine) (hm : X.mg "repr" = none) (ha : PAD X [e] δ [d]) (ok : OkD d 390000 40) (hg : Gl X "repr" := by rfl) : PD X (.Call (.Name "repr" p) [e] [] pos) δ (.str d.shown) :=
  xd_cb (cr_repr hgd hu) hg hm (by decide +kernel) ha fun ds' e p B G H vs i3 hv Q q => by
    subst e
    obtain ⟨v, rfl, h⟩ := one_of hv
    exact ⟨v, _, rfl, dz_dp _ _ (dp_ex i3.gh _ _ h), ok, q _ _ G H rfl (.refl i3) (.str _)⟩
/-- isinstance against a built-in class -/
def tyD : Dt → String
  | .none => "NoneType"
  | .bool _ => "bool"
  | .int _ => "int"
  | .str _ => "str"
  | .list _ => "list"
  | .tuple _ => "tuple"
  | .dict _ => "dict"
theorem dz_ty {K : Fg} {G H : Hp} {v : V} (h : Dz K G v d) (ex : Ex G H) : TyX K H v (.type (tyD d)) := by
  cases h with
  | non => exact .base .non
  | bl b => exact .base (.bl b)
  | int i => exact .base (.int i)
  | str x => exact .base (.str x)
  | lst hs _ =>
    rcases ex_x ex hs with (h | ⟨o, h⟩) | ⟨its, n, h, _⟩
    · exact .base (.lst h)
    · exact .base (.frz h)
    · exact .kList h rfl
  | tup hs _ =>
    rcases ex_t ex hs with (h | ⟨o, h⟩) | ⟨o, its, n, h1, h2, _⟩
    · exact .base (.tup h)
    · exact .fTuple h
    · exact .kTuple h1 h2
theorem pd_isi (t T : String) (c : Bool) {tn : Str} {p2 : Pos} (hm : X.mg "isinstance" = none) (hmT : X.mg tn = none) (he : PD X e δ d) (ht : tyD d = t := by rfl) (hk : kitB t T = some c := by decide +kernel) (hv : bootBuiltins tn = some (.type T) := by decide +kernel) (hgT : Gl X tn := by rfl) (hg : Gl X "isinstance" := by rfl)
    (hn : tn ≠ "__name__" := by decide) (hd : (tn == ("__debug__" : Str)) = false := by decide) (hs1 : starEach [.Name tn p2] X.env = [(false, eval (.Name tn p2) X.env)] := by rfl) (hs : starEach [e, .Name tn p2] X.env = (false, eval e X.env) :: starEach [.Name tn p2] X.env := by rfl) :
    PD X (.Call (.Name "isinstance" p) [e, .Name tn p2] [] pos) δ (.bool c) := by
  refine PE.imp (pe_callB call_isi hg hm (by decide +kernel) (pa_cons he (pa_cons (pe_bltn (v := .ty T) hgT hmT hv rfl hn hd) pa_nil (by rw [hs1]; rfl)) hs) (he := hs) (hpl := by rw [hs1]; rfl)) fun σ H Q ⟨p, B, G, i3, en, q⟩ => ⟨p, B, G, i3, en, fun v d' G' H' r n hv' => ?_⟩
  subst r
  exact ⟨v, .ty T, _, _, c, rfl, .ty T, dz_ty hv' n.gh, kit_ty (ht.symm ▸ hk), q _ _ G' H' rfl n (.bl _)⟩
theorem pd_isi2 (t T U : String) (c c2 : Bool) {tn un : Str} {p2 p3 p4 : Pos} {k : Nat} (hm : X.mg "isinstance" = none) (hmT : X.mg tn = none) (hmU : X.mg un = none) (he : PD X e δ d) (ht : tyD d = t := by rfl) (hk : kitB t T = some c := by decide +kernel) (hkU : kitB t U = some c2 := by decide +kernel) (hv : bootBuiltins tn = some (.type T) := by decide +kernel) (hvU : bootBuiltins un = some (.type U) := by decide +kernel)
    (hgT : Gl X tn := by rfl) (hgU : Gl X un := by rfl) (hg : Gl X "isinstance" := by rfl) (hn : tn ≠ "__name__" := by decide) (hd : (tn == ("__debug__" : Str)) = false := by decide) (hn2 : un ≠ "__name__" := by decide) (hd2 : (un == ("__debug__" : Str)) = false := by decide)
    (hs1 : starEach [.Tuple [.Name tn p2, .Name un p3] k p4] X.env = [(false, eval (.Tuple [.Name tn p2, .Name un p3] k p4) X.env)] := by rfl) (hs : starEach [e, .Tuple [.Name tn p2, .Name un p3] k p4] X.env = (false, eval e X.env) :: starEach [.Tuple [.Name tn p2, .Name un p3] k p4] X.env := by rfl) (ht2 : starEach [.Name un p3] X.env = [(false, eval (.Name un p3) X.env)] := by rfl) (ht : starEach [.Name tn p2, .Name un p3] X.env = (false, eval (.Name tn p2) X.env) :: starEach [.Name un p3] X.env := by rfl) :
    PD X (.Call (.Name "isinstance" p) [e, .Tuple [.Name tn p2, .Name un p3] k p4] [] pos) δ (.bool (c || c2)) := by
  refine PE.imp (pe_callB call_isiT hg hm (by decide +kernel) (pa_cons he (pa_cons (pe_tup (pa_cons (pe_bltn (v := .ty T) hgT hmT hv rfl hn hd) (pa_cons (pe_bltn (v := .ty U) hgU hmU hvU rfl hn2 hd2) pa_nil (by rw [ht2]; rfl)) ht)) pa_nil (by rw [hs1]; rfl)) hs) (he := hs) (hpl := by rw [hs1]; rfl)) fun σ H Q ⟨p, B, G, i3, en, q⟩ => ⟨p, B, G, i3, en, fun v d' G' H' r n hv' => ?_⟩
  subst r
  have i3' := i3.nxt n
  refine ⟨by show 2 ≤ sizeLine; decide, fun l hl => ?_⟩
  have n2 := Nxt.newH i3' (.tup [.ty T, .ty U]) hl
  refine ⟨v, l, _, _, [.type T, .type U], c || c2, rfl, upd_same, .cons (.ty T) (.cons (.ty U) .nil), dz_ty hv' n2.gh, kitAny_cons (kit_ty (ht.symm ▸ hk)) (fun hc => kitAny_cons (kit_ty (ht.symm ▸ hkU)) (fun h2 => ?_) (fun h2 => ?_)) (fun hc => ?_), q _ _ _ _ rfl (n.trans n2) (.bl _)⟩
  · rw [hc, h2]; rfl
  · rw [hc, h2]; rfl
  · rw [hc]; rfl
/-- x in (..), texts -/
theorem dz_strs {K : Fg} {G : Hp} : ∀ {xs : List V} {ss : List Str}, DzAll K G xs (ss.map PyData.str) → xs = ss.map V.str
  | _, [], h => by cases h; rfl
  | _, n :: ns, h => by
    cases h with
    | cons h1 h2 => cases h1; rw [dz_strs h2]; rfl
theorem pd_inS {ss : List Str} {x : Str} (ha : PD X a δ (.str x)) (hb : PD X b δ (.tuple (ss.map PyData.str))) (hmk : behindInMarks .In b = false := by rfl) : PD X (.Compare a [.In] [b] pos) δ (.bool (ss.any fun y => y == x)) :=
  xd_cmp op_in_seq ha hb hmk fun d1 d2 e1 e2 => by
    subst e1; subst e2
    intro p B G H v w i3 h1 h2 Q q
    cases h1
    cases h2 with
    | tup hs ha =>
      have e := dz_strs ha
      subst e
      refine ⟨_, _, rfl, .inr (ex_t i3.gh hs), rfl, ?_, q _ _ G H rfl (.refl i3) ?_⟩
      · rw [List.all_map]; exact List.all_eq_true.mpr fun _ _ => rfl
      · have : inV (V.str x) (ss.map V.str) = ss.any fun y => y == x := by unfold inV; rw [List.any_map]; rfl
        show Dz _ _ (V.bl (inV (V.str x) (ss.map V.str))) _
        rw [this]; exact .bl _
/-! slices, sums of lists -/
def cutD (ds : List Dt) (lo hi : Option Int) : List Dt := (ds.drop (HT.sIx ds.length 0 lo)).take (HT.sIx ds.length ds.length hi - HT.sIx ds.length 0 lo)
theorem dz_cut {K : Fg} {G : Hp} {xs : List V} {lo hi : Option Int} (h : DzAll K G xs ds) : DzAll K G (cutV xs lo hi) (cutD ds lo hi) := by
  unfold cutV cutD
  rw [dpAll_length h]
  exact dpAll_take _ (dpAll_drop _ h)
def rO (K : Fg) (δ : De) (o : Option Int) : TO := fun σ H Q => ∃ p B G, I3 p B G H ∧ EnvD K p B G H σ δ ∧ ∀ G' H', Nxt p G H G' H' → Q o H'
def OD (X : Cx) (e : Option Expr) (δ : De) (o : Option Int) : Prop := PO X e (rO X.K δ o)
theorem PO.imp {X : Cx} {e : Option Expr} {t t' : TO} (h : PO X e t) (k : ∀ σ H Q, t' σ H Q → t σ H Q) : PO X e t' := ⟨fun pins s σ H Q I q => h.run pins s σ H Q I (k σ H Q q)⟩
theorem od_none : OD X none δ none := PO.imp po_none fun σ H Q ⟨p, B, G, i3, en, q⟩ => q G H (.refl i3)
theorem od_some (h : PD X e δ (.int i)) : OD X (some e) δ (some i) := PO.imp (po_some h) fun σ H Q ⟨p, B, G, i3, en, q⟩ => ⟨p, B, G, i3, en, fun v d G' H' r n hv => by subst r; cases hv; exact ⟨i, rfl, q G' H' n⟩⟩
theorem pd_slL {lo hi : Option Expr} {l u : Option Int} {p2 : Pos} (he : PD X e δ (.list ds)) (hl : OD X lo δ l) (hu : OD X hi δ u) : PD X (.Subscript e (.Slice lo hi none p2) pos) δ (.list (cutD ds l u)) :=
  PE.imp (pe_slice sl_list he hl hu) fun σ H Q ⟨p, B, G, i3, en, q⟩ => ⟨p, B, G, i3, en, fun v d G1 H1 r n1 hv => ⟨p, B, G1, i3.nxt n1, en.nxt n1, fun G2 H2 n2 => ⟨p, B, G2, i3.nxt (n1.trans n2), en.nxt (n1.trans n2), fun G3 H3 n3 => by
    subst r
    have n := (n1.trans n2).trans n3
    have i3' := i3.nxt n
    cases dp_ex (n2.st.1.trans n3.st.1) _ _ hv with
    | lst hs ha => exact ⟨_, _, rfl, exl i3'.gh hs, fun l hl => q _ _ _ _ rfl (n.trans (.new i3' _ hl)) (.lst (.inl (.inl upd_same)) (dpAll_ex (Ex.new (i3'.gh.free hl)) _ _ (dz_cut ha)))⟩⟩⟩⟩
theorem pd_rev {k : Nat} {p1 p2 p3 : Pos} (he : PD X e δ (.list ds)) : PD X (.Subscript e (.Slice none none (some (.UnaryOp .USub (.Constant (.int 1) k p1) p2)) p3) pos) δ (.list ds.reverse) :=
  PE.imp (pe_revL he) fun σ H Q ⟨p, B, G, i3, en, q⟩ => ⟨p, B, G, i3, en, fun v d G' H' r n hv => by
    subst r
    have i3' := i3.nxt n
    cases hv with
    | lst hs ha => exact ⟨_, _, rfl, exl i3'.gh hs, fun l hl => q _ _ _ _ rfl (n.trans (.new i3' _ hl)) (.lst (.inl (.inl upd_same)) (dpAll_ex (Ex.new (i3'.gh.free hl)) _ _ (dpAll_reverse ha)))⟩⟩
def rCatR (K : Fg) : R2 := fun x y H Q => ∃ l b xs zs, x = .ref l ∧ y = .ref b ∧ SqX K H l xs ∧ SqX K H b zs ∧ xs.length + zs.length ≤ sizeLine ∧ ∀ p, H p = none → Q (.ref p) (upd H p (.lst (xs ++ zs)))
theorem rd_lst {pins : List (Addr × Obj)} {σ : L2.St} {H : Hp} {s : Shared} {l : Addr} {xs : List V} (I : Inv X pins σ H s) (h : SqX X.K H l xs) : ∃ its n, Vals xs its ∧ s.heap.get? l = some { cls := .type "list", data := .seq its.toArray n } := by
  rcases h with h | ⟨its, n, h1, _, h3⟩
  case inr => exact ⟨its, n, h3, I.kIn l _ h1⟩
  obtain ⟨_, its, n, r, e⟩ := (show ObjOk X.prog X.w H s.heap l (.lst xs) from h.ok I.hok)
  exact ⟨its, n, r, e⟩
theorem op_catR : OpR X (binaryOp .Add) (rCatR X.K) := by
  intro pins s σ H x y v u Q I rx ry h
  obtain ⟨l, b, xs, zs, rfl, rfl, hH, hB, hz, q⟩ := h
  cases rx
  cases ry
  obtain ⟨its, n, r, e⟩ := rd_lst I hH
  obtain ⟨its2, n2, r2, e2⟩ := rd_lst I hB
  refine PySem.P.add_list e e2 ?_ (by rw [List.size_toArray, List.size_toArray, ← r.length, ← r2.length]; exact hz)
  have ea : its.toArray ++ its2.toArray = (its ++ its2).toArray := by simp
  rw [ea]
  exact ⟨.ref _, _, I.lnew (t' := s.toks) (r.append r2) (by rw [List.length_append]; exact hz), rfl, q _ I.fresh⟩
theorem pd_cat {es fs : List Dt} (ha : PD X a δ (.list es)) (hb : PD X b δ (.list fs)) (hl : es.length + fs.length ≤ 100000) : PD X (.BinOp a .Add b pos) δ (.list (es ++ fs)) := xd_op op_catR ha hb fun x y e1 e2 => by
  subst e1; subst e2
  intro p B G H v w i3 h1 h2 Q q
  cases h1 with
  | lst hs ha => cases h2 with
    | lst hs2 ha2 =>
      exact ⟨_, _, _, _, rfl, rfl, ex_x i3.gh hs, ex_x i3.gh hs2, by rw [dpAll_length ha, dpAll_length ha2]; exact Nat.le_trans hl (by decide), fun l hl => q _ _ _ _ rfl (.new i3 _ hl) (.lst (.inl (.inl upd_same)) (dpAll_ex (Ex.new (i3.gh.free hl)) _ _ (dpAll_append ha ha2)))⟩
end
end Dv

namespace Dv
open PySem PySem.Spec PyProof.Rows L2
section
variable {X : Cx} {a b c e : Expr} {δ : De} {pos : Pos} {x y : Dt} {i j : Int}
/-- comparisons as tests -/
theorem ptc {op : CmpOp} {r : R2} {k : Bool} (ho : OpR X (compareOp op) r) (ha : PD X a δ x) (hb : PD X b δ y) (hm : behindInMarks op b = false) (hr : RD X.K r x y fun d => d = .bool k) : PTD X (.Compare a [op] [b] pos) δ k :=
  xt_cmp ho ha hb hm fun x' y' e1 e2 => by
    subst e1; subst e2
    intro p B G H v w i3 h1 h2 Q q
    exact hr p B G H v w i3 h1 h2 Q fun u d G' H' e => q u d G' H' ⟨k, e, rfl⟩
theorem pt_lt (ha : PD X a δ (.int i)) (hb : PD X b δ (.int j)) : PTD X (.Compare a [.Lt] [b] pos) δ (decide (i < j)) := ptc op_lt ha hb (nomark _) (by refine rd_b ?_; rfl)
theorem pt_le (ha : PD X a δ (.int i)) (hb : PD X b δ (.int j)) : PTD X (.Compare a [.LtE] [b] pos) δ (decide (i ≤ j)) := ptc op_le ha hb (nomark _) (by refine rd_b ?_; rfl)
theorem pt_gt (ha : PD X a δ (.int i)) (hb : PD X b δ (.int j)) : PTD X (.Compare a [.Gt] [b] pos) δ (decide (j < i)) := ptc op_gt ha hb (nomark _) (by refine rd_b ?_; rfl)
theorem pt_ge (ha : PD X a δ (.int i)) (hb : PD X b δ (.int j)) : PTD X (.Compare a [.GtE] [b] pos) δ (decide (j ≤ i)) := ptc op_ge ha hb (nomark _) (by refine rd_b ?_; rfl)
theorem pt_eqI {i j : Int} (ha : PD X a δ (.int i)) (hb : PD X b δ (.int j)) : PTD X (.Compare a [.Eq] [b] pos) δ (decide (i = j)) := ptc op_eq ha hb (nomark _) (by
  intro p B G H v w i3 h1 h2 Q q
  cases h1; cases h2
  refine ⟨rfl, q _ _ G H rfl (.refl i3) ?_⟩
  have : decide (V.int i = V.int j) = decide (i = j) := by by_cases h : i = j <;> simp [h]
  rw [this]; exact .bl _)
theorem pt_neI {i j : Int} (ha : PD X a δ (.int i)) (hb : PD X b δ (.int j)) : PTD X (.Compare a [.NotEq] [b] pos) δ (!decide (i = j)) := ptc op_ne ha hb (nomark _) (by
  intro p B G H v w i3 h1 h2 Q q
  cases h1; cases h2
  refine ⟨rfl, q _ _ G H rfl (.refl i3) ?_⟩
  have : decide (V.int i = V.int j) = decide (i = j) := by by_cases h : i = j <;> simp [h]
  rw [this]; exact .bl _)
theorem pt_eqS {i j : Str} (ha : PD X a δ (.str i)) (hb : PD X b δ (.str j)) : PTD X (.Compare a [.Eq] [b] pos) δ (decide (i = j)) := ptc op_eq ha hb (nomark _) (by
  intro p B G H v w i3 h1 h2 Q q
  cases h1; cases h2
  refine ⟨rfl, q _ _ G H rfl (.refl i3) ?_⟩
  have : decide (V.str i = V.str j) = decide (i = j) := by by_cases h : i = j <;> simp [h]
  rw [this]; exact .bl _)
theorem pt_neS {i j : Str} (ha : PD X a δ (.str i)) (hb : PD X b δ (.str j)) : PTD X (.Compare a [.NotEq] [b] pos) δ (!decide (i = j)) := ptc op_ne ha hb (nomark _) (by
  intro p B G H v w i3 h1 h2 Q q
  cases h1; cases h2
  refine ⟨rfl, q _ _ G H rfl (.refl i3) ?_⟩
  have : decide (V.str i = V.str j) = decide (i = j) := by by_cases h : i = j <;> simp [h]
  rw [this]; exact .bl _)
theorem pt_eqB {i j : Bool} (ha : PD X a δ (.bool i)) (hb : PD X b δ (.bool j)) : PTD X (.Compare a [.Eq] [b] pos) δ (decide (i = j)) := ptc op_eq ha hb (nomark _) (by
  intro p B G H v w i3 h1 h2 Q q
  cases h1; cases h2
  refine ⟨rfl, q _ _ G H rfl (.refl i3) ?_⟩
  have : decide (V.bl i = V.bl j) = decide (i = j) := by by_cases h : i = j <;> simp [h]
  rw [this]; exact .bl _)
theorem pt_neB {i j : Bool} (ha : PD X a δ (.bool i)) (hb : PD X b δ (.bool j)) : PTD X (.Compare a [.NotEq] [b] pos) δ (!decide (i = j)) := ptc op_ne ha hb (nomark _) (by
  intro p B G H v w i3 h1 h2 Q q
  cases h1; cases h2
  refine ⟨rfl, q _ _ G H rfl (.refl i3) ?_⟩
  have : decide (V.bl i = V.bl j) = decide (i = j) := by by_cases h : i = j <;> simp [h]
  rw [this]; exact .bl _)

theorem pt_isN {c : Bool} (ha : PD X a δ x) (hb : PD X b δ .none) (hc : c = (match x with | .none => true | _ => false) := by rfl) : PTD X (.Compare a [.Is] [b] pos) δ c := ptc op_isN ha hb (nomark _) (by
  intro p B G H v w i3 h1 h2 Q q
  cases h2
  refine ⟨rfl, q _ _ G H rfl (.refl i3) ?_⟩
  subst hc
  cases h1 <;> exact .bl _)
theorem pt_notN {c : Bool} (ha : PD X a δ x) (hb : PD X b δ .none) (hc : c = (match x with | .none => false | _ => true) := by rfl) : PTD X (.Compare a [.IsNot] [b] pos) δ c := ptc op_notN ha hb (nomark _) (by
  intro p B G H v w i3 h1 h2 Q q
  cases h2
  refine ⟨rfl, q _ _ G H rfl (.refl i3) ?_⟩
  subst hc
  cases h1 <;> exact .bl _)
theorem pt_eqD (hu : X.A.units + 64 < cLine) (ha : PD X a δ x) (hb : PD X b δ y) (hx : SeqAt.shaped x = true) (hy : SeqAt.shaped y = true) : PTD X (.Compare a [.Eq] [b] pos) δ (PyData.eqv x y) := ptc (op_eqD hu) ha hb (nomark _) (by
  intro p B G H v w i3 h1 h2 Q q
  exact ⟨_, _, dz_dp _ _ (dp_ex i3.gh _ _ h1), dz_dp _ _ (dp_ex i3.gh _ _ h2), hx, hy, q _ _ G H rfl (.refl i3) (.bl _)⟩)
theorem pt_neD (hu : X.A.units + 64 < cLine) (ha : PD X a δ x) (hb : PD X b δ y) (hx : SeqAt.shaped x = true) (hy : SeqAt.shaped y = true) : PTD X (.Compare a [.NotEq] [b] pos) δ (!PyData.eqv x y) := ptc (op_neD hu) ha hb (nomark _) (by
  intro p B G H v w i3 h1 h2 Q q
  exact ⟨_, _, dz_dp _ _ (dp_ex i3.gh _ _ h1), dz_dp _ _ (dp_ex i3.gh _ _ h2), hx, hy, q _ _ G H rfl (.refl i3) (.bl _)⟩)
end
end Dv

set_option linter.all false
set_option maxRecDepth 100000
set_option maxHeartbeats 2000000
namespace Dv
open PySem PySem.Spec PyProof.Rows L2
/-! ### statements -/
structure Out where
  nx : De → Prop := fun _ => False
  rt : Dt → Prop := fun _ => False
  bk : De → Prop := fun _ => False
  ct : De → Prop := fun _ => False
  ro : List Dt → Prop := fun _ => False
/-- what is wanted, from (B, G) on -/
structure Post (K : Fg) (p : Option Addr) (B G : Hp) (D : Ends) (o : Out) : Prop where
  nx : ∀ δ σ G' H', o.nx δ → Step B G G' → I3 p B G' H' → EnvD K p B G' H' σ δ → D.nx σ H'
  rt : ∀ d v G' H', o.rt d → Step B G G' → I3 p B G' H' → Dz K G' v d → D.rt v H'
  bk : ∀ δ σ G' H', o.bk δ → Step B G G' → I3 p B G' H' → EnvD K p B G' H' σ δ → D.bk σ H'
  ct : ∀ δ σ G' H', o.ct δ → Step B G G' → I3 p B G' H' → EnvD K p B G' H' σ δ → D.ct σ H'
  ro : ∀ ds l xs G' H', o.ro ds → Step B G G' → I3 p B G' H' → B l = none → G' l = none → p ≠ some l → H' l = some (.lst xs) → DzAll K G' xs ds → D.rt (.ref l) H'
def rS (K : Fg) (δ : De) (o : Out) : TS := fun D σ H => ∃ p B G, I3 p B G H ∧ EnvD K p B G H σ δ ∧ Post K p B G D o
def SD (X : Cx) (st : Stmt) (δ : De) (o : Out) : Prop := PS X st (rS X.K δ o)
def SsD (X : Cx) (st : List Stmt) (δ : De) (o : Out) : Prop := PSs X st (rS X.K δ o)
theorem Post.step {K : Fg} {p : Option Addr} {B G G' : Hp} {D : Ends} {o : Out} (h : Post K p B G D o) (s : Step B G G') : Post K p B G' D o :=
  ⟨fun δ σ G2 H2 a b => h.nx δ σ G2 H2 a (s.trans b), fun d v G2 H2 a b => h.rt d v G2 H2 a (s.trans b), fun δ σ G2 H2 a b => h.bk δ σ G2 H2 a (s.trans b), fun δ σ G2 H2 a b => h.ct δ σ G2 H2 a (s.trans b), fun ds l xs G2 H2 a b => h.ro ds l xs G2 H2 a (s.trans b)⟩
theorem Nxt.stepB {p : Option Addr} {B G H G' H' : Hp} (i : I3 p B G H) (n : Nxt p G H G' H') : Step B G G' := n.st.le fun a h => by
  cases q : B a with
  | none => exact absurd q h
  | some o => exact nn (i.bh a o q)
section
variable {X : Cx} {st : Stmt} {sts tss : List Stmt} {a b c e : Expr} {es : List Expr} {δ δ' : De} {o : Out} {d : Dt} {ds : List Dt} {pos p : Pos} {R : Dt → Prop}
theorem SD.mono {o1 : Out} (h : SD X st δ o1) (h1 : ∀ x, o1.nx x → o.nx x) (h2 : ∀ x, o1.rt x → o.rt x) (h3 : ∀ x, o1.bk x → o.bk x) (h4 : ∀ x, o1.ct x → o.ct x) (h5 : ∀ x, o1.ro x → o.ro x) : SD X st δ o := PS.imp h fun D σ H ⟨p, B, G, i3, en, q⟩ =>
  ⟨p, B, G, i3, en, fun δ σ G2 H2 a => q.nx δ σ G2 H2 (h1 _ a), fun d v G2 H2 a => q.rt d v G2 H2 (h2 _ a), fun δ σ G2 H2 a => q.bk δ σ G2 H2 (h3 _ a), fun δ σ G2 H2 a => q.ct δ σ G2 H2 (h4 _ a), fun ds l xs G2 H2 a => q.ro ds l xs G2 H2 (h5 _ a)⟩
theorem ss_nil (h : o.nx δ) : SsD X [] δ o := PSs.imp pss_nil fun D σ H ⟨p, B, G, i3, en, q⟩ => q.nx δ σ G H h (.refl _ _) i3 en
/-- a statement, then the rest from whatever it may leave -/
theorem ss_seq {N : De → Prop} (h : SD X st δ { o with nx := N }) (k : ∀ δ', N δ' → SsD X sts δ' o) : SsD X (st :: sts) δ o := by
  have hk : PSs X sts (fun D σ H => ∃ δ', N δ' ∧ rS X.K δ' o D σ H) := ⟨fun pins s σ H D I ⟨δ', n, q⟩ => (k δ' n).run pins s σ H D I q⟩
  exact PSs.imp (pss_cons h hk) fun D σ H ⟨p, B, G, i3, en, q⟩ => ⟨p, B, G, i3, en, fun δ1 σ1 G1 H1 a s i en1 => ⟨δ1, a, p, B, G1, i, en1, q.step s⟩, q.rt, q.bk, q.ct, q.ro⟩
theorem ss_to (h : SD X st δ { o with nx := fun x => x = δ' }) (k : SsD X sts δ' o) : SsD X (st :: sts) δ o := ss_seq h fun _ e => e ▸ k
/-- a statement that does not go on -/
theorem ss_end (h : SD X st δ { o with nx := fun _ => False }) : SsD X (st :: sts) δ o := ss_seq h fun _ z => z.elim
theorem sd_ret (h : XD X e δ R) (hR : ∀ d, R d → o.rt d) : SD X (.Return (some e) pos) δ o := PS.imp (ps_ret h) fun D σ H ⟨p, B, G, i3, en, q⟩ => ⟨p, B, G, i3, en, fun v d G' H' r n hv => q.rt d v G' H' (hR d r) (n.stepB i3) (i3.nxt n) hv⟩
theorem s_ret (h : PD X e δ d) (hR : o.rt d) : SsD X (.Return (some e) pos :: sts) δ o := ss_end (sd_ret h fun x e => e ▸ hR)
/-- x = e -/
theorem sd_set (i : Nat) {x : Str} {N : De → Prop} {pos' : Pos} (hN : X.N.Nodup) (he : XD X e δ R) (hR : ∀ d, R d → N (δ.set i (.d d))) (hi : X.N[i]? = some x := by rfl) (hx : Loc X.env.scope x := by first | exact Or.inl rfl | exact Or.inr rfl)
    (hs : swapsWith e (some (.Name x pos')) pos.line X.env = pure false := by rfl) (hf : X.fn x = true ∨ X.env.scope.names.lookup x = some .local := by first | exact .inl rfl | exact .inr rfl | assumption) : SD X (.Assign [.Name x pos'] e pos) δ { o with nx := N } :=
  PS.imp (ps_set hN hi hx he hs hf) fun D σ H ⟨p, B, G, i3, en, q⟩ => ⟨p, B, G, i3, en, fun v d G' H' r n hv => q.nx _ _ G' H' (hR d r) (n.stepB i3) (i3.nxt n) ((en.nxt n).set hv)⟩
theorem s_set (i : Nat) {x : Str} {pos' : Pos} (hN : X.N.Nodup) (he : PD X e δ d) (k : SsD X sts (δ.set i (.d d)) o) (hi : X.N[i]? = some x := by rfl) (hx : Loc X.env.scope x := by first | exact Or.inl rfl | exact Or.inr rfl)
    (hs : swapsWith e (some (.Name x pos')) pos.line X.env = pure false := by rfl) (hf : X.fn x = true ∨ X.env.scope.names.lookup x = some .local := by first | exact .inl rfl | exact .inr rfl | assumption) : SsD X (.Assign [.Name x pos'] e pos :: sts) δ o :=
  ss_to (sd_set i hN he (fun x e => by rw [e]) hi hx hs hf) k
/-- a, b, .. = e -/
theorem sd_asg {tg : Expr} {js : List Nat} {N : De → Prop} (he : XD X e δ R) (F : Dt → De) (hg : ∀ d, R d → TgD X tg js d δ (F d)) (hR : ∀ d, R d → N (F d)) (hs : swapsWithSole [tg] e pos.line X.env = pure false := by rfl) (hw : swappedStores [tg] e X.env = pure none := by rfl)
    (h1 : (assignEach [tg] X.env).map (·.2) = [assign tg X.env] := by rfl) : SD X (.Assign [tg] e pos) δ { o with nx := N } := by
  have pg : PG X tg (fun v σ H Q => ∃ d, R d ∧ rG X.K js d δ (F d) v σ H Q) := ⟨fun pins s σ H v u Q I r ⟨d, a, q⟩ => (hg d a).run pins s σ H v u Q I r q⟩
  exact PS.imp (ps_asg he pg hs hw h1) fun D σ H ⟨p, B, G, i3, en, q⟩ => ⟨p, B, G, i3, en, fun v d G' H' r n hv => ⟨d, r, p, B, G', i3.nxt n, en.nxt n, hv, fun σ' en' _ => q.nx _ _ G' H' (hR d r) (n.stepB i3) (i3.nxt n) en'⟩⟩
theorem s_asg {tg : Expr} {js : List Nat} (he : PD X e δ d) (hg : TgD X tg js d δ δ') (k : SsD X sts δ' o) (hs : swapsWithSole [tg] e pos.line X.env = pure false := by rfl) (hw : swappedStores [tg] e X.env = pure none := by rfl)
    (h1 : (assignEach [tg] X.env).map (·.2) = [assign tg X.env] := by rfl) : SsD X (.Assign [tg] e pos :: sts) δ o :=
  ss_to (sd_asg he (fun _ => δ') (fun x e => by rw [e]; exact hg) (fun _ _ => rfl) hs hw h1) k
/-- an expression alone -/
theorem sd_expr {N : De → Prop} (he : XD X e δ R) (hR : ∀ d, R d → N δ) (hs : swapsWith e none pos.line X.env = pure false := by rfl) : SD X (.Expr e pos) δ { o with nx := N } :=
  PS.imp (ps_expr he hs) fun D σ H ⟨p, B, G, i3, en, q⟩ => ⟨p, B, G, i3, en, fun v d G' H' r n hv => q.nx _ _ G' H' (hR d r) (n.stepB i3) (i3.nxt n) (en.nxt n)⟩
theorem s_expr (he : PD X e δ d) (k : SsD X sts δ o) (hs : swapsWith e none pos.line X.env = pure false := by rfl) : SsD X (.Expr e pos :: sts) δ o := ss_to (sd_expr he (fun _ _ => rfl) hs) k
/-- if -/
theorem sd_if {S : Bool → Prop} (hc : XT X c δ S) (h1 : S true → SsD X sts δ o) (h2 : S false → SsD X tss δ o) : SD X (.If c sts tss pos) δ o := by
  have z1 : PSs X sts (fun D σ H => S true ∧ rS X.K δ o D σ H) := ⟨fun pins s σ H D I h => (h1 h.1).run pins s σ H D I h.2⟩
  have z2 : PSs X tss (fun D σ H => S false ∧ rS X.K δ o D σ H) := ⟨fun pins s σ H D I h => (h2 h.1).run pins s σ H D I h.2⟩
  exact PS.imp (ps_if hc z1 z2) fun D σ H ⟨p, B, G, i3, en, q⟩ => ⟨p, B, G, i3, en, fun k G' H' r n => by
    cases k with
    | true => exact iteT ⟨r, p, B, G', i3.nxt n, en.nxt n, q.step (n.stepB i3)⟩
    | false => exact iteF ⟨r, p, B, G', i3.nxt n, en.nxt n, q.step (n.stepB i3)⟩⟩
/-- if c: .. that ends; then the rest -/
theorem s_if {k : Bool} (hc : PTD X c δ k) (h1 : k = true → SsD X sts δ { o with nx := fun _ => False }) (h2 : k = false → SsD X tss δ o) : SsD X (.If c sts [] pos :: tss) δ o :=
  ss_seq (N := fun x => k = false ∧ x = δ) (sd_if hc (fun h => PSs.imp (h1 h.symm) fun D σ H ⟨p, B, G, i3, en, q⟩ => ⟨p, B, G, i3, en, fun _ _ _ _ z => z.elim, q.rt, q.bk, q.ct, q.ro⟩) fun h => ss_nil ⟨h.symm, rfl⟩) fun x ⟨h, e⟩ => e ▸ h2 h
/-- a test known to be false -/
theorem s_if0 (hc : PTD X c δ false) (h2 : SsD X tss δ o) : SsD X (.If c sts [] pos :: tss) δ o := s_if hc (fun h => Bool.noConfusion h) fun _ => h2
/-- for -/
theorem sd_for {tg iter : Expr} {js : List Nat} {S : List Dt → Prop} {N : De → Prop} (hp : PassesOwn (model X.prog X.w) X.A X.env X.xe) (hc : X.calm = true) (hi : XI X tg iter δ S) (Iv : List Dt → Nat → De → Prop) (h0 : ∀ ds, S ds → Iv ds 0 δ)
    (F : Dt → De → De) (hg : ∀ ds (i : Nat) d δ', S ds → ds[i]? = some d → Iv ds i δ' → TgD X tg js d δ' (F d δ'))
    (hb : ∀ ds (i : Nat) d δ', S ds → ds[i]? = some d → Iv ds i δ' → SsD X sts (F d δ') { nx := Iv ds (i + 1), rt := o.rt, ro := o.ro, bk := N, ct := Iv ds (i + 1) })
    (hd : ∀ ds δ', S ds → Iv ds ds.length δ' → N δ') (hs : ∀ x, foldedSetIterable iter X.env x = pure x := by intro _; rfl) : SD X (.For tg iter sts [] pos) δ { o with nx := N } := by
  have pg : PG X tg (fun v σ H Q => ∃ ds, ∃ (i : Nat), ∃ d δ', S ds ∧ ds[i]? = some d ∧ Iv ds i δ' ∧ rG X.K js d δ' (F d δ') v σ H Q) := ⟨fun pins s σ H v u Q I r ⟨ds, i, d, δ', a, b, c, q⟩ => (hg ds i d δ' a b c).run pins s σ H v u Q I r q⟩
  have pb : PSs X sts (fun D σ H => ∃ ds, ∃ (i : Nat), ∃ d δ', S ds ∧ ds[i]? = some d ∧ Iv ds i δ' ∧ rS X.K (F d δ') { nx := Iv ds (i + 1), rt := o.rt, ro := o.ro, bk := N, ct := Iv ds (i + 1) } D σ H) := ⟨fun pins s σ H D I ⟨ds, i, d, δ', a, b, c, q⟩ => (hb ds i d δ' a b c).run pins s σ H D I q⟩
  refine PS.imp (ps_for hp hc hi pg pb (hs := hs)) fun D σ H ⟨p, B, G, i3, en, q⟩ => ⟨p, B, G, i3, en, fun J ds G1 H1 s n yl => ?_⟩
  have st1 := n.stepB i3
  refine ⟨fun i m σ' H' => m = ds.length - i ∧ i ≤ ds.length ∧ ∃ G' δ', Step B G1 G' ∧ I3 p B G' H' ∧ EnvD X.K p B G' H' σ' δ' ∧ Iv ds i δ', ⟨_, rfl, Nat.zero_le _, G1, δ, .refl _ _, i3.nxt n, en.nxt n, h0 ds s⟩, ?_⟩
  rintro i m σ' H' ⟨em, hle, G', δ', st', i3', en', iv⟩
  by_cases hlt : i < ds.length
  · obtain ⟨go, yd⟩ := (yl p B G' H' st'.1 i3' i).1 hlt
    refine .inr ⟨go, fun σ2 H2 => ∃ G2 δ2, Step B G1 G2 ∧ I3 p B G2 H2 ∧ EnvD X.K p B G2 H2 σ2 δ2 ∧ Iv ds (i + 1) δ2, fun σ2 H2 ⟨G2, δ2, a1, a2, a3, a4⟩ => ⟨_, by omega, rfl, by omega, G2, δ2, a1, a2, a3, a4⟩, fun x H2 hy => ?_⟩
    obtain ⟨G2, d, e2, n2, hx⟩ := yd x H2 hy
    refine ⟨ds, i, d, δ', s, e2, iv, p, B, G2, i3'.nxt n2, en'.nxt n2, hx, fun σ2 en2 _ => ⟨ds, i, d, δ', s, e2, iv, p, B, G2, i3'.nxt n2, en2, ?_⟩⟩
    have st2 := st'.trans (n2.stepB i3')
    exact ⟨fun δ3 σ3 G3 H3 a b c e => ⟨G3, δ3, st2.trans b, c, e, a⟩, fun d3 v3 G3 H3 a b => q.rt d3 v3 G3 H3 a ((st1.trans st2).trans b), fun δ3 σ3 G3 H3 a b => q.nx δ3 σ3 G3 H3 a ((st1.trans st2).trans b), fun δ3 σ3 G3 H3 a b c e => ⟨G3, δ3, st2.trans b, c, e, a⟩, fun ds3 l3 xs3 G3 H3 a b => q.ro ds3 l3 xs3 G3 H3 a ((st1.trans st2).trans b)⟩
  · have e : i = ds.length := by omega
    subst e
    exact .inl ⟨(yl p B G' H' st'.1 i3' _).2 rfl, q.nx δ' σ' G' H' (hd ds δ' s iv) (st1.trans st') i3' en'⟩
/-- while -/
theorem sd_while {N : De → Prop} (hp : PassesOwn (model X.prog X.w) X.A X.env X.xe) (Iv : Nat → De → Prop) (m0 : Nat) (h0 : Iv m0 δ) (T : Nat → De → Bool → Prop) (hc : ∀ m δ', Iv m δ' → XT X c δ' (T m δ'))
    (hb : ∀ m δ', Iv m δ' → T m δ' true → SsD X sts δ' { nx := fun δ2 => ∃ m', m' < m ∧ Iv m' δ2, rt := o.rt, ro := o.ro, bk := N, ct := fun δ2 => ∃ m', m' < m ∧ Iv m' δ2 })
    (hd : ∀ m δ', Iv m δ' → T m δ' false → N δ') : SD X (.While c sts [] pos) δ { o with nx := N } := by
  have pc : PT X c (fun σ H Q => ∃ m δ', Iv m δ' ∧ rT X.K δ' (T m δ') σ H Q) := ⟨fun pins s σ H Q I ⟨m, δ', a, q⟩ => (hc m δ' a).run pins s σ H Q I q⟩
  have pb : PSs X sts (fun D σ H => ∃ m δ', Iv m δ' ∧ T m δ' true ∧ rS X.K δ' { nx := fun δ2 => ∃ m', m' < m ∧ Iv m' δ2, rt := o.rt, ro := o.ro, bk := N, ct := fun δ2 => ∃ m', m' < m ∧ Iv m' δ2 } D σ H) := ⟨fun pins s σ H D I ⟨m, δ', a, b, q⟩ => (hb m δ' a b).run pins s σ H D I q⟩
  refine PS.imp (ps_while hp pc pb) fun D σ H ⟨p, B, G, i3, en, q⟩ => ⟨fun m σ' H' => ∃ G' δ', Step B G G' ∧ I3 p B G' H' ∧ EnvD X.K p B G' H' σ' δ' ∧ Iv m δ', ⟨m0, G, δ, .refl _ _, i3, en, h0⟩, ?_⟩
  rintro m σ' H' ⟨G', δ', st', i3', en', iv⟩
  refine ⟨m, δ', iv, p, B, G', i3', en', fun k G2 H2 t n2 => ?_⟩
  have st2 := st'.trans (n2.stepB i3')
  cases k with
  | true => exact iteT ⟨fun σ3 H3 => ∃ m', m' < m ∧ ∃ G3 δ3, Step B G G3 ∧ I3 p B G3 H3 ∧ EnvD X.K p B G3 H3 σ3 δ3 ∧ Iv m' δ3, fun σ3 H3 h => h, m, δ', iv, t, p, B, G2, i3'.nxt n2, en'.nxt n2,
      fun δ3 σ3 G3 H3 ⟨m', a1, a2⟩ b c e => ⟨m', a1, G3, δ3, st2.trans b, c, e, a2⟩, fun d3 v3 G3 H3 a b => q.rt d3 v3 G3 H3 a (st2.trans b), fun δ3 σ3 G3 H3 a b => q.nx δ3 σ3 G3 H3 a (st2.trans b), fun δ3 σ3 G3 H3 ⟨m', a1, a2⟩ b c e => ⟨m', a1, G3, δ3, st2.trans b, c, e, a2⟩, fun ds3 l3 xs3 G3 H3 a b => q.ro ds3 l3 xs3 G3 H3 a (st2.trans b)⟩
  | false => exact iteF (q.nx δ' σ' G2 H2 (hd m δ' iv t) st2 (i3'.nxt n2) (en'.nxt n2))
/-- an if at the end -/
theorem s_when {k : Bool} (hc : PTD X c δ k) (h1 : k = true → SsD X sts δ o) (h2 : k = false → SsD X tss δ o) : SsD X [.If c sts tss pos] δ o :=
  ss_seq (N := o.nx) (sd_if hc (fun h => h1 h.symm) fun h => h2 h.symm) fun _ h => ss_nil h
end
end Dv

set_option linter.all false
set_option maxRecDepth 100000
set_option maxHeartbeats 2000000
namespace Dv
open PySem PySem.Spec PyProof.Rows L2
/-! ### promises by data: R: the arguments' data, the answer's -/
def spD (K : Fg) (R : List Dt → Dt → Prop) : Sp := fun vs H Q _ => ∃ G ds d, Ex G H ∧ DzAll K G vs ds ∧ R ds d ∧ ∀ v G' H', Step H G G' → Ex H H' → Ex G' H' → Dz K G' v d → Q v H'
/-- the answer is a new list, data of nobody's yet -/
def spO (K : Fg) (R : List Dt → List Dt → Prop) : Sp := fun vs H Q _ => ∃ G ds es, Ex G H ∧ DzAll K G vs ds ∧ R ds es ∧ ∀ l xs G' H', Step H G G' → Ex H H' → Ex G' H' → H l = none → G' l = none → H' l = some (.lst xs) → DzAll K G' xs es → Q (.ref l) H'
/-- with a pot as the first argument; S: what the answer may be -/
def spP (K : Fg) (R : List Dt → (Dt → Prop) → Prop) : Sp := fun vs H Q _ => ∃ B G q ws ds S, I3 (some q) B G H ∧ vs = V.ref q :: ws ∧ DzAll K G ws ds ∧ R ds S ∧ ∀ v d G' H', S d → Step B G G' → I3 (some q) B G' H' → Dz K G' v d → Q v H'
def stD (N : List Str) (es : List En) : De := es ++ List.replicate (N.length - es.length) .no
theorem env_start {K : Fg} {p : Option Addr} {B G H : Hp} {N : List Str} {vs : List V} {es : List En} (hl : vs.length = es.length) (h : ∀ (i : Nat) e, es[i]? = some e → ∃ v, vs[i]? = some v ∧ Slot K p B G H e (some v)) (no : ∀ e ∈ es, ¬ e.isOwn) : EnvD K p B G H (L2.start N vs) (stD N es) := by
  have el : (L2.start N vs).length = (stD N es).length := by
    unfold L2.start stD
    simp only [List.length_append, List.length_map, List.length_replicate, hl]
  have at1 : ∀ (i : Nat) e, (stD N es)[i]? = some e → i < es.length ∧ es[i]? = some e ∨ e = .no := fun i e q => by
    unfold stD at q
    by_cases hi : i < es.length
    · rw [List.getElem?_append_left hi] at q; exact .inl ⟨hi, q⟩
    · rw [List.getElem?_append_right (by omega), List.getElem?_replicate] at q
      split at q
      · cases q; exact .inr rfl
      · cases q
  refine ⟨el, fun i e q => ?_, fun i j e f l _ q1 m1 => ?_⟩
  · rcases at1 i e q with ⟨hi, q'⟩ | rfl
    · obtain ⟨v, hv, s⟩ := h i e q'
      refine ⟨some v, ?_, s⟩
      unfold L2.start
      rw [List.getElem?_append_left (by rw [List.length_map, hl]; exact hi), List.getElem?_map, hv]; rfl
    · have hi : i < (L2.start N vs).length := by rw [el]; exact (List.getElem?_eq_some_iff.mp q).1
      exact ⟨_, List.getElem?_eq_getElem hi, trivial⟩
  · rcases at1 i e q1 with ⟨hi, q'⟩ | rfl
    · exact absurd m1 (no e (List.mem_of_getElem? q'))
    · exact absurd m1 id
theorem env_data {K : Fg} {p : Option Addr} {B G H : Hp} {N : List Str} {vs : List V} {ds : List Dt} (h : DzAll K G vs ds) : EnvD K p B G H (L2.start N vs) (stD N (ds.map .d)) :=
  env_start (by rw [List.length_map]; exact dpAll_length h) (fun i e q => by
    rw [List.getElem?_map] at q
    cases z : ds[i]? with
    | none => rw [z] at q; cases q
    | some d =>
      rw [z] at q
      cases q
      obtain ⟨v, a, b⟩ := dpAll_get h z
      exact ⟨v, a, v, rfl, b⟩) fun e he => by
    obtain ⟨d, _, rfl⟩ := List.mem_map.mp he
    exact id
theorem env_pot {K : Fg} {q : Addr} {B G H : Hp} {N : List Str} {vs : List V} {ds : List Dt} (h : DzAll K G vs ds) : EnvD K (some q) B G H (L2.start N (V.ref q :: vs)) (stD N (.pot :: ds.map .d)) :=
  env_start (by rw [List.length_cons, List.length_cons, List.length_map, dpAll_length h]) (fun i e z => by
    cases i with
    | zero => simp at z; subst z; exact ⟨_, rfl, q, rfl, rfl⟩
    | succ i =>
      rw [List.getElem?_cons_succ, List.getElem?_map] at z
      cases y : ds[i]? with
      | none => rw [y] at z; cases z
      | some d =>
        rw [y] at z
        cases z
        obtain ⟨v, a, b⟩ := dpAll_get h y
        exact ⟨v, by rw [List.getElem?_cons_succ]; exact a, v, rfl, b⟩) fun e he => by
    rcases List.mem_cons.mp he with rfl | he
    · exact id
    · obtain ⟨d, _, rfl⟩ := List.mem_map.mp he
      exact id
/-- a def of the text, by what it does with data; k: its level -/
structure Cal (P : Program) (w : World) (K : Fg) (mg : Str → Option Value) (base : Heap) (k : Nat) (x : Str) (ps : List Str) (st : Stmt) (sp : Sp) : Prop where
  ex : ∃ f fd, FnG P w K mg base k f fd ps sp ∧ mg x = some (.ref f) ∧ PySem.W.keepIn K (.ref f) = true ∧ Binds K fd ps [] ∧ Fun K x x st f fd
section
variable {P : Program} {w : World} {K : Fg} {mg : Str → Option Value} {base : Heap} {x : Str} {st : Stmt} {f : Addr} {fd : FuncData} {N ps : List Str} {k : Nat} {R : List Dt → Dt → Prop}
theorem fn_data (F : Fun K x x st f fd) (S : FnScope N ps (defScope st)) (len : ∀ ds d, R ds d → ds.length = ps.length)
    (body : ∀ (cdv : Value) (A : Around) (outer : List Env) (s : Shared) (H : Hp) (E : XK), Room k (xc P w K mg base N x st f cdv A outer s H E).A → (xc P w K mg base N x st f cdv A outer s H E).A.guards = some [] → (xc P w K mg base N x st f cdv A outer s H E).A.units + 64 < cLine →
      ∀ ds d, R ds d → SsD (xc P w K mg base N x st f cdv A outer s H E) (defBody st) (stD N (ds.map .d)) { nx := fun _ => d = .none, rt := fun y => y = d }) : FnG P w K mg base (k + 1) f fd ps (spD K R) := by
  refine fnG_of F S (fun vs H Q E ⟨G, ds, d, _, h, r, _⟩ => by rw [dpAll_length h]; exact len ds d r) fun cdv A outer s H vs Q E hr hg ⟨G, ds, d, eg, h, r, q⟩ => ?_
  refine ⟨_, body cdv A outer s H E hr hg hr.units ds d r, none, H, G, ⟨Ex.refl H, eg, fun _ z => nomatch z⟩, env_data h, ?_, ?_, ?_, ?_, ?_⟩
  · intro δ σ G' H' e s' i en
    subst e
    exact q .non G' H' s' i.bh i.gh .non
  · intro d' v G' H' e s' i hv
    subst e
    exact q v G' H' s' i.bh i.gh hv
  · intro _ _ _ _ z; exact z.elim
  · intro _ _ _ _ z; exact z.elim
  · intro _ _ _ _ _ z; exact z.elim
/-- an own list as the answer -/
theorem fn_own {R : List Dt → List Dt → Prop} (F : Fun K x x st f fd) (S : FnScope N ps (defScope st)) (len : ∀ ds d, R ds d → ds.length = ps.length)
    (body : ∀ (cdv : Value) (A : Around) (outer : List Env) (s : Shared) (H : Hp) (E : XK), Room k (xc P w K mg base N x st f cdv A outer s H E).A → (xc P w K mg base N x st f cdv A outer s H E).A.guards = some [] → (xc P w K mg base N x st f cdv A outer s H E).A.units + 64 < cLine →
      ∀ ds es, R ds es → SsD (xc P w K mg base N x st f cdv A outer s H E) (defBody st) (stD N (ds.map .d)) { ro := fun y => y = es }) : FnG P w K mg base (k + 1) f fd ps (spO K R) := by
  refine fnG_of F S (fun vs H Q E ⟨G, ds, d, _, h, r, _⟩ => by rw [dpAll_length h]; exact len ds d r) fun cdv A outer s H vs Q E hr hg ⟨G, ds, es, eg, h, r, q⟩ => ?_
  refine ⟨_, body cdv A outer s H E hr hg hr.units ds es r, none, H, G, ⟨Ex.refl H, eg, fun _ z => nomatch z⟩, env_data h, ?_, ?_, ?_, ?_, ?_⟩
  · intro _ _ _ _ z; exact z.elim
  · intro _ _ _ _ z; exact z.elim
  · intro _ _ _ _ z; exact z.elim
  · intro _ _ _ _ z; exact z.elim
  · intro ds' l xs G' H' e s' i h1 h2 _ h3 h4
    subst e
    exact q l xs G' H' s' i.bh i.gh h1 h2 h3 h4
theorem fn_pot {R : List Dt → (Dt → Prop) → Prop} (F : Fun K x x st f fd) (S : FnScope N ps (defScope st)) (len : ∀ ds T, R ds T → ds.length + 1 = ps.length)
    (body : ∀ (cdv : Value) (A : Around) (outer : List Env) (s : Shared) (H : Hp) (E : XK), Room k (xc P w K mg base N x st f cdv A outer s H E).A → (xc P w K mg base N x st f cdv A outer s H E).A.guards = some [] → (xc P w K mg base N x st f cdv A outer s H E).A.units + 64 < cLine →
      ∀ ds T, R ds T → SsD (xc P w K mg base N x st f cdv A outer s H E) (defBody st) (stD N (.pot :: ds.map .d)) { nx := fun _ => T .none, rt := T }) : FnG P w K mg base (k + 1) f fd ps (spP K R) := by
  refine fnG_of F S (fun vs H Q E ⟨B, G, q, ws, ds, T, _, e, h, r, _⟩ => by rw [e, List.length_cons, dpAll_length h]; exact len ds T r) fun cdv A outer s H vs Q E hr hg ⟨B, G, q, ws, ds, T, i, e, h, r, qq⟩ => ?_
  subst e
  refine ⟨_, body cdv A outer s H E hr hg hr.units ds T r, some q, B, G, i, env_pot h, ?_, ?_, ?_, ?_, ?_⟩
  · intro δ σ G' H' t s' i' en
    exact qq .non .none G' H' t s' i' .non
  · intro d' v G' H' t s' i' hv
    exact qq v d' G' H' t s' i' hv
  · intro _ _ _ _ z; exact z.elim
  · intro _ _ _ _ z; exact z.elim
  · intro _ _ _ _ _ z; exact z.elim
end
section
variable {X : Cx} {k : Nat} {x : Str} {ps ks : List Str} {st : Stmt} {R : List Dt → Dt → Prop} {δ : De} {e : Expr} {es : List Expr} {ds : List Dt} {d : Dt} {p pos : Pos} {kws : List Keyword} {S : List Dt → Prop} {U : Dt → Prop}
theorem sp_use {K : Fg} {p : Option Addr} {B G H : Hp} {vs : List V} {Q : VK} (i3 : I3 p B G H) (hv : DzAll K G vs ds) (hR : R ds d) (q : ∀ v G' H', Nxt p G H G' H' → Dz K G' v d → Q v H') : spD K R vs H Q E0 :=
  ⟨G, ds, d, i3.gh, hv, hR, fun v G' H' s e g hd => q v G' H' ⟨s, fun a o h => e a o (del_le h).1, g, fun z hz => by
    obtain ⟨_, _, a, b, h3, h4⟩ := i3.pot z hz
    exact ⟨a, b, e _ _ h3, h4⟩⟩ hd⟩
theorem xd_call (C : Cal X.prog X.w X.K X.mg X.base k x ps st (spD X.K R)) (ha : XA X (e :: es) δ S) (hR : ∀ ds, S ds → ∃ d, R ds d ∧ U d) (hr : Room k X.A := by first | assumption | (refine Room.mono (by assumption) ?_; decide)) (hgd : X.A.guards = some [] := by assumption) (hg : Gl X x := by rfl)
    (hpl : starEach es X.env = es.map fun e => (false, eval e X.env) := by rfl) (hdb : (x == ("__debug__" : Str)) = false := by decide) : XD X (.Call (.Name x p) (e :: es) [] pos) δ U := by
  obtain ⟨f, fd, G, hm, hk, hb, _⟩ := C.ex
  exact PE.imp (pe_g G hr hgd hg hm hk hb ha.pa hdb (by rw [hpl]; exact ha.pl) (back_plain hpl)) fun σ H Q ⟨p, B, G, i3, en, q⟩ => ⟨p, B, G, i3, en, fun vs ds G' H' s n hv => by
    obtain ⟨d, h1, h2⟩ := hR ds s
    exact sp_use (i3.nxt n) hv h1 fun v G2 H2 n2 hd => q v d G2 H2 h2 (n.trans n2) hd⟩
theorem pd_call (C : Cal X.prog X.w X.K X.mg X.base k x ps st (spD X.K R)) (ha : PAD X (e :: es) δ ds) (hR : R ds d) (hr : Room k X.A := by first | assumption | (refine Room.mono (by assumption) ?_; decide)) (hgd : X.A.guards = some [] := by assumption) (hg : Gl X x := by rfl)
    (hpl : starEach es X.env = es.map fun e => (false, eval e X.env) := by rfl) (hdb : (x == ("__debug__" : Str)) = false := by decide) : PD X (.Call (.Name x p) (e :: es) [] pos) δ d :=
  xd_call C ha (fun y h => ⟨d, by rw [h]; exact hR, rfl⟩) hr hgd hg hpl hdb
theorem pd_call0 (C : Cal X.prog X.w X.K X.mg X.base k x ps st (spD X.K R)) (hR : R [] d) (hr : Room k X.A := by first | assumption | (refine Room.mono (by assumption) ?_; decide)) (hgd : X.A.guards = some [] := by assumption) (hg : Gl X x := by rfl)
    (hdb : (x == ("__debug__" : Str)) = false := by decide) : PD X (.Call (.Name x p) [] [] pos) δ d := by
  obtain ⟨f, fd, G, hm, hk, hb, _⟩ := C.ex
  exact PE.imp (pe_g0 G hr hgd hg hm hk hb hdb) fun σ H Q ⟨p, B, G, i3, en, q⟩ => sp_use i3 .nil hR fun v G2 H2 n2 hd => q v d G2 H2 rfl n2 hd
/-- a new list taken as data -/
theorem spO_data {K : Fg} {R : List Dt → List Dt → Prop} : ∀ vs H Q E, spD K (fun ds d => ∃ es, R ds es ∧ d = .list es) vs H Q E → spO K R vs H Q E := fun vs H Q E ⟨G, ds, d, e, h, ⟨es, r, ed⟩, q⟩ =>
  ⟨G, ds, es, e, h, r, fun l xs G' H' s e2 g hl gl hl' ha => by
    subst ed
    refine q (.ref l) (upd G' l (.lst xs)) H' ⟨s.1.mut (e.free hl), fun a h1 h2 => ?_⟩ e2 (fun a o ho => ?_) (.lst (.inl (.inl upd_same)) (dpAll_ex (Ex.new gl) _ _ ha))
    · have : a ≠ l := fun w => h1 (w ▸ hl)
      rw [upd_ne this]; exact s.2 a h1 h2
    · by_cases w : a = l
      · subst w; rw [upd_same] at ho; cases ho; exact hl'
      · rw [upd_ne w] at ho; exact g a o ho⟩
theorem FnG.imp {P : Program} {w : World} {K : Fg} {mg : Str → Option Value} {base : Heap} {k : Nat} {f : Addr} {fd : FuncData} {ps : List Str} {sp sp' : Sp} (F : FnG P w K mg base k f fd ps sp) (h : ∀ vs H Q E, sp' vs H Q E → sp vs H Q E) : FnG P w K mg base k f fd ps sp' :=
  ⟨fun vs H Q E z => F.len vs H Q E (h _ _ _ _ z), fun A outer s H args us vs Q E a b c d e z => F.run A outer s H args us vs Q E a b c d e (h _ _ _ _ z)⟩
theorem Cal.data {P : Program} {w : World} {K : Fg} {mg : Str → Option Value} {base : Heap} {k : Nat} {x : Str} {ps : List Str} {st : Stmt} {R : List Dt → List Dt → Prop} (C : Cal P w K mg base k x ps st (spO K R)) : Cal P w K mg base k x ps st (spD K fun ds d => ∃ es, R ds es ∧ d = .list es) := by
  obtain ⟨f, fd, G, r⟩ := C.ex
  exact ⟨f, fd, G.imp spO_data, r⟩
/-- a call with a pot as the first argument -/
theorem xd_pot {R : List Dt → (Dt → Prop) → Prop} (C : Cal X.prog X.w X.K X.mg X.base k x ps st (spP X.K R)) (i : Nat) {y : Str} {yp : Pos} (ha : XA X es δ S) (hR : ∀ ds, S ds → R ds U) (hs : δ[i]? = some .pot := by rfl) (hN : X.N[i]? = some y := by rfl)
    (hv : Vis X.env.scope y := by first | exact Or.inl rfl | exact Or.inr (Or.inl rfl) | exact Or.inr (Or.inr rfl)) (hr : Room k X.A := by first | assumption | (refine Room.mono (by assumption) ?_; decide)) (hgd : X.A.guards = some [] := by assumption) (hg : Gl X x := by rfl)
    (hp1 : starEach (.Name y yp :: es) X.env = (false, eval (.Name y yp) X.env) :: starEach es X.env := by rfl) (hdb : (x == ("__debug__" : Str)) = false := by decide) (hd : (y == ("__debug__" : Str)) = false := by decide) (hcd : (y == ("__classdict__" : Str)) = false := by decide) : XD X (.Call (.Name x p) (.Name y yp :: es) [] pos) δ U := by
  obtain ⟨f, fd, G, hm, hk, hb, _⟩ := C.ex
  refine PE.imp (pe_g G hr hgd hg hm hk hb (pa_cons (pe_var hN hv hd hcd) ha.pa hp1) hdb hp1 (back_plain ha.pl)) fun σ H Q ⟨p, B, G, i3, en, q⟩ => ?_
  obtain ⟨o, h1, z, rfl, rfl⟩ := en.slot i _ hs
  refine ⟨_, h1, some z, B, G, i3, en, fun vs ds G' H' s n hv => ?_⟩
  have i3' := i3.nxt n
  refine ⟨del (some z) H', G', z, vs, ds, U, ⟨fun a o h => (del_le h).1, i3'.gh, fun y hy => ?_⟩, rfl, hv, hR ds s, fun v d G2 H2 u st2 i2 hd => q v d G2 H2 u (n.trans ⟨⟨st2.1, fun a h1 h2 => ?_⟩, i2.bh, i2.gh, fun y hy => (i2.pot y hy).2.2⟩) hd⟩
  · cases hy
    obtain ⟨_, h2, h3⟩ := i3'.pot z rfl
    refine ⟨?_, h2, h3⟩
    unfold del; rw [if_pos rfl]
  · by_cases za : z = a
    · subst za; exact (i2.pot z rfl).2.1
    · exact st2.2 a (by rw [del_ne (fun w => za (Option.some.inj w))]; exact h1) h2
end
end Dv
namespace Dv
open PySem PySem.Spec PyProof.Rows L2
/-! ### calls by keywords alone: ix: where each parameter stands among them -/
def pick {α : Type} (ix : List Nat) (l : List α) : List α := ix.filterMap fun i => l[i]?
theorem pick_cons {α : Type} (i : Nat) (ix : List Nat) (l : List α) : pick (i :: ix) l = (match l[i]? with | some a => a :: pick ix l | none => pick ix l) := by
  unfold pick
  rw [List.filterMap_cons]
  cases l[i]? <;> rfl
theorem pick_vals {vs : List V} {us : List Value} (r : Vals vs us) : ∀ ix : List Nat, Vals (pick ix vs) (pick ix us)
  | [] => .nil
  | i :: ix => by
    rw [pick_cons, pick_cons]
    cases e : vs[i]? with
    | none => rw [r.none_of e]; exact pick_vals r ix
    | some v =>
      obtain ⟨u, e2, rv⟩ := r.get e
      rw [e2]
      exact .cons rv (pick_vals r ix)
theorem pick_dz {K : Fg} {G : Hp} {vs : List V} {ds : List Dt} (r : DzAll K G vs ds) : ∀ ix : List Nat, DzAll K G (pick ix vs) (pick ix ds)
  | [] => .nil
  | i :: ix => by
    rw [pick_cons, pick_cons]
    cases e : vs[i]? with
    | none =>
      have : ds[i]? = none := List.getElem?_eq_none (by rw [← dpAll_length r]; exact List.getElem?_eq_none_iff.mp e)
      rw [this]; exact pick_dz r ix
    | some v =>
      obtain ⟨d, e2, rv⟩ := dpAll_get' r e
      rw [e2]
      exact .cons rv (pick_dz r ix)
structure XK (X : Cx) (kws : List Keyword) (δ : De) (S : List Dt → Prop) : Prop where
  pk : PK X kws (rA X.K δ S)
theorem PK.imp {X : Cx} {e : List Keyword} {t t' : TA} (h : PK X e t) (k : ∀ σ H Q, t' σ H Q → t σ H Q) : PK X e t' := ⟨fun pos pins s σ H Q I q => h.run pos pins s σ H Q I (k σ H Q q)⟩
abbrev KD (X : Cx) (kws : List Keyword) (δ : De) (ds : List Dt) : Prop := XK X kws δ (fun x => x = ds)
section
variable {X : Cx} {k : Nat} {x : Str} {ps ks : List Str} {ix : List Nat} {st : Stmt} {R : List Dt → Dt → Prop} {δ : De} {e : Expr} {ds : List Dt} {d : Dt} {p pos kpos : Pos} {kws : List Keyword} {nm : Option Str}
theorem k_n : KD X [] δ [] := ⟨PK.imp pk_nil fun σ H Q ⟨p, B, G, i3, en, q⟩ => q [] [] G H rfl (.refl i3) .nil⟩
theorem k_c (ha : PD X e δ d) (hr : KD X kws δ ds) : KD X (⟨nm, e, kpos⟩ :: kws) δ (d :: ds) := ⟨PK.imp (pk_cons ha hr.pk) fun σ H Q ⟨p, B, G, i3, en, q⟩ => ⟨p, B, G, i3, en, fun v d1 G1 H1 r1 n1 h1 => ⟨p, B, G1, i3.nxt n1, en.nxt n1, fun vs ds2 G2 H2 r2 n2 h2 =>
  q (v :: vs) (d1 :: ds2) G2 H2 (by rw [r1, r2]) (n1.trans n2) (.cons (dp_ex n2.st.1 _ _ h1) h2)⟩⟩⟩
theorem pd_callK (ix : List Nat) (C : Cal X.prog X.w X.K X.mg X.base k x ps st (spD X.K R)) (ha : KD X kws δ ds) (hR : R (pick ix ds) d)
    (hb : ∀ (kV doc pm : Value) (an : Option Addr) (cdv ct : Value) (ws : List Value), ws.length = ks.length → bindArgs (PySem.W.fnOf x x (defArgs st) (defBody st) (defScope st) .none kV doc pm an cdv ct) ⟨[], ks.zip ws⟩ = pure (ps.zip (pick ix ws)))
    (hl : ds.length = ks.length := by rfl) (hall : (backToKw pos (keywordEach kws X.env)).all (·.1.isSome) = true := by rfl) (hks : (backToKw pos (keywordEach kws X.env)).filterMap (·.1) = ks := by rfl) (hpl : ((backTo pos (starEach [] X.env)).any (·.1) || (backToKw pos (keywordEach kws X.env)).any (·.1.isNone)) = false := by rfl)
    (hr : Room k X.A := by first | assumption | (refine Room.mono (by assumption) ?_; decide)) (hgd : X.A.guards = some [] := by assumption) (hg : Gl X x := by rfl) (hdb : (x == ("__debug__" : Str)) = false := by decide) : PD X (.Call (.Name x p) [] kws pos) δ d := by
  obtain ⟨f, fd, F, hm, hk, _, fn⟩ := C.ex
  obtain ⟨oc, od, kV, doc, pm, an, cdv, ct, osl, rfl, lk, hcd⟩ := fn.ex
  refine ⟨fun pins s σ H Q I ⟨p, B, G, i3, en, q⟩ => ?_⟩
  refine wpAny_Call_Name_kw (ld_glob I hg hm ?_ hdb)
  refine PySem.W.callWith_KW0 (h₀ := X.base) I.ok.mod.kin hk hall (thn (ha.pk.run pos pins s σ H (fun vs H1 => ∃ G1, Nxt p G H G1 H1 ∧ DzAll X.K G1 vs ds) I ⟨p, B, G, i3, en, fun vs ds' G1 H1 r n hv => ⟨G1, n, r ▸ hv⟩⟩) fun ws s1 ⟨zs, H1, I1, rz, G1, n, hv⟩ => ⟨I1.kIn, ?_⟩) hpl
  rw [hks]
  have hlw : ws.length = ks.length := by rw [← rz.length, dpAll_length hv]; exact hl
  have hsp : spD X.K R (pick ix zs) H1 Q E0 := sp_use (i3.nxt n) (pick_dz hv ix) hR fun v G2 H2 n2 hd => q v d G2 H2 rfl (n.trans n2) hd
  refine wpAny_call (codeAny_mono (F.run X.A X.stack s1 H1 ⟨[], ks.zip ws⟩ (pick ix ws) (pick ix zs) Q E0 hr hgd I1.env0 (.of_eq (hb kV doc pm an cdv ct ws hlw)) (pick_vals rz ix) hsp) fun r s' hq => ?_)
  have z := fnG_end I1 hq
  cases r with
  | error e => exact z
  | ok fl => cases fl <;> first | exact z | exact False.elim z
end
end Dv
namespace Dv
open PySem PySem.Spec PyProof.Rows L2
section
variable {X : Cx} {a b c : Expr} {δ : De} {i j k : Int} {pos : Pos}
/-- a <= b <= c -/
theorem pd_chain (ha : PD X a δ (.int i)) (hb : PD X b δ (.int j)) (hc : PD X c δ (.int k)) (hlm : lastMarks [CmpOp.LtE, CmpOp.LtE] [b, c] = false := by rfl) : PD X (.Compare a [.LtE, .LtE] [b, c] pos) δ (.bool (decide (i ≤ j) && decide (j ≤ k))) :=
  PE.imp (pe_chain op_le op_le ha hb hc (hm := hlm)) fun σ H Q ⟨p, B, G, i3, en, q⟩ => ⟨p, B, G, i3, en, fun v d G1 H1 r1 n1 h1 => ⟨p, B, G1, i3.nxt n1, en.nxt n1, fun w d2 G2 H2 r2 n2 h2 => by
    subst r1; subst r2
    cases h1; cases h2
    refine ⟨i, j, rfl, rfl, _, rfl, ?_⟩
    have n12 := n1.trans n2
    by_cases h : i ≤ j
    · rw [decide_eq_true h]
      refine iteT ⟨p, B, G2, i3.nxt n12, en.nxt n12, fun w' d3 G3 H3 r3 n3 h3 => ?_⟩
      subst r3
      cases h3
      exact ⟨j, k, rfl, rfl, q _ _ G3 H3 (by rw [decide_eq_true h]; rfl) (n12.trans n3) (.bl _)⟩
    · rw [decide_eq_false h]
      exact iteF (q _ _ G2 H2 (by rw [decide_eq_false h]; rfl) n12 (.bl _))⟩⟩
/-- a constant tuple of texts of the module -/
theorem dz_ktup {K : Fg} {a : Addr} {o : Obj} {its : Array Value} {n : Nat} {ss : List Str} (h : K.lookup a = some o) (hc : o.cls = .type "tuple") (hd : o.data = .seq its n) (hz : its.size ≤ sizeLine) (hv : Vals (ss.map V.str) its.toList) (G : Hp) : Dz K G (.ref a) (.tuple (ss.map PyData.str)) := by
  refine .tup (.inr ⟨o, its, n, h, hc, hd, hz, hv⟩) ?_
  clear hv
  induction ss with
  | nil => exact .nil
  | cons s r ih => exact .cons (.str s) ih
end
end Dv

set_option linter.all false
set_option maxRecDepth 100000
set_option maxHeartbeats 2000000
namespace Dv
open PySem PySem.Spec PyProof.Rows L2
/-! ### lists of the def's own -/
section
variable {X : Cx} {sts : List Stmt} {a b c e : Expr} {δ δ' : De} {o : Out} {d : Dt} {ds : List Dt} {pos p : Pos} {R : Dt → Prop}
theorem s_new (i : Nat) {x : Str} {pos' p2 : Pos} (hN : X.N.Nodup) (k : SsD X sts (δ.set i (.own [])) o) (hi : X.N[i]? = some x := by rfl) (hx : Loc X.env.scope x := by first | exact Or.inl rfl | exact Or.inr rfl)
    (hs : swapsWith (.List [] p2) (some (.Name x pos')) pos.line X.env = pure false := by rfl) (hf : X.fn x = true ∨ X.env.scope.names.lookup x = some .local := by first | exact .inl rfl | exact .inr rfl | assumption) : SsD X (.Assign [.Name x pos'] (.List [] p2) pos :: sts) δ o :=
  ss_to (PS.imp (ps_set hN hi hx (pe_lst pa_nil) hs hf) fun D σ H ⟨p, B, G, i3, en, q⟩ => ⟨Nat.zero_le _, fun l hl => by
    have n := Nxt.newH i3 (.lst []) hl
    have bl : B l = none := i3.bh.free hl
    have pl : p ≠ some l := fun z => by
      obtain ⟨_, _, _, _, h3, _⟩ := i3.pot l z
      rw [hl] at h3; cases h3
    refine q.nx _ _ G _ rfl (.refl _ _) (i3.nxt n) ((en.nxt n).put (en := .own []) ⟨l, [], rfl, bl, i3.gh.free hl, pl, upd_same, .nil⟩ fun _ j f l' hj q1 m1 e1 e2 => ?_)
    cases e1
    obtain ⟨o', a1, a2⟩ := en.slot j f q1
    cases f with
    | own ds =>
      obtain ⟨l2, xs, b1, _, _, _, b4, _⟩ := a2
      rw [a1] at e2
      rw [b1] at e2
      cases e2
      rw [hl] at b4
      cases b4
    | no => exact m1
    | d x => exact m1
    | pot => exact m1⟩) k
theorem s_app (i : Nat) {x : Str} {apos cpos np : Pos} (hs : δ[i]? = some (.own ds)) (he : PD X e δ d) (k : SsD X sts (δ.set i (.own (ds ++ [d]))) o) (hz : ds.length < 100000) (hN : X.N[i]? = some x := by rfl)
    (hv : Vis X.env.scope x := by first | exact Or.inl rfl | exact Or.inr (Or.inl rfl) | exact Or.inr (Or.inr rfl)) (hd : (x == ("__debug__" : Str)) = false := by decide) (hcd : (x == ("__classdict__" : Str)) = false := by decide)
    (hbase : attributeBase (.Name x np) "append" X.env (eval (.Name x np) X.env) = eval (.Name x np) X.env := by rfl)
    (hfew : ((backTo cpos (starEach [e] X.env)).all (fun x => !x.1) && (backToKw cpos (keywordEach [] X.env)).all (fun x => x.1.isSome) && decide (([e] : List Expr).length + ([] : List Keyword).length + (if ([] : List Keyword).isEmpty then 0 else 1) < 30)) = true := by rfl)
    (hline : (apos.endLine == cpos.line) = true := by rfl) (hst : starEach [e] X.env = [(false, eval e X.env)] := by rfl) (hsw : swapsWith (.Call (.Attribute (.Name x np) "append" apos) [e] [] cpos) none pos.line X.env = pure false := by rfl) :
    SsD X (.Expr (.Call (.Attribute (.Name x np) "append" apos) [e] [] cpos) pos :: sts) δ o :=
  ss_to (PS.imp (ps_expr (pe_bm PySem.F.plainAttrs_list PySem.F.slot_list_append PySem.F.type_list_append mt_append (pe_var hN hv hd hcd) (pa_cons he pa_nil (by rw [hst]; rfl)) hbase hfew hline hst rfl) hsw) fun D σ H ⟨p, B, G, i3, en, q⟩ => by
    obtain ⟨o', h1, l, xs, rfl, h2, h3, h4, h5, h6⟩ := en.slot i _ hs
    refine ⟨_, h1, .inl ⟨rfl, xs, .inl (.inl h5)⟩, p, B, G, i3, en, fun v d' G' H' r n hv' => ?_⟩
    subst r
    have en' := en.nxt n
    have i3' := i3.nxt n
    have g' : G' l = none := n.st.2 l (nn h5) h3
    have h5' : H' l = some (.lst xs) := n.ex _ _ (by rw [del_ne h4]; exact h5)
    refine ⟨l, xs, v, rfl, rfl, h5', by rw [dpAll_length h6]; exact Nat.lt_of_lt_of_le hz (by decide), q.nx _ σ G' _ rfl (n.stepB i3) ⟨i3'.bh.mut h2, i3'.gh.mut g', fun z hz' => ?_⟩ ?_⟩
    · obtain ⟨a1, a2, a3, a4, a5, a6⟩ := i3'.pot z hz'
      have : z ≠ l := fun w => h4 (by rw [hz', w])
      exact ⟨a1, a2, a3, a4, by rw [upd_ne this]; exact a5, a6⟩
    · -- the environment behind the store
      have e0 : EnvD X.K p B G' (upd H' l (.lst (xs ++ [v]))) σ (δ.set i .no) := by
        refine ⟨by rw [List.length_set]; exact en'.len, fun j f qj => ?_, fun j k' f g l' hjk q1 m1 q2 m2 r1 r2 => ?_⟩
        · by_cases hj : i = j
          · subst hj
            have hl : i < (δ.set i En.no).length := (List.getElem?_eq_some_iff.mp qj).1
            rw [List.length_set] at hl
            rw [List.getElem?_set_self hl] at qj
            cases qj
            exact ⟨_, h1, trivial⟩
          · rw [List.getElem?_set_ne hj] at qj
            obtain ⟨o2, b1, b2⟩ := en'.slot j f qj
            refine ⟨o2, b1, ?_⟩
            cases f with
            | no => trivial
            | d y => exact b2
            | pot => exact b2
            | own es =>
              obtain ⟨l2, ys, c1, c2, c3, c4, c5, c6⟩ := b2
              have : l2 ≠ l := fun w => by
                subst w
                subst c1
                exact en'.apart i j (.own ds) (.own es) l2 hj hs trivial qj trivial h1 b1
              exact ⟨l2, ys, c1, c2, c3, c4, by rw [upd_ne this]; exact c5, c6⟩
        · by_cases hj : i = j
          · subst hj
            have hl : i < (δ.set i En.no).length := (List.getElem?_eq_some_iff.mp q1).1
            rw [List.length_set] at hl
            rw [List.getElem?_set_self hl] at q1
            cases q1
            exact m1
          · by_cases hk : i = k'
            · subst hk
              have hl : i < (δ.set i En.no).length := (List.getElem?_eq_some_iff.mp q2).1
              rw [List.length_set] at hl
              rw [List.getElem?_set_self hl] at q2
              cases q2
              exact m2
            · rw [List.getElem?_set_ne hj] at q1
              rw [List.getElem?_set_ne hk] at q2
              exact en'.apart j k' f g l' hjk q1 m1 q2 m2 r1 r2
      have e1 := e0.put (i := i) (o := some (.ref l)) (en := .own (ds ++ [d'])) ⟨l, xs ++ [v], rfl, h2, g', h4, upd_same, dpAll_append (dpAll_ex n.st.1 _ _ h6) (.cons hv' .nil)⟩ (fun _ j f l' hj q1 m1 w1 w2 => by
        cases w1
        rw [List.getElem?_set_ne (Ne.symm hj)] at q1
        exact en'.apart i j (.own ds) f l (Ne.symm hj) hs trivial q1 m1 h1 w2)
      rw [List.set_set] at e1
      refine e1.other (by rw [List.length_set]) fun j f qj _ => ?_
      by_cases hj : i = j
      · subst hj
        have hl : i < σ.length := (List.getElem?_eq_some_iff.mp h1).1
        rw [List.getElem?_set_self hl]
        exact h1
      · rw [List.getElem?_set_ne hj]) k
theorem s_retNew (i : Nat) {x : Str} {np : Pos} (hs : δ[i]? = some (.own ds)) (hR : o.ro ds) (hN : X.N[i]? = some x := by rfl) (hv : Vis X.env.scope x := by first | exact Or.inl rfl | exact Or.inr (Or.inl rfl) | exact Or.inr (Or.inr rfl)) (hd : (x == ("__debug__" : Str)) = false := by decide)
    (hcd : (x == ("__classdict__" : Str)) = false := by decide) : SsD X (.Return (some (.Name x np)) pos :: sts) δ o :=
  ss_end (PS.imp (ps_ret (pe_var hN hv hd hcd)) fun D σ H ⟨p, B, G, i3, en, q⟩ => by
    obtain ⟨o', h1, l, xs, rfl, h2, h3, h4, h5, h6⟩ := en.slot i _ hs
    exact ⟨_, h1, q.ro _ l xs G H hR (.refl _ _) i3 h2 h3 h4 h5 h6⟩)
/-- x = f(..), f's answer a new list: the def's own from here on -/
theorem s_own {k : Nat} {y : Str} {ps : List Str} {st : Stmt} {R : List Dt → List Dt → Prop} {es : List Expr} {ds' : List Dt} {p2 p3 : Pos} (i : Nat) {x : Str} {pos' : Pos} (hN : X.N.Nodup) (C : Cal X.prog X.w X.K X.mg X.base k y ps st (spO X.K R)) (ha : PAD X (e :: es) δ ds') (hR : R ds' ds) (go : SsD X sts (δ.set i (.own ds)) o)
    (hr : Room k X.A := by first | assumption | (refine Room.mono (by assumption) ?_; decide)) (hgd : X.A.guards = some [] := by assumption) (hg : Gl X y := by rfl) (hpl : starEach es X.env = es.map fun e => (false, eval e X.env) := by rfl) (hdb : (y == ("__debug__" : Str)) = false := by decide)
    (hi : X.N[i]? = some x := by rfl) (hx : Loc X.env.scope x := by first | exact Or.inl rfl | exact Or.inr rfl) (hs : swapsWith (.Call (.Name y p2) (e :: es) [] p3) (some (.Name x pos')) pos.line X.env = pure false := by rfl)
    (hf : X.fn x = true ∨ X.env.scope.names.lookup x = some .local := by first | exact .inl rfl | exact .inr rfl | assumption) : SsD X (.Assign [.Name x pos'] (.Call (.Name y p2) (e :: es) [] p3) pos :: sts) δ o := by
  obtain ⟨f, fd, F, hm, hk, hb, _⟩ := C.ex
  refine ss_to (PS.imp (ps_set hN hi hx (pe_g F hr hgd hg hm hk hb ha.pa hdb (by rw [hpl]; exact ha.pl) (back_plain hpl)) hs hf) fun D σ H ⟨p, B, G, i3, en, q⟩ => ⟨p, B, G, i3, en, fun vs dd G1 H1 r n hv => ?_⟩) go
  subst r
  have i31 := i3.nxt n
  refine ⟨G1, _, ds, i31.gh, hv, hR, fun l xs G2 H2 st2 e2 g2 hl gl hl2 ha2 => ?_⟩
  have n2 : Nxt p G1 H1 G2 H2 := ⟨st2, fun a o h => e2 a o (del_le h).1, g2, fun z hz => by
    obtain ⟨_, _, a, b, h3, h4⟩ := i31.pot z hz
    exact ⟨a, b, e2 _ _ h3, h4⟩⟩
  have pl : p ≠ some l := fun z => by
    obtain ⟨_, _, _, _, h3, _⟩ := i31.pot l z
    rw [hl] at h3; cases h3
  have nn2 := n.trans n2
  refine q.nx _ _ G2 H2 rfl (nn2.stepB i3) (i3.nxt nn2) ((en.nxt nn2).put (en := .own ds) ⟨l, xs, rfl, i31.bh.free hl, gl, pl, hl2, ha2⟩ fun _ j f' l' hj q1 m1 w1 w2 => ?_)
  cases w1
  obtain ⟨o', a1, a2⟩ := (en.nxt n).slot j f' q1
  cases f' with
  | own es' =>
    obtain ⟨l3, ys, b1, _, _, _, b4, _⟩ := a2
    rw [a1, b1] at w2
    cases w2
    rw [hl] at b4
    cases b4
  | no => exact m1
  | d z => exact m1
  | pot => exact m1
theorem s_retOwn (i : Nat) {x : Str} {np : Pos} (hs : δ[i]? = some (.own ds)) (hR : o.rt (.list ds)) (hN : X.N[i]? = some x := by rfl) (hv : Vis X.env.scope x := by first | exact Or.inl rfl | exact Or.inr (Or.inl rfl) | exact Or.inr (Or.inr rfl)) (hd : (x == ("__debug__" : Str)) = false := by decide)
    (hcd : (x == ("__classdict__" : Str)) = false := by decide) : SsD X (.Return (some (.Name x np)) pos :: sts) δ o :=
  ss_end (PS.imp (ps_ret (pe_var hN hv hd hcd)) fun D σ H ⟨p, B, G, i3, en, q⟩ => by
    obtain ⟨o', h1, l, xs, rfl, h2, h3, h4, h5, h6⟩ := en.slot i _ hs
    refine ⟨_, h1, q.rt _ _ (upd G l (.lst xs)) H hR ⟨Ex.new h3, fun y h7 h8 => ?_⟩ ⟨i3.bh, fun y u hu => ?_, fun z hz => ?_⟩ (.lst (.inl (.inl upd_same)) (dpAll_ex (Ex.new h3) _ _ h6))⟩
    · have : y ≠ l := fun w => h7 (w ▸ h2)
      rw [upd_ne this]; exact h8
    · by_cases w : y = l
      · subst w; rw [upd_same] at hu; cases hu; exact h5
      · rw [upd_ne w] at hu; exact i3.gh y u hu
    · obtain ⟨a1, a2, a3⟩ := i3.pot z hz
      have : z ≠ l := fun w => h4 (by rw [hz, w])
      exact ⟨a1, by rw [upd_ne this]; exact a2, a3⟩)
end
/-! ### a comprehension of plain elements -/
section
variable {X : Cx} {elt tg iter test : Expr} {scope : Scope} {own : List (Str × Nat)} {pos : Pos} {δ : De} {α : Type}
theorem take_succ' {β : Type} {xs : List β} {i : Nat} {x : β} (h : xs[i]? = some x) : xs.take (i + 1) = xs.take i ++ [x] := by
  rw [List.take_add_one, h]; rfl
theorem lc_map {xs : List α} {enc F : α → Dt} (hi : ID X tg iter δ (xs.map enc)) (ok : BlkOk X.N X.env.scope scope own) (hl : xs.length ≤ 100000) (δt : Dt → De)
    (hg : ∀ s H C cl fp (i : Nat) x, xs[i]? = some x → TgD (bX X scope s H C cl fp) tg (own.map (·.2)) (enc x) (wipeD δ (own.map (·.2))) (δt (enc x)))
    (he : ∀ s H C cl fp (i : Nat) x, xs[i]? = some x → PD (bX X scope s H C cl fp) elt (δt (enc x)) (F x)) : Lc X elt tg iter [] scope δ (fun d => d = .list (xs.map F)) := by
  have get : ∀ (i : Nat) d, (xs.map enc)[i]? = some d → ∃ x, xs[i]? = some x ∧ d = enc x := fun i d h => by
    rw [List.getElem?_map] at h
    cases e : xs[i]? with
    | none => rw [e] at h; cases h
    | some x => rw [e] at h; cases h; exact ⟨x, rfl, rfl⟩
  refine lc_of hi ok (fun ds e => by rw [e, List.length_map]; exact hl) (fun _ i out => out = (xs.take i).map F) (fun _ _ => rfl) (fun ds out e h => ?_) δt (fun _ _ _ b => b = true) (fun s H C cl fp ds i d e h => ?_) (fun s H C cl fp ds i d e h => PTs.imp pts_nil fun σ H Q ⟨p, B, G, i3, en, q⟩ => q true G H rfl (.refl i3)) (fun _ _ _ _ _ _ h => by cases h) (fun s H C cl fp ds i d e h _ => ?_)
  · rw [h, e, List.length_map, List.take_length]
  · subst e
    obtain ⟨x, hx, rfl⟩ := get i d h
    exact hg s H C cl fp i x hx
  · subst e
    obtain ⟨x, hx, rfl⟩ := get i d h
    refine XD.mono (he s H C cl fp i x hx) fun y ey out eo => ?_
    rw [ey, eo, take_succ' hx, List.map_append]; rfl
theorem pd_map {xs : List α} {enc F : α → Dt} (hc : X.calm = true) (hN : X.N.Nodup) (hi : ID X tg iter δ (xs.map enc)) (ok : BlkOk X.N X.env.scope scope own) (hl : xs.length ≤ 100000) (δt : Dt → De)
    (hg : ∀ s H C cl fp (i : Nat) x, xs[i]? = some x → TgD (bX X scope s H C cl fp) tg (own.map (·.2)) (enc x) (wipeD δ (own.map (·.2))) (δt (enc x)))
    (he : ∀ s H C cl fp (i : Nat) x, xs[i]? = some x → PD (bX X scope s H C cl fp) elt (δt (enc x)) (F x)) (hs : ∀ x, foldedSetIterable iter X.env x = pure x := by intro _; rfl) : PD X (.ListComp elt [⟨tg, iter, [], 0⟩] scope pos) δ (.list (xs.map F)) :=
  (lc_map hi ok hl δt hg he).xd hN hc hs
/-- with a test -/
theorem lc_mapIf {xs : List α} {enc F : α → Dt} {c : α → Bool} (hi : ID X tg iter δ (xs.map enc)) (ok : BlkOk X.N X.env.scope scope own) (hl : xs.length ≤ 100000) (δt : Dt → De)
    (hg : ∀ s H C cl fp (i : Nat) x, xs[i]? = some x → TgD (bX X scope s H C cl fp) tg (own.map (·.2)) (enc x) (wipeD δ (own.map (·.2))) (δt (enc x)))
    (ht : ∀ s H C cl fp (i : Nat) x, xs[i]? = some x → PTD (bX X scope s H C cl fp) test (δt (enc x)) (c x))
    (he : ∀ s H C cl fp (i : Nat) x, xs[i]? = some x → c x = true → PD (bX X scope s H C cl fp) elt (δt (enc x)) (F x)) : Lc X elt tg iter [test] scope δ (fun d => d = .list ((xs.filter c).map F)) := by
  have get : ∀ (i : Nat) d, (xs.map enc)[i]? = some d → ∃ x, xs[i]? = some x ∧ d = enc x := fun i d h => by
    rw [List.getElem?_map] at h
    cases e : xs[i]? with
    | none => rw [e] at h; cases h
    | some x => rw [e] at h; cases h; exact ⟨x, rfl, rfl⟩
  refine lc_of hi ok (fun ds e => by rw [e, List.length_map]; exact hl) (fun _ i out => out = ((xs.take i).filter c).map F) (fun _ _ => rfl) (fun ds out e h => ?_) δt (fun _ i d b => ∃ x, xs[i]? = some x ∧ d = enc x ∧ b = c x) (fun s H C cl fp ds i d e h => ?_) (fun s H C cl fp ds i d e h => ?_) (fun ds i d out e h ⟨x, hx, ed, eb⟩ eo => ?_) (fun s H C cl fp ds i d e h ⟨x, hx, ed, eb⟩ => ?_)
  · rw [h, e, List.length_map, List.take_length]
  · subst e
    obtain ⟨x, hx, rfl⟩ := get i d h
    exact hg s H C cl fp i x hx
  · subst e
    obtain ⟨x, hx, rfl⟩ := get i d h
    exact PTs.imp (pts_one (ht s H C cl fp i x hx)) fun σ H Q ⟨p, B, G, i3, en, q⟩ => ⟨p, B, G, i3, en, fun b G' H' e n => q b G' H' ⟨x, hx, rfl, e⟩ n⟩
  · rw [eo, take_succ' hx, List.filter_append, List.map_append, List.filter_cons, if_neg (by rw [← eb]; decide)]
    show _ = _ ++ ([] : List Dt)
    rw [List.append_nil]
  · subst ed
    refine XD.mono (he s H C cl fp i x hx eb.symm) fun y ey out eo => ?_
    rw [ey, eo, take_succ' hx, List.filter_append, List.map_append, List.filter_cons, if_pos eb.symm]; rfl
end
section
variable {X : Cx} {elt tg iter : Expr} {ifs : List Expr} {scope : Scope} {pos spos : Pos} {δ : De} {R : Dt → Prop} {o : Out} {N : De → Prop} {sts : List Stmt} {d : Dt}
/-- y = [..] on one line -/
theorem sd_lc (i : Nat) {y : Str} {py : Pos} (hN : X.N.Nodup) (h : Lc X elt tg iter ifs scope δ R) (hR : ∀ d, R d → N (δ.set i (.d d))) (hy : X.N[i]? = some y := by rfl) (hyl : X.env.scope.names.lookup y = some .local := by rfl)
    (hsw : swapsWith (.ListComp elt [⟨tg, iter, ifs, 0⟩] scope pos) (some (.Name y py)) spos.line X.env = pure true := by exact sw_true rfl rfl rfl (by decide +kernel)) (hc : X.calm = true := by rfl) (hs : ∀ x, foldedSetIterable iter X.env x = pure x := by intro _; rfl) :
    SD X (.Assign [.Name y py] (.ListComp elt [⟨tg, iter, ifs, 0⟩] scope pos) spos) δ { o with nx := N } := by
  obtain ⟨own, wi, g, tt, te, a1, a2, a3, a4, a5, a6⟩ := h.ex
  exact PS.imp (ps_setLc hc hN hy hyl hsw a1 a2 a3 a4 a5 hs) fun D σ H ⟨p, B, G, i3, en, q⟩ => a6 σ H _ ⟨p, B, G, i3, en, fun v d G' H' r n hv => q.nx _ _ G' H' (hR d r) (n.stepB i3) (i3.nxt n) ((en.nxt n).set hv)⟩
theorem s_lc (i : Nat) {y : Str} {py : Pos} (hN : X.N.Nodup) (h : Lc X elt tg iter ifs scope δ (fun x => x = d)) (k : SsD X sts (δ.set i (.d d)) o) (hy : X.N[i]? = some y := by rfl) (hyl : X.env.scope.names.lookup y = some .local := by rfl)
    (hsw : swapsWith (.ListComp elt [⟨tg, iter, ifs, 0⟩] scope pos) (some (.Name y py)) spos.line X.env = pure true := by exact sw_true rfl rfl rfl (by decide +kernel)) (hc : X.calm = true := by rfl) (hs : ∀ x, foldedSetIterable iter X.env x = pure x := by intro _; rfl) :
    SsD X (.Assign [.Name y py] (.ListComp elt [⟨tg, iter, ifs, 0⟩] scope pos) spos :: sts) δ o := ss_to (sd_lc i hN h (fun x e => by rw [e]) hy hyl hsw hc hs) k
end
end Dv

set_option linter.all false
set_option maxRecDepth 100000
set_option maxHeartbeats 4000000
namespace Dv
open PySem PySem.Spec PyProof.Rows L2
/-! ### enumerate of a tuple -/
theorem newEnumT (l : Addr) (items : Array Value) (n : Nat) (dct : Option Addr) (sl : Array (Option Value)) :
    Meets (Builtin.«enumerate.__new__» ⟨[.type "enumerate", .ref l], []⟩) (fun _ R s => s.heap.get? l = some { cls := .type "tuple", dict := dct, data := .seq items n, slots := sl } ∧
      R (.ok (.ret (.ref (s.heap.push { cls := .type "tuple_iterator", data := .fields #[.ref l, .int 0 0] }).objs.size)))
        { s with heap := (s.heap.push { cls := .type "tuple_iterator", data := .fields #[.ref l, .int 0 0] }).push { cls := .type "enumerate", data := .fields #[.none, .bool false, .ref s.heap.objs.size, rawInt 0, .none, .none] } }) :=
  .of_wp fun prog w A R s h => by
    obtain ⟨hp, g, d, tk, os⟩ := s
    obtain ⟨hl, h⟩ := h
    have hsub := sub_enumerate
    have hT : Heap.IsTuple (Shared.heap ⟨hp, g, d, tk, os⟩) l items := ⟨_, hl, rfl, n, rfl⟩
    wp_walk using AutoSeq1.wpAny_loadPart' hl
    refine wpAny_stack_any fun st => wpAny_pure ?_
    split
    · rename_i c _ _ _ _ _
      cases (c == Value.type "enumerate")
      · wp_walk using AutoSeq1.wpAny_loadPart' hl, wpAny_pyIter_tuple hT
        exact ⟨_, rfl, h⟩
      · wp_walk using AutoSeq1.wpAny_loadPart' hl, wpAny_pyIter_tuple hT
        exact ⟨_, rfl, h⟩
    · wp_walk using AutoSeq1.wpAny_loadPart' hl, wpAny_pyIter_tuple hT
      exact ⟨_, rfl, h⟩
theorem callEnumT {prog : Program} {w : World} {A : Around} {E : Value → Shared → Prop} {s : Shared} {l : Addr} {items : Array Value} {Q : Value → Shared → Prop} (hL : s.heap.IsTuple l items)
    (h : ∀ h', IsEnum h' (s.heap.objs.size + 1) s.heap.objs.size 0 .none → h'.IsTupleIter s.heap.objs.size l 0 → (∀ b o, s.heap.get? b = some o → h'.get? b = some o) → Q (.ref (s.heap.objs.size + 1)) { s with heap := h' }) :
    wpAny (model prog w) A (call (.type "enumerate") [.ref l]) Q E s := by
  obtain ⟨⟨c, dct, dt, sl⟩, hl, hc, n, hd⟩ := hL
  obtain rfl : c = .type "tuple" := hc
  obtain rfl : dt = .seq items n := hd
  refine callType_new F.called_enumerate (by decide) (F.typeCall_enumerate_1 _) (F.newCall_enumerate_1 _) (fun obj => F.args_object_init_2 obj _) F.entry_enumerate_new (newEnumT l items n dct sl) ⟨hl, ?_⟩
  have hz : (s.heap.push { cls := .type "tuple_iterator", data := .fields #[.ref l, .int 0 0] }).objs.size = s.heap.objs.size + 1 := Heap.size_push ..
  show _ ∧ _
  rw [hz]
  have he : IsEnum ((s.heap.push { cls := .type "tuple_iterator", data := .fields #[.ref l, .int 0 0] }).push { cls := .type "enumerate", data := .fields #[.none, .bool false, .ref s.heap.objs.size, rawInt 0, .none, .none] }) (s.heap.objs.size + 1) s.heap.objs.size 0 .none := by
    have q := Heap.get?_push_size (s.heap.push { cls := .type "tuple_iterator", data := .fields #[.ref l, .int 0 0] }) (o := { cls := .type "enumerate", data := .fields #[.none, .bool false, .ref s.heap.objs.size, rawInt 0, .none, .none] }) rfl
    rw [hz] at q
    exact q
  exact ⟨⟨_, he, rfl⟩, h _ he ⟨_, Heap.get?_push_of_some _ (Heap.get?_push_size _ rfl), rfl, rfl⟩ fun b o x => Heap.get?_push_of_some _ (Heap.get?_push_of_some _ x)⟩
def IteT (K : Fg) (a : Addr) : It :=
  ⟨fun i H => ∃ (xs : List V) (x : V), SqT K H a xs ∧ xs[i]? = some x, fun i H v H' => ∃ T x, v = .ref T ∧ H T = none ∧ H' = upd H T (.tup [.int (i : Nat), x]) ∧ ∀ xs, SqT K H a xs → xs[i]? = some x, fun i H => ∃ xs : List V, SqT K H a xs ∧ xs.length ≤ i⟩
theorem turnEnumT {P : Program} {w : World} {K : Fg} {elts : List Expr} {kk : Nat} {tpos : Pos} (a e it : Addr) :
    Turn P w K (.Tuple elts kk tpos) (IteT K a) [e, it] e (fun i h => (∃ old, IsEnum h e it ((i : Nat) : Int) old) ∧ h.IsTupleIter it a i ∧ e ≠ it ∧ a ≠ it ∧ e ≠ a) where
  mem := List.mem_cons_self
  obj := fun i h st b hb => by
    obtain ⟨⟨old, he⟩, ⟨o, ho, hc, hd⟩, _⟩ := st
    rcases List.mem_cons.mp hb with z | z
    · rw [z]; exact ⟨_, he, fun v q => nomatch q⟩
    · rw [List.mem_singleton.mp z]; exact ⟨o, ho, fun v q => by rw [hd] at q; cases q⟩
  keep := fun i h h' st k => by
    obtain ⟨⟨old, he⟩, hi, hne⟩ := st
    exact ⟨⟨old, k e List.mem_cons_self _ he⟩, hi.at fun o q => k it (List.mem_cons_of_mem _ (List.mem_singleton.mpr rfl)) o q, hne⟩
  item := by
    intro X hP hw hK hc i pins s σ H E I hf st hg
    subst hP hw hK
    obtain ⟨⟨old, he⟩, hit, hne, hna, hea⟩ := st
    obtain ⟨xs, x, hq, hx⟩ := hg
    obtain ⟨its, rv, p, hz⟩ := I.tuple hq
    obtain ⟨u, hu, ru⟩ := rv.get hx
    have hel : e < s.heap.objs.size := Heap.lt_size he
    have hil : it < s.heap.objs.size := by obtain ⟨_, q, _⟩ := hit; exact Heap.lt_size q
    have hT : s.heap.IsTuple a its.toArray := p
    have hlt : i < its.toArray.size := by
      rw [List.size_toArray]; exact (List.getElem?_eq_some_iff.mp hu).1
    refine wpAny_pyNext_enum_itemD (Draws.tuple (A := X.A.in1) (I.ok.hd hc) it a hna its.toArray) he ⟨hit, hT⟩ hlt hne (by
      intro z
      rcases List.mem_cons.mp z with z | z
      · exact hne z
      · exact hea (List.mem_singleton.mp z)) fun y h' tk hy ho hst hTup hsz hk => ?_
    have ey : y = u := by
      have q : its.toArray[i]? = some y := hy
      rw [show its.toArray[i]? = its[i]? by simp, hu] at q
      exact (Option.some.inj q).symm
    subst ey
    refine ⟨_, rfl, wpAny_letOwnedTupleGo_enum (s := { s with heap := h', toks := tk + 1 }) ho fun h'' he' sb => ?_⟩
    have hT2 : h''.get? s.heap.objs.size = some { cls := .type "tuple", data := .seq #[.int i tk, y] } := (sb.2 _ (Nat.ne_of_gt hel)).trans hTup
    have new : ObjOk X.prog X.w (upd H s.heap.objs.size (.tup [.int (i : Nat), x])) h'' s.heap.objs.size (.tup [.int (i : Nat), x]) :=
      ⟨by show 2 ≤ sizeLine; decide, [.int i tk, y], .cons ⟨_, rfl⟩ (.cons ru .nil), ⟨_, hT2, rfl, _, rfl⟩⟩
    have I1 : Inv X pins σ (upd H s.heap.objs.size (.tup [.int (i : Nat), x])) { s with heap := h'', toks := tk + 1 } :=
      I.turnedNew (ch := [e, it]) (fun b ob hb q => (sb.2 b (fun z => hb (by simp [z]))).trans (hk b ob (fun z => hb (by simp [z])) (fun z => hb (by simp [z])) q)) hf (Nat.le_refl _) new
    refine ⟨.ref s.heap.objs.size, _, I1, rfl, ⟨_, x, rfl, I.hok.fresh (Nat.le_refl _), rfl, fun ys hy => by rw [I.tuple_inj hy hq]; exact hx⟩, ⟨⟨y, ?_⟩, hst.1.at fun o q => (sb.2 it (Ne.symm hne)).trans q, hne, hna, hea⟩, fun b hb => ?_⟩
    · have e1 : ((i + 1 : Nat) : Int) = (i : Int) + 1 := by omega
      rw [e1]; exact he'
    · have hb' : b < s.heap.objs.size := by
        rcases List.mem_cons.mp hb with z | z
        · rw [z]; exact hel
        · rw [List.mem_singleton.mp z]; exact hil
      rw [upd_ne (Nat.ne_of_lt hb')]
      exact (hf b hb).1
  done := by
    intro X hP hw hK hc i pins s σ H E I hf st hg
    subst hP hw hK
    obtain ⟨⟨old, he⟩, hit, hne, hna, hea⟩ := st
    obtain ⟨xs, hq, hx⟩ := hg
    obtain ⟨its, rv, p, hz⟩ := I.tuple hq
    have hT : s.heap.IsTuple a its.toArray := p
    obtain ⟨f0, f1, f2, f3, f4, f5⟩ := hf it (List.mem_cons_of_mem _ (List.mem_singleton.mpr rfl))
    have hl := rv.length
    have D : Draws X.prog X.w X.A.in1 it [it, a] i (fun _ _ => True) (fun j h => j = i ∧ h.IsTupleIter it a j ∧ h.IsTuple a its.toArray) :=
      { live := fun _ _ st => let ⟨o, ho, _⟩ := st.2.1; ⟨o, ho⟩
        frame := fun _ _ _ st k => ⟨st.1, st.2.1.at fun o e => k it (by simp) o e, st.2.2.at fun o e => k a (by simp) o e⟩
        item := fun j s Q E hj st _ => absurd st.1 (Nat.ne_of_lt hj)
        done := fun s Q E st hE => wpAny_nextOf_tuple_end (I.ok.hd hc) st.2.1 st.2.2 (by simp; omega) hE }
    exact wpAny_pyNext_enum_endD D he ⟨rfl, hit, hT⟩ fun h' eb => ⟨rfl, I.turned (t' := s.toks) (fun b o hb q => eb b o hb q) f0 f1 f3 f4 f5⟩
  self := fun A i s Q E st h => by
    obtain ⟨⟨_, he⟩, _⟩ := st
    exact wpAny_pyIter_enum he h
theorem pi_enumT {X : Cx} {e : Expr} {ta : TA} {p pos tpos : Pos} {elts : List Expr} {kk : Nat} (hg : Gl X "enumerate") (hm : X.mg "enumerate" = none) (ha : PA X [e] ta) (hs : starEach [e] X.env = [(false, eval e X.env)] := by rfl) :
    PI X (.Tuple elts kk tpos) (.Call (.Name "enumerate" p) [e] [] pos) (fun σ H R => ta σ H fun vs H1 => ∃ a xs, vs = [.ref a] ∧ SqT X.K H1 a xs ∧ R (IteT X.K a) H1) := by
  refine ⟨fun pins s σ H R I h => ?_⟩
  refine Call_ (ld_blt I hg hm boot_enumerate (PyProof.Rows.callWith_type1 (thn (ha.run pos pins s σ H _ I h) fun us s1 ⟨vs, H1, I1, r1, q1⟩ => ?_) hs rfl))
  obtain ⟨a, xs, ex, hq, q⟩ := q1
  subst ex
  obtain ⟨u, rfl, ru⟩ := r1.one
  cases ru
  obtain ⟨its, rv, p', hz⟩ := I1.tuple hq
  have hTa : s1.heap.IsTuple a its.toArray := p'
  have hal : a < s1.heap.objs.size := by obtain ⟨_, z, _⟩ := hTa; exact Heap.lt_size z
  refine callEnumT hTa fun h' he hit hk => wpAny_pyIter_enum he ?_
  have I2 : Inv X pins σ H1 { s1 with heap := h' } := I1.kept (t' := s1.toks) hk
  refine ⟨s1.heap.objs.size + 1, [s1.heap.objs.size + 1, s1.heap.objs.size], _, _, H1, rfl, I2, turnEnumT a (s1.heap.objs.size + 1) s1.heap.objs.size, ⟨⟨.none, he⟩, hit, Nat.succ_ne_self _, Nat.ne_of_lt hal, Nat.ne_of_gt (Nat.lt_succ_of_lt hal)⟩, fun b hb => ?_, q⟩
  have hle : s1.heap.objs.size ≤ b := by
    rcases List.mem_cons.mp hb with z | z
    · rw [z]; exact Nat.le_succ _
    · rw [List.mem_singleton.mp z]; exact Nat.le_refl _
  exact I1.fpOk hle (I1.hok.fresh hle)
theorem yld_enumT {K : Fg} {G : Hp} {a : Addr} {xs : List V} {ds : List Dt} (hs : SqT K G a xs) (ha : DzAll K G xs ds) : Yld K (IteT K a) G (enD ds) := by
  intro p B G1 H1 e i3 i
  rw [enD_length]
  have h1 : SqT K H1 a xs := ex_t (e.trans i3.gh) hs
  refine ⟨fun hi => ?_, fun hi => ⟨xs, h1, by rw [dpAll_length ha]; omega⟩⟩
  obtain ⟨v, hv, hd⟩ := dpAll_get (i := i) (d := ds[i]) ha (List.getElem?_eq_getElem hi)
  refine ⟨⟨xs, v, h1, hv⟩, fun x H2 ⟨T, z, e1, hT, e2, hx⟩ => ?_⟩
  subst e1; subst e2
  have := hx xs h1
  rw [hv] at this
  cases this
  exact ⟨_, _, enD_get (List.getElem?_eq_getElem hi), .new i3 _ hT, .tup (.inl (.inl upd_same)) (.cons (.int _) (.cons (dp_ex (e.trans (Ex.new (i3.gh.free hT))) _ _ hd) .nil))⟩
theorem i_enumT {X : Cx} {e : Expr} {δ : De} {ds : List Dt} {p pos tpos : Pos} {elts : List Expr} {kk : Nat} (h : PAD X [e] δ [.tuple ds]) (hm : X.mg "enumerate" = none) (hg : Gl X "enumerate" := by rfl) : ID X (.Tuple elts kk tpos) (.Call (.Name "enumerate" p) [e] [] pos) δ (enD ds) :=
  PI.imp (pi_enumT hg hm h.pa h.pl) fun σ H Q ⟨p, B, G, i3, en, q⟩ => ⟨p, B, G, i3, en, fun v d G' H' r n hv => by
    subst r
    obtain ⟨v, rfl, h1⟩ := one_of hv
    cases h1 with
    | tup hs ha => exact ⟨_, _, rfl, ex_t n.gh hs, q _ _ G' H' rfl n (yld_enumT hs ha)⟩⟩
end Dv

set_option linter.all false
set_option maxRecDepth 100000
set_option maxHeartbeats 2000000
namespace Dv
open PySem PySem.Spec PyProof.Rows L2
section
variable {X : Cx} {sts : List Stmt} {a b c e : Expr} {δ δ' : De} {o : Out} {d d1 d2 d3 : Dt} {ds : List Dt} {pos p : Pos} {S : List Dt → Prop} {N : De → Prop}
/-- a, b = x, y and a, b, c = x, y, z with plain local names -/
theorem sd_par (i j : Nat) {x y : Str} {px py pt : Pos} {kt k2 pt2} (hN : X.N.Nodup) (hij : i ≠ j) (ha : XA X [a, b] δ S) (hS : ∀ ds, S ds → ∃ d1 d2, ds = [d1, d2] ∧ N ((δ.set i (.d d1)).set j (.d d2))) (hc : X.calm = true := by rfl) (hi : X.N[i]? = some x := by rfl) (hj : X.N[j]? = some y := by rfl) (hx : X.env.scope.names.lookup x = some .local := by rfl) (hy : X.env.scope.names.lookup y = some .local := by rfl)
    (hw : swappedStores [.Tuple [.Name x px, .Name y py] kt pt] (.Tuple [a, b] k2 pt2) X.env = pure (some [x, y]) := by rfl) (hs : swapsWithSole [.Tuple [.Name x px, .Name y py] kt pt] (.Tuple [a, b] k2 pt2) pos.line X.env = pure false := by rfl) :
    SD X (.Assign [.Tuple [.Name x px, .Name y py] kt pt] (.Tuple [a, b] k2 pt2) pos) δ { o with nx := N } :=
  PS.imp (ps_par hc hN hi hj hij hx hy ha.pa hw hs) fun D σ H ⟨p, B, G, i3, en, q⟩ => ⟨p, B, G, i3, en, fun vs ds G' H' r n hv => by
    obtain ⟨d1, d2, e, hn⟩ := hS ds r
    subst e
    obtain ⟨v, w, rfl, h1, h2⟩ := two_of hv
    exact ⟨v, w, rfl, q.nx _ _ G' H' hn (n.stepB i3) (i3.nxt n) (((en.nxt n).set h1).set h2)⟩⟩
theorem s_par (i j : Nat) {x y : Str} {px py pt : Pos} {kt k2 pt2} (hN : X.N.Nodup) (hij : i ≠ j) (ha : PAD X [a, b] δ [d1, d2]) (k : SsD X sts ((δ.set i (.d d1)).set j (.d d2)) o) (hc : X.calm = true := by rfl) (hi : X.N[i]? = some x := by rfl) (hj : X.N[j]? = some y := by rfl) (hx : X.env.scope.names.lookup x = some .local := by rfl) (hy : X.env.scope.names.lookup y = some .local := by rfl)
    (hw : swappedStores [.Tuple [.Name x px, .Name y py] kt pt] (.Tuple [a, b] k2 pt2) X.env = pure (some [x, y]) := by rfl) (hs : swapsWithSole [.Tuple [.Name x px, .Name y py] kt pt] (.Tuple [a, b] k2 pt2) pos.line X.env = pure false := by rfl) :
    SsD X (.Assign [.Tuple [.Name x px, .Name y py] kt pt] (.Tuple [a, b] k2 pt2) pos :: sts) δ o :=
  ss_to (sd_par i j hN hij ha (fun ds e => ⟨d1, d2, e, rfl⟩) hc hi hj hx hy hw hs) k
theorem three_of {K : Fg} {G : Hp} {vs : List V} (h : DzAll K G vs [d1, d2, d3]) : ∃ v w u, vs = [v, w, u] ∧ Dz K G v d1 ∧ Dz K G w d2 ∧ Dz K G u d3 := by
  cases h with
  | cons a b => obtain ⟨w, u, e, f, g⟩ := two_of b; exact ⟨_, w, u, by rw [e], a, f, g⟩
theorem sd_par3 (i j l : Nat) {x y z : Str} {px py pz pt : Pos} {kt k2 pt2} (hN : X.N.Nodup) (hij : i ≠ j) (hil : i ≠ l) (hjl : j ≠ l) (ha : XA X [a, b, c] δ S) (hS : ∀ ds, S ds → ∃ d1 d2 d3, ds = [d1, d2, d3] ∧ N (((δ.set i (.d d1)).set j (.d d2)).set l (.d d3))) (hc : X.calm = true := by rfl) (hi : X.N[i]? = some x := by rfl) (hj : X.N[j]? = some y := by rfl) (hl : X.N[l]? = some z := by rfl)
    (hx : X.env.scope.names.lookup x = some .local := by rfl) (hy : X.env.scope.names.lookup y = some .local := by rfl) (hz : X.env.scope.names.lookup z = some .local := by rfl)
    (hw : swappedStores [.Tuple [.Name x px, .Name y py, .Name z pz] kt pt] (.Tuple [a, b, c] k2 pt2) X.env = pure (some [x, y, z]) := by rfl) (hs : swapsWithSole [.Tuple [.Name x px, .Name y py, .Name z pz] kt pt] (.Tuple [a, b, c] k2 pt2) pos.line X.env = pure false := by rfl) :
    SD X (.Assign [.Tuple [.Name x px, .Name y py, .Name z pz] kt pt] (.Tuple [a, b, c] k2 pt2) pos) δ { o with nx := N } :=
  PS.imp (ps_par3 hc hN hi hj hl hij hil hjl hx hy hz ha.pa hw hs) fun D σ H ⟨p, B, G, i3, en, q⟩ => ⟨p, B, G, i3, en, fun vs ds G' H' r n hv => by
    obtain ⟨d1, d2, d3, e, hn⟩ := hS ds r
    subst e
    obtain ⟨v, w, u, rfl, h1, h2, h3⟩ := three_of hv
    exact ⟨v, w, u, rfl, q.nx _ _ G' H' hn (n.stepB i3) (i3.nxt n) ((((en.nxt n).set h1).set h2).set h3)⟩⟩
/-- two equal texts -/
theorem pt_neR {s : Str} (ha : PD X a δ (.str s)) (hb : PD X b δ (.str s)) : PTD X (.Compare a [.NotEq] [b] pos) δ false := by
  have h := pt_neS (pos := pos) ha hb
  rw [decide_eq_true rfl] at h
  exact h
theorem pd_eqR {s : Str} (ha : PD X a δ (.str s)) (hb : PD X b δ (.str s)) : PD X (.Compare a [.Eq] [b] pos) δ (.bool true) := by
  have h := pd_eqS (pos := pos) ha hb
  rw [decide_eq_true rfl] at h
  exact h
theorem pt_neIs {i : Int} (ha : PD X a δ (.int i)) (hb : PD X b δ (.int i)) : PTD X (.Compare a [.NotEq] [b] pos) δ false := by
  have h := pt_neI (pos := pos) ha hb
  rw [decide_eq_true rfl] at h
  exact h
theorem pt_neBs {i : Bool} (ha : PD X a δ (.bool i)) (hb : PD X b δ (.bool i)) : PTD X (.Compare a [.NotEq] [b] pos) δ false := by
  have h := pt_neB (pos := pos) ha hb
  rw [decide_eq_true rfl] at h
  exact h
theorem pt_neSame (hu : X.A.units + 64 < cLine) (ha : PD X a δ d) (hb : PD X b δ d) (hx : SeqAt.shaped d = true) : PTD X (.Compare a [.NotEq] [b] pos) δ false := by
  have h := pt_neD (pos := pos) hu ha hb hx hx
  unfold SeqAt.shaped at hx
  rw [Bool.and_eq_true] at hx
  rw [SeqAt.eqv_refl d hx.1] at h
  exact h
end
theorem shaped_ints (ns : List Int) : SeqAt.shaped (.list (ns.map PyData.int)) = true := by
  have h : PyData.canLayAll0 (ns.map PyData.int) = true ∧ PyData.depthAll (ns.map PyData.int) = 0 := by
    induction ns with
    | nil => exact ⟨by simp [PyData.canLayAll0], by simp [PyData.depthAll]⟩
    | cons n r ih => exact ⟨by simp [PyData.canLayAll0, PyData.canLay0, ih.1], by simp [PyData.depthAll, PyData.depth, ih.2]⟩
  unfold SeqAt.shaped
  simp only [PyData.canLay0, PyData.depth, h.1, h.2]
  decide
theorem at_map {α : Type} {xs : List α} {F : α → Dt} {i : Nat} {x : α} (h : xs[i]? = some x) : atI (xs.map F) ((i : Nat) : Int) = some (F x) := atI_nat (by rw [List.getElem?_map, h]; rfl)
theorem cut_lo {α : Type} {xs : List α} {F : α → Dt} {k : Nat} : cutD (xs.map F) (some ((k : Nat) : Int)) none = (xs.drop k).map F := by
  unfold cutD
  rw [HT.sIx_nat, HT.sIx_none, ← List.map_drop, ← List.map_take, List.length_map]
  by_cases h : k ≤ xs.length
  · rw [Nat.min_eq_left h, List.take_of_length_le (by rw [List.length_drop]; exact Nat.le_refl _)]
  · rw [Nat.min_eq_right (by omega), List.drop_of_length_le (Nat.le_refl _), List.drop_of_length_le (by omega), List.take_nil]
theorem cut_hi {α : Type} {xs : List α} {F : α → Dt} {k : Nat} : cutD (xs.map F) none (some ((k : Nat) : Int)) = (xs.take k).map F := by
  unfold cutD
  rw [HT.sIx_nat, HT.sIx_none, List.drop_zero, ← List.map_take, List.length_map, Nat.sub_zero]
  by_cases h : k ≤ xs.length
  · rw [Nat.min_eq_left h]
  · rw [Nat.min_eq_right (by omega), List.take_of_length_le (Nat.le_refl _), List.take_of_length_le (by omega)]
end Dv

set_option linter.all false
set_option maxRecDepth 100000
set_option maxHeartbeats 2000000
namespace Dv
open PySem PySem.Spec PyProof.Rows L2
/-! ### the pot -/
theorem Nxt.mut {q : Addr} {B G H : Hp} (i : I3 (some q) B G H) {a b : Int} (h : potOk a b) : Nxt (some q) G H G (upd H q (.lst [.int a, .int b])) := by
  obtain ⟨h1, h2, x, y, h3, _⟩ := i.pot q rfl
  refine ⟨Step.refl _ _, fun c u hu => ?_, fun c u hu => ?_, fun z hz => ?_⟩
  · obtain ⟨e1, e2⟩ := del_le hu
    have : c ≠ q := fun w => e2 (by rw [w])
    rw [upd_ne this]; exact e1
  · have : c ≠ q := fun w => by subst w; rw [h2] at hu; cases hu
    rw [upd_ne this]; exact i.gh c u hu
  · cases hz
    exact ⟨a, b, upd_same, h⟩
section
variable {X : Cx} {sts : List Stmt} {a b c e : Expr} {δ δ' : De} {o : Out} {d : Dt} {ds : List Dt} {pos p kp sp zp pt yp : Pos} {R : Dt → Prop} {N : De → Prop}
theorem xd_potAt (i : Nat) {y : Str} {k : Int} {j} (hk : k = 0 ∨ k = 1) (hs : δ[i]? = some .pot := by rfl) (hN : X.N[i]? = some y := by rfl) (hv : Vis X.env.scope y := by first | exact Or.inl rfl | exact Or.inr (Or.inl rfl) | exact Or.inr (Or.inr rfl)) (hd : (y == ("__debug__" : Str)) = false := by decide) (hcd : (y == ("__classdict__" : Str)) = false := by decide) :
    XD X (.Subscript (.Name y yp) (.Constant (.int k) j kp) pos) δ (fun d => ∃ n : Int, d = .int n ∧ 0 ≤ n ∧ (k = 1 → n ≤ 2147483588)) :=
  PE.imp (pe_ix ix_list (pe_var hN hv hd hcd) pe_int (fun _ _ => rfl)) fun σ H Q ⟨p, B, G, i3, en, q⟩ => by
    obtain ⟨o', h1, z, rfl, rfl⟩ := en.slot i _ hs
    obtain ⟨h2, h3, x, w, h4, h5, h6, h7⟩ := i3.pot z rfl
    refine ⟨_, h1, z, [.int x, .int w], k, .int (if k = 0 then x else w), rfl, rfl, .inl (.inl h4), ?_, q _ (.int (if k = 0 then x else w)) G H ⟨_, rfl, ?_, ?_⟩ (.refl i3) (.int _)⟩
    · rcases hk with rfl | rfl <;> rfl
    · split <;> omega
    · intro e; subst e; simpa using h7
theorem sd_potSet (i : Nat) {y : Str} {j} (he : XD X e δ fun d => ∃ n : Int, d = .int n ∧ 0 ≤ n ∧ n ≤ 2147483588) (hs : δ[i]? = some .pot := by rfl) (hN : X.N[i]? = some y := by rfl) (hv : Vis X.env.scope y := by first | exact Or.inl rfl | exact Or.inr (Or.inl rfl) | exact Or.inr (Or.inr rfl)) (hd : (y == ("__debug__" : Str)) = false := by decide) (hcd : (y == ("__classdict__" : Str)) = false := by decide)
    (h2 : swapsWithSole [.Subscript (.Name y yp) (.Constant (.int 1) j kp) sp] e pos.line X.env = pure false := by rfl) (hw : swappedStores [.Subscript (.Name y yp) (.Constant (.int 1) j kp) sp] e X.env = pure none := by rfl)
    (h1 : (assignEach [.Subscript (.Name y yp) (.Constant (.int 1) j kp) sp] X.env).map (·.2) = [assign (.Subscript (.Name y yp) (.Constant (.int 1) j kp) sp) X.env] := by rfl) : SD X (.Assign [.Subscript (.Name y yp) (.Constant (.int 1) j kp) sp] e pos) δ { o with nx := fun x => x = δ } :=
  PS.imp (ps_asg he (pg_sub (pe_var hN hv hd hcd) pe_int set_list) h2 hw h1) fun D σ H ⟨p, B, G, i3, en, q⟩ => ⟨p, B, G, i3, en, fun v d G' H' ⟨n, r, n0, n1⟩ nx hv' => by
    subst r
    cases hv'
    obtain ⟨o', h1, z, rfl, rfl⟩ := (en.nxt nx).slot i _ hs
    have i3' := i3.nxt nx
    obtain ⟨h2, h3, x, w, h4, h5, h6, h7⟩ := i3'.pot z rfl
    have m := Nxt.mut (a := x) (b := n) i3' ⟨h5, n0, n1⟩
    have mm := nx.trans m
    exact ⟨_, h1, z, _, 1, 1, rfl, rfl, h4, rfl, q.nx _ σ G' _ rfl (mm.stepB i3) (i3.nxt mm) (en.nxt mm)⟩⟩
theorem sd_potDiv (i l : Nat) {y x : Str} {j kt} {S : Int → Prop} (hX : X.N.Nodup) (he : XD X e δ fun d => ∃ u w : Int, d = .tuple [.int u, .int w] ∧ 0 ≤ u ∧ S w) (hR : ∀ w, S w → N (δ.set l (.d (.int w)))) (hc : X.calm = true := by rfl) (hs : δ[i]? = some .pot := by rfl) (hN : X.N[i]? = some y := by rfl) (hl : X.N[l]? = some x := by rfl) (hv : Vis X.env.scope y := by first | exact Or.inl rfl | exact Or.inr (Or.inl rfl) | exact Or.inr (Or.inr rfl)) (hd : (y == ("__debug__" : Str)) = false := by decide) (hcd : (y == ("__classdict__" : Str)) = false := by decide)
    (hx : Loc X.env.scope x := by first | exact Or.inl rfl | exact Or.inr rfl) (hf : X.fn x = true ∨ X.env.scope.names.lookup x = some .local := by first | exact .inl rfl | exact .inr rfl | assumption)
    (h2 : swapsWithSole [.Tuple [.Subscript (.Name y yp) (.Constant (.int 0) j kp) sp, .Name x zp] kt pt] e pos.line X.env = pure false := by rfl) (hw : swappedStores [.Tuple [.Subscript (.Name y yp) (.Constant (.int 0) j kp) sp, .Name x zp] kt pt] e X.env = pure none := by rfl)
    (h1 : (assignEach [.Tuple [.Subscript (.Name y yp) (.Constant (.int 0) j kp) sp, .Name x zp] kt pt] X.env).map (·.2) = [assign (.Tuple [.Subscript (.Name y yp) (.Constant (.int 0) j kp) sp, .Name x zp] kt pt) X.env] := by rfl)
    (h3 : (assignEach [.Subscript (.Name y yp) (.Constant (.int 0) j kp) sp, .Name x zp] X.env).map (·.2) = assign (.Subscript (.Name y yp) (.Constant (.int 0) j kp) sp) X.env :: (assignEach [.Name x zp] X.env).map (·.2) := by rfl)
    (h4 : (assignEach [.Name x zp] X.env).map (·.2) = assign (.Name x zp) X.env :: (assignEach [] X.env).map (·.2) := by rfl)
    (h5 : (assignEach [.Subscript (.Name y yp) (.Constant (.int 0) j kp) sp, .Name x zp] X.env).length = 2 := by rfl) (h6 : (assignEach [.Subscript (.Name y yp) (.Constant (.int 0) j kp) sp, .Name x zp] X.env).findIdx? (·.1) = none := by rfl) :
    SD X (.Assign [.Tuple [.Subscript (.Name y yp) (.Constant (.int 0) j kp) sp, .Name x zp] kt pt] e pos) δ { o with nx := N } :=
  PS.imp (ps_asg he (pg_tup hc (pgs_cons (pg_sub (pe_var hN hv hd hcd) pe_int set_list) (pgs_cons (pg_name hX hl hx hf) pgs_nil h4) h3) h5 h6) h2 hw h1) fun D σ H ⟨p, B, G, i3, en, q⟩ => ⟨p, B, G, i3, en, fun v d G' H' ⟨u, w, r, u0, sw⟩ nx hv' => by
    subst r
    obtain ⟨o', h1, z, rfl, rfl⟩ := (en.nxt nx).slot i _ hs
    have i3' := i3.nxt nx
    obtain ⟨h2, h3, x', w', h4, h5, h6, h7⟩ := i3'.pot z rfl
    have m := Nxt.mut (a := u) (b := w') i3' ⟨u0, h6, h7⟩
    have mm := nx.trans m
    cases hv' with
    | tup hq ha =>
      obtain ⟨v1, v2, rfl, e1, e2⟩ := two_of ha
      cases e1; cases e2
      refine ⟨_, [.int u, .int w], rfl, ex_t i3'.gh hq, rfl, .int u, [.int w], rfl, _, h1, z, _, 0, 0, rfl, rfl, h4, rfl, .int w, [], rfl, rfl, ?_⟩
      exact q.nx _ _ G' _ (hR w sw) (mm.stepB i3) (i3.nxt mm) ((en.nxt mm).set (.int w))⟩
theorem xd_divmod {S : Int → Int → Prop} (hm : X.mg "divmod" = none) (ha : XA X [a, b] δ fun ds => ∃ i j : Int, ds = [.int i, .int j] ∧ CDiv i j ∧ S i j) (hg : Gl X "divmod" := by rfl) (hpl : starEach [b] X.env = [(false, eval b X.env)] := by rfl) :
    XD X (.Call (.Name "divmod" p) [a, b] [] pos) δ fun d => ∃ i j : Int, d = .tuple [.int (i / j), .int (i % j)] ∧ S i j :=
  xd_cb call_divmod hg hm (by decide +kernel) ha (fun ds' ⟨i, j, e, hc, s⟩ p B G H vs i3 hv Q q => by
    subst e
    obtain ⟨v, w, rfl, h1, h2⟩ := two_of hv
    cases h1; cases h2
    exact ⟨i, j, rfl, hc, fun z hz => q (.ref z) _ _ _ ⟨i, j, rfl, s⟩ (.new i3 _ hz) (.tup (.inl (.inl upd_same)) (.cons (.int _) (.cons (.int _) .nil)))⟩) (hpl := hpl)
/-- ints in bounds -/
def IntP (S : Int → Prop) (d : Dt) : Prop := ∃ i, d = .int i ∧ S i
theorem xi_of {S : Int → Prop} {i : Int} (h : PD X a δ (.int i)) (hs : S i) : XD X a δ (IntP S) := h.mono fun d e => ⟨i, e, hs⟩
theorem xi_imp {S T : Int → Prop} (h : XD X a δ (IntP S)) (k : ∀ i, S i → T i) : XD X a δ (IntP T) := h.mono fun d ⟨i, e, s⟩ => ⟨i, e, k i s⟩
theorem xi_add {S T U : Int → Prop} (ha : XD X a δ (IntP S)) (hb : XD X b δ (IntP T)) (h : ∀ i j, S i → T j → U (i + j)) : XD X (.BinOp a .Add b pos) δ (IntP U) := xd_op op_add ha hb fun x y ⟨i, e1, s⟩ ⟨j, e2, t⟩ => by subst e1; subst e2; (refine rd_i ?_; exact ⟨_, rfl, h i j s t⟩)
theorem xi_sub {S T U : Int → Prop} (ha : XD X a δ (IntP S)) (hb : XD X b δ (IntP T)) (h : ∀ i j, S i → T j → U (i - j)) : XD X (.BinOp a .Sub b pos) δ (IntP U) := xd_op op_sub ha hb fun x y ⟨i, e1, s⟩ ⟨j, e2, t⟩ => by subst e1; subst e2; (refine rd_i ?_; exact ⟨_, rfl, h i j s t⟩)
theorem xi_mul {S T U : Int → Prop} (ha : XD X a δ (IntP S)) (hb : XD X b δ (IntP T)) (h : ∀ i j, S i → T j → CMul i j ∧ U (i * j)) : XD X (.BinOp a .Mult b pos) δ (IntP U) := xd_op op_mul ha hb fun x y ⟨i, e1, s⟩ ⟨j, e2, t⟩ => by subst e1; subst e2; (refine rd_c ?_ ?_; exact (h i j s t).1; exact ⟨_, rfl, (h i j s t).2⟩)
theorem xi_mod {S T U : Int → Prop} (ha : XD X a δ (IntP S)) (hb : XD X b δ (IntP T)) (h : ∀ i j, S i → T j → 0 < j ∧ U (i % j)) : XD X (.BinOp a .Mod b pos) δ (IntP U) := xd_op op_mod ha hb fun x y ⟨i, e1, s⟩ ⟨j, e2, t⟩ => by subst e1; subst e2; (refine rd_c ?_ ?_; exact (h i j s t).1; exact ⟨_, rfl, (h i j s t).2⟩)
theorem xi_fdiv {S T U : Int → Prop} (ha : XD X a δ (IntP S)) (hb : XD X b δ (IntP T)) (h : ∀ i j, S i → T j → CDiv i j ∧ U (i / j)) : XD X (.BinOp a .FloorDiv b pos) δ (IntP U) := xd_op op_fdiv ha hb fun x y ⟨i, e1, s⟩ ⟨j, e2, t⟩ => by subst e1; subst e2; (refine rd_c ?_ ?_; exact (h i j s t).1; exact ⟨_, rfl, (h i j s t).2⟩)
theorem xi_int {S : Int → Prop} (hm : X.mg "int" = none) (ha : XD X e δ (IntP S)) (hg : Gl X "int" := by rfl) (hs : starEach [e] X.env = (false, eval e X.env) :: starEach [] X.env := by rfl) : XD X (.Call (.Name "int" p) [e] [] pos) δ (IntP S) :=
  xd_int hm (xa_cons ha xa_nil (fun d ds ⟨i, e, s⟩ h => ⟨i, by rw [e, h], s⟩) hs) hg
theorem xt_gt {S T : Int → Prop} (ha : XD X a δ (IntP S)) (hb : XD X b δ (IntP T)) : XT X (.Compare a [.Gt] [b] pos) δ (fun _ => True) := xt_cmp op_gt ha hb (nomark _) fun x y ⟨i, e1, s⟩ ⟨j, e2, t⟩ => by subst e1; subst e2; (refine rd_b ?_; exact ⟨_, rfl, trivial⟩)
/-- some[i] -/
theorem xd_ixLP {S : Int → Prop} {T : Dt → Prop} (ha : PD X a δ (.list ds)) (hb : XD X b δ (IntP S)) (h : ∀ i, S i → ∃ d, atI ds i = some d ∧ T d) (hs : PlainIx b := by exact fun _ _ => rfl) : XD X (.Subscript a b pos) δ T := xd_ix ix_list ha hb hs fun x y e1 ⟨i, e2, s⟩ => by subst e1; subst e2; exact rd_ixL (h i s)
/-- an argument list: a known element, then the rest -/
theorem xa_pc {es : List Expr} {S : List Dt → Prop} (ha : PD X e δ d) (hr : XA X es δ S) (hs : starEach (e :: es) X.env = (false, eval e X.env) :: starEach es X.env := by rfl) : XA X (e :: es) δ (fun x => ∃ y, x = d :: y ∧ S y) := xa_cons ha hr (fun d' ds e1 h => ⟨ds, by rw [e1], h⟩) hs
theorem xa_xc {es : List Expr} {S : List Dt → Prop} {R : Dt → Prop} (ha : XD X e δ R) (hr : XA X es δ S) (hs : starEach (e :: es) X.env = (false, eval e X.env) :: starEach es X.env := by rfl) : XA X (e :: es) δ (fun x => ∃ d y, x = d :: y ∧ R d ∧ S y) := xa_cons ha hr (fun d' ds e1 h => ⟨d', ds, rfl, e1, h⟩) hs
theorem xi_max2 {S T U : Int → Prop} (hm : X.mg "max" = none) (ha : XD X a δ (IntP S)) (hb : XD X b δ (IntP T)) (h : ∀ i j, S i → T j → U (max i j)) (hc : X.calm = true := by rfl) (hg : Gl X "max" := by rfl) (hpl : starEach [b] X.env = [(false, eval b X.env)] := by rfl) (hs : starEach [a, b] X.env = (false, eval a X.env) :: starEach [b] X.env := by rfl) (hs2 : starEach [b] X.env = (false, eval b X.env) :: starEach [] X.env := by rfl) : XD X (.Call (.Name "max" p) [a, b] [] pos) δ (IntP U) :=
  xd_cb (call_max2 hc) hg hm (by decide +kernel) (xa_xc ha (xa_xc hb xa_nil hs2) hs) (fun ds' ⟨d1, y, e1, ⟨i, ei, si⟩, d2, y2, e2, ⟨j, ej, sj⟩, e3⟩ p B G H vs i3 hv Q q => by
    subst e3; subst e2; subst e1; subst ei; subst ej
    obtain ⟨v, w, rfl, h1, h2⟩ := two_of hv
    cases h1; cases h2
    refine ⟨i, j, rfl, q _ _ G H ⟨_, rfl, h i j si sj⟩ (.refl i3) ?_⟩
    have : (if j > i then j else i) = max i j := by omega
    rw [this]; exact .int _) (hpl := hpl)
end
end Dv

set_option linter.all false
set_option maxRecDepth 100000
set_option maxHeartbeats 2000000
namespace Dv
open PySem PySem.Spec PyProof.Rows L2
section
variable {X : Cx} {sts : List Stmt} {a b c e : Expr} {es fs : List Expr} {δ δ' : De} {o : Out} {d : Dt} {ds : List Dt} {pos p lp : Pos} {R : Dt → Prop} {N : De → Prop}
/-- return [..], a list of nobody's yet -/
theorem s_retLst (h : PAD X es δ ds) (hR : o.ro ds) (hl : ds.length ≤ 100000 := by first | decide | simp) : SsD X (.Return (some (.List es lp)) pos :: sts) δ o :=
  ss_end (PS.imp (ps_ret (pe_lst h.pa)) fun D σ H ⟨p, B, G, i3, en, q⟩ => ⟨p, B, G, i3, en, fun vs ds' G' H' r n h' => by
    subst r
    refine ⟨by rw [dpAll_length h']; exact Nat.le_trans hl (by decide), fun l hl => ?_⟩
    have i3' := i3.nxt n
    have n2 := n.trans (Nxt.newH i3' (.lst vs) hl)
    have pl : p ≠ some l := fun z => by
      obtain ⟨_, _, _, _, h3, _⟩ := i3'.pot l z
      rw [hl] at h3; cases h3
    exact q.ro _ l vs G' _ hR (n2.stepB i3) (i3.nxt n2) (i3'.bh.free hl) (i3'.gh.free hl) pl upd_same h'⟩)
/-- f(g(..)): g's answer, a new list of two numbers, is f's pot -/
theorem xd_potNew {k k2 : Nat} {x y : Str} {ps ps2 : List Str} {st st2 : Stmt} {R : List Dt → (Dt → Prop) → Prop} {R2 : List Dt → List Dt → Prop} {U : Dt → Prop} {u w : Int} {p2 p3 : Pos} (C : Cal X.prog X.w X.K X.mg X.base k x ps st (spP X.K R)) (D : Cal X.prog X.w X.K X.mg X.base k2 y ps2 st2 (spO X.K R2))
    (ha : PAD X (e :: es) δ ds) (hR : R [] U) (hR2 : R2 ds [.int u, .int w]) (hp : potOk u w) (hr : Room k X.A := by first | assumption | (refine Room.mono (by assumption) ?_; decide)) (hr2 : Room k2 X.A := by first | assumption | (refine Room.mono (by assumption) ?_; decide)) (hgd : X.A.guards = some [] := by assumption) (hg : Gl X x := by rfl) (hg2 : Gl X y := by rfl)
    (hpl : starEach es X.env = es.map fun e => (false, eval e X.env) := by rfl) (hs1 : starEach [.Call (.Name y p2) (e :: es) [] p3] X.env = (false, eval (.Call (.Name y p2) (e :: es) [] p3) X.env) :: starEach [] X.env := by rfl)
    (hdb : (x == ("__debug__" : Str)) = false := by decide) (hdb2 : (y == ("__debug__" : Str)) = false := by decide) : XD X (.Call (.Name x p) [.Call (.Name y p2) (e :: es) [] p3] [] pos) δ U := by
  obtain ⟨f, fd, F, hm, hk, hb, _⟩ := C.ex
  obtain ⟨f2, fd2, F2, hm2, hk2, hb2, _⟩ := D.ex
  refine PE.imp (pe_g F hr hgd hg hm hk hb (pa_cons (pe_g F2 hr2 hgd hg2 hm2 hk2 hb2 ha.pa hdb2 (by rw [hpl]; exact ha.pl) (back_plain hpl)) pa_nil hs1) hdb hs1 (back_plain (es := []) rfl)) fun σ H Q ⟨p, B, G, i3, en, q⟩ => ⟨p, B, G, i3, en, fun vs dd G1 H1 r n hv => ?_⟩
  subst r
  have i31 := i3.nxt n
  refine ⟨G1, _, _, i31.gh, hv, hR2, fun l xs G2 H2 s2 e2 g2 hl gl hl2 ha2 => ?_⟩
  have ex : xs = [V.int u, V.int w] := dpAll_ints (ns := [u, w]) ha2
  subst ex
  have nl : ∀ {a : Addr}, H1 a ≠ none → a ≠ l := fun h z => h (z ▸ hl)
  refine ⟨del (some l) H2, G2, l, [], [], U, ⟨fun a o h => (del_le h).1, g2, fun z hz => ?_⟩, rfl, .nil, hR, fun v d G3 H3 hu s3 i33 hd => q v d G3 H3 hu ⟨⟨(n.st.1.trans s2.1).trans s3.1, fun a h1 h2 => ?_⟩, fun a o h => ?_, i33.gh, fun z hz => ?_⟩ hd⟩
  · cases hz
    refine ⟨?_, gl, u, w, hl2, hp⟩
    unfold del; rw [if_pos rfl]
  · have h3 := n.dom a h1
    have h4 := nl h3
    refine s3.2 a ?_ (s2.2 a h3 (n.st.2 a h1 h2))
    rw [del_ne (fun z => h4 (Option.some.inj z).symm)]
    cases h5 : H1 a with
    | none => exact absurd h5 h3
    | some o => exact nn (e2 a o h5)
  · have h3 := n.ex a o h
    have h4 := nl (nn h3)
    exact i33.bh a o (by rw [del_ne (fun z => h4 (Option.some.inj z).symm)]; exact e2 a o h3)
  · obtain ⟨a, b, h3, h4⟩ := n.pot z hz
    have h5 := nl (nn h3)
    exact ⟨a, b, i33.bh z _ (by rw [del_ne (fun z => h5 (Option.some.inj z).symm)]; exact e2 z _ h3), h4⟩
end
/-! ### the law's call -/
theorem law_callG {P : Program} {w : World} {K : Fg} {mg mb : Str → Option Value} {k : Nat} {fa a : Addr} {fd : FuncData} {x : Str} {sp : Sp} {s₁ : Shared} {vs : List Value} {ns : List Int}
    (KX : K.In s₁.heap) (hns : s₁.heap.Ns mainGlobals mg) (hb : s₁.heap.Ns builtinsNs mb) (hbb : ∀ x : Str, x ≠ "__name__" → mb x = bootBuiltins x) (hlim : s₁.heap.NoLimit) (hg : s₁.gens = #[])
    (ha : s₁.heap.get? a = some { cls := .type "list", data := .seq vs.toArray }) (hi : IntsAre vs ns) (hl : ns.length ≤ sizeLine) (hr : Room k callerA)
    (F : ∀ base : Heap, K.In base → base.Ns mainGlobals mg → FnG P w K mg base k fa fd [x] sp) (hbind : ∀ (s : Shared) (u : Value), BindsTo s fd ⟨[u], []⟩ [(x, u)])
    (hsp : ∀ H : Hp, Only H → SqX K H a (ns.map V.int) → sp [.ref a] H (fun v _ => v = .bl true) E0) :
    codeAny (model P w) callerA (.call (.ref fa) ⟨[.ref a], []⟩) (fun r s' => r = .ok (.ret (.bool true)) ∧ OldK s₁.heap s'.heap ∧ s'.os = s₁.os ∧ AllBare s'.gens) s₁ := by
  have rv := vals_ints hi
  have lenV := hi.length
  have main : ∀ H : Hp, Only H → SqX K H a (ns.map V.int) → HOk P w H s₁.heap → (∀ b, H b ≠ none → b = a ∧ K.lookup a = none) →
      codeAny (model P w) callerA (.call (.ref fa) ⟨[.ref a], []⟩) (fun r s' => r = .ok (.ret (.bool true)) ∧ OldK s₁.heap s'.heap ∧ s'.os = s₁.os ∧ AllBare s'.gens) s₁ := by
    intro H hO hS hok hA
    have seen : ∀ {b : Addr} {o : Obj}, s₁.heap.get? b = some o → H b = none → (hidT s₁.heap H).get? b = some o := fun e n => hidT_get e n
    have free : ∀ {b : Addr} {o : Obj} {es : Array DictEntry} {ep : Nat}, s₁.heap.get? b = some o → o.data = .dict es ep → H b = none := fun {b o es ep} e d => by
      cases q : H b with
      | none => rfl
      | some u =>
        obtain ⟨z, _⟩ := hA b (nn q)
        subst z
        rw [ha] at e; cases e
        exact nomatch (show Data.seq vs.toArray _ = Data.dict es ep from d)
    have nsT : ∀ {b : Addr} {m : Str → Option Value}, s₁.heap.Ns b m → (hidT s₁.heap H).Ns b m := fun {b m} ⟨o, es, ep, e, d, r⟩ => ⟨o, es, ep, seen e (free e d), d, r⟩
    have hKb : K.In (hidT s₁.heap H) := fun b o e => seen (KX b o e) (by
      cases q : H b with
      | none => rfl
      | some u =>
        obtain ⟨z, z2⟩ := hA b (nn q)
        subst z
        rw [z2] at e; cases e)
    have hM : Mod K mg (hidT s₁.heap H) := ⟨hKb, nsT hns, ⟨mb, nsT hb, hbb⟩, let ⟨mc, h1, h2⟩ := hlim; ⟨mc, nsT h1, h2⟩⟩
    have e0 : Env0 P w K mg (hidT s₁.heap H) callerA [] s₁ H := ⟨rfl, hM, fun b o e => of_hidT e, Nat.le_of_eq (hidT_size _ _), trivial, fun b hb => absurd (show b ∈ ([] : List Addr) from hb) (by simp), hok, .of_eq hg⟩
    refine codeAny_mono ((F _ hKb (nsT hns)).run callerA [] s₁ H ⟨[.ref a], []⟩ [.ref a] [.ref a] _ _ hr rfl e0 (hbind s₁ (.ref a)) (.cons rfl .nil) (hsp H hO hS)) fun r s' h => ?_
    cases r with
    | error e => exact False.elim h
    | ok fl =>
      cases fl with
      | next => exact False.elim h
      | brk => exact False.elim h
      | cont => exact False.elim h
      | ret u =>
        obtain ⟨v, H', os, bare, un, hok', r', q⟩ := h
        have q' : v = .bl true := q
        subst q'
        obtain rfl : u = Value.bool true := r'
        refine ⟨rfl, OldK.of_keep fun b o e => ?_, os, bare⟩
        cases q : H b with
        | none => exact un.keep b o e q (by intro z; exact absurd (show b ∈ ([] : List Addr) from z) (by simp)) (by simp)
        | some u =>
          rcases hO b with z | ⟨ob, xs, z⟩
          · rw [q] at z; cases z
          · have z2 := un.frzs b ob _ z
            obtain ⟨e1, _⟩ := hok b _ z
            obtain ⟨e2, _⟩ := hok' b _ z2
            rw [e] at e1; cases e1
            exact e2
  cases hk : K.lookup a with
  | some o =>
    have e := KX a o hk
    rw [ha] at e
    cases e
    exact main (fun _ => none) (fun _ => .inl rfl) (.inr ⟨vs, _, hk, by rw [lenV]; exact hl, rv⟩) (fun b u z => nomatch (show (none : Option HO) = some u from z)) (fun b z => absurd rfl z)
  | none =>
    refine main (fun b => if b = a then some (.frz { cls := .type "list", data := .seq vs.toArray } (.lst (ns.map V.int))) else none) (fun b => ?_) (.inl (.inr ⟨{ cls := .type "list", data := .seq vs.toArray }, if_pos rfl⟩)) (fun b u z => ?_) (fun b z => ⟨?_, hk⟩)
    · by_cases hb : b = a
      · exact .inr ⟨_, _, if_pos hb⟩
      · exact .inl (if_neg hb)
    · by_cases hb : b = a
      · have z' := (if_pos hb).symm.trans z
        cases z'
        subst hb
        exact ⟨ha, by rw [List.length_map]; exact hl, vs, _, rv, ha⟩
      · have z' := (if_neg hb).symm.trans z
        cases z'
    · by_cases hb : b = a
      · exact hb
      · exact absurd (if_neg hb) z
/-- the promise of a law: every list of at most so many numbers is answered by True -/
def rLaw (n : Nat) (ds : List Dt) (d : Dt) : Prop := ∃ ns : List Int, ns.length ≤ n ∧ ds = [.list (ns.map PyData.int)] ∧ d = .bool true
theorem walkG {l : PySem.W.OpenLaw} {n k : Nat} {q : Program} {loose : List Str} {XP : (Str → Option Value) → Heap → Prop} {YP : World → Heap → Prop} {d : DefRec} {K : Params → PySem.W.Frag} {x : Str}
    (hn : l.most = some n) (hn2 : n ≤ sizeLine) (hdf : d.params.defaults = []) (hr : Room k callerA)
    (hY : ∀ (w : World) (h : Heap), YP w h → (K w.params).In h)
    (F : ∀ (w : World) (mg : Str → Option Value) (fa : Addr) (h : Heap), (K w.params).In h → h.Ns mainGlobals mg → mg d.name = some (.ref fa) →
      ∃ fd : FuncData, (∀ (s : Shared) (u : Value), BindsTo s fd ⟨[u], []⟩ [(x, u)]) ∧
        ∀ base : Heap, (K w.params).In base → base.Ns mainGlobals mg → FnG l.prog w (K w.params) mg base k fa fd [x] (spD (K w.params) (rLaw n))) :
    PySem.W.WalkO q loose XP YP l.row.toRowW d [] (fun f vs => PySem.call f vs) := by
  refine Att.attach_call hn hdf fun w s₀ s₁ mg mb fa o pm cd doc a vs ns G Y ho hd hcd hmg hobj hints hlen hg => ?_
  have KX := hY w _ Y
  obtain ⟨fd, hb, hF⟩ := F w mg fa _ KX G.T.g hmg
  refine law_callG KX G.T.g G.T.b G.T.builtins G.T.nolimit hg hobj hints (Nat.le_trans hlen hn2) hr hF hb fun H hO hS => ?_
  exact ⟨H, [.list (ns.map PyData.int)], .bool true, Ex.refl H, .cons (.lst hS (dpAll_of_ints ns)) .nil, ⟨ns, hlen, rfl, rfl⟩, fun v G' H' _ _ _ hv => by cases hv; rfl⟩
end Dv
namespace Dv
open PySem PySem.Spec PyProof.Rows L2
/-! ### what the top has written -/
structure Df (K : Fg) (x : Str) (st : Stmt) : Prop where
  ex : ∃ f fd, PySem.W.nsIn K mainGlobals x = some (some (.ref f)) ∧ PySem.W.keepIn K (.ref f) = true ∧ Fun K x x st f fd
theorem df_mk {K : Fg} {x : Str} {st : Stmt} {f : Addr} {od an : Option Addr} {sl : Array (Option Value)} {oc kV dc pm cd ct : Value} (a : PySem.W.nsIn K mainGlobals x = some (some (.ref f)))
    (l : K.lookup f = some ⟨oc, od, .func (PySem.W.fnOf x x (defArgs st) (defBody st) (defScope st) .none kV dc pm an cd ct), sl⟩) (c : PySem.W.codeIn K cd x = true) (k : PySem.W.keepIn K (.ref f) = true) : Df K x st := ⟨f, _, a, k, fun_mk (st := st) l c k⟩
theorem Df.cal {P : Program} {w : World} {K : Fg} {mg : Str → Option Value} {base h : Heap} {k : Nat} {x : Str} {ps : List Str} {st : Stmt} {sp : Sp} (D : Df K x st) (X : K.In h) (G : h.Ns mainGlobals mg)
    (hb : ∀ (kV doc pm : Value) (an : Option Addr) (cdv ct : Value) (us : List Value), us.length = ps.length → bindArgs (PySem.W.fnOf x x (defArgs st) (defBody st) (defScope st) .none kV doc pm an cdv ct) ⟨us, []⟩ = pure (ps.zip us))
    (F : ∀ f fd, Fun K x x st f fd → FnG P w K mg base k f fd ps sp) : Cal P w K mg base k x ps st sp := by
  obtain ⟨f, fd, a, hk, fn⟩ := D.ex
  exact ⟨f, fd, F f fd fn, PySem.W.mg_of X G a, hk, fn.binds hb, fn⟩
theorem Df.law {P : Program} {w : World} {K : Fg} {mg : Str → Option Value} {h : Heap} {k : Nat} {x y : Str} {st : Stmt} {sp : Sp} {fa : Addr} (D : Df K x st) (X : K.In h) (G : h.Ns mainGlobals mg) (hfa : mg x = some (.ref fa))
    (hb : ∀ (kV doc pm : Value) (an : Option Addr) (cdv ct : Value) (us : List Value), us.length = [y].length → bindArgs (PySem.W.fnOf x x (defArgs st) (defBody st) (defScope st) .none kV doc pm an cdv ct) ⟨us, []⟩ = pure ([y].zip us))
    (F : ∀ base f fd, K.In base → base.Ns mainGlobals mg → Fun K x x st f fd → FnG P w K mg base k f fd [y] sp) :
    ∃ fd : FuncData, (∀ (s : Shared) (u : Value), BindsTo s fd ⟨[u], []⟩ [(y, u)]) ∧ ∀ base : Heap, K.In base → base.Ns mainGlobals mg → FnG P w K mg base k fa fd [y] sp := by
  obtain ⟨f, fd, a, hk, fn⟩ := D.ex
  have e := hfa.symm.trans (PySem.W.mg_of X G a)
  cases e
  obtain ⟨oc, od, kV, doc, pm, an, cdv, ct, osl, e2, e3⟩ := id fn.ex
  exact ⟨fd, fun s u => by subst e2; exact .of_eq (hb kV doc pm an cdv ct [u] rfl), fun base hx hn => F base fa fd hx hn fn⟩
end Dv

set_option linter.all false
set_option maxRecDepth 100000
set_option maxHeartbeats 2000000
namespace Dv
open PySem PySem.Spec PyProof.Rows L2
section
variable {X : Cx} {sts : List Stmt} {a b c e : Expr} {es fs : List Expr} {δ δ' : De} {o : Out} {d : Dt} {ds : List Dt} {pos p p2 lp q : Pos} {R : Dt → Prop} {N : De → Prop}
theorem pd_minL {ns : List Int} {m : Int} (hc : X.calm = true) (hm : X.mg "min" = none) (ha : PAD X [e] δ [.list (ns.map PyData.int)]) (h1 : m ∈ ns) (h2 : ∀ y ∈ ns, m ≤ y) (hg : Gl X "min" := by rfl) : PD X (.Call (.Name "min" p) [e] [] pos) δ (.int m) :=
  xd_cb (cr_min hc) hg hm (by decide +kernel) ha fun ds' e p B G H vs i3 hv Q q => by
    subst e
    obtain ⟨v, rfl, h⟩ := one_of hv
    cases h with
    | lst hs ha =>
      have e := dpAll_ints ha
      subst e
      refine ⟨_, ns, rfl, exl i3.gh hs, List.length_pos_of_mem h1, fun k k1 k2 => q _ _ G H rfl (.refl i3) ?_⟩
      have : k = m := Int.le_antisymm (k2 m h1) (h2 k k1)
      rw [this]; exact .int _
theorem pd_listRg {i j : Int} {p3 p4 : Pos} (hl : X.mg "list" = none) (hm : X.mg "range" = none) (ha : PD X a δ (.int i)) (hb : PD X b δ (.int j)) (ok : RgOk i j) (hc : X.calm = true := by rfl) (hg : Gl X "list" := by rfl) (hg2 : Gl X "range" := by rfl)
    (hs : starEach [a, b] X.env = (false, eval a X.env) :: starEach [b] X.env := by rfl) (hs2 : starEach [b] X.env = (false, eval b X.env) :: starEach [] X.env := by rfl) (hs3 : starEach [.Call (.Name "range" p3) [a, b] [] p4] X.env = (false, eval (.Call (.Name "range" p3) [a, b] [] p4) X.env) :: starEach [] X.env := by rfl) :
    PD X (.Call (.Name "list" p) [.Call (.Name "range" p3) [a, b] [] p4] [] pos) δ (.list (rngD i (j - i).toNat)) :=
  PE.imp (pe_listRg hc hg hl (prg_2 hg2 hm ha hb hs hs2 (by rw [hs2]; rfl)) hs3) fun σ H Q ⟨p, B, G, i3, en, q⟩ => two (U1 := fun x => x = .int i) (U2 := fun x => x = .int j) i3 en fun v w d1 d2 G' H' r1 r2 n i' h1 h2 => by
    subst r1; subst r2
    cases h1; cases h2
    refine ⟨i, j, rfl, rfl, ok, fun l hl => q _ _ _ _ rfl (n.trans (.new i' _ hl)) (.lst (.inl (.inl upd_same)) ?_)⟩
    have e1 : rgV i j = ((List.range (j - i).toNat).map fun k : Nat => i + (k : Int)).map V.int := by unfold rgV; rw [List.map_map]; rfl
    have e2 : rngD i (j - i).toNat = ((List.range (j - i).toNat).map fun k : Nat => i + (k : Int)).map PyData.int := by unfold rngD; rw [List.map_map]; rfl
    rw [e1, e2]
    exact dpAll_of_ints _
def tLenSetT (K : Fg) (ta : TE) : TE := fun σ H Q => ta σ H fun x H1 => ∃ (l : Addr) (ns : List Int), x = .ref l ∧ SqT K H1 l (ns.map V.int) ∧ ns.Nodup ∧ ns.length ≤ 1000 ∧ Q (.int (ns.length : Nat)) H1
theorem pe_lenSetT {ta : TE} (hg : Gl X "len") (hm : X.mg "len" = none) (hg2 : Gl X "set") (hm2 : X.mg "set" = none) (ha : PE X a ta) (hc : X.calm = true := by rfl)
    (na : starEach [a] X.env = (false, eval a X.env) :: starEach [] X.env := by rfl) : PE X (.Call (.Name "len" p) [.Call (.Name "set" p2) [a] [] q] [] pos) (tLenSetT X.K ta) := by
  refine ⟨fun pins s σ H Q I h => Call_ (ld_blt I hg hm PySem.boot_len (callWith_builtin1 (args_cons (Call_ (ld_blt I hg2 hm2 boot_set (callWith_type1 (args_cons (thn (ha.run pins s σ H _ I h) fun v s1 ⟨x, H1, I1, r1, q1⟩ => args_nil ?_) na) na rfl))) rfl) rfl rfl))⟩
  obtain ⟨l, ns, rfl, hq, hnd, hl, q1⟩ := q1
  cases r1
  obtain ⟨its, r, pl, hz⟩ := I1.tuple hq
  have hi : IntsAre its.toArray.toList ns := by
    have z : ∀ {ns : List Int} {us : List Value}, Vals (ns.map V.int) us → IntsAre us ns := fun {ns} => by
      induction ns with
      | nil => intro us h; cases h; exact .nil
      | cons n t ih =>
        intro us h
        cases h with
        | cons h1 h2 => obtain ⟨k, rfl⟩ := h1; exact .cons n k (ih h2)
    simpa using z r
  refine call_set_tupI ns (I1.ok.hd hc) (show s1.heap.IsTuple l its.toArray from pl) hi (by unfold scanBound; omega) fun h' tk c R1 hcn k => args_nil ?_
  obtain ⟨o, es, ep, t, ho, hex, hdt, g, nd, hm3, hb, hf, hn, _, _⟩ := R1
  have I2 : Inv X pins σ H1 { s1 with heap := h', toks := tk } := I1.kept k
  have pm : (es.toList.map keyOf).Perm ns := (List.perm_ext_iff_of_nodup nd hnd).mpr fun j => by rw [← hm3 j, decide_eq_true_eq]
  have sz : es.size = ns.length := by
    have := pm.length_eq
    rw [List.length_map, Array.length_toList] at this
    exact this
  exact call_len_set ho hex hdt hf (by rw [sz]; omega) ⟨.int ns.length, H1, I2.tok _, ⟨_, by rw [sz]⟩, q1⟩
theorem pd_lenSetT {ns : List Int} (hm : X.mg "len" = none) (hm2 : X.mg "set" = none) (ha : PD X a δ (.tuple (ns.map PyData.int))) (nd : ns.Nodup) (hl : ns.length ≤ 1000) (hc : X.calm = true := by rfl) (hg : Gl X "len" := by rfl) (hg2 : Gl X "set" := by rfl) (na : starEach [a] X.env = (false, eval a X.env) :: starEach [] X.env := by rfl) :
    PD X (.Call (.Name "len" p) [.Call (.Name "set" p2) [a] [] q] [] pos) δ (.int ((ns.length : Nat) : Int)) :=
  PE.imp (pe_lenSetT hg hm hg2 hm2 ha hc na) fun σ H Q ⟨p, B, G, i3, en, q⟩ => ⟨p, B, G, i3, en, fun v d G' H' r n hv => by
    subst r
    cases hv with
    | tup hs ha =>
      have e := dpAll_ints ha
      subst e
      exact ⟨_, ns, rfl, ex_t n.gh hs, nd, hl, q _ _ G' H' rfl n (.int _)⟩⟩
/-! ### new lists of the def's own -/
def rOw (K : Fg) (δ : De) (R : List Dt → Prop) : TE := fun σ H Q => ∃ p B G, I3 p B G H ∧ EnvD K p B G H σ δ ∧ ∀ l xs ds G' H', R ds → Nxt p G H G' H' → H l = none → G' l = none → p ≠ some l → H' l = some (.lst xs) → DzAll K G' xs ds → Q (.ref l) H'
def XO (X : Cx) (e : Expr) (δ : De) (R : List Dt → Prop) : Prop := PE X e (rOw X.K δ R)
theorem pot_ne {p : Option Addr} {B G H : Hp} {l : Addr} (i3 : I3 p B G H) (hl : H l = none) : p ≠ some l := fun z => by
  obtain ⟨_, _, _, _, h3, _⟩ := i3.pot l z
  rw [hl] at h3; cases h3
theorem xo_lst {S : List Dt → Prop} (h : XA X es δ S) (hS : ∀ ds, S ds → ds.length ≤ 100000) : XO X (.List es lp) δ S := PE.imp (pe_lst h.pa) fun σ H Q ⟨p, B, G, i3, en, q⟩ => ⟨p, B, G, i3, en, fun vs ds G' H' r n h' =>
  ⟨by rw [dpAll_length h']; exact Nat.le_trans (hS ds r) (by decide), fun l hl => by
    have i3' := i3.nxt n
    have h0 : H l = none := by
      cases z : H l with
      | none => rfl
      | some w => exact absurd hl (n.dom l (nn z))
    exact q l vs ds G' _ r (n.trans (.newH i3' (.lst vs) hl)) h0 (i3'.gh.free hl) (pot_ne i3' hl) upd_same h'⟩⟩
theorem xo_call {k : Nat} {y : Str} {ps : List Str} {st : Stmt} {R : List Dt → List Dt → Prop} {ds' : List Dt} {p3 : Pos} (C : Cal X.prog X.w X.K X.mg X.base k y ps st (spO X.K R)) (ha : PAD X (e :: es) δ ds') (hR : R ds' ds)
    (hr : Room k X.A := by first | assumption | (refine Room.mono (by assumption) ?_; decide)) (hgd : X.A.guards = some [] := by assumption) (hg : Gl X y := by rfl) (hpl : starEach es X.env = es.map fun e => (false, eval e X.env) := by rfl) (hdb : (y == ("__debug__" : Str)) = false := by decide) :
    XO X (.Call (.Name y p2) (e :: es) [] p3) δ (fun x => x = ds) := by
  obtain ⟨f, fd, F, hm, hk, hb, _⟩ := C.ex
  refine PE.imp (pe_g F hr hgd hg hm hk hb ha.pa hdb (by rw [hpl]; exact ha.pl) (back_plain hpl)) fun σ H Q ⟨p, B, G, i3, en, q⟩ => ⟨p, B, G, i3, en, fun vs dd G1 H1 r n hv => ?_⟩
  subst r
  have i31 := i3.nxt n
  refine ⟨G1, _, ds, i31.gh, hv, hR, fun l xs G2 H2 st2 e2 g2 hl gl hl2 ha2 => ?_⟩
  have n2 : Nxt p G1 H1 G2 H2 := ⟨st2, fun a o h => e2 a o (del_le h).1, g2, fun z hz => by
    obtain ⟨_, _, a, b, h3, h4⟩ := i31.pot z hz
    exact ⟨a, b, e2 _ _ h3, h4⟩⟩
  have h0 : H l = none := by
    cases z : H l with
    | none => rfl
    | some w => exact absurd hl (n.dom l (nn z))
  exact q l xs ds G2 H2 rfl (n.trans n2) h0 gl (pot_ne i31 hl) hl2 ha2
theorem own_put {K : Fg} {p : Option Addr} {B G H G' H' : Hp} {σ : L2.St} {l : Addr} {xs : List V} (i3 : I3 p B G H) (en : EnvD K p B G H σ δ) (n : Nxt p G H G' H') (h0 : H l = none) (g : G' l = none) (pl : p ≠ some l) (hl : H' l = some (.lst xs)) (ha : DzAll K G' xs ds) (i : Nat) :
    EnvD K p B G' H' (σ.set i (some (.ref l))) (δ.set i (.own ds)) := (en.nxt n).put (en := .own ds) ⟨l, xs, rfl, i3.bh.free h0, g, pl, hl, ha⟩ fun _ j f l' hj q1 m1 w1 w2 => by
  cases w1
  obtain ⟨o', a1, a2⟩ := en.slot j f q1
  cases f with
  | own es =>
    obtain ⟨l2, ys, b1, _, _, _, b4, _⟩ := a2
    rw [a1, b1] at w2
    cases w2
    rw [h0] at b4
    cases b4
  | no => exact m1
  | d x => exact m1
  | pot => exact m1
theorem sd_own (i : Nat) {x : Str} {S : List Dt → Prop} {pos' : Pos} (hN : X.N.Nodup) (he : XO X e δ S) (hR : ∀ ds, S ds → N (δ.set i (.own ds))) (hi : X.N[i]? = some x := by rfl) (hx : Loc X.env.scope x := by first | exact Or.inl rfl | exact Or.inr rfl)
    (hs : swapsWith e (some (.Name x pos')) pos.line X.env = pure false := by rfl) (hf : X.fn x = true ∨ X.env.scope.names.lookup x = some .local := by first | exact .inl rfl | exact .inr rfl | assumption) : SD X (.Assign [.Name x pos'] e pos) δ { o with nx := N } :=
  PS.imp (ps_set hN hi hx he hs hf) fun D σ H ⟨p, B, G, i3, en, q⟩ => ⟨p, B, G, i3, en, fun l xs ds G' H' r n h0 g pl hl ha => q.nx _ _ G' H' (hR ds r) (n.stepB i3) (i3.nxt n) (own_put i3 en n h0 g pl hl ha i)⟩
/-- x, y = a, b where b is a new list of the def's own -/
theorem sd_parO (i j : Nat) {x y : Str} {S : List Dt → Prop} {px py pt : Pos} {kt k2 pt2} (hN : X.N.Nodup) (hij : i ≠ j) (ha : XD X a δ R) (hb : XO X b δ S) (hS : ∀ d ds, R d → S ds → N ((δ.set i (.d d)).set j (.own ds))) (hc : X.calm = true := by rfl) (hi : X.N[i]? = some x := by rfl) (hj : X.N[j]? = some y := by rfl) (hx : X.env.scope.names.lookup x = some .local := by rfl) (hy : X.env.scope.names.lookup y = some .local := by rfl)
    (hw : swappedStores [.Tuple [.Name x px, .Name y py] kt pt] (.Tuple [a, b] k2 pt2) X.env = pure (some [x, y]) := by rfl) (hs : swapsWithSole [.Tuple [.Name x px, .Name y py] kt pt] (.Tuple [a, b] k2 pt2) pos.line X.env = pure false := by rfl)
    (h1 : starEach [a, b] X.env = (false, eval a X.env) :: starEach [b] X.env := by rfl) (h2 : starEach [b] X.env = (false, eval b X.env) :: starEach [] X.env := by rfl) :
    SD X (.Assign [.Tuple [.Name x px, .Name y py] kt pt] (.Tuple [a, b] k2 pt2) pos) δ { o with nx := N } :=
  PS.imp (ps_par hc hN hi hj hij hx hy (pa_cons ha (pa_cons hb pa_nil h2) h1) hw hs) fun D σ H ⟨p, B, G, i3, en, q⟩ => ⟨p, B, G, i3, en, fun v d G1 H1 r1 n1 hv => ⟨p, B, G1, i3.nxt n1, en.nxt n1, fun l xs ds G' H' r n h0 g pl hl ha => by
    refine ⟨v, .ref l, rfl, q.nx _ _ G' H' (hS d ds r1 r) ((n1.trans n).stepB i3) (i3.nxt (n1.trans n)) ?_⟩
    have e1 := (en.nxt n1).set (i := i) hv
    exact own_put (i3.nxt n1) e1 n h0 g pl hl ha j⟩⟩
/-- an element of an own list -/
theorem pd_ownAt (i : Nat) {x : Str} {k : Int} {np : Pos} (hs : δ[i]? = some (.own ds) := by rfl) (hk : PD X b δ (.int k)) (h : atI ds k = some d) (hN : X.N[i]? = some x := by rfl) (hv : Vis X.env.scope x := by first | exact Or.inl rfl | exact Or.inr (Or.inl rfl) | exact Or.inr (Or.inr rfl)) (hd : (x == ("__debug__" : Str)) = false := by decide)
    (hcd : (x == ("__classdict__" : Str)) = false := by decide) (hp : PlainIx b := by exact fun _ _ => rfl) : PD X (.Subscript (.Name x np) b pos) δ d :=
  PE.imp (pe_ix ix_list (pe_var hN hv hd hcd) hk hp) fun σ H Q ⟨p, B, G, i3, en, q⟩ => by
    obtain ⟨o', h1, l, xs, rfl, h2, h3, h4, h5, h6⟩ := en.slot i _ hs
    refine ⟨_, h1, p, B, G, i3, en, fun v dd G' H' r n hv' => ?_⟩
    subst r
    cases hv'
    have h5' : H' l = some (.lst xs) := n.ex _ _ (by rw [del_ne h4]; exact h5)
    obtain ⟨w, e1, e2⟩ := atI_all h6 h
    exact ⟨l, xs, k, w, rfl, rfl, .inl (.inl h5'), e1, q w d G' H' rfl n (dp_ex n.st.1 _ _ e2)⟩
/-- an own list becomes data for good -/
theorem frz_ok {K : Fg} {p : Option Addr} {B G H : Hp} {σ : L2.St} {i : Nat} (i3 : I3 p B G H) (en : EnvD K p B G H σ δ) (hs : δ[i]? = some (.own ds)) : ∃ G', Step B G G' ∧ I3 p B G' H ∧ EnvD K p B G' H σ (δ.set i (.d (.list ds))) := by
  obtain ⟨o', h1, l, xs, rfl, h2, h3, h4, h5, h6⟩ := en.slot i _ hs
  have gx : Ex G (upd G l (.lst xs)) := Ex.new h3
  refine ⟨upd G l (.lst xs), ⟨gx, fun y h7 h8 => ?_⟩, ⟨i3.bh, fun y u hu => ?_, fun z hz => ?_⟩, ?_⟩
  · have : y ≠ l := fun w => h7 (w ▸ h2)
    rw [upd_ne this]; exact h8
  · by_cases w : y = l
    · subst w; rw [upd_same] at hu; cases hu; exact h5
    · rw [upd_ne w] at hu; exact i3.gh y u hu
  · obtain ⟨a1, a2, a3⟩ := i3.pot z hz
    have : z ≠ l := fun w => h4 (by rw [hz, w])
    exact ⟨a1, by rw [upd_ne this]; exact a2, a3⟩
  · have hil : i < δ.length := (List.getElem?_eq_some_iff.mp hs).1
    refine ⟨by rw [List.length_set]; exact en.len, fun j f q => ?_, fun j k f g l' hjk q1 m1 q2 m2 r1 r2 => ?_⟩
    · by_cases hj : i = j
      · subst hj
        rw [List.getElem?_set_self hil] at q
        cases q
        exact ⟨_, h1, .ref l, rfl, .lst (.inl (.inl upd_same)) (dpAll_ex gx _ _ h6)⟩
      · rw [List.getElem?_set_ne hj] at q
        obtain ⟨o2, b1, b2⟩ := en.slot j f q
        refine ⟨o2, b1, ?_⟩
        cases f with
        | no => trivial
        | d y => obtain ⟨v, e1, e2⟩ := b2; exact ⟨v, e1, dp_ex gx _ _ e2⟩
        | pot => exact b2
        | own es =>
          obtain ⟨l2, ys, c1, c2, c3, c4, c5, c6⟩ := b2
          have : l2 ≠ l := fun w => by
            subst w
            subst c1
            exact en.apart i j (.own ds) (.own es) l2 hj hs trivial q trivial h1 b1
          exact ⟨l2, ys, c1, c2, by rw [upd_ne this]; exact c3, c4, c5, dpAll_ex gx _ _ c6⟩
    · have nj : i ≠ j := fun w => by subst w; rw [List.getElem?_set_self hil] at q1; cases q1; exact m1
      have nk : i ≠ k := fun w => by subst w; rw [List.getElem?_set_self hil] at q2; cases q2; exact m2
      rw [List.getElem?_set_ne nj] at q1
      rw [List.getElem?_set_ne nk] at q2
      exact en.apart j k f g l' hjk q1 m1 q2 m2 r1 r2
theorem ss_frz (i : Nat) (hs : δ[i]? = some (.own ds)) (k : SsD X sts (δ.set i (.d (.list ds))) o) : SsD X sts δ o := PSs.imp k fun D σ H ⟨p, B, G, i3, en, q⟩ => by
  obtain ⟨G', s, i', e'⟩ := frz_ok i3 en hs
  exact ⟨p, B, G', i', e', q.step s⟩
/-- a test that reads an own list as data -/
theorem xt_frz (i : Nat) {R : Bool → Prop} (hs : δ[i]? = some (.own ds)) (k : XT X c (δ.set i (.d (.list ds))) R) : XT X c δ R := PT.imp k fun σ H Q ⟨p, B, G, i3, en, q⟩ => by
  obtain ⟨G', s, i', e'⟩ := frz_ok i3 en hs
  exact ⟨p, B, G', i', e', fun u G2 H2 r n => q u G H2 r ⟨.refl _ _, n.ex, fun a w h => n.gh a w (n.st.1 a w (s.1 a w h)), n.pot⟩⟩
theorem app_env {K : Fg} {p : Option Addr} {B G' H' : Hp} {σ : L2.St} {i : Nat} {l : Addr} {ys : List V} {es : List Dt} (en' : EnvD K p B G' H' σ δ) (hs : δ[i]? = some (.own ds)) (h1 : σ[i]? = some (some (.ref l))) (h2 : B l = none) (g' : G' l = none) (h4 : p ≠ some l) (ha : DzAll K G' ys es) :
    EnvD K p B G' (upd H' l (.lst ys)) σ (δ.set i (.own es)) := by
  have hil : i < δ.length := (List.getElem?_eq_some_iff.mp hs).1
  refine ⟨by rw [List.length_set]; exact en'.len, fun j f qj => ?_, fun j k f g l' hjk q1 m1 q2 m2 r1 r2 => ?_⟩
  · by_cases hj : i = j
    · subst hj
      rw [List.getElem?_set_self hil] at qj
      cases qj
      exact ⟨_, h1, l, ys, rfl, h2, g', h4, upd_same, ha⟩
    · rw [List.getElem?_set_ne hj] at qj
      obtain ⟨o2, b1, b2⟩ := en'.slot j f qj
      refine ⟨o2, b1, ?_⟩
      cases f with
      | no => trivial
      | d y => exact b2
      | pot => exact b2
      | own fs =>
        obtain ⟨l2, zs, c1, c2, c3, c4, c5, c6⟩ := b2
        have : l2 ≠ l := fun w => by
          subst w
          subst c1
          exact en'.apart i j (.own ds) (.own fs) l2 hj hs trivial qj trivial h1 b1
        exact ⟨l2, zs, c1, c2, c3, c4, by rw [upd_ne this]; exact c5, c6⟩
  · have own : ∀ {j : Nat} {f : En}, (δ.set i (.own es))[j]? = some f → f.isOwn → ∃ f', δ[j]? = some f' ∧ f'.isOwn := fun {j f} q m => by
      by_cases hj : i = j
      · subst hj; exact ⟨_, hs, trivial⟩
      · rw [List.getElem?_set_ne hj] at q; exact ⟨f, q, m⟩
    obtain ⟨f', a1, a2⟩ := own q1 m1
    obtain ⟨g2, b1, b2⟩ := own q2 m2
    exact en'.apart j k f' g2 l' hjk a1 a2 b1 b2 r1 r2
/-- x.append(e), e drawn -/
theorem sd_app (i : Nat) {x : Str} {apos cpos np : Pos} (hs : δ[i]? = some (.own ds)) (he : XD X e δ R) (hR : ∀ d, R d → N (δ.set i (.own (ds ++ [d])))) (hz : ds.length < 100000) (hN : X.N[i]? = some x := by rfl)
    (hv : Vis X.env.scope x := by first | exact Or.inl rfl | exact Or.inr (Or.inl rfl) | exact Or.inr (Or.inr rfl)) (hd : (x == ("__debug__" : Str)) = false := by decide) (hcd : (x == ("__classdict__" : Str)) = false := by decide)
    (hbase : attributeBase (.Name x np) "append" X.env (eval (.Name x np) X.env) = eval (.Name x np) X.env := by rfl)
    (hfew : ((backTo cpos (starEach [e] X.env)).all (fun x => !x.1) && (backToKw cpos (keywordEach [] X.env)).all (fun x => x.1.isSome) && decide (([e] : List Expr).length + ([] : List Keyword).length + (if ([] : List Keyword).isEmpty then 0 else 1) < 30)) = true := by rfl)
    (hline : (apos.endLine == cpos.line) = true := by rfl) (hst : starEach [e] X.env = [(false, eval e X.env)] := by rfl) (hsw : swapsWith (.Call (.Attribute (.Name x np) "append" apos) [e] [] cpos) none pos.line X.env = pure false := by rfl) :
    SD X (.Expr (.Call (.Attribute (.Name x np) "append" apos) [e] [] cpos) pos) δ { o with nx := N } := by
  refine PS.imp (ps_expr (pe_bm PySem.F.plainAttrs_list PySem.F.slot_list_append PySem.F.type_list_append mt_append (pe_var hN hv hd hcd) (pa_cons he pa_nil (by rw [hst]; rfl)) hbase hfew hline hst rfl) hsw) fun D σ H ⟨p, B, G, i3, en, q⟩ => ?_
  obtain ⟨o', h1, l, xs, rfl, h2, h3, h4, h5, h6⟩ := en.slot i _ hs
  refine ⟨_, h1, .inl ⟨rfl, xs, .inl (.inl h5)⟩, p, B, G, i3, en, fun v d' G' H' r n hv' => ?_⟩
  have en' := en.nxt n
  have i3' := i3.nxt n
  have g' : G' l = none := n.st.2 l (nn h5) h3
  have h5' : H' l = some (.lst xs) := n.ex _ _ (by rw [del_ne h4]; exact h5)
  refine ⟨l, xs, v, rfl, rfl, h5', by rw [dpAll_length h6]; exact Nat.lt_of_lt_of_le hz (by decide), q.nx _ σ G' _ (hR d' r) (n.stepB i3) ⟨i3'.bh.mut h2, i3'.gh.mut g', fun z hz' => ?_⟩ (app_env en' hs h1 h2 g' h4 (dpAll_append (dpAll_ex n.st.1 _ _ h6) (.cons hv' .nil)))⟩
  obtain ⟨a1, a2, a3, a4, a5, a6⟩ := i3'.pot z hz'
  have : z ≠ l := fun w => h4 (by rw [hz', w])
  exact ⟨a1, a2, a3, a4, by rw [upd_ne this]; exact a5, a6⟩
theorem pd_neg {i : Int} (ha : PD X a δ (.int i)) : PD X (.UnaryOp .USub a pos) δ (.int (-i)) := PE.imp (pe_un un_neg ha) fun σ H Q ⟨p, B, G, i3, en, q⟩ => ⟨p, B, G, i3, en, fun v d G' H' r n hv => by
  subst r
  cases hv
  exact ⟨i, rfl, q _ _ G' H' rfl n (.int _)⟩⟩
end
end Dv

set_option linter.all false
set_option maxRecDepth 100000
set_option maxHeartbeats 2000000
namespace K21
open PySem PySem.Spec PyProof.Rows L2 Dv
/-! ### the text -/
def top (i : Nat) : Stmt := PySem.Challenge.pw_citylines_k21_ready_and_charged_by_minut.main.body.getD i (.Pass ⟨0, 0, 0, 0⟩)
abbrev sInteger : Stmt := top 9
abbrev sCount : Stmt := top 10
abbrev sWithin : Stmt := top 11
abbrev sAreWithin : Stmt := top 12
abbrev sTuple : Stmt := top 13
abbrev sList : Stmt := top 14
abbrev sWord : Stmt := top 15
abbrev sNamed : Stmt := top 16
abbrev sTimes : Stmt := top 17
abbrev sTime : Stmt := top 18
abbrev sForm : Stmt := top 24
abbrev sBattery : Stmt := top 25
abbrev sCkBlock : Stmt := top 26
abbrev sCkStanding : Stmt := top 27
abbrev sCkArrived : Stmt := top 28
abbrev sFirst : Stmt := top 29
abbrev sLack : Stmt := top 30
abbrev sReady : Stmt := top 31
abbrev sCharged : Stmt := top 32
abbrev sLevels : Stmt := top 33
abbrev sLackOf : Stmt := top 34
abbrev sReadyAt : Stmt := top 35
abbrev sBehind : Stmt := top 36
abbrev sLPot : Stmt := top 38
abbrev sLDraw : Stmt := top 39
abbrev sLPick : Stmt := top 40
abbrev sLBlock : Stmt := top 41
abbrev sLLevels : Stmt := top 42
abbrev sLStand : Stmt := top 43
abbrev sLRow : Stmt := top 44
abbrev sLRight : Stmt := top 45
abbrev sLaw : Stmt := top 46
structure T0 (K : Fg) (mg : Str → Option Value) : Prop where
  isi : mg "isinstance" = none
  int : mg "int" = none
  bool : mg "bool" = none
  tuple : mg "tuple" = none
  list : mg "list" = none
  str : mg "str" = none
  len : mg "len" = none
  all : mg "all" = none
  any : mg "any" = none
  max : mg "max" = none
  min : mg "min" = none
  abs : mg "abs" = none
  sorted : mg "sorted" = none
  repr : mg "repr" = none
  range : mg "range" = none
  enumerate : mg "enumerate" = none
  divmod : mg "divmod" = none
  set : mg "set" = none
  trips : ∃ t, mg "MOST_TRIPS" = some (.int 16 t)
  turn : ∃ t, mg "LONGEST_TURN" = some (.int 60 t)
  full : ∃ t, mg "MOST_FULL" = some (.int 99 t)
  rate : ∃ t, mg "MOST_RATE" = some (.int 9 t)
/-! ### the mathematics -/
structure Bat where
  full : Int
  needs : List Int
  rate : Int
structure Blk where
  trips : List Int
  turns : List Int
  bat : Option Bat
abbrev intsT (ns : List Int) : Dt := .tuple (ns.map PyData.int)
def Bat.d (b : Bat) : Dt := .tuple [.int b.full, intsT b.needs, .int b.rate]
def batD : Option Bat → Dt
  | none => .none
  | some b => b.d
def Blk.d (x : Blk) : Dt := .tuple [.str "block", intsT x.trips, intsT x.turns, batD x.bat]
structure Bat.ok (b : Bat) (n : Nat) : Prop where
  f1 : 1 ≤ b.full
  f2 : b.full ≤ 99
  r1 : 1 ≤ b.rate
  r2 : b.rate ≤ 9
  nl : b.needs.length = n
  nb : ∀ i ∈ b.needs, 1 ≤ i ∧ i ≤ b.full
structure Blk.ok (x : Blk) : Prop where
  n1 : 1 ≤ x.trips.length
  n2 : x.trips.length ≤ 16
  tr : ∀ t ∈ x.trips, 0 ≤ t ∧ t ≤ 100
  nd : x.trips.Nodup
  tl : x.turns.length + 1 = x.trips.length
  tb : ∀ t ∈ x.turns, 0 ≤ t ∧ t ≤ 60
  bt : ∀ b, x.bat = some b → b.ok x.trips.length
def need (b : Bat) (p : Nat) : Int := b.needs.getD p 0
def turnL (x : Blk) (p : Nat) : Int := x.turns.getD (p - 1) 0
def lackN (b : Bat) (p : Nat) (v : Int) : Int := max 0 ((need b p - v + b.rate - 1) / b.rate)
def lackL (x : Blk) (p : Nat) (l : Dt) : Int := match x.bat, l with
  | some b, .int v => lackN b p v
  | _, _ => 0
def readyL (x : Blk) (p : Nat) (l : Dt) (a : Int) : Int := a + max (turnL x p) (lackL x p l)
def levN (b : Bat) (v m : Int) : Int := min b.full (v + b.rate * m)
def levL (x : Blk) (p : Nat) (l : Dt) (m : Int) : Dt := match x.bat, l with
  | some b, .int v => .int (levN b v m - need b p)
  | _, _ => .none
def firstL (x : Blk) : Dt := match x.bat with
  | none => .none
  | some b => .int (b.full - need b 0)
def LvOk (x : Blk) (l : Dt) : Prop := match x.bat with
  | none => l = .none
  | some b => ∃ v, 0 ≤ v ∧ v ≤ b.full ∧ l = .int v
def tD (t : Int × Int) : Dt := .tuple [.int t.1, .int t.2]
structure Row (x : Blk) (ts : List (Int × Int)) (ls : List Dt) : Prop where
  len : ls.length = ts.length
  pos : 1 ≤ ts.length
  tm : ∀ t ∈ ts, 0 ≤ t.1 ∧ t.1 ≤ t.2
  first : ls[0]? = some (firstL x)
  lv : ∀ l ∈ ls, LvOk x l
  step : ∀ (p : Nat) t u l, ts[p]? = some t → ts[p + 1]? = some u → ls[p]? = some l → ls[p + 1]? = some (levL x (p + 1) l (u.1 - t.2)) ∧ readyL x (p + 1) l t.2 ≤ u.1
theorem getD_of {ns : List Int} {p : Nat} (h : p < ns.length) : ns[p]? = some (ns.getD p 0) := by
  rw [List.getD_eq_getElem?_getD, List.getElem?_eq_getElem h]; rfl
theorem at_ints {ns : List Int} {p : Nat} (h : p < ns.length) : atI (ns.map PyData.int) ((p : Nat) : Int) = some (.int (ns.getD p 0)) := at_map (getD_of h)
theorem getD_mem {ns : List Int} {p : Nat} (h : p < ns.length) : ns.getD p 0 ∈ ns := List.mem_of_getElem? (getD_of h)
theorem lack_spec {b : Bat} {n p : Nat} (ok : b.ok n) (hp : p < n) {v : Int} (h0 : 0 ≤ v) : 0 ≤ lackN b p v ∧ lackN b p v ≤ 99 ∧ need b p ≤ v + b.rate * lackN b p v ∧ ∀ j, 0 ≤ j → j < lackN b p v → v + b.rate * j < need b p := by
  have r1 := ok.r1
  have hn := ok.nb _ (getD_mem (ns := b.needs) (p := p) (by rw [ok.nl]; exact hp))
  have f2 := ok.f2
  have hneed : need b p = b.needs.getD p 0 := rfl
  obtain ⟨q, hq⟩ : ∃ q, q = (need b p - v + b.rate - 1) / b.rate := ⟨_, rfl⟩
  have e1 : b.rate * q ≤ need b p - v + b.rate - 1 := by rw [hq]; exact Int.mul_ediv_self_le (by omega)
  have e2 : need b p - v + b.rate - 1 < b.rate * q + b.rate := by rw [hq]; exact Int.lt_mul_ediv_self_add (by omega)
  have hk : lackN b p v = max 0 q := by unfold lackN; rw [← hq]
  rw [hk]
  have q99 : q ≤ 99 := by
    by_cases h : q ≤ 99
    · exact h
    · have : b.rate * 100 ≤ b.rate * q := Int.mul_le_mul_of_nonneg_left (by omega) (by omega)
      omega
  refine ⟨by omega, by omega, ?_, fun j j0 j1 => ?_⟩
  · by_cases h : 0 ≤ q
    · rw [Int.max_eq_right h]; omega
    · have : b.rate * q ≤ b.rate * (-1) := Int.mul_le_mul_of_nonneg_left (by omega) (by omega)
      rw [Int.max_eq_left (by omega)]
      omega
  · have hjq : j + 1 ≤ q := by omega
    have : b.rate * (j + 1) ≤ b.rate * q := Int.mul_le_mul_of_nonneg_left hjq (by omega)
    rw [Int.mul_add] at this
    omega
theorem lack_mono {b : Bat} {n p : Nat} (ok : b.ok n) (hp : p < n) {v : Int} (h0 : 0 ≤ v) : lackN b p (v + 1) ≤ lackN b p v := by
  obtain ⟨a1, _, a3, _⟩ := lack_spec ok hp h0
  obtain ⟨_, _, _, b4⟩ := lack_spec ok hp (v := v + 1) (by omega)
  by_cases h : lackN b p (v + 1) ≤ lackN b p v
  · exact h
  · have := b4 _ a1 (by omega)
    omega
theorem lev_mono {b : Bat} {n : Nat} (ok : b.ok n) {v i j : Int} (h : i ≤ j) : levN b v i ≤ levN b v j := by
  have := ok.r1
  have : b.rate * i ≤ b.rate * j := Int.mul_le_mul_of_nonneg_left h (by omega)
  unfold levN; omega
section
variable {P : Program} {w : World} {K : Fg} {mg : Str → Option Value} {base : Heap} {f : Addr} {fd : FuncData}
theorem scInteger : FnScope ["value"] ["value"] (defScope sInteger) := ⟨rfl, rfl, rfl, by decide +kernel, rfl, by decide +kernel, by decide +kernel⟩
def rInteger (ds : List Dt) (d : Dt) : Prop := ∃ i, ds = [.int i] ∧ d = .bool true
theorem f_integer (T : T0 K mg) (F : Fun K "is_integer" "is_integer" sInteger f fd) : FnG P w K mg base 1 f fd ["value"] (spD K rInteger) := by
  refine fn_data F scInteger (fun ds d ⟨i, e, _⟩ => by subst e; rfl) fun cdv A outer s H E hr hgd hu ds d h => ?_
  obtain ⟨i, rfl, rfl⟩ := h
  exact s_ret (pd_and (pd_isi "int" "int" true T.isi T.int (pd_v 0)) fun _ => pd_one (pd_not (pd_isi "int" "bool" false T.isi T.bool (pd_v 0)))) rfl
theorem scCount : FnScope ["value"] ["value"] (defScope sCount) := ⟨rfl, rfl, rfl, by decide +kernel, rfl, by decide +kernel, by decide +kernel⟩
def rCount (ds : List Dt) (d : Dt) : Prop := ∃ i : Int, ds = [.int i] ∧ d = .bool (decide (0 ≤ i))
theorem f_count (C1 : Cal P w K mg base 1 "is_integer" ["value"] sInteger (spD K rInteger)) (F : Fun K "is_count" "is_count" sCount f fd) : FnG P w K mg base 2 f fd ["value"] (spD K rCount) := by
  refine fn_data F scCount (fun ds d ⟨i, e, _⟩ => by subst e; rfl) fun cdv A outer s H E hr hgd hu ds d h => ?_
  obtain ⟨i, rfl, rfl⟩ := h
  exact s_ret (pd_and (pd_call C1 (pa_c (pd_v 0) pa_n) ⟨i, rfl, rfl⟩) fun _ => pd_one (pd_ge (pd_v 0) pd_int)) rfl
theorem scTuple : FnScope ["value", "least", "most"] ["value", "least", "most"] (defScope sTuple) := ⟨rfl, rfl, rfl, by decide +kernel, rfl, by decide +kernel, by decide +kernel⟩
def rTuple (ds : List Dt) (d : Dt) : Prop := ∃ (es : List Dt) (a b : Int), ds = [.tuple es, .int a, .int b] ∧ d = .bool (decide (a ≤ (es.length : Int)) && decide ((es.length : Int) ≤ b))
theorem f_tuple (T : T0 K mg) (F : Fun K "is_tuple" "is_tuple" sTuple f fd) : FnG P w K mg base 1 f fd ["value", "least", "most"] (spD K rTuple) := by
  refine fn_data F scTuple (fun ds d ⟨i, _, _, e, _⟩ => by subst e; rfl) fun cdv A outer s H E hr hgd hu ds d h => ?_
  obtain ⟨es, a, b, rfl, rfl⟩ := h
  exact s_ret (pd_and (pd_isi "tuple" "tuple" true T.isi T.tuple (pd_v 0)) fun _ => pd_one (pd_chain (pd_v 1) (pd_len_tup T.len (pa_c (pd_v 0) pa_n)) (pd_v 2))) rfl
theorem scList : FnScope ["value", "least", "most"] ["value", "least", "most"] (defScope sList) := ⟨rfl, rfl, rfl, by decide +kernel, rfl, by decide +kernel, by decide +kernel⟩
def isSeq (v : Dt) (es : List Dt) : Prop := v = .list es ∨ v = .tuple es
def rList (ds : List Dt) (d : Dt) : Prop := ∃ (v : Dt) (es : List Dt) (a b : Int), isSeq v es ∧ ds = [v, .int a, .int b] ∧ d = .bool (decide (a ≤ (es.length : Int)) && decide ((es.length : Int) ≤ b))
theorem f_list (T : T0 K mg) (F : Fun K "is_list" "is_list" sList f fd) : FnG P w K mg base 1 f fd ["value", "least", "most"] (spD K rList) := by
  refine fn_data F scList (fun ds d ⟨i, _, _, _, _, e, _⟩ => by subst e; rfl) fun cdv A outer s H E hr hgd hu ds d h => ?_
  obtain ⟨v, es, a, b, rfl | rfl, rfl, rfl⟩ := h
  · exact s_ret (pd_and (pd_isi2 "list" "list" "tuple" true false T.isi T.list T.tuple (pd_v 0)) fun _ => pd_one (pd_chain (pd_v 1) (pd_len_list T.len (pa_c (pd_v 0) pa_n)) (pd_v 2))) rfl
  · exact s_ret (pd_and (pd_isi2 "tuple" "list" "tuple" false true T.isi T.list T.tuple (pd_v 0)) fun _ => pd_one (pd_chain (pd_v 1) (pd_len_tup T.len (pa_c (pd_v 0) pa_n)) (pd_v 2))) rfl
theorem scWord : FnScope ["value", "words"] ["value", "words"] (defScope sWord) := ⟨rfl, rfl, rfl, by decide +kernel, rfl, by decide +kernel, by decide +kernel⟩
def rWord (ds : List Dt) (d : Dt) : Prop := ∃ (x : Str) (ss : List Str), ds = [.str x, .tuple (ss.map PyData.str)] ∧ d = .bool (ss.any fun y => y == x)
theorem f_word (T : T0 K mg) (F : Fun K "is_word" "is_word" sWord f fd) : FnG P w K mg base 1 f fd ["value", "words"] (spD K rWord) := by
  refine fn_data F scWord (fun ds d ⟨i, _, e, _⟩ => by subst e; rfl) fun cdv A outer s H E hr hgd hu ds d h => ?_
  obtain ⟨x, ss, rfl, rfl⟩ := h
  exact s_ret (pd_and (pd_isi "str" "str" true T.isi T.str (pd_v 0)) fun _ => pd_one (pd_inS (pd_v 0) (pd_v 1))) rfl
theorem scWithin : FnScope ["value", "least", "most"] ["value", "least", "most"] (defScope sWithin) := ⟨rfl, rfl, rfl, by decide +kernel, rfl, by decide +kernel, by decide +kernel⟩
def rWithin (ds : List Dt) (d : Dt) : Prop := ∃ i a b : Int, ds = [.int i, .int a, .int b] ∧ d = .bool (decide (a ≤ i) && decide (i ≤ b))
theorem f_within (C1 : Cal P w K mg base 1 "is_integer" ["value"] sInteger (spD K rInteger)) (F : Fun K "is_within" "is_within" sWithin f fd) : FnG P w K mg base 2 f fd ["value", "least", "most"] (spD K rWithin) := by
  refine fn_data F scWithin (fun ds d ⟨i, _, _, e, _⟩ => by subst e; rfl) fun cdv A outer s H E hr hgd hu ds d h => ?_
  obtain ⟨i, a, b, rfl, rfl⟩ := h
  exact s_ret (pd_and (pd_call C1 (pa_c (pd_v 0) pa_n) ⟨i, rfl, rfl⟩) fun _ => pd_one (pd_chain (pd_v 1) (pd_v 0) (pd_v 2))) rfl
theorem all_true {α : Type} {xs : List α} : (xs.map fun _ => true).all _root_.id = true := by rw [List.all_map]; exact List.all_eq_true.mpr fun _ _ => rfl
theorem scAreWithin : FnScope ["value", "many", "least", "most", "part"] ["value", "many", "least", "most"] (defScope sAreWithin) := ⟨rfl, rfl, rfl, by decide +kernel, rfl, by decide +kernel, by decide +kernel⟩
def rAreWithin (ds : List Dt) (d : Dt) : Prop := ∃ (ns : List Int) (n a b : Int), ((ns.length : Nat) : Int) = n ∧ ns.length ≤ 1000 ∧ (∀ i ∈ ns, a ≤ i ∧ i ≤ b) ∧ ds = [intsT ns, .int n, .int a, .int b] ∧ d = .bool true
theorem f_areWithin (T : T0 K mg) (C1 : Cal P w K mg base 1 "is_tuple" ["value", "least", "most"] sTuple (spD K rTuple)) (C2 : Cal P w K mg base 2 "is_within" ["value", "least", "most"] sWithin (spD K rWithin)) (F : Fun K "are_within" "are_within" sAreWithin f fd) : FnG P w K mg base 3 f fd ["value", "many", "least", "most"] (spD K rAreWithin) := by
  refine fn_data F scAreWithin (fun ds d ⟨_, _, _, _, _, _, _, e, _⟩ => by subst e; rfl) fun cdv A outer s H E hr hgd hu ds d h => ?_
  obtain ⟨ns, n, a, b, hn, few, hb, rfl, rfl⟩ := h
  refine s_if0 (pt_n (pt_v (pd_call C1 (d := .bool true) (pa_c (pd_v 0) (pa_c (pd_v 1) (pa_c (pd_v 1) pa_n))) ⟨_, n, n, rfl, by rw [List.length_map, hn, decide_eq_true (Int.le_refl n)]; rfl⟩))) ?_
  refine s_ret ((pd_all (bs := ns.map fun _ => true) rfl T.all (pa_c ((pd_map (xs := ns) (enc := PyData.int) (F := fun _ => .bool true) (own := [("part", 4)]) rfl scAreWithin.nd (i_tup (pd_v 0)) (blkOk_by (N := ["value", "many", "least", "most", "part"]) (sc := defScope sAreWithin) (by decide +kernel)) (by omega) (fun d => [.d (intsT ns), .d (.int n), .d (.int a), .d (.int b), .d d])
      (fun s H C cl fp i y hy => tg_name 4 scAreWithin.nd) (fun s H C cl fp i y hy => pd_call C2 (pa_c (pd_v 4) (pa_c (pd_v 2) (pa_c (pd_v 3) pa_n))) ⟨y, a, b, rfl, by rw [decide_eq_true (hb y (List.mem_of_getElem? hy)).1, decide_eq_true (hb y (List.mem_of_getElem? hy)).2]; rfl⟩)).is (by rw [List.map_map]; rfl)) pa_n)).is (d := .bool true) (by rw [all_true])) rfl
theorem scNamed : FnScope ["value", "word", "many"] ["value", "word", "many"] (defScope sNamed) := ⟨rfl, rfl, rfl, by decide +kernel, rfl, by decide +kernel, by decide +kernel⟩
def rNamed (ds : List Dt) (d : Dt) : Prop := ∃ (x : Str) (es : List Dt) (n : Int), ((es.length : Nat) : Int) + 1 = n ∧ ds = [.tuple (.str x :: es), .str x, .int n] ∧ d = .bool true
theorem f_named (C1 : Cal P w K mg base 1 "is_tuple" ["value", "least", "most"] sTuple (spD K rTuple)) (C2 : Cal P w K mg base 1 "is_word" ["value", "words"] sWord (spD K rWord)) (F : Fun K "is_named" "is_named" sNamed f fd) : FnG P w K mg base 2 f fd ["value", "word", "many"] (spD K rNamed) := by
  refine fn_data F scNamed (fun ds d ⟨_, _, _, _, e, _⟩ => by subst e; rfl) fun cdv A outer s H E hr hgd hu ds d h => ?_
  obtain ⟨x, es, n, hn, rfl, rfl⟩ := h
  exact s_ret (pd_and (u := true) (w := true) (pd_call C1 (pa_c (pd_v 0) (pa_c (pd_v 2) (pa_c (pd_v 2) pa_n))) ⟨_, n, n, rfl, by rw [List.length_cons]; rw [decide_eq_true (show n ≤ ((es.length + 1 : Nat) : Int) by omega), decide_eq_true (show ((es.length + 1 : Nat) : Int) ≤ n by omega)]; rfl⟩) fun _ => pd_one (pd_call C2 (pa_c (pd_ixT (d := .str x) (pd_v 0) pd_int (atI_nat (j := 0) rfl)) (pa_c (pd_tup (pa_c (pd_v 1) pa_n)) pa_n)) ⟨x, [x], rfl, by simp⟩)) rfl
theorem scTime : FnScope ["value", "departure", "arrival"] ["value"] (defScope sTime) := ⟨rfl, rfl, rfl, by decide +kernel, rfl, by decide +kernel, by decide +kernel⟩
def rTime (ds : List Dt) (d : Dt) : Prop := ∃ t : Int × Int, 0 ≤ t.1 ∧ t.1 ≤ t.2 ∧ ds = [tD t] ∧ d = .bool true
theorem f_time (C1 : Cal P w K mg base 1 "is_tuple" ["value", "least", "most"] sTuple (spD K rTuple)) (C2 : Cal P w K mg base 2 "is_count" ["value"] sCount (spD K rCount)) (F : Fun K "is_time" "is_time" sTime f fd) : FnG P w K mg base 3 f fd ["value"] (spD K rTime) := by
  refine fn_data F scTime (fun ds d ⟨_, _, _, e, _⟩ => by subst e; rfl) fun cdv A outer s H E hr hgd hu ds d h => ?_
  obtain ⟨t, h0, h1, rfl, rfl⟩ := h
  refine s_if0 (pt_n (pt_v (pd_call C1 (d := .bool true) (pa_c (pd_v 0) (pa_c pd_int (pa_c pd_int pa_n))) ⟨_, _, _, rfl, rfl⟩))) ?_
  refine s_asg (pd_v 0) (tg_tup rfl (tgs_cons (tg_name 1 scTime.nd) (tgs_cons (tg_name 2 scTime.nd) tgs_nil))) ?_
  exact s_ret (d := .bool (true && (true && true))) (pd_and (pd_call C2 (pa_c (pd_v 1) pa_n) ⟨t.1, rfl, by rw [decide_eq_true h0]⟩) fun _ => pd_and (pd_call C2 (pa_c (pd_v 2) pa_n) ⟨t.2, rfl, by rw [decide_eq_true (show 0 ≤ t.2 by omega)]⟩) fun _ => pd_one ((pd_le (pd_v 1) (pd_v 2)).is (by rw [decide_eq_true h1]))) rfl
theorem i_seq {X : Cx} {tg e : Expr} {δ : De} {v : Dt} {es : List Dt} (hs : isSeq v es) (h : PD X e δ v) : ID X tg e δ es := by
  rcases hs with rfl | rfl
  · exact i_list h
  · exact i_tup h
theorem pd_ixS {X : Cx} {a b : Expr} {δ : De} {pos : Pos} {v d : Dt} {es : List Dt} {i : Int} (hs : isSeq v es) (ha : PD X a δ v) (hb : PD X b δ (.int i)) (h : atI es i = some d) (hp : PlainIx b := by exact fun _ _ => rfl) : PD X (.Subscript a b pos) δ d := by
  rcases hs with rfl | rfl
  · exact pd_ixL ha hb h hp
  · exact pd_ixT ha hb h hp
theorem scTimes : FnScope ["value", "many", "part"] ["value", "many"] (defScope sTimes) := ⟨rfl, rfl, rfl, by decide +kernel, rfl, by decide +kernel, by decide +kernel⟩
def rTimes (ds : List Dt) (d : Dt) : Prop := ∃ (v : Dt) (ts : List (Int × Int)) (n : Int), isSeq v (ts.map tD) ∧ ((ts.length : Nat) : Int) = n ∧ ts.length ≤ 1000 ∧ (∀ t ∈ ts, 0 ≤ t.1 ∧ t.1 ≤ t.2) ∧ ds = [v, .int n] ∧ d = .bool true
theorem f_times (T : T0 K mg) (C1 : Cal P w K mg base 1 "is_list" ["value", "least", "most"] sList (spD K rList)) (C2 : Cal P w K mg base 3 "is_time" ["value"] sTime (spD K rTime)) (F : Fun K "are_times" "are_times" sTimes f fd) : FnG P w K mg base 4 f fd ["value", "many"] (spD K rTimes) := by
  refine fn_data F scTimes (fun ds d ⟨_, _, _, _, _, _, _, e, _⟩ => by subst e; rfl) fun cdv A outer s H E hr hgd hu ds d h => ?_
  obtain ⟨v, ts, n, hv, hn, few, hb, rfl, rfl⟩ := h
  refine s_if0 (pt_n (pt_v (pd_call C1 (d := .bool true) (pa_c (pd_v 0) (pa_c (pd_v 1) (pa_c (pd_v 1) pa_n))) ⟨v, _, n, n, hv, rfl, by rw [List.length_map, hn, decide_eq_true (Int.le_refl n)]; rfl⟩))) ?_
  refine s_ret ((pd_all (bs := ts.map fun _ => true) rfl T.all (pa_c ((pd_map (xs := ts) (enc := tD) (F := fun _ => .bool true) (own := [("part", 2)]) rfl scTimes.nd (i_seq hv (pd_v 0)) (blkOk_by (N := ["value", "many", "part"]) (sc := defScope sTimes) (by decide +kernel)) (by omega) (fun d => [.d v, .d (.int n), .d d])
      (fun s H C cl fp i y hy => tg_name 2 scTimes.nd) (fun s H C cl fp i y hy => pd_call C2 (pa_c (pd_v 2) pa_n) ⟨y, (hb y (List.mem_of_getElem? hy)).1, (hb y (List.mem_of_getElem? hy)).2, rfl, rfl⟩)).is (by rw [List.map_map]; rfl)) pa_n)).is (d := .bool true) (by rw [all_true])) rfl
theorem scBattery : FnScope ["value", "many", "full", "needs", "rate"] ["value", "many"] (defScope sBattery) := ⟨rfl, rfl, rfl, by decide +kernel, rfl, by decide +kernel, by decide +kernel⟩
def rBattery (ds : List Dt) (d : Dt) : Prop := ∃ (b : Bat) (n : Nat), b.ok n ∧ n ≤ 1000 ∧ ds = [b.d, .int ((n : Nat) : Int)] ∧ d = .bool true
theorem f_battery (T : T0 K mg) (C1 : Cal P w K mg base 1 "is_tuple" ["value", "least", "most"] sTuple (spD K rTuple)) (C2 : Cal P w K mg base 2 "is_within" ["value", "least", "most"] sWithin (spD K rWithin)) (C3 : Cal P w K mg base 3 "are_within" ["value", "many", "least", "most"] sAreWithin (spD K rAreWithin)) (F : Fun K "is_battery" "is_battery" sBattery f fd) : FnG P w K mg base 4 f fd ["value", "many"] (spD K rBattery) := by
  refine fn_data F scBattery (fun ds d ⟨_, _, _, _, e, _⟩ => by subst e; rfl) fun cdv A outer s H E hr hgd hu ds d h => ?_
  obtain ⟨b, n, ok, few, rfl, rfl⟩ := h
  obtain ⟨tf, hf⟩ := T.full
  obtain ⟨tr, hrt⟩ := T.rate
  refine s_if0 (pt_n (pt_v (pd_call C1 (d := .bool true) (pa_c (pd_v 0) (pa_c pd_int (pa_c pd_int pa_n))) ⟨_, _, _, rfl, rfl⟩))) ?_
  refine s_asg (pd_v 0) (tg_tup rfl (tgs_cons (tg_name 2 scBattery.nd) (tgs_cons (tg_name 3 scBattery.nd) (tgs_cons (tg_name 4 scBattery.nd) tgs_nil)))) ?_
  refine s_if0 (XW.pt (pw_o (u := !true) (pt_n (pt_v (pd_call C2 (d := .bool true) (pa_c (pd_v 2) (pa_c pd_int (pa_c (pd_glob (v := .int 99) rfl hf ⟨tf, rfl⟩ fun G => .int 99) pa_n))) ⟨b.full, 1, 99, rfl, by rw [decide_eq_true ok.f1, decide_eq_true ok.f2]; rfl⟩))) fun _ => pw_o1 (pt_n (u := true) (pt_v (pd_call C2 (d := .bool true) (pa_c (pd_v 4) (pa_c pd_int (pa_c (pd_glob (v := .int 9) rfl hrt ⟨tr, rfl⟩ fun G => .int 9) pa_n))) ⟨b.rate, 1, 9, rfl, by rw [decide_eq_true ok.r1, decide_eq_true ok.r2]; rfl⟩))))) ?_
  exact s_ret (pd_call C3 (pa_c (pd_v 3) (pa_c (pd_v 1) (pa_c pd_int (pa_c (pd_v 2) pa_n)))) ⟨b.needs, _, 1, b.full, by rw [ok.nl], by rw [ok.nl]; exact few, ok.nb, rfl, rfl⟩) rfl
theorem scForm : FnScope ["value", "_", "trips", "turns", "battery", "many", "trip"] ["value"] (defScope sForm) := ⟨rfl, rfl, rfl, by decide +kernel, rfl, by decide +kernel, by decide +kernel⟩
def rForm (ds : List Dt) (d : Dt) : Prop := ∃ x : Blk, x.ok ∧ ds = [x.d] ∧ d = .bool true
theorem f_form (T : T0 K mg) (C1 : Cal P w K mg base 2 "is_named" ["value", "word", "many"] sNamed (spD K rNamed)) (C2 : Cal P w K mg base 1 "is_tuple" ["value", "least", "most"] sTuple (spD K rTuple)) (C3 : Cal P w K mg base 2 "is_count" ["value"] sCount (spD K rCount)) (C4 : Cal P w K mg base 3 "are_within" ["value", "many", "least", "most"] sAreWithin (spD K rAreWithin))
    (C5 : Cal P w K mg base 4 "is_battery" ["value", "many"] sBattery (spD K rBattery)) (F : Fun K "is_block_form" "is_block_form" sForm f fd) : FnG P w K mg base 5 f fd ["value"] (spD K rForm) := by
  refine fn_data F scForm (fun ds d ⟨_, _, e, _⟩ => by subst e; rfl) fun cdv A outer s H E hr hgd hu ds d h => ?_
  obtain ⟨x, ok, rfl, rfl⟩ := h
  obtain ⟨tt, ht⟩ := T.trips
  obtain ⟨tu, htu⟩ := T.turn
  have n1 := ok.n1
  have n2 := ok.n2
  have tl := ok.tl
  refine s_if0 (pt_n (pt_v (pd_call C1 (d := .bool true) (pa_c (pd_v 0) (pa_c pd_str (pa_c pd_int pa_n))) ⟨"block", _, 4, rfl, rfl, rfl⟩))) ?_
  refine s_asg (pd_v 0) (tg_tup rfl (tgs_cons (tg_name 1 scForm.nd) (tgs_cons (tg_name 2 scForm.nd) (tgs_cons (tg_name 3 scForm.nd) (tgs_cons (tg_name 4 scForm.nd) tgs_nil))))) ?_
  refine s_if0 (XW.pt (pw_o (u := !true) (pt_n (pt_v (pd_call C2 (d := .bool true) (pa_c (pd_v 2) (pa_c pd_int (pa_c (pd_glob (v := .int 16) rfl ht ⟨tt, rfl⟩ fun G => .int 16) pa_n))) ⟨_, 1, 16, rfl, by rw [List.length_map, decide_eq_true (show (1 : Int) ≤ ((x.trips.length : Nat) : Int) by omega), decide_eq_true (show ((x.trips.length : Nat) : Int) ≤ 16 by omega)]; rfl⟩))) fun _ => pw_o1 (pt_n (u := true) (pt_v ((pd_all (bs := x.trips.map fun _ => true) rfl T.all
    (pa_c ((pd_map (xs := x.trips) (enc := PyData.int) (F := fun _ => .bool true) (own := [("trip", 6)]) rfl scForm.nd (i_tup (pd_v 2)) (blkOk_by (N := ["value", "_", "trips", "turns", "battery", "many", "trip"]) (sc := defScope sForm) (by decide +kernel)) (by omega) (fun d => [.d x.d, .d (.str "block"), .d (intsT x.trips), .d (intsT x.turns), .d (batD x.bat), .no, .d d])
      (fun s H C cl fp i y hy => tg_name 6 scForm.nd) (fun s H C cl fp i y hy => pd_call C3 (pa_c (pd_v 6) pa_n) ⟨y, rfl, by rw [decide_eq_true (ok.tr y (List.mem_of_getElem? hy)).1]⟩)).is (by rw [List.map_map]; rfl)) pa_n)).is (d := .bool true) (by rw [all_true])))))) ?_
  refine s_set 5 scForm.nd ((pd_len_tup T.len (pa_c (pd_v 2) pa_n)).is (d := .int ((x.trips.length : Nat) : Int)) (by rw [List.length_map])) ?_
  refine s_if0 (XW.pt (pw_o (u := false) (pt_neIs (pd_lenSetT T.len T.set (pd_v 2) ok.nd (by omega)) (pd_v 5)) fun _ => pw_o1 (pt_n (u := true) (pt_v (pd_call C4 (d := .bool true) (pa_c (pd_v 3) (pa_c (pd_sub (pd_v 5) pd_int) (pa_c pd_int (pa_c (pd_glob (v := .int 60) rfl htu ⟨tu, rfl⟩ fun G => .int 60) pa_n)))) ⟨x.turns, _, 0, 60, by omega, by omega, ok.tb, rfl, rfl⟩))))) ?_
  obtain ⟨bt, hbt⟩ : ∃ bt, bt = x.bat := ⟨_, rfl⟩
  cases bt with
  | none => exact s_ret (pd_or (u := true) (w := true) (pd_isN ((pd_v 4).is (d := .none) (by rw [← hbt]; rfl)) pd_non) fun h => Bool.noConfusion h) rfl
  | some b => exact s_ret (pd_or (u := false) (w := true) (pd_isN ((pd_v 4).is (d := b.d) (by rw [← hbt]; rfl)) pd_non) fun _ => pd_one (pd_call C5 (pa_c ((pd_v 4).is (d := b.d) (by rw [← hbt]; rfl)) (pa_c (pd_v 5) pa_n)) ⟨b, _, ok.bt b hbt.symm, by omega, rfl, rfl⟩)) rfl
theorem scCkBlock : FnScope ["block"] ["block"] (defScope sCkBlock) := ⟨rfl, rfl, rfl, by decide +kernel, rfl, by decide +kernel, by decide +kernel⟩
def rCkBlock (ds : List Dt) (d : Dt) : Prop := ∃ x : Blk, x.ok ∧ ds = [x.d] ∧ d = .none
theorem f_ckblock (C1 : Cal P w K mg base 5 "is_block_form" ["value"] sForm (spD K rForm)) (F : Fun K "check_block" "check_block" sCkBlock f fd) : FnG P w K mg base 6 f fd ["block"] (spD K rCkBlock) := by
  refine fn_data F scCkBlock (fun ds d ⟨_, _, e, _⟩ => by subst e; rfl) fun cdv A outer s H E hr hgd hu ds d h => ?_
  obtain ⟨x, ok, rfl, rfl⟩ := h
  exact s_if0 (pt_n (pt_v (pd_call C1 (d := .bool true) (pa_c (pd_v 0) pa_n) ⟨x, ok, rfl, rfl⟩))) (ss_nil rfl)
end
end K21

set_option linter.all false
set_option maxRecDepth 100000
set_option maxHeartbeats 2000000
namespace K21
open PySem PySem.Spec PyProof.Rows L2 Dv
theorem Blk.ok.turn_lt {x : Blk} (ok : x.ok) {p : Nat} (h1 : 1 ≤ p) (h2 : p < x.trips.length) : p - 1 < x.turns.length := by have := ok.tl; omega
theorem Blk.ok.turn_b {x : Blk} (ok : x.ok) {p : Nat} (h1 : 1 ≤ p) (h2 : p < x.trips.length) : 0 ≤ turnL x p ∧ turnL x p ≤ 60 := ok.tb _ (getD_mem (ok.turn_lt h1 h2))
theorem at_turn {x : Blk} (ok : x.ok) {p : Nat} (h1 : 1 ≤ p) (h2 : p < x.trips.length) : atI (x.turns.map PyData.int) (((p : Nat) : Int) - 1) = some (.int (turnL x p)) := by
  have e : ((p : Nat) : Int) - 1 = ((p - 1 : Nat) : Int) := by omega
  rw [e]; exact at_ints (ok.turn_lt h1 h2)
theorem at_need {b : Bat} {n p : Nat} (ok : b.ok n) (h : p < n) : atI (b.needs.map PyData.int) ((p : Nat) : Int) = some (.int (need b p)) := at_ints (by rw [ok.nl]; exact h)
section
variable {P : Program} {w : World} {K : Fg} {mg : Str → Option Value} {base : Heap} {f : Addr} {fd : FuncData}
theorem scCkStanding : FnScope ["block", "place", "level", "_", "trips", "battery"] ["block", "place", "level"] (defScope sCkStanding) := ⟨rfl, rfl, rfl, by decide +kernel, rfl, by decide +kernel, by decide +kernel⟩
def rCkStanding (ds : List Dt) (d : Dt) : Prop := ∃ (x : Blk) (p : Nat) (l : Dt), x.ok ∧ 1 ≤ p ∧ p < x.trips.length ∧ LvOk x l ∧ ds = [x.d, .int ((p : Nat) : Int), l] ∧ d = .none
theorem f_ckstanding (T : T0 K mg) (C1 : Cal P w K mg base 6 "check_block" ["block"] sCkBlock (spD K rCkBlock)) (C2 : Cal P w K mg base 2 "is_within" ["value", "least", "most"] sWithin (spD K rWithin)) (F : Fun K "check_standing" "check_standing" sCkStanding f fd) : FnG P w K mg base 7 f fd ["block", "place", "level"] (spD K rCkStanding) := by
  refine fn_data F scCkStanding (fun ds d ⟨_, _, _, _, _, _, _, e, _⟩ => by subst e; rfl) fun cdv A outer s H E hr hgd hu ds d h => ?_
  obtain ⟨x, p, l, ok, p1, p2, lv, rfl, rfl⟩ := h
  refine s_expr (pd_call C1 (pa_c (pd_v 0) pa_n) ⟨x, ok, rfl, rfl⟩) ?_
  refine s_asg (pd_v 0) (tg_tup rfl (tgs_cons (tg_name 3 scCkStanding.nd) (tgs_cons (tg_name 4 scCkStanding.nd) (tgs_cons (tg_name 3 scCkStanding.nd) (tgs_cons (tg_name 5 scCkStanding.nd) tgs_nil))))) ?_
  refine s_if0 (pt_n (u := true) (pt_v (pd_call C2 (d := .bool true) (pa_c (pd_v 1) (pa_c pd_int (pa_c (pd_sub (pd_len_tup T.len (pa_c (pd_v 4) pa_n)) pd_int) pa_n))) ⟨((p : Nat) : Int), 1, _, rfl, by rw [List.length_map, decide_eq_true (show (1 : Int) ≤ ((p : Nat) : Int) by omega), decide_eq_true (show ((p : Nat) : Int) ≤ ((x.trips.length : Nat) : Int) - 1 by omega)]; rfl⟩))) ?_
  obtain ⟨bt, hbt⟩ : ∃ bt, bt = x.bat := ⟨_, rfl⟩
  unfold LvOk at lv
  rw [← hbt] at lv
  cases bt with
  | none =>
    subst lv
    refine s_if0 (XW.pt (pw_a (u := true) (w := false) (pt_isN ((pd_v 5).is (d := .none) (by rw [← hbt]; rfl)) pd_non) fun _ => pw_a1 (pt_notN (pd_v 2) pd_non))) ?_
    exact s_if0 (XW.pt (pw_a (u := false) (w := false) (pt_notN ((pd_v 5).is (d := .none) (by rw [← hbt]; rfl)) pd_non) fun h => Bool.noConfusion h)) (ss_nil rfl)
  | some b =>
    obtain ⟨v, v0, v1, rfl⟩ := lv
    refine s_if0 (XW.pt (pw_a (u := false) (w := false) (pt_isN ((pd_v 5).is (d := b.d) (by rw [← hbt]; rfl)) pd_non) fun h => Bool.noConfusion h)) ?_
    exact s_if0 (XW.pt (pw_a (u := true) (w := !true) (pt_notN ((pd_v 5).is (d := b.d) (by rw [← hbt]; rfl)) pd_non) fun _ => pw_a1 (pt_n (pt_v (pd_call C2 (d := .bool true) (pa_c (pd_v 2) (pa_c pd_int (pa_c (pd_ixT ((pd_v 5).is (d := b.d) (by rw [← hbt]; rfl)) pd_int rfl) pa_n))) ⟨v, 0, b.full, rfl, by rw [decide_eq_true v0, decide_eq_true v1]; rfl⟩))))) (ss_nil rfl)
theorem scCkArrived : FnScope ["block", "place", "level", "arrival"] ["block", "place", "level", "arrival"] (defScope sCkArrived) := ⟨rfl, rfl, rfl, by decide +kernel, rfl, by decide +kernel, by decide +kernel⟩
def rCkArrived (ds : List Dt) (d : Dt) : Prop := ∃ (x : Blk) (p : Nat) (l : Dt) (a : Int), x.ok ∧ 1 ≤ p ∧ p < x.trips.length ∧ LvOk x l ∧ 0 ≤ a ∧ ds = [x.d, .int ((p : Nat) : Int), l, .int a] ∧ d = .none
theorem f_ckarrived (C1 : Cal P w K mg base 7 "check_standing" ["block", "place", "level"] sCkStanding (spD K rCkStanding)) (C2 : Cal P w K mg base 2 "is_count" ["value"] sCount (spD K rCount)) (F : Fun K "check_arrived" "check_arrived" sCkArrived f fd) : FnG P w K mg base 8 f fd ["block", "place", "level", "arrival"] (spD K rCkArrived) := by
  refine fn_data F scCkArrived (fun ds d ⟨_, _, _, _, _, _, _, _, _, e, _⟩ => by subst e; rfl) fun cdv A outer s H E hr hgd hu ds d h => ?_
  obtain ⟨x, p, l, a, ok, p1, p2, lv, a0, rfl, rfl⟩ := h
  refine s_expr (pd_call C1 (pa_c (pd_v 0) (pa_c (pd_v 1) (pa_c (pd_v 2) pa_n))) ⟨x, p, l, ok, p1, p2, lv, rfl, rfl⟩) ?_
  exact s_if0 (pt_n (u := true) (pt_v (pd_call C2 (d := .bool true) (pa_c (pd_v 3) pa_n) ⟨a, rfl, by rw [decide_eq_true a0]⟩))) (ss_nil rfl)
theorem scFirst : FnScope ["block", "battery"] ["block"] (defScope sFirst) := ⟨rfl, rfl, rfl, by decide +kernel, rfl, by decide +kernel, by decide +kernel⟩
def rFirst (ds : List Dt) (d : Dt) : Prop := ∃ x : Blk, x.ok ∧ ds = [x.d] ∧ d = firstL x
theorem f_first (C1 : Cal P w K mg base 6 "check_block" ["block"] sCkBlock (spD K rCkBlock)) (F : Fun K "first_level" "first_level" sFirst f fd) : FnG P w K mg base 7 f fd ["block"] (spD K rFirst) := by
  refine fn_data F scFirst (fun ds d ⟨_, _, e, _⟩ => by subst e; rfl) fun cdv A outer s H E hr hgd hu ds d h => ?_
  obtain ⟨x, ok, rfl, rfl⟩ := h
  have n1 := ok.n1
  refine s_expr (pd_call C1 (pa_c (pd_v 0) pa_n) ⟨x, ok, rfl, rfl⟩) ?_
  refine s_set 1 scFirst.nd (pd_ixT (d := batD x.bat) (pd_v 0) pd_int rfl) ?_
  obtain ⟨bt, hbt⟩ : ∃ bt, bt = x.bat := ⟨_, rfl⟩
  unfold firstL
  rw [← hbt]
  cases bt with
  | none => exact s_ret (pd_if (k := true) (pt_isN (pd_v 1) pd_non) (fun _ => pd_non) fun h => Bool.noConfusion h) rfl
  | some b => exact s_ret (pd_if (k := false) (pt_isN ((pd_v 1).is (d := b.d) rfl) pd_non) (fun h => Bool.noConfusion h) fun _ => pd_sub (pd_ixT ((pd_v 1).is (d := b.d) rfl) pd_int rfl) (pd_ixT (pd_ixT (d := intsT b.needs) ((pd_v 1).is (d := b.d) rfl) pd_int rfl) pd_int (at_need (p := 0) (ok.bt b hbt.symm) (by omega)))) rfl
theorem scLackOf : FnScope ["block", "place", "level", "battery", "_", "needs", "rate"] ["block", "place", "level"] (defScope sLackOf) := ⟨rfl, rfl, rfl, by decide +kernel, rfl, by decide +kernel, by decide +kernel⟩
def rLackOf (ds : List Dt) (d : Dt) : Prop := ∃ (x : Blk) (p : Nat) (l : Dt), x.ok ∧ p < x.trips.length ∧ LvOk x l ∧ ds = [x.d, .int ((p : Nat) : Int), l] ∧ d = .int (lackL x p l)
theorem f_lackOf (T : T0 K mg) (F : Fun K "lack_of" "lack_of" sLackOf f fd) : FnG P w K mg base 1 f fd ["block", "place", "level"] (spD K rLackOf) := by
  refine fn_data F scLackOf (fun ds d ⟨_, _, _, _, _, _, e, _⟩ => by subst e; rfl) fun cdv A outer s H E hr hgd hu ds d h => ?_
  obtain ⟨x, p, l, ok, p2, lv, rfl, rfl⟩ := h
  refine s_set 3 scLackOf.nd (pd_ixT (d := batD x.bat) (pd_v 0) pd_int rfl) ?_
  obtain ⟨bt, hbt⟩ : ∃ bt, bt = x.bat := ⟨_, rfl⟩
  unfold LvOk at lv
  unfold lackL
  rw [← hbt] at lv ⊢
  cases bt with
  | none => exact s_if (k := true) (pt_isN (pd_v 3) pd_non) (fun _ => s_ret pd_int rfl) fun h => Bool.noConfusion h
  | some b =>
    obtain ⟨v, v0, v1, rfl⟩ := lv
    have bo := ok.bt b hbt.symm
    have r1 := bo.r1
    have r2 := bo.r2
    refine s_if0 (pt_isN ((pd_v 3).is (d := b.d) rfl) pd_non) ?_
    refine s_asg ((pd_v 3).is (d := b.d) rfl) (tg_tup rfl (tgs_cons (tg_name 4 scLackOf.nd) (tgs_cons (tg_name 5 scLackOf.nd) (tgs_cons (tg_name 6 scLackOf.nd) tgs_nil)))) ?_
    exact s_ret (pd_max2 rfl T.max (pa_c pd_int (pa_c (pd_fdiv (pd_sub (pd_add (pd_sub (pd_ixT (pd_v 5) (pd_v 1) (at_need bo p2)) (pd_v 2)) (pd_v 6)) pd_int) (pd_v 6) ⟨by omega, by omega⟩) pa_n))) rfl
theorem scReadyAt : FnScope ["block", "place", "level", "arrival"] ["block", "place", "level", "arrival"] (defScope sReadyAt) := ⟨rfl, rfl, rfl, by decide +kernel, rfl, by decide +kernel, by decide +kernel⟩
def rReadyAt (ds : List Dt) (d : Dt) : Prop := ∃ (x : Blk) (p : Nat) (l : Dt) (a : Int), x.ok ∧ 1 ≤ p ∧ p < x.trips.length ∧ LvOk x l ∧ ds = [x.d, .int ((p : Nat) : Int), l, .int a] ∧ d = .int (readyL x p l a)
theorem f_readyAt (T : T0 K mg) (C1 : Cal P w K mg base 1 "lack_of" ["block", "place", "level"] sLackOf (spD K rLackOf)) (F : Fun K "ready_at" "ready_at" sReadyAt f fd) : FnG P w K mg base 2 f fd ["block", "place", "level", "arrival"] (spD K rReadyAt) := by
  refine fn_data F scReadyAt (fun ds d ⟨_, _, _, _, _, _, _, _, e, _⟩ => by subst e; rfl) fun cdv A outer s H E hr hgd hu ds d h => ?_
  obtain ⟨x, p, l, a, ok, p1, p2, lv, rfl, rfl⟩ := h
  exact s_ret (pd_add (pd_v 3) (pd_max2 rfl T.max (pa_c (pd_ixT (pd_ixT (d := intsT x.turns) (pd_v 0) pd_int rfl) (pd_sub (pd_v 1) pd_int) (at_turn ok p1 p2)) (pa_c (pd_call C1 (pa_c (pd_v 0) (pa_c (pd_v 1) (pa_c (pd_v 2) pa_n))) ⟨x, p, l, ok, p2, lv, rfl, rfl⟩) pa_n)))) rfl
theorem scBehind : FnScope ["block", "place", "level", "minutes", "battery", "full", "needs", "rate"] ["block", "place", "level", "minutes"] (defScope sBehind) := ⟨rfl, rfl, rfl, by decide +kernel, rfl, by decide +kernel, by decide +kernel⟩
def rBehind (ds : List Dt) (d : Dt) : Prop := ∃ (x : Blk) (p : Nat) (l : Dt) (m : Int), x.ok ∧ p < x.trips.length ∧ LvOk x l ∧ ds = [x.d, .int ((p : Nat) : Int), l, .int m] ∧ d = levL x p l m
theorem f_behind (T : T0 K mg) (F : Fun K "level_behind" "level_behind" sBehind f fd) : FnG P w K mg base 1 f fd ["block", "place", "level", "minutes"] (spD K rBehind) := by
  refine fn_data F scBehind (fun ds d ⟨_, _, _, _, _, _, _, e, _⟩ => by subst e; rfl) fun cdv A outer s H E hr hgd hu ds d h => ?_
  obtain ⟨x, p, l, m, ok, p2, lv, rfl, rfl⟩ := h
  refine s_set 4 scBehind.nd (pd_ixT (d := batD x.bat) (pd_v 0) pd_int rfl) ?_
  obtain ⟨bt, hbt⟩ : ∃ bt, bt = x.bat := ⟨_, rfl⟩
  unfold LvOk at lv
  unfold levL
  rw [← hbt] at lv ⊢
  cases bt with
  | none => exact s_if (k := true) (pt_isN (pd_v 4) pd_non) (fun _ => s_ret pd_non rfl) fun h => Bool.noConfusion h
  | some b =>
    obtain ⟨v, v0, v1, rfl⟩ := lv
    have bo := ok.bt b hbt.symm
    have r1 := bo.r1
    have r2 := bo.r2
    refine s_if0 (pt_isN ((pd_v 4).is (d := b.d) rfl) pd_non) ?_
    refine s_asg ((pd_v 4).is (d := b.d) rfl) (tg_tup rfl (tgs_cons (tg_name 5 scBehind.nd) (tgs_cons (tg_name 6 scBehind.nd) (tgs_cons (tg_name 7 scBehind.nd) tgs_nil)))) ?_
    exact s_ret (pd_sub (pd_min2 rfl T.min (pa_c (pd_v 5) (pa_c (pd_add (pd_v 2) (pd_mul (pd_v 7) (pd_v 3) (.inl (by omega)))) pa_n))) (pd_ixT (pd_v 6) (pd_v 1) (at_need bo p2))) rfl
theorem scLack : FnScope ["block", "place", "level"] ["block", "place", "level"] (defScope sLack) := ⟨rfl, rfl, rfl, by decide +kernel, rfl, by decide +kernel, by decide +kernel⟩
def rLack (ds : List Dt) (d : Dt) : Prop := ∃ (x : Blk) (p : Nat) (l : Dt), x.ok ∧ 1 ≤ p ∧ p < x.trips.length ∧ LvOk x l ∧ ds = [x.d, .int ((p : Nat) : Int), l] ∧ d = .int (lackL x p l)
theorem f_lack (C1 : Cal P w K mg base 7 "check_standing" ["block", "place", "level"] sCkStanding (spD K rCkStanding)) (C2 : Cal P w K mg base 1 "lack_of" ["block", "place", "level"] sLackOf (spD K rLackOf)) (F : Fun K "lack" "lack" sLack f fd) : FnG P w K mg base 8 f fd ["block", "place", "level"] (spD K rLack) := by
  refine fn_data F scLack (fun ds d ⟨_, _, _, _, _, _, _, e, _⟩ => by subst e; rfl) fun cdv A outer s H E hr hgd hu ds d h => ?_
  obtain ⟨x, p, l, ok, p1, p2, lv, rfl, rfl⟩ := h
  exact s_expr (pd_call C1 (pa_c (pd_v 0) (pa_c (pd_v 1) (pa_c (pd_v 2) pa_n))) ⟨x, p, l, ok, p1, p2, lv, rfl, rfl⟩) (s_ret (pd_call C2 (pa_c (pd_v 0) (pa_c (pd_v 1) (pa_c (pd_v 2) pa_n))) ⟨x, p, l, ok, p2, lv, rfl, rfl⟩) rfl)
theorem scReady : FnScope ["block", "place", "level", "arrival"] ["block", "place", "level", "arrival"] (defScope sReady) := ⟨rfl, rfl, rfl, by decide +kernel, rfl, by decide +kernel, by decide +kernel⟩
def rReady (ds : List Dt) (d : Dt) : Prop := ∃ (x : Blk) (p : Nat) (l : Dt) (a : Int), x.ok ∧ 1 ≤ p ∧ p < x.trips.length ∧ LvOk x l ∧ 0 ≤ a ∧ ds = [x.d, .int ((p : Nat) : Int), l, .int a] ∧ d = .int (readyL x p l a)
theorem f_ready (C1 : Cal P w K mg base 8 "check_arrived" ["block", "place", "level", "arrival"] sCkArrived (spD K rCkArrived)) (C2 : Cal P w K mg base 2 "ready_at" ["block", "place", "level", "arrival"] sReadyAt (spD K rReadyAt)) (F : Fun K "ready" "ready" sReady f fd) : FnG P w K mg base 9 f fd ["block", "place", "level", "arrival"] (spD K rReady) := by
  refine fn_data F scReady (fun ds d ⟨_, _, _, _, _, _, _, _, _, e, _⟩ => by subst e; rfl) fun cdv A outer s H E hr hgd hu ds d h => ?_
  obtain ⟨x, p, l, a, ok, p1, p2, lv, a0, rfl, rfl⟩ := h
  exact s_expr (pd_call C1 (pa_c (pd_v 0) (pa_c (pd_v 1) (pa_c (pd_v 2) (pa_c (pd_v 3) pa_n)))) ⟨x, p, l, a, ok, p1, p2, lv, a0, rfl, rfl⟩) (s_ret (pd_call C2 (pa_c (pd_v 0) (pa_c (pd_v 1) (pa_c (pd_v 2) (pa_c (pd_v 3) pa_n)))) ⟨x, p, l, a, ok, p1, p2, lv, rfl, rfl⟩) rfl)
theorem scCharged : FnScope ["block", "place", "level", "arrival", "departure"] ["block", "place", "level", "arrival", "departure"] (defScope sCharged) := ⟨rfl, rfl, rfl, by decide +kernel, rfl, by decide +kernel, by decide +kernel⟩
def rCharged (ds : List Dt) (d : Dt) : Prop := ∃ (x : Blk) (p : Nat) (l : Dt) (a t : Int), x.ok ∧ 1 ≤ p ∧ p < x.trips.length ∧ LvOk x l ∧ 0 ≤ a ∧ readyL x p l a ≤ t ∧ 0 ≤ t ∧ ds = [x.d, .int ((p : Nat) : Int), l, .int a, .int t] ∧ d = levL x p l (t - a)
theorem f_charged (C1 : Cal P w K mg base 8 "check_arrived" ["block", "place", "level", "arrival"] sCkArrived (spD K rCkArrived)) (C2 : Cal P w K mg base 2 "is_count" ["value"] sCount (spD K rCount)) (C3 : Cal P w K mg base 2 "ready_at" ["block", "place", "level", "arrival"] sReadyAt (spD K rReadyAt)) (C4 : Cal P w K mg base 1 "level_behind" ["block", "place", "level", "minutes"] sBehind (spD K rBehind))
    (F : Fun K "charged" "charged" sCharged f fd) : FnG P w K mg base 9 f fd ["block", "place", "level", "arrival", "departure"] (spD K rCharged) := by
  refine fn_data F scCharged (fun ds d ⟨_, _, _, _, _, _, _, _, _, _, _, _, e, _⟩ => by subst e; rfl) fun cdv A outer s H E hr hgd hu ds d h => ?_
  obtain ⟨x, p, l, a, t, ok, p1, p2, lv, a0, ht, t0, rfl, rfl⟩ := h
  refine s_expr (pd_call C1 (pa_c (pd_v 0) (pa_c (pd_v 1) (pa_c (pd_v 2) (pa_c (pd_v 3) pa_n)))) ⟨x, p, l, a, ok, p1, p2, lv, a0, rfl, rfl⟩) ?_
  refine s_if0 (XW.pt (pw_o (u := !true) (w := false) (pt_n (pt_v (pd_call C2 (d := .bool true) (pa_c (pd_v 4) pa_n) ⟨t, rfl, by rw [decide_eq_true t0]⟩))) fun _ => pw_o1 ((pt_lt (pd_v 4) (pd_call C3 (pa_c (pd_v 0) (pa_c (pd_v 1) (pa_c (pd_v 2) (pa_c (pd_v 3) pa_n)))) ⟨x, p, l, a, ok, p1, p2, lv, rfl, rfl⟩)).mono fun c e => by rw [e, decide_eq_false (by omega)]))) ?_
  exact s_ret (pd_call C4 (pa_c (pd_v 0) (pa_c (pd_v 1) (pa_c (pd_v 2) (pa_c (pd_sub (pd_v 4) (pd_v 3)) pa_n)))) ⟨x, p, l, t - a, ok, p2, lv, rfl, rfl⟩) rfl
abbrev NL : List Str := ["block", "times", "many", "found", "place", "level", "arrival", "departure"]
theorem scLevels : FnScope NL ["block", "times"] (defScope sLevels) := ⟨rfl, rfl, rfl, by decide +kernel, rfl, by decide +kernel, by decide +kernel⟩
def rLevels (ds es : List Dt) : Prop := ∃ (x : Blk) (v : Dt) (ts : List (Int × Int)), x.ok ∧ isSeq v (ts.map tD) ∧ Row x ts es ∧ ts.length = x.trips.length ∧ ds = [x.d, v]
theorem f_levels (T : T0 K mg) (C1 : Cal P w K mg base 6 "check_block" ["block"] sCkBlock (spD K rCkBlock)) (C2 : Cal P w K mg base 4 "are_times" ["value", "many"] sTimes (spD K rTimes)) (C3 : Cal P w K mg base 7 "first_level" ["block"] sFirst (spD K rFirst)) (C4 : Cal P w K mg base 2 "ready_at" ["block", "place", "level", "arrival"] sReadyAt (spD K rReadyAt)) (C5 : Cal P w K mg base 1 "level_behind" ["block", "place", "level", "minutes"] sBehind (spD K rBehind))
    (F : Fun K "levels" "levels" sLevels f fd) : FnG P w K mg base 8 f fd ["block", "times"] (spO K rLevels) := by
  refine fn_own F scLevels (fun ds d ⟨_, _, _, _, _, _, _, e⟩ => by subst e; rfl) fun cdv A outer s H E hr hgd hu ds es h => ?_
  obtain ⟨x, v, ts, ok, hv, row, hl, rfl⟩ := h
  have n1 := ok.n1
  have n2 := ok.n2
  refine s_expr (pd_call C1 (pa_c (pd_v 0) pa_n) ⟨x, ok, rfl, rfl⟩) ?_
  refine s_set 2 scLevels.nd ((pd_len_tup T.len (pa_c (pd_ixT (d := intsT x.trips) (pd_v 0) pd_int rfl) pa_n)).is (d := .int ((x.trips.length : Nat) : Int)) (by rw [List.length_map])) ?_
  refine s_if0 (pt_n (u := true) (pt_v (pd_call C2 (d := .bool true) (pa_c (pd_v 1) (pa_c (pd_v 2) pa_n)) ⟨v, ts, _, hv, by rw [hl], by omega, row.tm, rfl, rfl⟩))) ?_
  have e1 : es.take 1 = [firstL x] := by
    rw [List.take_add_one]
    rw [row.first]
    simp
  refine ss_seq (N := fun y => y = [.d x.d, .d v, .d (.int ((x.trips.length : Nat) : Int)), .own (es.take 1), .no, .no, .no, .no]) (sd_own (S := fun y => y = es.take 1) 3 scLevels.nd (xo_lst (pa_c (pd_call C3 (pa_c (pd_v 0) pa_n) ⟨x, ok, rfl, rfl⟩) pa_n) (fun ds e => by rw [e]; simp) |> fun h => PE.imp h fun σ H Q ⟨p, B, G, i3, en, q⟩ => ⟨p, B, G, i3, en, fun l xs ds G' H' r => q l xs ds G' H' (by rw [r, e1])⟩) fun ds e => by rw [e]; rfl) fun δ' e => ?_
  subst e
  refine ss_seq (N := fun y => ∃ e4 e5 e6 e7, y = [.d x.d, .d v, .d (.int ((x.trips.length : Nat) : Int)), .own es, e4, e5, e6, e7]) (sd_for (js := [4]) PassesOwn.never rfl (i_rng2 (i := 1) (j := ((x.trips.length : Nat) : Int)) (pa_c pd_int (pa_c (pd_v 2) pa_n)) T.range (by omega))
    (fun _ i y => ∃ e4 e5 e6 e7, y = [.d x.d, .d v, .d (.int ((x.trips.length : Nat) : Int)), .own (es.take (i + 1)), e4, e5, e6, e7]) (fun _ _ => ⟨.no, .no, .no, .no, rfl⟩) (fun d δ' => δ'.set 4 (.d d)) (fun ds i d δ' e h iv => tg_name 4 scLevels.nd) (fun ds i d δ' e h ⟨e4, e5, e6, e7, iv⟩ => ?_) (fun ds δ' e ⟨e4, e5, e6, e7, iv⟩ => ⟨e4, e5, e6, e7, ?_⟩)) (fun δ' ⟨e4, e5, e6, e7, iv⟩ => ?_)
  · subst e
    subst iv
    have hi : i < ((x.trips.length : Nat) : Int).toNat - 1 := by
      have := (List.getElem?_eq_some_iff.mp h).1
      rw [rngD_length] at this
      omega
    rw [rngD_get (by omega)] at h
    cases h
    have hp : (1 : Int) + ((i : Nat) : Int) = ((i + 1 : Nat) : Int) := by omega
    have hts : ts[i]? = some (ts[i]'(by omega)) := List.getElem?_eq_getElem _
    have htu : ts[i + 1]? = some (ts[i + 1]'(by omega)) := List.getElem?_eq_getElem _
    have hls : es[i]? = some (es[i]'(by rw [row.len]; omega)) := List.getElem?_eq_getElem _
    obtain ⟨l, hl2⟩ : ∃ l, l = es[i]'(by rw [row.len]; omega) := ⟨_, rfl⟩
    obtain ⟨t, ht2⟩ : ∃ t, t = ts[i]'(by omega) := ⟨_, rfl⟩
    obtain ⟨u, hu2⟩ : ∃ u, u = ts[i + 1]'(by omega) := ⟨_, rfl⟩
    rw [← hl2] at hls
    rw [← ht2] at hts
    rw [← hu2] at htu
    obtain ⟨s1, s2⟩ := row.step i t u l hts htu hls
    have lv := row.lv l (List.mem_of_getElem? hls)
    have tk : (es.take (i + 1)) = es.take i ++ [l] := take_succ' hls
    have tk2 : (es.take (i + 1 + 1)) = es.take (i + 1) ++ [levL x (i + 1) l (u.1 - t.2)] := take_succ' s1
    have last : atI (es.take (i + 1)) (-1) = some l := by rw [tk]; exact atI_last _ _
    have d0 : ((1 : Int) + ((i : Nat) : Int)) - 1 = ((i : Nat) : Int) := by omega
    refine ss_to (sd_par3 (S := fun y => y = [l, .int t.2, .int u.1]) 5 6 7 scLevels.nd (by decide) (by decide) (by decide) (pa_c (pd_ownAt (k := -1) 3 rfl (pd_neg pd_int) last) (pa_c (pd_ixT (d := .int t.2) (pd_ixS (d := tD t) hv (pd_v 1) (pd_sub (pd_v 4) pd_int) (by rw [d0]; exact at_map hts)) pd_int rfl) (pa_c (pd_ixT (d := .int u.1) (pd_ixS (d := tD u) hv (pd_v 1) (pd_v 4) (by rw [hp]; exact at_map htu)) pd_int rfl) pa_n)))
      fun ds e => ⟨_, _, _, e, rfl⟩) ?_
    refine s_if0 ((pt_lt (pd_v 7) (pd_call C4 (pa_c (pd_v 0) (pa_c (pd_v 4) (pa_c (pd_v 5) (pa_c (pd_v 6) pa_n)))) ⟨x, i + 1, l, t.2, ok, by omega, by omega, lv, by rw [← hp], rfl⟩)).mono fun c e => by rw [e, decide_eq_false (by omega)]) ?_
    refine s_app 3 rfl (pd_call C5 (pa_c (pd_v 0) (pa_c (pd_v 4) (pa_c (pd_v 5) (pa_c (pd_sub (pd_v 7) (pd_v 6)) pa_n)))) ⟨x, i + 1, l, u.1 - t.2, ok, by omega, lv, by rw [← hp], rfl⟩) (ss_nil ⟨.d (.int (1 + ((i : Nat) : Int))), .d l, .d (.int t.2), .d (.int u.1), by rw [tk2]; rfl⟩) (by rw [List.length_take]; omega)
  · subst e
    rw [iv, rngD_length, List.take_of_length_le (by rw [row.len]; omega)]
  · subst iv
    exact s_retNew 3 rfl rfl
end
end K21

set_option linter.all false
set_option maxRecDepth 100000
set_option maxHeartbeats 2000000
namespace K21
open PySem PySem.Spec PyProof.Rows L2 Dv
section
variable {X : Cx} {a b e : Expr} {δ : De} {pos p : Pos} {R : Dt → Prop}
theorem xt_eqP {S T : Int → Prop} (ha : XD X a δ (IntP S)) (hb : XD X b δ (IntP T)) : XT X (.Compare a [.Eq] [b] pos) δ (fun _ => True) := xt_cmp op_eq ha hb (nomark _) fun x y ⟨i, e1, s⟩ ⟨j, e2, t⟩ => by
  subst e1; subst e2
  intro p B G H v w i3 h1 h2 Q q
  cases h1; cases h2
  refine ⟨rfl, q _ _ G H ⟨decide (V.int i = V.int j), rfl, trivial⟩ (.refl i3) (.bl _)⟩
theorem xd_tuple_of {S : List Dt → Prop} (hm : X.mg "tuple" = none) (ha : XD X e δ fun d => ∃ ds, d = .list ds ∧ S ds) (hR : ∀ ds, S ds → R (.tuple ds)) (hg : Gl X "tuple" := by rfl) (hs : starEach [e] X.env = (false, eval e X.env) :: starEach [] X.env := by rfl) : XD X (.Call (.Name "tuple" p) [e] [] pos) δ R :=
  xd_ct call_tuple_of hg hm (by decide +kernel) (xa_xc ha xa_nil hs) fun ds' ⟨d, y, e1, ⟨ds, e2, s⟩, e3⟩ p B G H vs i3 hv Q q => by
    subst e3; subst e2; subst e1
    obtain ⟨v, rfl, h⟩ := one_of hv
    cases h with
    | lst hs ha => exact ⟨_, _, rfl, .inl ⟨exl i3.gh hs, fun l hl => q _ _ _ _ (hR ds s) (.new i3 _ hl) (.tup (.inl (.inl upd_same)) (dpAll_ex (Ex.new (i3.gh.free hl)) _ _ ha))⟩⟩
theorem rngD_at {lo : Int} {n i : Nat} {d : Dt} (h : (rngD lo n)[i]? = some d) : i < n ∧ d = .int (lo + (i : Nat)) := by
  have hi : i < n := by
    have := (List.getElem?_eq_some_iff.mp h).1
    rw [rngD_length] at this
    exact this
  rw [rngD_get hi] at h
  cases h
  exact ⟨hi, rfl⟩
end
/-- a list that is made number by number, each one drawn -/
def Made (S : Int → Prop) (i : Nat) (out : List Dt) : Prop := ∃ ns : List Int, out = ns.map PyData.int ∧ ns.length = i ∧ ∀ t ∈ ns, S t
theorem Made.nil {S : Int → Prop} : Made S 0 [] := ⟨[], rfl, rfl, by simp⟩
theorem Made.snoc {S : Int → Prop} {i : Nat} {out : List Dt} {y : Dt} (h : Made S i out) (hy : IntP S y) : Made S (i + 1) (out ++ [y]) := by
  obtain ⟨ns, e1, e2, e3⟩ := h
  obtain ⟨k, ek, hk⟩ := hy
  refine ⟨ns ++ [k], by rw [e1, ek, List.map_append]; rfl, by rw [List.length_append, e2]; rfl, fun t ht => ?_⟩
  rcases List.mem_append.mp ht with h | h
  · exact e3 t h
  · rw [List.mem_singleton.mp h]; exact hk
section
variable {P : Program} {w : World} {K : Fg} {mg : Str → Option Value} {base : Heap} {f : Addr} {fd : FuncData}
theorem scLDraw : FnScope ["pot", "many", "digit"] ["pot", "many"] (defScope sLDraw) := ⟨rfl, rfl, rfl, by decide +kernel, rfl, by decide +kernel, by decide +kernel⟩
def Lo (n : Int) (i : Int) : Prop := 0 ≤ i ∧ i < n
def rLDraw (ds : List Dt) (T : Dt → Prop) : Prop := ∃ n : Int, 0 < n ∧ n < 1073741824 ∧ ds = [.int n] ∧ T = IntP (Lo n)
theorem f_ldraw (T : T0 K mg) (F : Fun K "_law_draw" "_law_draw" sLDraw f fd) : FnG P w K mg base 1 f fd ["pot", "many"] (spP K rLDraw) := by
  refine fn_pot F scLDraw (fun ds T ⟨n, _, _, e, _⟩ => by subst e; rfl) fun cdv A outer s H E hr hgd hu ds U h => ?_
  obtain ⟨n, n0, n1, rfl, rfl⟩ := h
  refine ss_seq (N := fun x => x = stD ["pot", "many", "digit"] (.pot :: [PyData.int n].map .d)) (sd_if (S := fun _ => True) (xt_gt (S := fun _ => True) (T := fun _ => True) ((xd_potAt 0 (.inl rfl)).mono fun d ⟨i, e, _⟩ => ⟨i, e, trivial⟩) (xi_of pd_int trivial)) (fun _ => ?_) (fun _ => ss_nil rfl)) (fun δ' e => ?_)
  · refine ss_seq (sd_potDiv (N := fun x => ∃ i, x = [.pot, .d (.int n), .d (.int i)] ∧ Lo n i) (S := Lo n) 0 2 scLDraw.nd ((xd_divmod (S := fun i j => 0 ≤ i ∧ j = n) T.divmod (xa_cons (xd_potAt 0 (.inl rfl)) (pa_c (pd_v 1) pa_n) fun d ds ⟨i, e, h1, _⟩ h2 => ⟨i, n, by rw [e, h2], ⟨n0, n1⟩, h1, rfl⟩)).mono fun d ⟨i, j, e, h1, h2⟩ => ?_) (fun w hw => ⟨w, rfl, hw⟩)) (fun δ' ⟨i, e, hi⟩ => ?_)
    · subst h2
      exact ⟨_, _, e, Int.ediv_nonneg h1 (by omega), Int.emod_nonneg i (by omega), Int.emod_lt_of_pos i n0⟩
    · subst e
      exact s_ret (pd_v 2) ⟨i, rfl, hi⟩
  · subst e
    refine ss_to (sd_potSet 0 (xi_mod (S := fun _ => True) (T := fun j => j = 2147483587) (U := fun i => 0 ≤ i ∧ i ≤ 2147483588) (xi_int T.int (xi_add (S := fun _ => True) (T := fun _ => True) (xi_mul (S := fun _ => True) (T := fun j => j = 40692) (U := fun _ => True) ((xd_potAt 0 (.inr rfl)).mono fun d ⟨i, e, _⟩ => ⟨i, e, trivial⟩) (xi_of pd_int rfl) fun i j _ e => ⟨.inr (by subst e; omega), trivial⟩) (xi_of pd_int trivial) fun _ _ _ _ => trivial)) (xi_of pd_int rfl) fun i j _ e => ⟨by omega, by subst e; have := Int.emod_nonneg i (b := 2147483587) (by omega); have := Int.emod_lt_of_pos i (b := 2147483587) (by omega); omega⟩)) ?_
    refine ss_end (sd_ret (xi_mod (S := fun _ => True) (T := fun j => j = n) (U := Lo n) (xi_int T.int (xi_fdiv (S := fun _ => True) (T := fun j => j = 17) (U := fun _ => True) (xi_mod (S := fun _ => True) (T := fun j => j = 2147483549) (U := fun _ => True) (xi_int T.int (xi_mul (S := fun i => 0 ≤ i ∧ i ≤ 2147483588) (T := fun _ => True) (U := fun _ => True) ((xd_potAt 0 (.inr rfl)).mono fun d ⟨i, e, h1, h2⟩ => ⟨i, e, h1, h2 rfl⟩) ((xd_potAt 0 (.inr rfl)).mono fun d ⟨i, e, _⟩ => ⟨i, e, trivial⟩) fun i j h _ => ⟨.inl (by omega), trivial⟩)) (xi_of pd_int rfl) fun i j _ e => ⟨by omega, trivial⟩) (xi_of pd_int rfl) fun i j _ e => ⟨⟨by omega, by omega⟩, trivial⟩)) (xi_of (pd_v 1) rfl) fun i j _ e => by subst e; exact ⟨n0, Int.emod_nonneg i (by omega), Int.emod_lt_of_pos i n0⟩) fun d h => h)
theorem scLPick : FnScope ["pot", "some"] ["pot", "some"] (defScope sLPick) := ⟨rfl, rfl, rfl, by decide +kernel, rfl, by decide +kernel, by decide +kernel⟩
def rLPick (ds : List Dt) (T : Dt → Prop) : Prop := ∃ es : List Dt, 0 < es.length ∧ es.length < 1000 ∧ ds = [.list es] ∧ ∀ d ∈ es, T d
theorem f_lpick (T : T0 K mg) (C1 : Cal P w K mg base 1 "_law_draw" ["pot", "many"] sLDraw (spP K rLDraw)) (F : Fun K "_law_pick" "_law_pick" sLPick f fd) : FnG P w K mg base 2 f fd ["pot", "some"] (spP K rLPick) := by
  refine fn_pot F scLPick (fun ds T ⟨n, _, _, e, _⟩ => by subst e; rfl) fun cdv A outer s H E hr hgd hu ds U h => ?_
  obtain ⟨es, n0, n1, rfl, hU⟩ := h
  refine ss_end (sd_ret (xd_ixLP (S := Lo es.length) (ds := es) (T := U) (pd_v 1) (xd_pot C1 0 (pa_c (pd_len_list T.len (pa_c (pd_v 1) pa_n)) pa_n) fun ds e => ⟨es.length, by omega, by omega, e, rfl⟩) fun i hi => ?_) fun d h => h)
  obtain ⟨h1, h2⟩ := hi
  obtain ⟨k, rfl⟩ := Int.eq_ofNat_of_zero_le h1
  have hk : k < es.length := by omega
  exact ⟨es[k], atI_nat (List.getElem?_eq_getElem hk), hU _ (List.getElem_mem hk)⟩
abbrev NB : List Str := ["pot", "many", "trips", "turns", "full", "needs", "turn"]
theorem scLBlock : FnScope NB ["pot", "many"] (defScope sLBlock) := ⟨rfl, rfl, rfl, by decide +kernel, rfl, by decide +kernel, by decide +kernel⟩
def BlkP (n : Nat) (d : Dt) : Prop := ∃ x : Blk, x.ok ∧ x.trips.length = n ∧ d = x.d
def rLBlock (ds : List Dt) (T : Dt → Prop) : Prop := ∃ n : Nat, 1 ≤ n ∧ n ≤ 16 ∧ ds = [.int ((n : Nat) : Int)] ∧ T = BlkP n
def Up (i : Nat) (out : List Dt) : Prop := ∃ ns : List Int, out = ns.map PyData.int ∧ ns.length = i ∧ ns.Pairwise (· < ·) ∧ ∀ t ∈ ns, 0 ≤ t ∧ t < 3 * (i : Int)
theorem f_lblock (T : T0 K mg) (C1 : Cal P w K mg base 1 "_law_draw" ["pot", "many"] sLDraw (spP K rLDraw)) (C2 : Cal P w K mg base 2 "_law_pick" ["pot", "some"] sLPick (spP K rLPick)) (F : Fun K "_law_block" "_law_block" sLBlock f fd) : FnG P w K mg base 3 f fd ["pot", "many"] (spP K rLBlock) := by
  refine fn_pot F scLBlock (fun ds T ⟨_, _, _, e, _⟩ => by subst e; rfl) fun cdv A outer s H E hr hgd hu ds U h => ?_
  obtain ⟨n, n1, n2, rfl, rfl⟩ := h
  have hc1 : ∀ {δ : De} {X : Cx}, True := trivial
  refine ss_seq (N := fun y => ∃ ns : List Int, Up n (ns.map PyData.int) ∧ y = [.pot, .d (.int ((n : Nat) : Int)), .d (.list (ns.map PyData.int)), .no, .no, .no, .no]) (sd_lc (R := fun d => ∃ out, d = .list out ∧ Up n out) 2 scLBlock.nd
    (lc_of (S := fun x => x = rngD 0 ((n : Nat) : Int).toNat) (own := [("turn", 6)]) (i_rng1 (pa_c (pd_v 1) pa_n) T.range (by omega)) (blkOk_by (N := NB) (sc := defScope sLBlock) (by decide +kernel)) (fun ds e => by rw [e, rngD_length]; omega)
      (fun _ i out => Up i out) (fun _ _ => ⟨[], rfl, rfl, .nil, by simp⟩) (fun ds out e iv => ⟨out, rfl, by rw [e, rngD_length] at iv; exact iv⟩)
      (fun d => [.pot, .d (.int ((n : Nat) : Int)), .no, .no, .no, .no, .d d]) (fun _ _ _ b => b = true) (fun s H C cl fp ds i d e h => tg_name 6 scLBlock.nd) (fun s H C cl fp ds i d e h => PTs.imp pts_nil fun σ H Q ⟨p, B, G, i3, en, q⟩ => q true G H rfl (.refl i3)) (fun _ _ _ _ _ _ h => by cases h)
      (fun s H C cl fp ds i d e h _ => by
        subst e
        obtain ⟨hi, rfl⟩ := rngD_at h
        refine XD.mono (xi_add (S := fun k => k = (0 + (i : Int)) * 3) (T := Lo 3) (U := fun k => 3 * (i : Int) ≤ k ∧ k < 3 * (i : Int) + 3) (xi_of (pd_mul (pd_v 6) pd_int (by unfold CMul; omega)) rfl) (xd_pot C1 0 (pa_c pd_int pa_n) fun ds e => ⟨3, by decide, by decide, e, rfl⟩) fun k j e ⟨h1, h2⟩ => by subst e; omega) fun y ⟨k, ey, k1, k2⟩ out ⟨ns, e1, e2, e3, e4⟩ => ?_
        refine ⟨ns ++ [k], by rw [e1, ey, List.map_append]; rfl, by rw [List.length_append, e2]; rfl, List.pairwise_append.mpr ⟨e3, List.pairwise_singleton _ _, fun t ht u hu => ?_⟩, fun t ht => ?_⟩
        · rw [List.mem_singleton.mp hu]; have := e4 t ht; omega
        · rcases List.mem_append.mp ht with h | h
          · have := e4 t h; omega
          · rw [List.mem_singleton.mp h]; omega)) fun d ⟨out, e, ns, e1, r⟩ => ⟨ns, e1 ▸ ⟨ns, e1, r⟩, by subst e; subst e1; rfl⟩) fun δ' ⟨ns, up, e⟩ => ?_
  obtain ⟨ns', e1, nl, npw, nb⟩ := up
  have enn : ns' = ns := by
    have inj : ∀ {xs ys : List Int}, xs.map PyData.int = ys.map PyData.int → xs = ys := fun {xs ys} h => List.map_inj_right (fun a b h => by cases h; rfl) |>.mp h
    exact (inj e1).symm
  subst enn
  subst e
  refine ss_seq (N := fun y => ∃ ts : List Int, ts.length + 1 = n ∧ (∀ t ∈ ts, 0 ≤ t ∧ t ≤ 60) ∧ y = [.pot, .d (.int ((n : Nat) : Int)), .d (.list (ns'.map PyData.int)), .d (intsT ts), .no, .no, .no]) (sd_set (R := fun d => ∃ ts : List Int, ts.length + 1 = n ∧ (∀ t ∈ ts, 0 ≤ t ∧ t ≤ 60) ∧ d = intsT ts) 3 scLBlock.nd
    (xd_tuple_of (S := fun out => Made (fun t => 0 ≤ t ∧ t ≤ 60) (n - 1) out) T.tuple ((lc_of (R := fun d => ∃ ds, d = .list ds ∧ Made (fun t => 0 ≤ t ∧ t ≤ 60) (n - 1) ds) (S := fun x => x = rngD 0 (((n : Nat) : Int) - 1).toNat) (own := [("turn", 6)]) (i_rng1 (pa_c (pd_sub (pd_v 1) pd_int) pa_n) T.range (by omega)) (blkOk_by (N := NB) (sc := defScope sLBlock) (by decide +kernel)) (fun ds e => by rw [e, rngD_length]; omega)
      (fun _ i out => Made (fun t => 0 ≤ t ∧ t ≤ 60) i out) (fun _ _ => .nil) (fun ds out e iv => ⟨out, rfl, by rw [e, rngD_length] at iv; rw [show n - 1 = (((n : Nat) : Int) - 1).toNat by omega]; exact iv⟩)
      (fun d => [.pot, .d (.int ((n : Nat) : Int)), .d (.list (ns'.map PyData.int)), .no, .no, .no, .d d]) (fun _ _ _ b => b = true) (fun s H C cl fp ds i d e h => tg_name 6 scLBlock.nd) (fun s H C cl fp ds i d e h => PTs.imp pts_nil fun σ H Q ⟨p, B, G, i3, en, q⟩ => q true G H rfl (.refl i3)) (fun _ _ _ _ _ _ h => by cases h)
      (fun s H C cl fp ds i d e h _ => XD.mono (xd_pot (U := IntP fun t => 0 ≤ t ∧ t ≤ 60) C2 0 (pa_c (pd_lst (pa_c pd_int (pa_c pd_int (pa_c pd_int (pa_c pd_int (pa_c pd_int pa_n)))))) pa_n) fun ds e => ⟨[.int 0, .int 1, .int 4, .int 17, .int 60], by decide, by decide, e, fun d hd => by
          simp only [List.mem_cons, List.not_mem_nil, or_false] at hd
          rcases hd with rfl | rfl | rfl | rfl | rfl <;> exact ⟨_, rfl, by omega⟩⟩) fun y hy out iv => iv.snoc hy)).xd scLBlock.nd) fun ds ⟨ts, e1, e2, e3⟩ => ⟨ts, by omega, e3, by rw [e1]⟩) fun d ⟨ts, h1, h2, h3⟩ => ⟨ts, h1, h2, by subst h3; rfl⟩) fun δ' ⟨ts, tl, tb, e⟩ => ?_
  subst e
  have nd : ns'.Nodup := npw.imp fun h => Int.ne_of_lt h
  have mk : ∀ bt : Option Bat, (∀ b, bt = some b → b.ok n) → BlkP n (Blk.d ⟨ns', ts, bt⟩) := fun bt hb => ⟨⟨ns', ts, bt⟩, ⟨by show 1 ≤ ns'.length; omega, by show ns'.length ≤ 16; omega, fun t ht => by have := nb t ht; omega, nd, by show ts.length + 1 = ns'.length; omega, tb, fun b hb' => by show b.ok ns'.length; rw [nl]; exact hb b hb'⟩, nl, rfl⟩
  refine ss_seq (N := fun x => x = [.pot, .d (.int ((n : Nat) : Int)), .d (.list (ns'.map PyData.int)), .d (intsT ts), .no, .no, .no]) (sd_if (S := fun _ => True) (xt_eqP (S := Lo 5) (T := fun _ => True) (xd_pot C1 0 (pa_c pd_int pa_n) fun ds e => ⟨5, by decide, by decide, e, rfl⟩) (xi_of pd_int trivial)) (fun _ => ?_) (fun _ => ss_nil rfl)) fun δ' e => ?_
  · exact s_ret (d := Blk.d ⟨ns', ts, none⟩) (pd_tup (pa_c pd_str (pa_c (pd_tuple_of T.tuple (pa_c (pd_v 2) pa_n)) (pa_c (pd_v 3) (pa_c pd_non pa_n))))) (mk none fun b h => by cases h)
  subst e
  refine ss_seq (N := fun y => ∃ fl : Int, 1 ≤ fl ∧ fl ≤ 99 ∧ y = [.pot, .d (.int ((n : Nat) : Int)), .d (.list (ns'.map PyData.int)), .d (intsT ts), .d (.int fl), .no, .no]) (sd_set (R := IntP fun k => 1 ≤ k ∧ k ≤ 99) 4 scLBlock.nd (xd_pot C2 0 (pa_c (pd_lst (pa_c pd_int (pa_c pd_int (pa_c pd_int (pa_c pd_int (pa_c pd_int (pa_c pd_int pa_n))))))) pa_n) fun ds e => ⟨[.int 1, .int 2, .int 7, .int 30, .int 98, .int 99], by decide, by decide, e, fun d hd => by
      simp only [List.mem_cons, List.not_mem_nil, or_false] at hd
      rcases hd with rfl | rfl | rfl | rfl | rfl | rfl <;> exact ⟨_, rfl, by omega⟩⟩) fun d ⟨k, e, k1, k2⟩ => ⟨k, k1, k2, by subst e; rfl⟩) fun δ' ⟨fl, f1, f2, e⟩ => ?_
  subst e
  refine ss_seq (N := fun y => ∃ nds : List Int, nds.length = n ∧ (∀ t ∈ nds, 1 ≤ t ∧ t ≤ fl) ∧ y = [.pot, .d (.int ((n : Nat) : Int)), .d (.list (ns'.map PyData.int)), .d (intsT ts), .d (.int fl), .d (.list (nds.map PyData.int)), .no]) (sd_lc (R := fun d => ∃ out, d = .list out ∧ Made (fun t => 1 ≤ t ∧ t ≤ fl) n out) 5 scLBlock.nd
    (lc_of (S := fun x => x = rngD 0 ((n : Nat) : Int).toNat) (own := [("turn", 6)]) (i_rng1 (pa_c (pd_v 1) pa_n) T.range (by omega)) (blkOk_by (N := NB) (sc := defScope sLBlock) (by decide +kernel)) (fun ds e => by rw [e, rngD_length]; omega)
      (fun _ i out => Made (fun t => 1 ≤ t ∧ t ≤ fl) i out) (fun _ _ => .nil) (fun ds out e iv => ⟨out, rfl, by rw [e, rngD_length] at iv; exact iv⟩)
      (fun d => [.pot, .d (.int ((n : Nat) : Int)), .d (.list (ns'.map PyData.int)), .d (intsT ts), .d (.int fl), .no, .d d]) (fun _ _ _ b => b = true) (fun s H C cl fp ds i d e h => tg_name 6 scLBlock.nd) (fun s H C cl fp ds i d e h => PTs.imp pts_nil fun σ H Q ⟨p, B, G, i3, en, q⟩ => q true G H rfl (.refl i3)) (fun _ _ _ _ _ _ h => by cases h)
      (fun s H C cl fp ds i d e h _ => XD.mono (xd_if (R := IntP fun t => 1 ≤ t ∧ t ≤ fl) (S := fun _ => True) (xt_gt (S := Lo 4) (T := fun _ => True) (xd_pot C1 0 (pa_c pd_int pa_n) fun ds e => ⟨4, by decide, by decide, e, rfl⟩) (xi_of pd_int trivial)) (fun _ => xi_add (S := fun k => k = 1) (T := Lo fl) (xi_of pd_int rfl) (xd_pot C1 0 (pa_c (pd_v 4) pa_n) fun ds e => ⟨fl, by omega, by omega, e, rfl⟩) fun k j e ⟨h1, h2⟩ => by subst e; omega) (fun _ => xi_of (pd_v 4) ⟨f1, Int.le_refl _⟩)) fun y hy out iv => iv.snoc hy)) fun d ⟨out, e, nds, e1, e2, e3⟩ => ⟨nds, e2, e3, by subst e; subst e1; rfl⟩) fun δ' ⟨nds, l1, l2, e⟩ => ?_
  subst e
  refine ss_end (sd_ret (R := BlkP n) (xd_tup (xa_pc (d := .str "block") pd_str (xa_pc (d := intsT ns') (pd_tuple_of T.tuple (pa_c (pd_v 2) pa_n)) (xa_pc (d := intsT ts) (pd_v 3) (xa_xc (R := fun d => ∃ r, 1 ≤ r ∧ r ≤ 9 ∧ d = Bat.d ⟨fl, nds, r⟩)
    (xd_tup (xa_pc (d := .int fl) (pd_v 4) (xa_pc (d := intsT nds) (pd_tuple_of T.tuple (pa_c (pd_v 5) pa_n)) (xa_xc (R := IntP fun r => 1 ≤ r ∧ r ≤ 9) (xi_add (S := fun k => k = 1) (T := Lo 9) (xi_of pd_int rfl) (xd_pot C1 0 (pa_c pd_int pa_n) fun ds e => ⟨9, by decide, by decide, e, rfl⟩) fun k j e ⟨h1, h2⟩ => by subst e; omega) xa_nil))) (by decide)
      fun ds ⟨y1, e1, y2, e2, d3, y3, e3, ⟨r, er, r1, r2⟩, e4⟩ => by subst e4; subst er; subst e3; subst e2; subst e1; exact ⟨⟨r, r1, r2, rfl⟩, by simp⟩) xa_nil)))) (by decide)
    fun ds ⟨y1, e1, y2, e2, y3, e3, d4, y4, e4, ⟨r, r1, r2, er⟩, e5⟩ => by
      subst e5; subst er; subst e4; subst e3; subst e2; subst e1
      exact ⟨mk (some ⟨fl, nds, r⟩) fun b hb => by cases hb; exact ⟨f1, f2, r1, r2, l1, l2⟩, by simp⟩) fun d h => h)
theorem scLLevels : FnScope ["full", "rate", "level", "many", "found", "minute"] ["full", "rate", "level", "many"] (defScope sLLevels) := ⟨rfl, rfl, rfl, by decide +kernel, rfl, by decide +kernel, by decide +kernel⟩
def foundL (b : Bat) (v : Int) (n : Nat) : List Dt := (List.range n).map fun j : Nat => PyData.int (levN b v (j : Int))
def rLLevels (ds es : List Dt) : Prop := ∃ (b : Bat) (v : Int) (k : Nat), 0 ≤ b.rate ∧ v ≤ b.full ∧ k ≤ 1000 ∧ ds = [.int b.full, .int b.rate, .int v, .int ((k : Nat) : Int)] ∧ es = foundL b v (k + 1)
theorem found_succ (b : Bat) (v : Int) (n : Nat) : foundL b v (n + 1) = foundL b v n ++ [.int (levN b v (n : Int))] := by
  unfold foundL
  rw [List.range_succ, List.map_append]; rfl
theorem f_llevels (T : T0 K mg) (F : Fun K "_law_levels" "_law_levels" sLLevels f fd) : FnG P w K mg base 1 f fd ["full", "rate", "level", "many"] (spO K rLLevels) := by
  refine fn_own F scLLevels (fun ds d ⟨_, _, _, _, _, _, e, _⟩ => by subst e; rfl) fun cdv A outer s H E hr hgd hu ds es h => ?_
  obtain ⟨b, v, k, r0, hv, hk, rfl, rfl⟩ := h
  have e1 : foundL b v 1 = [.int v] := by
    show [PyData.int (min b.full (v + b.rate * ((0 : Nat) : Int)))] = _
    have : min b.full (v + b.rate * ((0 : Nat) : Int)) = v := by
      rw [show ((0 : Nat) : Int) = 0 from rfl, Int.mul_zero]; omega
    rw [this]
  refine ss_seq (N := fun y => y = [.d (.int b.full), .d (.int b.rate), .d (.int v), .d (.int ((k : Nat) : Int)), .own (foundL b v 1), .no]) (sd_own (S := fun y => y = [.int v]) 4 scLLevels.nd (xo_lst (pa_c (pd_v 2) pa_n) (fun ds e => by rw [e]; simp)) fun ds e => by rw [e, e1]; rfl) fun δ' e => ?_
  subst e
  refine ss_seq (N := fun y => ∃ e5, y = [.d (.int b.full), .d (.int b.rate), .d (.int v), .d (.int ((k : Nat) : Int)), .own (foundL b v (k + 1)), e5]) (sd_for (js := [5]) PassesOwn.never rfl (i_rng1 (j := ((k : Nat) : Int)) (pa_c (pd_v 3) pa_n) T.range (by omega))
    (fun _ i y => ∃ e5, y = [.d (.int b.full), .d (.int b.rate), .d (.int v), .d (.int ((k : Nat) : Int)), .own (foundL b v (i + 1)), e5]) (fun _ _ => ⟨.no, rfl⟩) (fun d δ' => δ'.set 5 (.d d)) (fun ds i d δ' e h iv => tg_name 5 scLLevels.nd) (fun ds i d δ' e h ⟨e5, iv⟩ => ?_) (fun ds δ' e ⟨e5, iv⟩ => ⟨e5, ?_⟩)) (fun δ' ⟨e5, iv⟩ => ?_)
  · subst e
    subst iv
    obtain ⟨hi, rfl⟩ := rngD_at h
    refine s_app 4 rfl ((pd_min2 rfl T.min (pa_c (pd_v 0) (pa_c (pd_add (pd_ownAt (k := -1) (d := .int (levN b v ((i : Nat) : Int))) 4 rfl (pd_neg pd_int) (by rw [found_succ]; exact atI_last _ _)) (pd_v 1)) pa_n))).is (d := .int (levN b v ((i + 1 : Nat) : Int))) ?_) (ss_nil ⟨.d (.int (0 + ((i : Nat) : Int))), by rw [found_succ b v (i + 1)]; rfl⟩) (by unfold foundL; rw [List.length_map, List.length_range]; omega)
    have e : levN b v ((i + 1 : Nat) : Int) = min b.full (levN b v ((i : Nat) : Int) + b.rate) := by
      unfold levN
      rw [show ((i + 1 : Nat) : Int) = ((i : Nat) : Int) + 1 by omega, Int.mul_add]
      omega
    rw [e]
  · subst e
    rw [iv, rngD_length]; rfl
  · subst iv
    exact s_retNew 4 rfl rfl
end
end K21

set_option linter.all false
set_option maxRecDepth 100000
set_option maxHeartbeats 2000000
namespace K21
open PySem PySem.Spec PyProof.Rows L2 Dv
theorem enD_range {n : Nat} {F : Nat → Dt} : enD ((List.range n).map F) = (List.range n).map fun j : Nat => PyData.tuple [.int (j : Int), F j] := by
  refine List.ext_getElem? fun i => ?_
  by_cases h : i < n
  · rw [enD_get (d := F i) (by rw [List.getElem?_map, List.getElem?_range h]; rfl), List.getElem?_map, List.getElem?_range h]; rfl
  · rw [List.getElem?_eq_none (by rw [enD_length, List.length_map, List.length_range]; omega), List.getElem?_eq_none (by rw [List.length_map, List.length_range]; omega)]
theorem filt_head {n k : Nat} {c : Nat → Bool} (hk : k < n) (h1 : c k = true) (h2 : ∀ j, j < k → c j = false) : ((List.range n).filter c)[0]? = some k := by
  rw [← List.head?_eq_getElem?, List.head?_filter, List.find?_range_eq_some]
  exact ⟨h1, List.mem_range.mpr hk, fun j hj => by rw [h2 j hj]; rfl⟩
theorem found_at {b : Bat} {v m : Int} (h0 : 0 ≤ m) (h1 : m ≤ 200) : atI (foundL b v 201) m = some (.int (levN b v m)) := by
  obtain ⟨j, rfl⟩ := Int.eq_ofNat_of_zero_le h0
  exact at_map (F := fun j : Nat => PyData.int (levN b v (j : Int))) (List.getElem?_range (by omega))
theorem ints_okd {ns : List Int} {n : Nat} (h : ∀ i ∈ ns, i.natAbs < 10 ^ 38) (hn : ns.length ≤ n) : OkD (.list (ns.map PyData.int)) n 1 := by
  refine (okd_list (b := 0) (k := 0) (n := n) (fun d hd => ?_) (by rw [List.length_map]; exact hn)).mono
  obtain ⟨i, hi, rfl⟩ := List.mem_map.mp hd
  exact okd_int (h i hi)
theorem intsT_okd {ns : List Int} {n : Nat} (h : ∀ i ∈ ns, i.natAbs < 10 ^ 38) (hn : ns.length ≤ n) : OkD (intsT ns) n 1 := by
  refine (okd_tuple (b := 0) (k := 0) (n := n) (fun d hd => ?_) (by rw [List.length_map]; exact hn)).mono
  obtain ⟨i, hi, rfl⟩ := List.mem_map.mp hd
  exact okd_int (h i hi)
theorem lv_okd {x : Blk} (ok : x.ok) {l : Dt} (h : LvOk x l) : OkD l 0 0 := by
  obtain ⟨bt, hbt⟩ : ∃ bt, bt = x.bat := ⟨_, rfl⟩
  unfold LvOk at h
  rw [← hbt] at h
  cases bt with
  | none => subst h; exact okd_none
  | some b =>
    obtain ⟨v, v0, v1, rfl⟩ := h
    have := (ok.bt b hbt.symm).f2
    exact okd_int (by omega)
theorem blk_okd {x : Blk} (ok : x.ok) : OkD x.d 390000 40 := by
  have n2 := ok.n2
  have tl := ok.tl
  refine (okd_tuple (b := 1000) (k := 3) (n := 4) (fun d hd => ?_) (by simp)).mono
  simp only [List.mem_cons, List.not_mem_nil, or_false] at hd
  rcases hd with rfl | rfl | rfl | rfl
  · exact (okd_str (x := "block") (by decide +kernel)).mono (by decide +kernel) (by decide)
  · exact (intsT_okd (n := 16) (fun i hi => by have := ok.tr i hi; omega) n2).mono
  · exact (intsT_okd (n := 16) (fun i hi => by have := ok.tb i hi; omega) (by omega)).mono
  · obtain ⟨bt, hbt⟩ : ∃ bt, bt = x.bat := ⟨_, rfl⟩
    rw [← hbt]
    cases bt with
    | none => exact okd_none.mono
    | some b =>
      have bo := ok.bt b hbt.symm
      have f2 := bo.f2
      have f1 := bo.f1
      have r1 := bo.r1
      have r2 := bo.r2
      refine (okd_tuple (b := 16) (k := 1) (n := 3) (fun d hd => ?_) (by simp)).mono
      simp only [List.mem_cons, List.not_mem_nil, or_false] at hd
      rcases hd with rfl | rfl | rfl
      · exact (okd_int (by omega)).mono
      · exact intsT_okd (fun i hi => by have := bo.nb i hi; omega) (by rw [bo.nl]; exact n2)
      · exact (okd_int (by omega)).mono
section
variable {P : Program} {w : World} {K : Fg} {mg : Str → Option Value} {base : Heap} {f : Addr} {fd : FuncData}
abbrev NS : List Str := ["pot", "block", "place", "level", "arrival", "turn", "told", "full", "needs", "rate", "found", "least", "soon", "minutes", "due", "last", "minute", "one"]
theorem scLStand : FnScope NS ["pot", "block", "place", "level", "arrival"] (defScope sLStand) := ⟨rfl, rfl, rfl, by decide +kernel, rfl, by decide +kernel, by decide +kernel⟩
def rLStand (ds : List Dt) (T : Dt → Prop) : Prop := ∃ (x : Blk) (p : Nat) (l : Dt) (a : Int), x.ok ∧ 1 ≤ p ∧ p < x.trips.length ∧ LvOk x l ∧ 0 ≤ a ∧ a ≤ 10 ^ 25 ∧ ds = [x.d, .int ((p : Nat) : Int), l, .int a] ∧ T = fun d => d = .bool true
def msL (sn : Int) : List Int := ((List.range 12).map fun i : Nat => sn + (i : Int)) ++ ((List.range 6).map fun i : Nat => 194 + (i : Int))
theorem ms_b {sn m : Int} (h0 : 0 ≤ sn) (h1 : sn ≤ 99) (h : m ∈ msL sn) : sn ≤ m ∧ m ≤ 199 := by
  unfold msL at h
  rcases List.mem_append.mp h with h | h
  · obtain ⟨i, hi, rfl⟩ := List.mem_map.mp h
    have := List.mem_range.mp hi
    omega
  · obtain ⟨i, hi, rfl⟩ := List.mem_map.mp h
    have := List.mem_range.mp hi
    omega
theorem ms_up {sn : Int} (h0 : 0 ≤ sn) (h1 : sn ≤ 99) : (msL sn).Pairwise (· ≤ ·) := by
  unfold msL
  refine List.pairwise_append.mpr ⟨List.pairwise_map.mpr (List.Pairwise.imp (fun {a b} h => by omega) (List.pairwise_lt_range (n := 12))), List.pairwise_map.mpr (List.Pairwise.imp (fun {a b} h => by omega) (List.pairwise_lt_range (n := 6))), fun i hi j hj => ?_⟩
  obtain ⟨i2, hi2, ei⟩ := List.mem_map.mp hi
  obtain ⟨j2, hj2, ej⟩ := List.mem_map.mp hj
  have := List.mem_range.mp hi2
  have := List.mem_range.mp hj2
  omega
theorem ms_d {sn : Int} : PyData.list (rngD sn (sn + 12 - sn).toNat ++ rngD 194 ((200 : Int) - 194).toNat) = .list ((msL sn).map PyData.int) := by
  have e1 : (sn + 12 - sn).toNat = 12 := by omega
  rw [e1]
  unfold msL rngD
  rw [List.map_append, List.map_map, List.map_map]; rfl
end
end K21

set_option linter.all false
set_option maxRecDepth 100000
set_option maxHeartbeats 40000000
namespace K21
open PySem PySem.Spec PyProof.Rows L2 Dv
section
variable {P : Program} {w : World} {K : Fg} {mg : Str → Option Value} {base : Heap} {f : Addr} {fd : FuncData}
theorem s_norm {X : Cx} {sts : List Stmt} {δ δ' : De} {o : Out} (k : SsD X sts δ' o) (h : δ = δ' := by rfl) : SsD X sts δ o := h ▸ k
theorem f_lstand (T : T0 K mg) (C1 : Cal P w K mg base 8 "lack" ["block", "place", "level"] sLack (spD K rLack)) (C2 : Cal P w K mg base 9 "ready" ["block", "place", "level", "arrival"] sReady (spD K rReady)) (C3 : Cal P w K mg base 9 "charged" ["block", "place", "level", "arrival", "departure"] sCharged (spD K rCharged)) (C4 : Cal P w K mg base 1 "_law_levels" ["full", "rate", "level", "many"] sLLevels (spO K rLLevels))
    (F : Fun K "_law_stand_right" "_law_stand_right" sLStand f fd) : FnG P w K mg base 10 f fd ["pot", "block", "place", "level", "arrival"] (spP K rLStand) := by
  refine fn_pot F scLStand (fun ds T ⟨_, _, _, _, _, _, _, _, _, _, e, _⟩ => by subst e; rfl) fun cdv A outer s H E hr hgd hu ds U h => ?_
  obtain ⟨x, p, l, a, ok, p1, p2, lv, a0, a1, rfl, rfl⟩ := h
  obtain ⟨t0, t1⟩ := ok.turn_b p1 p2
  refine s_set 5 scLStand.nd (pd_ixT (pd_ixT (d := intsT x.turns) (pd_v 1) pd_int rfl) (pd_sub (pd_v 2) pd_int) (at_turn ok p1 p2)) ?_
  obtain ⟨bt, hbt⟩ : ∃ bt, bt = x.bat := ⟨_, rfl⟩
  have lv' := lv
  unfold LvOk at lv'
  rw [← hbt] at lv'
  cases bt with
  | none =>
    subst lv'
    refine s_if (k := true) (pt_isN (pd_ixT (d := .none) (pd_v 1) pd_int (by show some (batD x.bat) = _; rw [← hbt]; rfl)) pd_non) (fun _ => ?_) fun h => Bool.noConfusion h
    have okT : OkD (.list [.int 0, .int (a + turnL x p), .none]) 390000 40 := (okd_list (b := 0) (k := 0) (n := 3) (fun d hd => by
      simp only [List.mem_cons, List.not_mem_nil, or_false] at hd
      rcases hd with rfl | rfl | rfl
      · exact okd_int (by decide)
      · exact okd_int (by omega)
      · exact okd_none) (by simp)).mono
    have eL : lackL x p .none = 0 := by unfold lackL; rw [← hbt]
    have eR : readyL x p .none a = a + turnL x p := by unfold readyL; rw [eL]; omega
    have eV : ∀ m, levL x p .none m = .none := fun m => by unfold levL; rw [← hbt]
    refine s_set 6 scLStand.nd ((pd_lst (pa_c (pd_call C1 (pa_c (pd_v 1) (pa_c (pd_v 2) (pa_c pd_non pa_n))) ⟨x, p, .none, ok, p1, p2, lv, rfl, rfl⟩) (pa_c (pd_call C2 (pa_c (pd_v 1) (pa_c (pd_v 2) (pa_c pd_non (pa_c (pd_v 4) pa_n)))) ⟨x, p, .none, a, ok, p1, p2, lv, a0, rfl, rfl⟩)
      (pa_c (pd_call C3 (pa_c (pd_v 1) (pa_c (pd_v 2) (pa_c pd_non (pa_c (pd_v 4) (pa_c (pd_add (pd_add (pd_v 4) (pd_v 5)) pd_int) pa_n))))) ⟨x, p, .none, a, _, ok, p1, p2, lv, a0, by rw [eR]; omega, by omega, rfl, rfl⟩) pa_n)))).is (d := .list [.int 0, .int (a + turnL x p), .none]) (by rw [eL, eR, eV])) ?_
    exact s_ret (pd_eqR (pd_repr hgd hu T.repr (pa_c (pd_v 6) pa_n) okT) (pd_repr hgd hu T.repr (pa_c (pd_lst (pa_c pd_int (pa_c (pd_add (pd_v 4) (pd_v 5)) (pa_c pd_non pa_n)))) pa_n) okT)) rfl
  | some b =>
    obtain ⟨v, v0, v1, rfl⟩ := lv'
    have bo := ok.bt b hbt.symm
    have f2 := bo.f2
    have r1 := bo.r1
    have hnd := bo.nb _ (getD_mem (ns := b.needs) (p := p) (by rw [bo.nl]; exact p2))
    have nd1 : 1 ≤ need b p := hnd.1
    have nd2 : need b p ≤ b.full := hnd.2
    obtain ⟨lk0, lk1, lk2, lk3⟩ := lack_spec bo p2 v0
    obtain ⟨lk, elk⟩ : ∃ lk, lk = lackN b p v := ⟨_, rfl⟩
    rw [← elk] at lk0 lk1 lk2 lk3
    have eL : lackL x p (.int v) = lk := by rw [elk]; unfold lackL; rw [← hbt]
    obtain ⟨sn, esn⟩ : ∃ sn, sn = max (turnL x p) lk := ⟨_, rfl⟩
    have sn0 : 0 ≤ sn := by omega
    have sn1 : sn ≤ 99 := by omega
    have eR : ∀ a, readyL x p (.int v) a = a + sn := fun a => by unfold readyL; rw [eL, esn]
    have eV : ∀ m, levL x p (.int v) m = .int (levN b v m - need b p) := fun m => by unfold levL; rw [← hbt]
    have hB : ∀ {d}, batD x.bat = d → b.d = d := fun h => by rw [← h, ← hbt]; rfl
    refine s_if0 (pt_isN (pd_ixT (d := b.d) (pd_v 1) pd_int (by show some (batD x.bat) = _; rw [← hbt]; rfl)) pd_non) ?_
    refine s_asg (pd_ixT (d := b.d) (pd_v 1) pd_int (by show some (batD x.bat) = _; rw [← hbt]; rfl)) (tg_tup rfl (tgs_cons (tg_name 7 scLStand.nd) (tgs_cons (tg_name 8 scLStand.nd) (tgs_cons (tg_name 9 scLStand.nd) tgs_nil)))) ?_
    refine s_norm (δ' := [.pot, .d x.d, .d (.int ((p : Nat) : Int)), .d (.int v), .d (.int a), .d (.int (turnL x p)), .no, .d (.int b.full), .d (intsT b.needs), .d (.int b.rate), .no, .no, .no, .no, .no, .no, .no, .no]) ?_
    refine s_set 10 scLStand.nd (d := .list (foundL b v 201)) (pd_call C4.data (pa_c (pd_v 7) (pa_c (pd_v 9) (pa_c (pd_v 3) (pa_c pd_int pa_n)))) ⟨_, ⟨b, v, 200, by omega, v1, by decide, rfl, rfl⟩, rfl⟩) ?_
    refine s_norm (δ' := [.pot, .d x.d, .d (.int ((p : Nat) : Int)), .d (.int v), .d (.int a), .d (.int (turnL x p)), .no, .d (.int b.full), .d (intsT b.needs), .d (.int b.rate), .d (.list (foundL b v 201)), .no, .no, .no, .no, .no, .no, .no]) ?_
    obtain ⟨kk, ekk⟩ := Int.eq_ofNat_of_zero_le lk0
    have hfil : ((List.range 201).filter fun j : Nat => decide (need b p ≤ levN b v (j : Int)))[0]? = some kk := filt_head (by omega) (decide_eq_true (by unfold levN; rw [← ekk]; omega)) (fun j hj => decide_eq_false (by have := lk3 (j : Int) (by omega) (by omega); unfold levN; omega))
    refine s_set 11 scLStand.nd (d := .int lk) (pd_ixL ((lc_mapIf (xs := List.range 201) (enc := fun j : Nat => PyData.tuple [.int (j : Int), .int (levN b v (j : Int))]) (F := fun j : Nat => .int (j : Int)) (c := fun j : Nat => decide (need b p ≤ levN b v (j : Int))) (own := [("minute", 16), ("one", 17)]) (by rw [← enD_range (F := fun j : Nat => PyData.int (levN b v (j : Int)))]; exact i_enum (pa_c (pd_v 10) pa_n) T.enumerate) (blkOk_by (N := NS) (sc := defScope sLStand) (by decide +kernel)) (by rw [List.length_range]; decide)
        (fun d => match d with | .tuple [d1, d2] => [.pot, .d x.d, .d (.int ((p : Nat) : Int)), .d (.int v), .d (.int a), .d (.int (turnL x p)), .no, .d (.int b.full), .d (intsT b.needs), .d (.int b.rate), .d (.list (foundL b v 201)), .no, .no, .no, .no, .no, .d d1, .d d2] | _ => [])
        (fun s H C cl fp i y hy => tg_tup rfl (tgs_cons (tg_name 16 scLStand.nd) (tgs_cons (tg_name 17 scLStand.nd) tgs_nil)))
        (fun s H C cl fp i y hy => pt_ge (pd_v 17) (pd_ixT (pd_v 8) (pd_v 2) (at_need bo p2))) (fun s H C cl fp i y hy hc => pd_v 16)).xd scLStand.nd) pd_int (by rw [ekk]; exact at_map (i := 0) hfil)) ?_
    refine s_norm (δ' := [.pot, .d x.d, .d (.int ((p : Nat) : Int)), .d (.int v), .d (.int a), .d (.int (turnL x p)), .no, .d (.int b.full), .d (intsT b.needs), .d (.int b.rate), .d (.list (foundL b v 201)), .d (.int lk), .no, .no, .no, .no, .no, .no]) ?_
    refine s_set 12 scLStand.nd ((pd_max2 rfl T.max (pa_c (pd_v 5) (pa_c (pd_v 11) pa_n))).is (d := .int sn) (by rw [esn])) ?_
    refine s_set 6 scLStand.nd ((pd_lst (pa_c (pd_call C1 (pa_c (pd_v 1) (pa_c (pd_v 2) (pa_c (pd_v 3) pa_n))) ⟨x, p, _, ok, p1, p2, lv, rfl, rfl⟩) (pa_c (pd_call C2 (pa_c (pd_v 1) (pa_c (pd_v 2) (pa_c (pd_v 3) (pa_c (pd_v 4) pa_n)))) ⟨x, p, _, a, ok, p1, p2, lv, a0, rfl, rfl⟩)
      (pa_c (pd_callK (ks := ["level", "place", "block"]) [2, 1, 0] C1 (k_c (pd_v 3) (k_c (pd_v 2) (k_c (pd_v 1) k_n))) ⟨x, p, _, ok, p1, p2, lv, rfl, rfl⟩ (fun _ _ _ _ _ _ us hl => match us, hl with | [_, _, _], _ => rfl)) pa_n)))).is (d := .list [.int lk, .int (a + sn), .int lk]) (by rw [eL, eR])) ?_
    refine s_norm (δ' := [.pot, .d x.d, .d (.int ((p : Nat) : Int)), .d (.int v), .d (.int a), .d (.int (turnL x p)), .d (.list [.int lk, .int (a + sn), .int lk]), .d (.int b.full), .d (intsT b.needs), .d (.int b.rate), .d (.list (foundL b v 201)), .d (.int lk), .d (.int sn), .no, .no, .no, .no, .no]) ?_
    have okT : OkD (.list [.int lk, .int (a + sn), .int lk]) 390000 40 := (ints_okd (ns := [lk, a + sn, lk]) (n := 3) (fun i hi => by
      simp only [List.mem_cons, List.not_mem_nil, or_false] at hi
      omega) (by simp)).mono
    refine s_if0 (pt_neR (pd_repr hgd hu T.repr (pa_c (pd_v 6) pa_n) okT) (pd_repr hgd hu T.repr (pa_c (pd_lst (pa_c (pd_v 11) (pa_c (pd_add (pd_v 4) (pd_v 12)) (pa_c (pd_v 11) pa_n)))) pa_n) okT)) ?_
    have okI : OkD (.int (a + sn + 1)) 390000 40 := (okd_int (by omega)).mono
    refine s_if0 (pt_neR (pd_repr hgd hu T.repr (pa_c ((pd_callK (ks := ["arrival", "level", "place", "block"]) [3, 2, 1, 0] C2 (k_c (pd_add (pd_v 4) pd_int) (k_c (pd_v 3) (k_c (pd_v 2) (k_c (pd_v 1) k_n)))) ⟨x, p, _, a + 1, ok, p1, p2, lv, by omega, rfl, rfl⟩ (fun _ _ _ _ _ _ us hl => match us, hl with | [_, _, _, _], _ => rfl)).is (d := .int (a + sn + 1)) (by rw [eR]; congr 1; omega)) pa_n) okI) (pd_repr hgd hu T.repr (pa_c (pd_add (pd_add (pd_v 4) (pd_v 12)) pd_int) pa_n) okI)) ?_
    refine s_set 13 scLStand.nd ((pd_cat (pd_listRg T.list T.range (pd_v 12) (pd_add (pd_v 12) pd_int) (RgOk.of_le sn0 (by omega) (by omega) (by omega))) (pd_listRg T.list T.range pd_int pd_int (RgOk.of_le (by decide) (by decide) (by decide) (by decide))) (by rw [rngD_length, rngD_length]; omega)).is ms_d) ?_
    refine s_norm (δ' := [.pot, .d x.d, .d (.int ((p : Nat) : Int)), .d (.int v), .d (.int a), .d (.int (turnL x p)), .d (.list [.int lk, .int (a + sn), .int lk]), .d (.int b.full), .d (intsT b.needs), .d (.int b.rate), .d (.list (foundL b v 201)), .d (.int lk), .d (.int sn), .d (.list ((msL sn).map PyData.int)), .no, .no, .no, .no]) ?_
    have msl : (msL sn).length ≤ 100000 := by unfold msL; rw [List.length_append, List.length_map, List.length_map, List.length_range, List.length_range]; decide
    refine s_lc 14 scLStand.nd (lc_map (xs := msL sn) (enc := PyData.int) (F := fun m => .int (levN b v m - need b p)) (own := [("minute", 16)]) (i_list (pd_v 13)) (blkOk_by (N := NS) (sc := defScope sLStand) (by decide +kernel)) msl
        (fun d => [.pot, .d x.d, .d (.int ((p : Nat) : Int)), .d (.int v), .d (.int a), .d (.int (turnL x p)), .d (.list [.int lk, .int (a + sn), .int lk]), .d (.int b.full), .d (intsT b.needs), .d (.int b.rate), .d (.list (foundL b v 201)), .d (.int lk), .d (.int sn), .d (.list ((msL sn).map PyData.int)), .no, .no, .d d, .no])
        (fun s H C cl fp i y hy => tg_name 16 scLStand.nd) (fun s H C cl fp i y hy => pd_sub (pd_ixL (pd_v 10) (pd_v 16) (by have := ms_b sn0 sn1 (List.mem_of_getElem? hy); exact found_at (by omega) (by omega))) (pd_ixT (pd_v 8) (pd_v 2) (at_need bo p2)))) ?_
    refine s_norm (δ' := [.pot, .d x.d, .d (.int ((p : Nat) : Int)), .d (.int v), .d (.int a), .d (.int (turnL x p)), .d (.list [.int lk, .int (a + sn), .int lk]), .d (.int b.full), .d (intsT b.needs), .d (.int b.rate), .d (.list (foundL b v 201)), .d (.int lk), .d (.int sn), .d (.list ((msL sn).map PyData.int)), .d (.list ((msL sn).map fun m => .int (levN b v m - need b p))), .no, .no, .no]) ?_
    refine s_lc 6 scLStand.nd (lc_map (xs := msL sn) (enc := PyData.int) (F := fun m => .int (levN b v m - need b p)) (own := [("minute", 16)]) (i_list (pd_v 13)) (blkOk_by (N := NS) (sc := defScope sLStand) (by decide +kernel)) msl
        (fun d => [.pot, .d x.d, .d (.int ((p : Nat) : Int)), .d (.int v), .d (.int a), .d (.int (turnL x p)), .d (.list [.int lk, .int (a + sn), .int lk]), .d (.int b.full), .d (intsT b.needs), .d (.int b.rate), .d (.list (foundL b v 201)), .d (.int lk), .d (.int sn), .d (.list ((msL sn).map PyData.int)), .d (.list ((msL sn).map fun m => .int (levN b v m - need b p))), .no, .d d, .no])
        (fun s H C cl fp i y hy => tg_name 16 scLStand.nd) (fun s H C cl fp i y hy => (pd_call C3 (pa_c (pd_v 1) (pa_c (pd_v 2) (pa_c (pd_v 3) (pa_c (pd_v 4) (pa_c (pd_add (pd_v 4) (pd_v 16)) pa_n))))) ⟨x, p, _, a, a + y, ok, p1, p2, lv, a0, by rw [eR]; have := ms_b sn0 sn1 (List.mem_of_getElem? hy); omega, by have := ms_b sn0 sn1 (List.mem_of_getElem? hy); omega, rfl, rfl⟩).is (d := .int (levN b v y - need b p)) (by rw [eV, show a + y - a = y by omega]))) ?_
    refine s_norm (δ' := [.pot, .d x.d, .d (.int ((p : Nat) : Int)), .d (.int v), .d (.int a), .d (.int (turnL x p)), .d (.list ((msL sn).map fun m => .int (levN b v m - need b p))), .d (.int b.full), .d (intsT b.needs), .d (.int b.rate), .d (.list (foundL b v 201)), .d (.int lk), .d (.int sn), .d (.list ((msL sn).map PyData.int)), .d (.list ((msL sn).map fun m => .int (levN b v m - need b p))), .no, .no, .no]) ?_
    let DN : List Int := (msL sn).map fun m => levN b v m - need b p
    have eDN : PyData.list (DN.map PyData.int) = .list ((msL sn).map fun m => .int (levN b v m - need b p)) := by rw [List.map_map]; rfl
    have lvb : ∀ m ∈ msL sn, levN b v sn - need b p ≤ levN b v m - need b p ∧ levN b v m ≤ 99 := fun m hm => by
      have h1 := lev_mono bo (v := v) (ms_b sn0 sn1 hm).1
      have h2 : levN b v m ≤ b.full := by unfold levN; omega
      omega
    have base0 : 0 ≤ levN b v sn - need b p := by
      have h1 := lev_mono bo (v := v) (i := lk) (j := sn) (by omega)
      have h2 : need b p ≤ levN b v lk := by unfold levN; omega
      omega
    have okD : OkD (.list ((msL sn).map fun m => .int (levN b v m - need b p))) 390000 40 := by
      rw [← eDN]
      refine (ints_okd (ns := DN) (n := 18) (fun i hi => ?_) ?_).mono
      · obtain ⟨m, hm, rfl⟩ := List.mem_map.mp hi
        have := lvb m hm
        omega
      · show ((msL sn).map _).length ≤ 18
        unfold msL
        rw [List.length_map, List.length_append, List.length_map, List.length_map, List.length_range, List.length_range]
        decide
    have pwD : DN.Pairwise (· ≤ ·) := List.pairwise_map.mpr (List.Pairwise.imp (fun {i j} h => by have := lev_mono bo (v := v) h; omega) (ms_up sn0 sn1))
    have snm : sn ∈ msL sn := by unfold msL; exact List.mem_append_left _ (List.mem_map.mpr ⟨0, by decide, by simp⟩)
    refine s_if0 (XW.pt (pw_o (u := false) (pt_neR (pd_repr hgd hu T.repr (pa_c (pd_v 6) pa_n) okD) (pd_repr hgd hu T.repr (pa_c (pd_v 14) pa_n) okD)) fun _ => pw_o (u := false) (w := false) ((pt_lt (pd_minL (ns := DN) (m := levN b v sn - need b p) rfl T.min (pa_c ((pd_v 14).is eDN.symm) pa_n) (List.mem_map.mpr ⟨sn, snm, rfl⟩) (fun y hy => by
        obtain ⟨m, hm, rfl⟩ := List.mem_map.mp hy
        exact (lvb m hm).1)) pd_int).mono fun c e => by rw [e, decide_eq_false (by omega)]) fun _ => pw_o1 (pt_neSame (d := .list (DN.map PyData.int)) hu ((pd_v 14).is eDN.symm) (pd_sorted T.sorted (pa_c ((pd_v 14).is eDN.symm) pa_n) (List.Perm.refl _) pwD) (shaped_ints _)))) ?_
    have big : levN b v (a + 10 ^ (24 : Int).toNat - a) = b.full := by
      rw [show a + 10 ^ (24 : Int).toNat - a = 10 ^ 24 by show a + 10 ^ 24 - a = 10 ^ 24; omega]
      have : 1 * (10 : Int) ^ 24 ≤ b.rate * 10 ^ 24 := Int.mul_le_mul_of_nonneg_right r1 (by decide)
      unfold levN
      omega
    refine s_set 15 scLStand.nd ((pd_callK (ks := ["departure", "arrival", "level", "place", "block"]) [4, 3, 2, 1, 0] C3 (k_c (pd_add (pd_v 4) (pd_pow pd_int pd_int (by unfold CPow; decide))) (k_c (pd_v 4) (k_c (pd_v 3) (k_c (pd_v 2) (k_c (pd_v 1) k_n))))) ⟨x, p, _, a, a + 10 ^ (24 : Int).toNat, ok, p1, p2, lv, a0, by rw [eR]; show a + sn ≤ a + 10 ^ 24; omega, by show 0 ≤ a + 10 ^ 24; omega, rfl, rfl⟩ (fun _ _ _ _ _ _ us hl => match us, hl with | [_, _, _, _, _], _ => rfl)).is (d := .int (b.full - need b p)) (by rw [eV, big])) ?_
    refine s_ret (pd_and (u := true) (w := true) ((pd_eqI (pd_v 15) (pd_sub (pd_v 7) (pd_ixT (pd_v 8) (pd_v 2) (at_need bo p2)))).is (by rw [decide_eq_true rfl])) fun _ => pd_one ((pd_or (u := decide (v = b.full)) (w := true) (pd_eqI (pd_v 3) (pd_v 7)) fun h => pd_one ?_).is (by rw [Bool.or_true]))) rfl
    have vl : v + 1 ≤ b.full := by have := of_decide_eq_false h; omega
    have lv2 : LvOk x (.int (v + 1)) := by unfold LvOk; rw [← hbt]; exact ⟨v + 1, by omega, vl, rfl⟩
    refine (pd_le (pd_call C2 (pa_c (pd_v 1) (pa_c (pd_v 2) (pa_c (pd_add (pd_v 3) pd_int) (pa_c (pd_v 4) pa_n)))) ⟨x, p, _, a, ok, p1, p2, lv2, a0, rfl, rfl⟩) (pd_add (pd_v 4) (pd_v 12))).is ?_
    have : readyL x p (.int (v + 1)) a ≤ a + sn := by
      have h1 := lack_mono bo p2 v0
      have h2 : lackL x p (.int (v + 1)) = lackN b p (v + 1) := by unfold lackL; rw [← hbt]
      unfold readyL
      rw [h2]
      omega
    rw [decide_eq_true this]
end
end K21

set_option linter.all false
set_option maxRecDepth 100000
set_option maxHeartbeats 8000000
namespace K21
open PySem PySem.Spec PyProof.Rows L2 Dv
theorem Row.more {x : Blk} {ts : List (Int × Int)} {ls : List Dt} {t u : Int × Int} {l m : Dt} (r : Row x (ts ++ [t]) (ls ++ [l])) (hr : readyL x (ts.length + 1) l t.2 ≤ u.1) (h0 : 0 ≤ u.1) (h1 : u.1 ≤ u.2) (hm : m = levL x (ts.length + 1) l (u.1 - t.2)) (hv : LvOk x m) : Row x (ts ++ [t] ++ [u]) (ls ++ [l] ++ [m]) := by
  have len0 : ls.length = ts.length := by have := r.len; simpa using this
  refine ⟨by simp [len0], by simp, fun w hw => ?_, ?_, fun w hw => ?_, fun p t' u' l' ht hu hl => ?_⟩
  · rcases List.mem_append.mp hw with h | h
    · exact r.tm w h
    · rw [List.mem_singleton.mp h]; exact ⟨h0, h1⟩
  · rw [List.getElem?_append_left (by simp)]
    exact r.first
  · rcases List.mem_append.mp hw with h | h
    · exact r.lv w h
    · rw [List.mem_singleton.mp h]; exact hv
  · have hp : p + 1 < ts.length + 2 := by
      have := (List.getElem?_eq_some_iff.mp hu).1
      simpa using this
    by_cases hq : p + 1 < ts.length + 1
    · rw [List.getElem?_append_left (by simp; omega)] at ht hu
      rw [List.getElem?_append_left (by simp; omega)] at hl
      obtain ⟨s1, s2⟩ := r.step p t' u' l' ht hu hl
      refine ⟨?_, s2⟩
      rw [List.getElem?_append_left (by simp; omega)]
      exact s1
    · have e : p = ts.length := by omega
      subst e
      rw [List.getElem?_append_left (by simp), List.getElem?_concat_length] at ht
      cases ht
      have e2 : ts.length + 1 = (ts ++ [t]).length := by simp
      rw [e2, List.getElem?_concat_length] at hu
      cases hu
      rw [List.getElem?_append_left (by simp; omega), ← len0, List.getElem?_concat_length] at hl
      cases hl
      refine ⟨?_, hr⟩
      have e3 : ts.length + 1 = (ls ++ [l]).length := by simp [len0]
      rw [e3, List.getElem?_concat_length, hm, ← e3]
theorem Row.one {x : Blk} {t : Int × Int} (h0 : 0 ≤ t.1) (h1 : t.1 ≤ t.2) (hv : LvOk x (firstL x)) : Row x ([] ++ [t]) ([] ++ [firstL x]) := by
  refine ⟨rfl, Nat.le_refl _, fun w hw => ?_, rfl, fun w hw => ?_, fun p t' u' l' ht hu hl => ?_⟩
  · rw [List.mem_singleton.mp hw]; exact ⟨h0, h1⟩
  · rw [List.mem_singleton.mp hw]; exact hv
  · have := (List.getElem?_eq_some_iff.mp hu).1
    simp at this
theorem first_ok {x : Blk} (ok : x.ok) : LvOk x (firstL x) := by
  obtain ⟨bt, hbt⟩ : ∃ bt, bt = x.bat := ⟨_, rfl⟩
  unfold LvOk firstL
  rw [← hbt]
  cases bt with
  | none => rfl
  | some b =>
    have bo := ok.bt b hbt.symm
    have n1 := ok.n1
    have h := bo.nb _ (getD_mem (ns := b.needs) (p := 0) (by rw [bo.nl]; omega))
    have h2 : need b 0 = b.needs.getD 0 0 := rfl
    exact ⟨b.full - need b 0, by omega, by omega, rfl⟩
theorem lev_ok {x : Blk} (ok : x.ok) {p : Nat} (hp : p < x.trips.length) {l : Dt} (lv : LvOk x l) {m : Int} (hm : lackL x p l ≤ m) : LvOk x (levL x p l m) := by
  obtain ⟨bt, hbt⟩ : ∃ bt, bt = x.bat := ⟨_, rfl⟩
  unfold LvOk at lv ⊢
  unfold levL
  unfold lackL at hm
  rw [← hbt] at lv hm ⊢
  cases bt with
  | none => rfl
  | some b =>
    obtain ⟨v, v0, v1, rfl⟩ := lv
    have bo := ok.bt b hbt.symm
    have r1 := bo.r1
    have h := bo.nb _ (getD_mem (ns := b.needs) (p := p) (by rw [bo.nl]; exact hp))
    have h2 : need b p = b.needs.getD p 0 := rfl
    obtain ⟨_, _, lk2, _⟩ := lack_spec bo hp v0
    have h3 := lev_mono bo (v := v) hm
    have h4 : need b p ≤ levN b v (lackN b p v) := by unfold levN; omega
    have h5 : levN b v m ≤ b.full := by unfold levN; omega
    exact ⟨levN b v m - need b p, by show 0 ≤ levN b v m - need b p; have : levN b v (lackN b p v) ≤ levN b v m := h3; omega, by omega, rfl⟩
theorem times_okd {ts : List (Int × Int)} (h : ∀ t ∈ ts, 0 ≤ t.1 ∧ t.1 ≤ t.2) (hb : ∀ t ∈ ts, t.2 ≤ 10 ^ 26) (hl : ts.length ≤ 16) : OkD (.list (ts.map tD)) 390000 40 := (okd_list (b := 2) (k := 1) (n := 16) (fun d hd => by
  obtain ⟨t, ht, rfl⟩ := List.mem_map.mp hd
  have h1 := h t ht
  have h2 := hb t ht
  refine okd_tuple (b := 0) (k := 0) (n := 2) (fun d hd => ?_) (by simp)
  simp only [List.mem_cons, List.not_mem_nil, or_false] at hd
  rcases hd with rfl | rfl
  · exact okd_int (by omega)
  · exact okd_int (by omega)) (by rw [List.length_map]; exact hl)).mono
theorem lvs_okd {x : Blk} (ok : x.ok) {ls : List Dt} (h : ∀ l ∈ ls, LvOk x l) (hl : ls.length ≤ 16) : OkD (.list ls) 16 1 := (okd_list (b := 0) (k := 0) (n := 16) (fun d hd => lv_okd ok (h d hd)) hl).mono
section
variable {P : Program} {w : World} {K : Fg} {mg : Str → Option Value} {base : Heap} {f : Addr} {fd : FuncData}
abbrev NW : List Str := ["pot", "block", "arrival", "many", "times", "own", "place", "wait", "full", "needs", "rate", "found", "shown", "told", "minute", "one"]
theorem scLRow : FnScope NW ["pot", "block", "arrival"] (defScope sLRow) := ⟨rfl, rfl, rfl, by decide +kernel, rfl, by decide +kernel, by decide +kernel⟩
def rLRow (ds : List Dt) (T : Dt → Prop) : Prop := ∃ (x : Blk) (a : Int), x.ok ∧ 0 ≤ a ∧ a ≤ 10 ^ 25 ∧ ds = [x.d, .int a] ∧ T = fun d => d = .bool true
theorem f_lrow (T : T0 K mg) (C1 : Cal P w K mg base 1 "_law_draw" ["pot", "many"] sLDraw (spP K rLDraw)) (C2 : Cal P w K mg base 2 "_law_pick" ["pot", "some"] sLPick (spP K rLPick)) (C3 : Cal P w K mg base 1 "_law_levels" ["full", "rate", "level", "many"] sLLevels (spO K rLLevels)) (C4 : Cal P w K mg base 8 "levels" ["block", "times"] sLevels (spO K rLevels))
    (F : Fun K "_law_row_right" "_law_row_right" sLRow f fd) : FnG P w K mg base 9 f fd ["pot", "block", "arrival"] (spP K rLRow) := by
  refine fn_pot F scLRow (fun ds T ⟨_, _, _, _, _, e, _⟩ => by subst e; rfl) fun cdv A outer s H E hr hgd hu ds U h => ?_
  obtain ⟨x, a, ok, a0, a1, rfl, rfl⟩ := h
  have n1 := ok.n1
  have n2 := ok.n2
  obtain ⟨n, en⟩ : ∃ n : Nat, n = x.trips.length := ⟨_, rfl⟩
  rw [← en] at n1 n2
  refine ss_seq (N := fun y => y = [.pot, .d x.d, .d (.int a), .d (.int ((n : Nat) : Int)), .own (([] ++ [(a, a + 5)]).map tD), .no, .no, .no, .no, .no, .no, .no, .no, .no, .no, .no]) (sd_parO (R := fun d => d = .int ((n : Nat) : Int)) (S := fun y => y = [tD (a, a + 5)]) 3 4 scLRow.nd (by decide) ((pd_len_tup T.len (pa_c (pd_ixT (d := intsT x.trips) (pd_v 1) pd_int rfl) pa_n)).is (by rw [List.length_map, en])) (xo_lst (pa_c (pd_tup (pa_c (pd_v 2) (pa_c (pd_add (pd_v 2) pd_int) pa_n))) pa_n) (fun ds e => by rw [e]; simp)) fun d ds e1 e2 => by rw [e1, e2]; rfl) fun δ' e => ?_
  subst e
  obtain ⟨bt, hbt⟩ : ∃ bt, bt = x.bat := ⟨_, rfl⟩
  refine ss_seq (N := fun y => y = [.pot, .d x.d, .d (.int a), .d (.int ((n : Nat) : Int)), .own (([] ++ [(a, a + 5)]).map tD), .own ([] ++ [firstL x]), .no, .no, .no, .no, .no, .no, .no, .no, .no, .no]) (sd_own (S := fun y => y = [firstL x]) 5 scLRow.nd (xo_lst (pa_c ?_ pa_n) (fun ds e => by rw [e]; simp)) fun ds e => by rw [e]; rfl) fun δ' e => ?_
  · cases bt with
    | none => exact pd_if (k := true) (pt_isN (pd_ixT (d := .none) (pd_v 1) pd_int (by show some (batD x.bat) = _; rw [← hbt]; rfl)) pd_non) (fun _ => (pd_non).is (by unfold firstL; rw [← hbt])) fun h => Bool.noConfusion h
    | some b =>
      have hb3 : atI ([.str "block", intsT x.trips, intsT x.turns, batD x.bat] : List Dt) 3 = some b.d := by show some (batD x.bat) = _; rw [← hbt]; rfl
      exact pd_if (k := false) (pt_isN (pd_ixT (d := b.d) (pd_v 1) pd_int hb3) pd_non) (fun h => Bool.noConfusion h) fun _ => (pd_sub (pd_ixT (pd_ixT (d := b.d) (pd_v 1) pd_int hb3) pd_int rfl) (pd_ixT (pd_ixT (d := intsT b.needs) (pd_ixT (d := b.d) (pd_v 1) pd_int hb3) pd_int rfl) pd_int (at_need (p := 0) (ok.bt b hbt.symm) (by omega)))).is (by unfold firstL; rw [← hbt])
  subst e
  refine ss_seq (N := fun y => ∃ ts t ls l e6 e7 e8 e9 e10 e11, ts.length + 1 = n ∧ Row x (ts ++ [t]) (ls ++ [l]) ∧ (∀ u ∈ ts ++ [t], u.2 ≤ 10 ^ 26) ∧ y = [.pot, .d x.d, .d (.int a), .d (.int ((n : Nat) : Int)), .own ((ts ++ [t]).map tD), .own (ls ++ [l]), e6, e7, e8, e9, e10, e11, .no, .no, .no, .no])
    (sd_for (js := [6]) PassesOwn.never rfl (i_rng2 (i := 1) (j := ((n : Nat) : Int)) (pa_c pd_int (pa_c (pd_v 3) pa_n)) T.range (by omega))
      (fun _ i y => ∃ ts t ls l e6 e7 e8 e9 e10 e11, ts.length = i ∧ Row x (ts ++ [t]) (ls ++ [l]) ∧ (∀ u ∈ ts ++ [t], u.2 ≤ a + 5 + 200 * (i : Int)) ∧ y = [.pot, .d x.d, .d (.int a), .d (.int ((n : Nat) : Int)), .own ((ts ++ [t]).map tD), .own (ls ++ [l]), e6, e7, e8, e9, e10, e11, .no, .no, .no, .no])
      (fun _ _ => ⟨[], (a, a + 5), [], firstL x, .no, .no, .no, .no, .no, .no, rfl, .one a0 (by show a ≤ a + 5; omega) (first_ok ok), fun u hu => by rw [List.mem_singleton.mp hu]; show a + 5 ≤ a + 5 + 200 * ((0 : Nat) : Int); omega, rfl⟩)
      (fun d δ' => δ'.set 6 (.d d)) (fun ds i d δ' e h iv => tg_name 6 scLRow.nd) (fun ds i d δ' e h iv => ?_) (fun ds δ' e iv => ?_)) (fun δ' iv => ?_)
  · subst e
    obtain ⟨ts, t, ls, l, e6, e7, e8, e9, e10, e11, tl, row, tb, rfl⟩ := iv
    obtain ⟨hi, rfl⟩ := rngD_at h
    have hp : (1 : Int) + ((i : Nat) : Int) = ((i + 1 : Nat) : Int) := by omega
    rw [hp]
    have p2 : i + 1 < x.trips.length := by omega
    obtain ⟨t0, t1⟩ := ok.turn_b (p := i + 1) (by omega) p2
    have lsl : ls.length = ts.length := by have := row.len; simpa using this
    have lv := row.lv l (List.mem_append_right _ List.mem_cons_self)
    have tm := row.tm t (List.mem_append_right _ List.mem_cons_self)
    have tbt := tb t (List.mem_append_right _ List.mem_cons_self)
    refine ss_seq (N := fun y => ∃ v : Int, turnL x (i + 1) ≤ v ∧ v ≤ 100 ∧ y = [.pot, .d x.d, .d (.int a), .d (.int ((n : Nat) : Int)), .own ((ts ++ [t]).map tD), .own (ls ++ [l]), .d (.int ((i + 1 : Nat) : Int)), .d (.int v), e8, e9, e10, e11, .no, .no, .no, .no])
      (sd_set (R := IntP fun v => turnL x (i + 1) ≤ v ∧ v ≤ 100) 7 scLRow.nd (xi_add (S := fun k => k = turnL x (i + 1)) (T := fun k => 0 ≤ k ∧ k ≤ 40) (xi_of (pd_ixT (pd_ixT (d := intsT x.turns) (pd_v 1) pd_int rfl) (pd_sub (pd_v 6) pd_int) (at_turn ok (by omega) p2)) rfl) (xd_pot C2 0 (pa_c (pd_lst (pa_c pd_int (pa_c pd_int (pa_c pd_int (pa_c pd_int pa_n))))) pa_n) fun ds e => ⟨[.int 0, .int 0, .int 1, .int 40], by decide, by decide, e, fun d hd => by
          simp only [List.mem_cons, List.not_mem_nil, or_false] at hd
          rcases hd with rfl | rfl | rfl | rfl <;> exact ⟨_, rfl, by omega⟩⟩) fun i j e h => by subst e; omega) fun d ⟨v, e, h1, h2⟩ => ⟨v, h1, h2, by subst e; rfl⟩) fun δ' ⟨v, v1, v2, e⟩ => ?_
    subst e
    refine ss_seq (N := fun y => ∃ v e8 e9 e10 e11, turnL x (i + 1) ≤ v ∧ lackL x (i + 1) l ≤ v ∧ v ≤ 100 ∧ y = [.pot, .d x.d, .d (.int a), .d (.int ((n : Nat) : Int)), .own ((ts ++ [t]).map tD), .own (ls ++ [l] ++ [levL x (i + 1) l v]), .d (.int ((i + 1 : Nat) : Int)), .d (.int v), e8, e9, e10, e11, .no, .no, .no, .no]) ?_ fun δ' ⟨v, e8, e9, e10, e11, v1, v2, v3, e⟩ => ?_
    · have lv' := lv
      unfold LvOk at lv'
      rw [← hbt] at lv'
      cases bt with
      | none =>
        have eL : lackL x (i + 1) l = 0 := by unfold lackL; rw [← hbt]
        have eV : ∀ m, levL x (i + 1) l m = .none := fun m => by unfold levL; rw [← hbt]
        refine sd_if (S := fun c => c = false) (pt_notN (pd_ixT (d := .none) (pd_v 1) pd_int (by show some (batD x.bat) = _; rw [← hbt]; rfl)) pd_non) (fun h => Bool.noConfusion h) fun _ => ?_
        exact s_app 5 rfl pd_non (ss_nil ⟨v, e8, e9, e10, e11, v1, by omega, v2, by rw [eV]; rfl⟩) (by rw [List.length_append, lsl]; simp; omega)
      | some b =>
        obtain ⟨q, q0, q1, rfl⟩ := lv'
        have bo := ok.bt b hbt.symm
        have f2 := bo.f2
        have r1 := bo.r1
        have hnd := bo.nb _ (getD_mem (ns := b.needs) (p := i + 1) (by rw [bo.nl]; exact p2))
        have nd1 : 1 ≤ need b (i + 1) := hnd.1
        have nd2 : need b (i + 1) ≤ b.full := hnd.2
        obtain ⟨lk0, lk1, lk2, lk3⟩ := lack_spec bo p2 q0
        obtain ⟨lk, elk⟩ : ∃ lk, lk = lackN b (i + 1) q := ⟨_, rfl⟩
        rw [← elk] at lk0 lk1 lk2 lk3
        have eL : lackL x (i + 1) (.int q) = lk := by rw [elk]; unfold lackL; rw [← hbt]
        have eV : ∀ m, levL x (i + 1) (.int q) m = .int (levN b q m - need b (i + 1)) := fun m => by unfold levL; rw [← hbt]
        have hb3 : atI ([.str "block", intsT x.trips, intsT x.turns, batD x.bat] : List Dt) 3 = some b.d := by show some (batD x.bat) = _; rw [← hbt]; rfl
        refine sd_if (S := fun c => c = true) (pt_notN (pd_ixT (d := b.d) (pd_v 1) pd_int hb3) pd_non) (fun _ => ?_) fun h => Bool.noConfusion h
        refine s_asg (pd_ixT (d := b.d) (pd_v 1) pd_int hb3) (tg_tup rfl (tgs_cons (tg_name 8 scLRow.nd) (tgs_cons (tg_name 9 scLRow.nd) (tgs_cons (tg_name 10 scLRow.nd) tgs_nil)))) ?_
        refine s_set 11 scLRow.nd (d := .list (foundL b q 201)) (pd_call C3.data (pa_c (pd_v 8) (pa_c (pd_v 10) (pa_c (pd_ownAt (k := -1) (d := .int q) 5 rfl (pd_neg pd_int) (atI_last _ _)) (pa_c pd_int pa_n)))) ⟨_, ⟨b, q, 200, by omega, q1, by decide, rfl, rfl⟩, rfl⟩) ?_
        obtain ⟨kk, ekk⟩ := Int.eq_ofNat_of_zero_le lk0
        have hfil : ((List.range 201).filter fun j : Nat => decide (need b (i + 1) ≤ levN b q (j : Int)))[0]? = some kk := filt_head (by omega) (decide_eq_true (by unfold levN; rw [← ekk]; omega)) (fun j hj => decide_eq_false (by have := lk3 (j : Int) (by omega) (by omega); unfold levN; omega))
        refine s_set 7 scLRow.nd (d := .int (max v lk)) (pd_max2 rfl T.max (pa_c (pd_v 7) (pa_c (pd_ixL (d := .int lk) ((lc_mapIf (xs := List.range 201) (enc := fun j : Nat => PyData.tuple [.int (j : Int), .int (levN b q (j : Int))]) (F := fun j : Nat => .int (j : Int)) (c := fun j : Nat => decide (need b (i + 1) ≤ levN b q (j : Int))) (own := [("minute", 14), ("one", 15)]) (by rw [← enD_range (F := fun j : Nat => PyData.int (levN b q (j : Int)))]; exact i_enum (pa_c (pd_v 11) pa_n) T.enumerate) (blkOk_by (N := NW) (sc := defScope sLRow) (by decide +kernel)) (by rw [List.length_range]; decide)
          (fun d => match d with | .tuple [d1, d2] => [.pot, .d x.d, .d (.int a), .d (.int ((n : Nat) : Int)), .own ((ts ++ [t]).map tD), .own (ls ++ [.int q]), .d (.int ((i + 1 : Nat) : Int)), .d (.int v), .d (.int b.full), .d (intsT b.needs), .d (.int b.rate), .d (.list (foundL b q 201)), .no, .no, .d d1, .d d2] | _ => [])
          (fun s H C cl fp i y hy => tg_tup rfl (tgs_cons (tg_name 14 scLRow.nd) (tgs_cons (tg_name 15 scLRow.nd) tgs_nil)))
          (fun s H C cl fp i y hy => pt_ge (pd_v 15) (pd_ixT (pd_v 9) (pd_v 6) (at_need bo p2))) (fun s H C cl fp i y hy hc => pd_v 14)).xd scLRow.nd) pd_int (by rw [ekk]; exact at_map (i := 0) hfil)) pa_n))) ?_
        refine s_app 5 rfl (pd_sub (pd_ixL (d := .int (levN b q (max v lk))) (pd_v 11) (pd_v 7) (found_at (by omega) (by omega))) (pd_ixT (pd_v 9) (pd_v 6) (at_need bo p2))) (ss_nil ⟨max v lk, .d (.int b.full), .d (intsT b.needs), .d (.int b.rate), .d (.list (foundL b q 201)), by omega, by rw [eL]; omega, by omega, by rw [eV]; rfl⟩) (by rw [List.length_append, lsl]; simp; omega)
    subst e
    have rdy : readyL x (ts.length + 1) l t.2 ≤ t.2 + v := by rw [tl]; unfold readyL; omega
    have last : atI ((ts ++ [t]).map tD) (-1) = some (tD t) := by rw [List.map_append]; exact atI_last _ _
    have hlen : ((ts ++ [t]).map tD).length < 100000 := by rw [List.length_map, List.length_append]; simp; omega
    refine ss_seq (N := fun y => ∃ r : Int, 0 ≤ r ∧ r < 30 ∧ y = [.pot, .d x.d, .d (.int a), .d (.int ((n : Nat) : Int)), .own ((ts ++ [t] ++ [(t.2 + v, t.2 + v + r)]).map tD), .own (ls ++ [l] ++ [levL x (i + 1) l v]), .d (.int ((i + 1 : Nat) : Int)), .d (.int v), e8, e9, e10, e11, .no, .no, .no, .no])
      (sd_app (R := fun d => ∃ r : Int, 0 ≤ r ∧ r < 30 ∧ d = tD (t.2 + v, t.2 + v + r)) 4 rfl (xd_tup (xa_pc (d := .int (t.2 + v)) (pd_add (pd_ixT (d := .int t.2) (pd_ownAt (k := -1) 4 rfl (pd_neg pd_int) last) pd_int rfl) (pd_v 7)) (xa_xc (R := IntP fun k => ∃ r, 0 ≤ r ∧ r < 30 ∧ k = t.2 + v + r) (xi_add (S := fun k => k = t.2 + v) (T := Lo 30) (xi_of (pd_add (pd_ixT (d := .int t.2) (pd_ownAt (k := -1) 4 rfl (pd_neg pd_int) last) pd_int rfl) (pd_v 7)) rfl) (xd_pot C1 0 (pa_c pd_int pa_n) fun ds e => ⟨30, by decide, by decide, e, rfl⟩) fun k j e ⟨h1, h2⟩ => ⟨j, h1, h2, by rw [e]⟩) xa_nil)) (by decide)
        fun ds ⟨y1, e1, d2, y2, e2, ⟨k, ek, r, r0, r1, er⟩, e3⟩ => by subst e3; subst ek; subst er; subst e2; subst e1; exact ⟨⟨r, r0, r1, rfl⟩, by simp⟩) (fun d ⟨r, r0, r1, e⟩ => ⟨r, r0, r1, by subst e; rw [List.map_append (l₁ := ts ++ [t])]; rfl⟩) hlen) fun δ' ⟨r, r0, r1, e⟩ => ?_
    subst e
    refine ss_nil ⟨ts ++ [t], (t.2 + v, t.2 + v + r), ls ++ [l], levL x (i + 1) l v, _, _, _, _, _, _, by rw [List.length_append, tl]; rfl, row.more rdy (by show 0 ≤ t.2 + v; omega) (by show t.2 + v ≤ t.2 + v + r; omega) (by rw [tl]; show levL x (i + 1) l v = levL x (i + 1) l (t.2 + v - t.2); rw [show t.2 + v - t.2 = v by omega]) (lev_ok ok p2 lv v2), fun u hu => ?_, rfl⟩
    rcases List.mem_append.mp hu with h | h
    · have := tb u h; omega
    · rw [List.mem_singleton.mp h]; show t.2 + v + r ≤ _; omega
  · subst e
    obtain ⟨ts, t, ls, l, e6, e7, e8, e9, e10, e11, tl, row, tb, rfl⟩ := iv
    rw [rngD_length] at tl tb
    exact ⟨ts, t, ls, l, e6, e7, e8, e9, e10, e11, by omega, row, fun u hu => by have := tb u hu; omega, rfl⟩
  · obtain ⟨ts, t, ls, l, e6, e7, e8, e9, e10, e11, tl, row, tb, rfl⟩ := iv
    have len : (ts ++ [t]).length = x.trips.length := by rw [List.length_append, ← en]; simpa using tl
    have okT := times_okd row.tm tb (by omega)
    have okL := lvs_okd ok row.lv (by rw [row.len]; omega)
    have okL2 : OkD (.list [.list (ls ++ [l]), .list (ls ++ [l])]) 390000 40 := (okd_list (b := 16) (k := 1) (n := 2) (fun d hd => by
      simp only [List.mem_cons, List.not_mem_nil, or_false] at hd
      rcases hd with rfl | rfl <;> exact okL) (by simp)).mono
    have okL1 : OkD (.list (ls ++ [l])) 390000 40 := okL.mono
    refine ss_frz 4 rfl (ss_frz 5 rfl ?_)
    refine ss_seq (N := fun y => y = [.pot, .d x.d, .d (.int a), .d (.int ((n : Nat) : Int)), .d (.list ((ts ++ [t]).map tD)), .d (.list (ls ++ [l])), e6, e7, e8, e9, e10, e11, .d (.str (PyData.list ((ts ++ [t]).map tD)).shown), .own (ls ++ [l]), .no, .no]) (sd_parO (R := fun d => d = .str (PyData.list ((ts ++ [t]).map tD)).shown) (S := fun y => y = ls ++ [l]) 12 13 scLRow.nd (by decide) (pd_repr hgd hu T.repr (pa_c (pd_v 4) pa_n) okT) (xo_call C4 (pa_c (pd_v 1) (pa_c (pd_v 4) pa_n)) ⟨x, _, _, ok, .inl rfl, row, len, rfl⟩) fun d ds e1 e2 => by rw [e1, e2]; rfl) fun δ' e => ?_
    subst e
    refine s_if0 (xt_frz 13 rfl (XW.pt (pw_o (u := !true) (w := false) (pt_n (pt_v (pd_isi "list" "list" true T.isi T.list (pd_v 13)))) fun _ => pw_o (u := false) (w := false) (pt_neR (pd_repr hgd hu T.repr (pa_c (pd_lst (pa_c (pd_v 13) (pa_c (pd_callK (ks := ["times", "block"]) [1, 0] C4.data (k_c (pd_tuple_of T.tuple (pa_c (pd_v 4) pa_n)) (k_c (pd_v 1) k_n)) ⟨_, ⟨x, _, _, ok, .inr rfl, row, len, rfl⟩, rfl⟩ (fun _ _ _ _ _ _ us hl => match us, hl with | [_, _], _ => rfl)) pa_n))) pa_n) okL2) (pd_repr hgd hu T.repr (pa_c (pd_lst (pa_c (pd_v 5) (pa_c (pd_v 5) pa_n))) pa_n) okL2)) fun _ => pw_o1 (pt_neR (pd_repr hgd hu T.repr (pa_c (pd_v 4) pa_n) okT) (pd_v 12))))) ?_
    refine s_app 13 rfl pd_non ?_ (by rw [row.len, len]; omega)
    exact s_ret (pd_eqR (pd_repr hgd hu T.repr (pa_c (pd_call C4.data (pa_c (pd_v 1) (pa_c (pd_v 4) pa_n)) ⟨_, ⟨x, _, _, ok, .inl rfl, row, len, rfl⟩, rfl⟩) pa_n) okL1) (pd_repr hgd hu T.repr (pa_c (pd_v 5) pa_n) okL1)) rfl
end
end K21

set_option linter.all false
set_option maxRecDepth 100000
set_option maxHeartbeats 8000000
namespace K21
open PySem PySem.Spec PyProof.Rows L2 Dv
def absL (i : Int) : Int := if i < 0 then -i else i
def cellL (ns : List Int) (k : Int) : Int := if decide (k < ((ns.length : Nat) : Int)) = true then absL (ns.getD k.toNat 0) else 823 * k + 89
def potA (ns : List Int) (k : Int) : Int := max 0 (cellL ns k - 10 ^ (18 : Int).toNat)
def potB (ns : List Int) (k : Int) : Int := (cellL ns k % 2147483549 * 40014 + 6143 * k + 179) % 2147483563 + 1
theorem pot_ok (ns : List Int) (k : Int) : potOk (potA ns k) (potB ns k) := by
  unfold potOk potA potB
  have h1 := Int.emod_nonneg (cellL ns k % 2147483549 * 40014 + 6143 * k + 179) (b := 2147483563) (by omega)
  have h2 := Int.emod_lt_of_pos (cellL ns k % 2147483549 * 40014 + 6143 * k + 179) (b := 2147483563) (by omega)
  omega
section
variable {P : Program} {w : World} {K : Fg} {mg : Str → Option Value} {base : Heap} {f : Addr} {fd : FuncData}
theorem scLPot : FnScope ["script", "k", "cell"] ["script", "k"] (defScope sLPot) := ⟨rfl, rfl, rfl, by decide +kernel, rfl, by decide +kernel, by decide +kernel⟩
def rLPot (ds es : List Dt) : Prop := ∃ (ns : List Int) (k : Int), 0 ≤ k ∧ k ≤ 2 ∧ ds = [.list (ns.map PyData.int), .int k] ∧ es = [.int (potA ns k), .int (potB ns k)]
theorem f_lpot (T : T0 K mg) (F : Fun K "_law_pot" "_law_pot" sLPot f fd) : FnG P w K mg base 1 f fd ["script", "k"] (spO K rLPot) := by
  refine fn_own F scLPot (fun ds d ⟨_, _, _, _, e, _⟩ => by subst e; rfl) fun cdv A outer s H E hr hgd hu ds d h => ?_
  obtain ⟨ns, k, k0, k1, rfl, rfl⟩ := h
  refine s_set 2 scLPot.nd (d := .int (cellL ns k)) (pd_if (k := decide (k < ((ns.length : Nat) : Int))) ((pt_lt (pd_v 1) (pd_len_list T.len (pa_c (pd_v 0) pa_n))).mono fun c e => by rw [e, List.length_map]) (fun h => ?_) (fun h => ?_)) ?_
  · have hk : k.toNat < ns.length := by have := of_decide_eq_true h; omega
    refine (pd_abs T.abs (pa_c (pd_ixL (d := .int (ns.getD k.toNat 0)) (pd_v 0) (pd_v 1) ?_) pa_n)).is ?_
    · obtain ⟨j, rfl⟩ := Int.eq_ofNat_of_zero_le k0
      exact at_ints (by simpa using hk)
    · unfold cellL absL; rw [if_pos h]
  · refine (pd_add (pd_mul pd_int (pd_v 1) (by unfold CMul; omega)) pd_int).is ?_
    unfold cellL; rw [if_neg (by rw [h]; decide)]
  · refine s_retLst (pa_c (pd_max2 rfl T.max (pa_c pd_int (pa_c (pd_sub (pd_v 2) (pd_pow pd_int pd_int (by unfold CPow; decide))) pa_n))) (pa_c (pd_add (pd_mod (pd_int1 T.int (pa_c (pd_add (pd_add (pd_mul (pd_mod (pd_int1 T.int (pa_c (pd_v 2) pa_n)) pd_int (by decide)) pd_int (by unfold CMul; omega)) (pd_mul pd_int (pd_v 1) (by unfold CMul; omega))) pd_int) pa_n)) pd_int (by decide)) pd_int) pa_n)) rfl
abbrev NR : List Str := ["pot", "many", "block", "arrival", "shown", "first", "turn", "place", "level"]
theorem scLRight : FnScope NR ["pot"] (defScope sLRight) := ⟨rfl, rfl, rfl, by decide +kernel, rfl, by decide +kernel, by decide +kernel⟩
def rLRight (ds : List Dt) (T : Dt → Prop) : Prop := ds = [] ∧ T = fun d => d = .bool true
theorem f_lright (T : T0 K mg) (C1 : Cal P w K mg base 2 "_law_pick" ["pot", "some"] sLPick (spP K rLPick)) (C2 : Cal P w K mg base 1 "_law_draw" ["pot", "many"] sLDraw (spP K rLDraw)) (C3 : Cal P w K mg base 3 "_law_block" ["pot", "many"] sLBlock (spP K rLBlock)) (C4 : Cal P w K mg base 7 "first_level" ["block"] sFirst (spD K rFirst))
    (C5 : Cal P w K mg base 10 "_law_stand_right" ["pot", "block", "place", "level", "arrival"] sLStand (spP K rLStand)) (C6 : Cal P w K mg base 9 "_law_row_right" ["pot", "block", "arrival"] sLRow (spP K rLRow))
    (F : Fun K "_law_right" "_law_right" sLRight f fd) : FnG P w K mg base 11 f fd ["pot"] (spP K rLRight) := by
  refine fn_pot F scLRight (fun ds T ⟨e, _⟩ => by subst e; rfl) fun cdv A outer s H E hr hgd hu ds U h => ?_
  obtain ⟨rfl, rfl⟩ := h
  refine ss_seq (N := fun y => ∃ n : Nat, 2 ≤ n ∧ n ≤ 16 ∧ y = [.pot, .d (.int ((n : Nat) : Int)), .no, .no, .no, .no, .no, .no, .no]) (sd_set (R := IntP fun k => 2 ≤ k ∧ k ≤ 16) 1 scLRight.nd (xd_pot C1 0 (pa_c (pd_lst (pa_c pd_int (pa_c pd_int (pa_c pd_int (pa_c pd_int (pa_c pd_int pa_n)))))) pa_n) fun ds e => ⟨[.int 2, .int 2, .int 3, .int 5, .int 16], by decide, by decide, e, fun d hd => by
      simp only [List.mem_cons, List.not_mem_nil, or_false] at hd
      rcases hd with rfl | rfl | rfl | rfl | rfl <;> exact ⟨_, rfl, by omega⟩⟩) fun d ⟨k, e, k1, k2⟩ => ⟨k.toNat, by omega, by omega, by subst e; rw [Int.toNat_of_nonneg (by omega)]; rfl⟩) fun δ' ⟨n, n1, n2, e⟩ => ?_
  subst e
  refine ss_seq (N := fun y => ∃ (x : Blk) (a : Int), x.ok ∧ x.trips.length = n ∧ 0 ≤ a ∧ a ≤ 10 ^ 25 ∧ y = [.pot, .d (.int ((n : Nat) : Int)), .d x.d, .d (.int a), .no, .no, .no, .no, .no]) (sd_par 2 3 scLRight.nd (by decide) (xa_xc (R := BlkP n) (xd_pot C3 0 (pa_c (pd_v 1) pa_n) fun ds e => ⟨n, by omega, n2, e, rfl⟩)
    (xa_xc (R := IntP fun a => 0 ≤ a ∧ a ≤ 10 ^ 25) (xd_pot C1 0 (xa_xc (xd_lst (R := fun d => ∃ k : Int, Lo 1500 k ∧ d = .list [.int 0, .int 7, .int 1999, .int k, .int (10 ^ (24 : Int).toNat)]) (xa_pc pd_int (xa_pc pd_int (xa_pc pd_int (xa_xc (R := IntP (Lo 1500)) (xd_pot C2 0 (pa_c pd_int pa_n) fun ds e => ⟨1500, by decide, by decide, e, rfl⟩) (pa_c (pd_pow pd_int pd_int (by unfold CPow; decide)) pa_n)))))
      fun ds ⟨y1, e1, y2, e2, y3, e3, d4, y4, e4, ⟨k, ek, hk⟩, e5⟩ => by subst e5; subst ek; subst e4; subst e3; subst e2; subst e1; exact ⟨⟨k, hk, rfl⟩, by simp⟩) xa_nil)
      fun ds ⟨d1, y1, e1, ⟨k, hk, ek⟩, e2⟩ => ⟨[.int 0, .int 7, .int 1999, .int k, .int (10 ^ (24 : Int).toNat)], by simp, by simp, by rw [e1, e2, ek], fun d hd => by
        obtain ⟨k0, k1⟩ := hk
        simp only [List.mem_cons, List.not_mem_nil, or_false] at hd
        rcases hd with rfl | rfl | rfl | rfl | rfl
        · exact ⟨_, rfl, by decide, by decide⟩
        · exact ⟨_, rfl, by decide, by decide⟩
        · exact ⟨_, rfl, by decide, by decide⟩
        · exact ⟨_, rfl, by omega, by omega⟩
        · exact ⟨_, rfl, by decide, by decide⟩⟩) xa_nil))
    fun ds ⟨d1, y1, e1, ⟨x, ok, xl, ex⟩, d2, y2, e2, ⟨a, ea, a0, a1⟩, e3⟩ => ⟨d1, d2, by rw [e1, e2, e3], x, a, ok, xl, a0, a1, by subst ex; subst ea; rfl⟩) fun δ' ⟨x, a, ok, xl, a0, a1, e⟩ => ?_
  subst e
  have okB := blk_okd ok
  have fo := first_ok ok
  have okF : OkD (.list [firstL x, firstL x]) 390000 40 := (lvs_okd ok (ls := [firstL x, firstL x]) (fun l hl => by
    simp only [List.mem_cons, List.not_mem_nil, or_false] at hl
    rcases hl with rfl | rfl <;> exact fo) (by simp)).mono
  obtain ⟨bt, hbt⟩ : ∃ bt, bt = x.bat := ⟨_, rfl⟩
  refine ss_seq (N := fun y => y = [.pot, .d (.int ((n : Nat) : Int)), .d x.d, .d (.int a), .d (.str x.d.shown), .d (firstL x), .no, .no, .no]) (sd_par (S := fun y => y = [.str x.d.shown, firstL x]) 4 5 scLRight.nd (by decide) (pa_c (pd_repr hgd hu T.repr (pa_c (pd_v 2) pa_n) okB) (pa_c ?_ pa_n)) fun ds e => ⟨_, _, e, rfl⟩) fun δ' e => ?_
  · cases bt with
    | none => exact pd_if (k := true) (pt_isN (pd_ixT (d := .none) (pd_v 2) pd_int (by show some (batD x.bat) = _; rw [← hbt]; rfl)) pd_non) (fun _ => (pd_non).is (by unfold firstL; rw [← hbt])) fun h => Bool.noConfusion h
    | some b =>
      have hb3 : atI ([.str "block", intsT x.trips, intsT x.turns, batD x.bat] : List Dt) 3 = some b.d := by show some (batD x.bat) = _; rw [← hbt]; rfl
      exact pd_if (k := false) (pt_isN (pd_ixT (d := b.d) (pd_v 2) pd_int hb3) pd_non) (fun h => Bool.noConfusion h) fun _ => (pd_sub (pd_ixT (pd_ixT (d := b.d) (pd_v 2) pd_int hb3) pd_int rfl) (pd_ixT (pd_ixT (d := intsT b.needs) (pd_ixT (d := b.d) (pd_v 2) pd_int hb3) pd_int rfl) pd_int (at_need (p := 0) (ok.bt b hbt.symm) (by omega)))).is (by unfold firstL; rw [← hbt])
  subst e
  refine s_if0 (pt_neR (pd_repr hgd hu T.repr (pa_c (pd_lst (pa_c (pd_call C4 (pa_c (pd_v 2) pa_n) ⟨x, ok, rfl, rfl⟩) (pa_c (pd_callK (ks := ["block"]) [0] C4 (k_c (pd_v 2) k_n) ⟨x, ok, rfl, rfl⟩ (fun _ _ _ _ _ _ us hl => match us, hl with | [_], _ => rfl)) pa_n))) pa_n) okF) (pd_repr hgd hu T.repr (pa_c (pd_lst (pa_c (pd_v 5) (pa_c (pd_v 5) pa_n))) pa_n) okF)) ?_
  refine ss_seq (N := fun y => ∃ e6 e7 e8, y = [.pot, .d (.int ((n : Nat) : Int)), .d x.d, .d (.int a), .d (.str x.d.shown), .d (firstL x), e6, e7, e8]) (sd_for (js := [6]) PassesOwn.never rfl (i_rng1 (pa_c pd_int pa_n) T.range (by decide))
    (fun _ _ y => ∃ e6 e7 e8, y = [.pot, .d (.int ((n : Nat) : Int)), .d x.d, .d (.int a), .d (.str x.d.shown), .d (firstL x), e6, e7, e8]) (fun _ _ => ⟨.no, .no, .no, rfl⟩) (fun d δ' => δ'.set 6 (.d d)) (fun ds i d δ' e h iv => tg_name 6 scLRight.nd) (fun ds i d δ' e h iv => ?_) (fun ds δ' e iv => iv)) (fun δ' iv => ?_)
  · obtain ⟨e6, e7, e8, rfl⟩ := iv
    refine ss_seq (N := fun y => ∃ p : Nat, 1 ≤ p ∧ p < n ∧ y = [.pot, .d (.int ((n : Nat) : Int)), .d x.d, .d (.int a), .d (.str x.d.shown), .d (firstL x), .d d, .d (.int ((p : Nat) : Int)), .d .none]) (sd_par 7 8 scLRight.nd (by decide) (xa_xc (R := IntP fun k => 1 ≤ k ∧ k < n) (xi_add (S := fun k => k = 1) (T := Lo ((n : Nat) - 1 : Int)) (xi_of pd_int rfl) (xd_pot C2 0 (pa_c (pd_sub (pd_v 1) pd_int) pa_n) fun ds e => ⟨_, by omega, by omega, e, rfl⟩) fun i j e ⟨h1, h2⟩ => by subst e; omega) (pa_c pd_non pa_n))
      fun ds ⟨d1, y1, e1, ⟨k, ek, k0, k1⟩, e2⟩ => ⟨d1, .none, by rw [e1, e2], k.toNat, by omega, by omega, by subst ek; rw [Int.toNat_of_nonneg (by omega)]; rfl⟩) fun δ' ⟨p, p1, p2, e⟩ => ?_
    subst e
    refine ss_seq (N := fun y => ∃ l, LvOk x l ∧ y = [.pot, .d (.int ((n : Nat) : Int)), .d x.d, .d (.int a), .d (.str x.d.shown), .d (firstL x), .d d, .d (.int ((p : Nat) : Int)), .d l]) ?_ fun δ' ⟨l, lv, e⟩ => ?_
    · cases bt with
      | none => exact sd_if (S := fun c => c = false) (pt_notN (pd_ixT (d := .none) (pd_v 2) pd_int (by show some (batD x.bat) = _; rw [← hbt]; rfl)) pd_non) (fun h => Bool.noConfusion h) fun _ => ss_nil ⟨.none, by unfold LvOk; rw [← hbt], rfl⟩
      | some b =>
        have hb3 : atI ([.str "block", intsT x.trips, intsT x.turns, batD x.bat] : List Dt) 3 = some b.d := by show some (batD x.bat) = _; rw [← hbt]; rfl
        have bo := ok.bt b hbt.symm
        have f1 := bo.f1
        have f2 := bo.f2
        refine sd_if (S := fun c => c = true) (pt_notN (pd_ixT (d := b.d) (pd_v 2) pd_int hb3) pd_non) (fun _ => ?_) fun h => Bool.noConfusion h
        refine ss_seq (N := fun y => ∃ l, LvOk x l ∧ y = [.pot, .d (.int ((n : Nat) : Int)), .d x.d, .d (.int a), .d (.str x.d.shown), .d (firstL x), .d d, .d (.int ((p : Nat) : Int)), .d l]) (sd_set (R := IntP fun v => 0 ≤ v ∧ v ≤ b.full) 8 scLRight.nd (xd_pot C1 0 (xa_xc (xd_lst (R := fun d => ∃ k : Int, Lo (b.full + 1) k ∧ d = .list [.int 0, .int 0, .int b.full, .int k]) (xa_pc pd_int (xa_pc pd_int (xa_pc (d := .int b.full) (pd_ixT (pd_ixT (d := b.d) (pd_v 2) pd_int hb3) pd_int rfl) (xa_xc (R := IntP (Lo (b.full + 1))) (xd_pot C2 0 (pa_c (pd_add (pd_ixT (d := .int b.full) (pd_ixT (d := b.d) (pd_v 2) pd_int hb3) pd_int rfl) pd_int) pa_n) fun ds e => ⟨_, by omega, by omega, e, rfl⟩) xa_nil))))
          fun ds ⟨y1, e1, y2, e2, y3, e3, d4, y4, e4, ⟨k, ek, hk⟩, e5⟩ => by subst e5; subst ek; subst e4; subst e3; subst e2; subst e1; exact ⟨⟨k, hk, rfl⟩, by simp⟩) xa_nil)
          fun ds ⟨d1, y1, e1, ⟨k, hk, ek⟩, e2⟩ => ⟨[.int 0, .int 0, .int b.full, .int k], by simp, by simp, by rw [e1, e2, ek], fun d hd => by
            obtain ⟨k0, k1⟩ := hk
            simp only [List.mem_cons, List.not_mem_nil, or_false] at hd
            rcases hd with rfl | rfl | rfl | rfl <;> exact ⟨_, rfl, by omega⟩⟩) fun d ⟨v, e, v0, v1⟩ => ⟨.int v, by unfold LvOk; rw [← hbt]; exact ⟨v, v0, v1, rfl⟩, by subst e; rfl⟩) fun δ' h => ss_nil h
    subst e
    refine s_if0 (pt_n (u := true) (pt_v (xd_pot C5 0 (pa_c (pd_v 2) (pa_c (pd_v 7) (pa_c (pd_v 8) (pa_c (pd_v 3) pa_n)))) fun ds e => ⟨x, p, l, a, ok, p1, by omega, lv, a0, a1, e, rfl⟩))) (ss_nil ⟨_, _, _, rfl⟩)
  · obtain ⟨e6, e7, e8, rfl⟩ := iv
    exact s_ret (pd_and (u := true) (w := true) (xd_pot C6 0 (pa_c (pd_v 2) (pa_c (pd_v 3) pa_n)) fun ds e => ⟨x, a, ok, a0, a1, e, rfl⟩) fun _ => pd_one (pd_eqR (pd_repr hgd hu T.repr (pa_c (pd_v 2) pa_n) okB) (pd_v 4))) rfl
theorem scLaw : FnScope ["script", "k"] ["script"] (defScope sLaw) := ⟨rfl, rfl, rfl, by decide +kernel, rfl, by decide +kernel, by decide +kernel⟩
theorem f_law (T : T0 K mg) (C1 : Cal P w K mg base 11 "_law_right" ["pot"] sLRight (spP K rLRight)) (C2 : Cal P w K mg base 1 "_law_pot" ["script", "k"] sLPot (spO K rLPot)) (F : Fun K "law" "law" sLaw f fd) : FnG P w K mg base 12 f fd ["script"] (spD K (rLaw 63)) := by
  refine fn_data F scLaw (fun ds d ⟨_, _, e, _⟩ => by subst e; rfl) fun cdv A outer s H E hr hgd hu ds d h => ?_
  obtain ⟨ns, hn, rfl, rfl⟩ := h
  refine s_ret ((pd_all (bs := (List.range (max 1 (min 3 (((ns.map PyData.int).length : Nat) : Int))).toNat).map fun _ => true) rfl T.all (pa_c ((pd_map (xs := List.range (max 1 (min 3 (((ns.map PyData.int).length : Nat) : Int))).toNat) (enc := fun i : Nat => .int (0 + (i : Int))) (F := fun _ => .bool true) (own := [("k", 1)]) rfl scLaw.nd
      (i_rng1 (pa_c (pd_max2 rfl T.max (pa_c pd_int (pa_c (pd_min2 rfl T.min (pa_c pd_int (pa_c (pd_len_list T.len (pa_c (pd_v 0) pa_n)) pa_n))) pa_n))) pa_n) T.range (by omega)) (blkOk_by (N := ["script", "k"]) (sc := defScope sLaw) (by decide +kernel)) (by rw [List.length_range]; omega)
      (fun d => [.d (.list (ns.map PyData.int)), .d d]) (fun s H C cl fp i y hy => tg_name 1 scLaw.nd) (fun s H C cl fp i y hy => xd_potNew C1 C2 (pa_c (pd_v 0) (pa_c (pd_v 1) pa_n)) ⟨rfl, rfl⟩ ⟨ns, 0 + (y : Int), by omega, by have := List.mem_range.mp (List.mem_of_getElem? hy); omega, rfl, rfl⟩ (pot_ok ns _))).is (by rw [List.map_map]; rfl)) pa_n)).is ?_) rfl
  rw [all_true]
end
end K21

set_option linter.all false
open PySem PySem.Spec PyProof.Rows L2 Dv
theorem K21.all_mk {l : PySem.W.OpenLaw} {w : World} {K : Fg} {h : Heap} {mg : Str → Option Value} {fa : Addr} (X : K.In h) (G : h.Ns mainGlobals mg) (hfa : mg "law" = some (.ref fa))
    {t1 t2 t3 t4 : _} (e_trips : PySem.W.nsIn K mainGlobals "MOST_TRIPS" = some (some (.int 16 t1))) (e_turn : PySem.W.nsIn K mainGlobals "LONGEST_TURN" = some (some (.int 60 t2))) (e_full : PySem.W.nsIn K mainGlobals "MOST_FULL" = some (some (.int 99 t3))) (e_rate : PySem.W.nsIn K mainGlobals "MOST_RATE" = some (some (.int 9 t4)))
    (z_isi : PySem.W.nsIn K mainGlobals "isinstance" = some none)
    (z_int : PySem.W.nsIn K mainGlobals "int" = some none)
    (z_bool : PySem.W.nsIn K mainGlobals "bool" = some none)
    (z_tuple : PySem.W.nsIn K mainGlobals "tuple" = some none)
    (z_list : PySem.W.nsIn K mainGlobals "list" = some none)
    (z_str : PySem.W.nsIn K mainGlobals "str" = some none)
    (z_len : PySem.W.nsIn K mainGlobals "len" = some none)
    (z_all : PySem.W.nsIn K mainGlobals "all" = some none)
    (z_any : PySem.W.nsIn K mainGlobals "any" = some none)
    (z_max : PySem.W.nsIn K mainGlobals "max" = some none)
    (z_min : PySem.W.nsIn K mainGlobals "min" = some none)
    (z_abs : PySem.W.nsIn K mainGlobals "abs" = some none)
    (z_sorted : PySem.W.nsIn K mainGlobals "sorted" = some none)
    (z_repr : PySem.W.nsIn K mainGlobals "repr" = some none)
    (z_range : PySem.W.nsIn K mainGlobals "range" = some none)
    (z_enumerate : PySem.W.nsIn K mainGlobals "enumerate" = some none)
    (z_divmod : PySem.W.nsIn K mainGlobals "divmod" = some none)
    (z_set : PySem.W.nsIn K mainGlobals "set" = some none)
    (d_law_draw : Df K "_law_draw" K21.sLDraw)
    (d_law_pick : Df K "_law_pick" K21.sLPick)
    (d_law_block : Df K "_law_block" K21.sLBlock)
    (d_is_tuple : Df K "is_tuple" K21.sTuple)
    (d_is_word : Df K "is_word" K21.sWord)
    (d_is_named : Df K "is_named" K21.sNamed)
    (d_is_integer : Df K "is_integer" K21.sInteger)
    (d_is_count : Df K "is_count" K21.sCount)
    (d_is_within : Df K "is_within" K21.sWithin)
    (d_are_within : Df K "are_within" K21.sAreWithin)
    (d_is_battery : Df K "is_battery" K21.sBattery)
    (d_is_block_form : Df K "is_block_form" K21.sForm)
    (d_check_block : Df K "check_block" K21.sCkBlock)
    (d_first_level : Df K "first_level" K21.sFirst)
    (d_check_standing : Df K "check_standing" K21.sCkStanding)
    (d_lack_of : Df K "lack_of" K21.sLackOf)
    (d_lack : Df K "lack" K21.sLack)
    (d_check_arrived : Df K "check_arrived" K21.sCkArrived)
    (d_ready_at : Df K "ready_at" K21.sReadyAt)
    (d_ready : Df K "ready" K21.sReady)
    (d_level_behind : Df K "level_behind" K21.sBehind)
    (d_charged : Df K "charged" K21.sCharged)
    (d_law_levels : Df K "_law_levels" K21.sLLevels)
    (d_law_stand_right : Df K "_law_stand_right" K21.sLStand)
    (d_is_list : Df K "is_list" K21.sList)
    (d_is_time : Df K "is_time" K21.sTime)
    (d_are_times : Df K "are_times" K21.sTimes)
    (d_levels : Df K "levels" K21.sLevels)
    (d_law_row_right : Df K "_law_row_right" K21.sLRow)
    (d_law_right : Df K "_law_right" K21.sLRight)
    (d_law_pot : Df K "_law_pot" K21.sLPot)
    (d_law : Df K "law" K21.sLaw)
    : ∃ fd : FuncData, (∀ (s : Shared) (v : Value), BindsTo s fd ⟨[v], []⟩ [("script", v)]) ∧ ∀ base : Heap, K.In base → base.Ns mainGlobals mg → FnG l.prog w K mg base 12 fa fd ["script"] (spD K (rLaw 63)) := by
  have T : K21.T0 K mg := ⟨PySem.W.mg_none_of X G z_isi, PySem.W.mg_none_of X G z_int, PySem.W.mg_none_of X G z_bool, PySem.W.mg_none_of X G z_tuple, PySem.W.mg_none_of X G z_list, PySem.W.mg_none_of X G z_str, PySem.W.mg_none_of X G z_len, PySem.W.mg_none_of X G z_all, PySem.W.mg_none_of X G z_any, PySem.W.mg_none_of X G z_max, PySem.W.mg_none_of X G z_min, PySem.W.mg_none_of X G z_abs, PySem.W.mg_none_of X G z_sorted, PySem.W.mg_none_of X G z_repr, PySem.W.mg_none_of X G z_range, PySem.W.mg_none_of X G z_enumerate, PySem.W.mg_none_of X G z_divmod, PySem.W.mg_none_of X G z_set, ⟨t1, PySem.W.mg_of X G e_trips⟩, ⟨t2, PySem.W.mg_of X G e_turn⟩, ⟨t3, PySem.W.mg_of X G e_full⟩, ⟨t4, PySem.W.mg_of X G e_rate⟩⟩
  refine Df.law d_law X G hfa (fun _ _ _ _ _ _ us hl => match us, hl with | [_], _ => rfl) fun base f fd hK hn F => ?_
  have c_law_draw := d_law_draw.cal (P := l.prog) (w := w) (base := base) (ps := ["pot", "many"]) X G (fun _ _ _ _ _ _ us hl => match us, hl with | [_, _], _ => rfl) fun f fd F => K21.f_ldraw T F
  have c_law_pick := d_law_pick.cal (P := l.prog) (w := w) (base := base) (ps := ["pot", "some"]) X G (fun _ _ _ _ _ _ us hl => match us, hl with | [_, _], _ => rfl) fun f fd F => K21.f_lpick T c_law_draw F
  have c_law_block := d_law_block.cal (P := l.prog) (w := w) (base := base) (ps := ["pot", "many"]) X G (fun _ _ _ _ _ _ us hl => match us, hl with | [_, _], _ => rfl) fun f fd F => K21.f_lblock T c_law_draw c_law_pick F
  have c_is_tuple := d_is_tuple.cal (P := l.prog) (w := w) (base := base) (ps := ["value", "least", "most"]) X G (fun _ _ _ _ _ _ us hl => match us, hl with | [_, _, _], _ => rfl) fun f fd F => K21.f_tuple T F
  have c_is_word := d_is_word.cal (P := l.prog) (w := w) (base := base) (ps := ["value", "words"]) X G (fun _ _ _ _ _ _ us hl => match us, hl with | [_, _], _ => rfl) fun f fd F => K21.f_word T F
  have c_is_named := d_is_named.cal (P := l.prog) (w := w) (base := base) (ps := ["value", "word", "many"]) X G (fun _ _ _ _ _ _ us hl => match us, hl with | [_, _, _], _ => rfl) fun f fd F => K21.f_named c_is_tuple c_is_word F
  have c_is_integer := d_is_integer.cal (P := l.prog) (w := w) (base := base) (ps := ["value"]) X G (fun _ _ _ _ _ _ us hl => match us, hl with | [_], _ => rfl) fun f fd F => K21.f_integer T F
  have c_is_count := d_is_count.cal (P := l.prog) (w := w) (base := base) (ps := ["value"]) X G (fun _ _ _ _ _ _ us hl => match us, hl with | [_], _ => rfl) fun f fd F => K21.f_count c_is_integer F
  have c_is_within := d_is_within.cal (P := l.prog) (w := w) (base := base) (ps := ["value", "least", "most"]) X G (fun _ _ _ _ _ _ us hl => match us, hl with | [_, _, _], _ => rfl) fun f fd F => K21.f_within c_is_integer F
  have c_are_within := d_are_within.cal (P := l.prog) (w := w) (base := base) (ps := ["value", "many", "least", "most"]) X G (fun _ _ _ _ _ _ us hl => match us, hl with | [_, _, _, _], _ => rfl) fun f fd F => K21.f_areWithin T c_is_tuple c_is_within F
  have c_is_battery := d_is_battery.cal (P := l.prog) (w := w) (base := base) (ps := ["value", "many"]) X G (fun _ _ _ _ _ _ us hl => match us, hl with | [_, _], _ => rfl) fun f fd F => K21.f_battery T c_is_tuple c_is_within c_are_within F
  have c_is_block_form := d_is_block_form.cal (P := l.prog) (w := w) (base := base) (ps := ["value"]) X G (fun _ _ _ _ _ _ us hl => match us, hl with | [_], _ => rfl) fun f fd F => K21.f_form T c_is_named c_is_tuple c_is_count c_are_within c_is_battery F
  have c_check_block := d_check_block.cal (P := l.prog) (w := w) (base := base) (ps := ["block"]) X G (fun _ _ _ _ _ _ us hl => match us, hl with | [_], _ => rfl) fun f fd F => K21.f_ckblock c_is_block_form F
  have c_first_level := d_first_level.cal (P := l.prog) (w := w) (base := base) (ps := ["block"]) X G (fun _ _ _ _ _ _ us hl => match us, hl with | [_], _ => rfl) fun f fd F => K21.f_first c_check_block F
  have c_check_standing := d_check_standing.cal (P := l.prog) (w := w) (base := base) (ps := ["block", "place", "level"]) X G (fun _ _ _ _ _ _ us hl => match us, hl with | [_, _, _], _ => rfl) fun f fd F => K21.f_ckstanding T c_check_block c_is_within F
  have c_lack_of := d_lack_of.cal (P := l.prog) (w := w) (base := base) (ps := ["block", "place", "level"]) X G (fun _ _ _ _ _ _ us hl => match us, hl with | [_, _, _], _ => rfl) fun f fd F => K21.f_lackOf T F
  have c_lack := d_lack.cal (P := l.prog) (w := w) (base := base) (ps := ["block", "place", "level"]) X G (fun _ _ _ _ _ _ us hl => match us, hl with | [_, _, _], _ => rfl) fun f fd F => K21.f_lack c_check_standing c_lack_of F
  have c_check_arrived := d_check_arrived.cal (P := l.prog) (w := w) (base := base) (ps := ["block", "place", "level", "arrival"]) X G (fun _ _ _ _ _ _ us hl => match us, hl with | [_, _, _, _], _ => rfl) fun f fd F => K21.f_ckarrived c_check_standing c_is_count F
  have c_ready_at := d_ready_at.cal (P := l.prog) (w := w) (base := base) (ps := ["block", "place", "level", "arrival"]) X G (fun _ _ _ _ _ _ us hl => match us, hl with | [_, _, _, _], _ => rfl) fun f fd F => K21.f_readyAt T c_lack_of F
  have c_ready := d_ready.cal (P := l.prog) (w := w) (base := base) (ps := ["block", "place", "level", "arrival"]) X G (fun _ _ _ _ _ _ us hl => match us, hl with | [_, _, _, _], _ => rfl) fun f fd F => K21.f_ready c_check_arrived c_ready_at F
  have c_level_behind := d_level_behind.cal (P := l.prog) (w := w) (base := base) (ps := ["block", "place", "level", "minutes"]) X G (fun _ _ _ _ _ _ us hl => match us, hl with | [_, _, _, _], _ => rfl) fun f fd F => K21.f_behind T F
  have c_charged := d_charged.cal (P := l.prog) (w := w) (base := base) (ps := ["block", "place", "level", "arrival", "departure"]) X G (fun _ _ _ _ _ _ us hl => match us, hl with | [_, _, _, _, _], _ => rfl) fun f fd F => K21.f_charged c_check_arrived c_is_count c_ready_at c_level_behind F
  have c_law_levels := d_law_levels.cal (P := l.prog) (w := w) (base := base) (ps := ["full", "rate", "level", "many"]) X G (fun _ _ _ _ _ _ us hl => match us, hl with | [_, _, _, _], _ => rfl) fun f fd F => K21.f_llevels T F
  have c_law_stand_right := d_law_stand_right.cal (P := l.prog) (w := w) (base := base) (ps := ["pot", "block", "place", "level", "arrival"]) X G (fun _ _ _ _ _ _ us hl => match us, hl with | [_, _, _, _, _], _ => rfl) fun f fd F => K21.f_lstand T c_lack c_ready c_charged c_law_levels F
  have c_is_list := d_is_list.cal (P := l.prog) (w := w) (base := base) (ps := ["value", "least", "most"]) X G (fun _ _ _ _ _ _ us hl => match us, hl with | [_, _, _], _ => rfl) fun f fd F => K21.f_list T F
  have c_is_time := d_is_time.cal (P := l.prog) (w := w) (base := base) (ps := ["value"]) X G (fun _ _ _ _ _ _ us hl => match us, hl with | [_], _ => rfl) fun f fd F => K21.f_time c_is_tuple c_is_count F
  have c_are_times := d_are_times.cal (P := l.prog) (w := w) (base := base) (ps := ["value", "many"]) X G (fun _ _ _ _ _ _ us hl => match us, hl with | [_, _], _ => rfl) fun f fd F => K21.f_times T c_is_list c_is_time F
  have c_levels := d_levels.cal (P := l.prog) (w := w) (base := base) (ps := ["block", "times"]) X G (fun _ _ _ _ _ _ us hl => match us, hl with | [_, _], _ => rfl) fun f fd F => K21.f_levels T c_check_block c_are_times c_first_level c_ready_at c_level_behind F
  have c_law_row_right := d_law_row_right.cal (P := l.prog) (w := w) (base := base) (ps := ["pot", "block", "arrival"]) X G (fun _ _ _ _ _ _ us hl => match us, hl with | [_, _, _], _ => rfl) fun f fd F => K21.f_lrow T c_law_draw c_law_pick c_law_levels c_levels F
  have c_law_right := d_law_right.cal (P := l.prog) (w := w) (base := base) (ps := ["pot"]) X G (fun _ _ _ _ _ _ us hl => match us, hl with | [_], _ => rfl) fun f fd F => K21.f_lright T c_law_pick c_law_draw c_law_block c_first_level c_law_stand_right c_law_row_right F
  have c_law_pot := d_law_pot.cal (P := l.prog) (w := w) (base := base) (ps := ["script", "k"]) X G (fun _ _ _ _ _ _ us hl => match us, hl with | [_, _], _ => rfl) fun f fd F => K21.f_lpot T F
  exact K21.f_law T c_law_right c_law_pot F
open PySem PySem.W PyProof.Rows in
set_option maxRecDepth 100000 in
set_option maxHeartbeats 0 in
theorem PySem.Challenge.cw_citylines_k21_ready_and_charged_by_minut_holds : PySem.Challenge.rw_citylines_k21_ready_and_charged_by_minut.Holds := by
  w_on; o_law; k_head; (case hw => w_witness2)
  k_fill
  refine Dv.walkG (l := PySem.Challenge.rw_citylines_k21_ready_and_charged_by_minut) (n := 63) (k := 12) (x := "script") rfl (by decide) rfl ⟨rfl, by decide, by decide⟩ (fun w h Y => PySem.W.kIn_of Y) ?F
  case F =>
    intro w mg fa h KX G hmg
    refine' K21.all_mk KX G hmg ?e_trips ?e_turn ?e_full ?e_rate ?z_isi ?z_int ?z_bool ?z_tuple ?z_list ?z_str ?z_len ?z_all ?z_any ?z_max ?z_min ?z_abs ?z_sorted ?z_repr ?z_range ?z_enumerate ?z_divmod ?z_set ?d_law_draw ?d_law_pick ?d_law_block ?d_is_tuple ?d_is_word ?d_is_named ?d_is_integer ?d_is_count ?d_is_within ?d_are_within ?d_is_battery ?d_is_block_form ?d_check_block ?d_first_level ?d_check_standing ?d_lack_of ?d_lack ?d_check_arrived ?d_ready_at ?d_ready ?d_level_behind ?d_charged ?d_law_levels ?d_law_stand_right ?d_is_list ?d_is_time ?d_are_times ?d_levels ?d_law_row_right ?d_law_right ?d_law_pot ?d_law
    (case e_trips => k_is)
    (case e_turn => k_is)
    (case e_full => k_is)
    (case e_rate => k_is)
    (case z_isi => k_is)
    (case z_int => k_is)
    (case z_bool => k_is)
    (case z_tuple => k_is)
    (case z_list => k_is)
    (case z_str => k_is)
    (case z_len => k_is)
    (case z_all => k_is)
    (case z_any => k_is)
    (case z_max => k_is)
    (case z_min => k_is)
    (case z_abs => k_is)
    (case z_sorted => k_is)
    (case z_repr => k_is)
    (case z_range => k_is)
    (case z_enumerate => k_is)
    (case z_divmod => k_is)
    (case z_set => k_is)
    (case d_law_draw => (refine' Dv.df_mk ?a ?l ?c ?k; (case a => k_is); (case l => k_is); (case c => k_is); (case k => k_is)))
    (case d_law_pick => (refine' Dv.df_mk ?a ?l ?c ?k; (case a => k_is); (case l => k_is); (case c => k_is); (case k => k_is)))
    (case d_law_block => (refine' Dv.df_mk ?a ?l ?c ?k; (case a => k_is); (case l => k_is); (case c => k_is); (case k => k_is)))
    (case d_is_tuple => (refine' Dv.df_mk ?a ?l ?c ?k; (case a => k_is); (case l => k_is); (case c => k_is); (case k => k_is)))
    (case d_is_word => (refine' Dv.df_mk ?a ?l ?c ?k; (case a => k_is); (case l => k_is); (case c => k_is); (case k => k_is)))
    (case d_is_named => (refine' Dv.df_mk ?a ?l ?c ?k; (case a => k_is); (case l => k_is); (case c => k_is); (case k => k_is)))
    (case d_is_integer => (refine' Dv.df_mk ?a ?l ?c ?k; (case a => k_is); (case l => k_is); (case c => k_is); (case k => k_is)))
    (case d_is_count => (refine' Dv.df_mk ?a ?l ?c ?k; (case a => k_is); (case l => k_is); (case c => k_is); (case k => k_is)))
    (case d_is_within => (refine' Dv.df_mk ?a ?l ?c ?k; (case a => k_is); (case l => k_is); (case c => k_is); (case k => k_is)))
    (case d_are_within => (refine' Dv.df_mk ?a ?l ?c ?k; (case a => k_is); (case l => k_is); (case c => k_is); (case k => k_is)))
    (case d_is_battery => (refine' Dv.df_mk ?a ?l ?c ?k; (case a => k_is); (case l => k_is); (case c => k_is); (case k => k_is)))
    (case d_is_block_form => (refine' Dv.df_mk ?a ?l ?c ?k; (case a => k_is); (case l => k_is); (case c => k_is); (case k => k_is)))
    (case d_check_block => (refine' Dv.df_mk ?a ?l ?c ?k; (case a => k_is); (case l => k_is); (case c => k_is); (case k => k_is)))
    (case d_first_level => (refine' Dv.df_mk ?a ?l ?c ?k; (case a => k_is); (case l => k_is); (case c => k_is); (case k => k_is)))
    (case d_check_standing => (refine' Dv.df_mk ?a ?l ?c ?k; (case a => k_is); (case l => k_is); (case c => k_is); (case k => k_is)))
    (case d_lack_of => (refine' Dv.df_mk ?a ?l ?c ?k; (case a => k_is); (case l => k_is); (case c => k_is); (case k => k_is)))
    (case d_lack => (refine' Dv.df_mk ?a ?l ?c ?k; (case a => k_is); (case l => k_is); (case c => k_is); (case k => k_is)))
    (case d_check_arrived => (refine' Dv.df_mk ?a ?l ?c ?k; (case a => k_is); (case l => k_is); (case c => k_is); (case k => k_is)))
    (case d_ready_at => (refine' Dv.df_mk ?a ?l ?c ?k; (case a => k_is); (case l => k_is); (case c => k_is); (case k => k_is)))
    (case d_ready => (refine' Dv.df_mk ?a ?l ?c ?k; (case a => k_is); (case l => k_is); (case c => k_is); (case k => k_is)))
    (case d_level_behind => (refine' Dv.df_mk ?a ?l ?c ?k; (case a => k_is); (case l => k_is); (case c => k_is); (case k => k_is)))
    (case d_charged => (refine' Dv.df_mk ?a ?l ?c ?k; (case a => k_is); (case l => k_is); (case c => k_is); (case k => k_is)))
    (case d_law_levels => (refine' Dv.df_mk ?a ?l ?c ?k; (case a => k_is); (case l => k_is); (case c => k_is); (case k => k_is)))
    (case d_law_stand_right => (refine' Dv.df_mk ?a ?l ?c ?k; (case a => k_is); (case l => k_is); (case c => k_is); (case k => k_is)))
    (case d_is_list => (refine' Dv.df_mk ?a ?l ?c ?k; (case a => k_is); (case l => k_is); (case c => k_is); (case k => k_is)))
    (case d_is_time => (refine' Dv.df_mk ?a ?l ?c ?k; (case a => k_is); (case l => k_is); (case c => k_is); (case k => k_is)))
    (case d_are_times => (refine' Dv.df_mk ?a ?l ?c ?k; (case a => k_is); (case l => k_is); (case c => k_is); (case k => k_is)))
    (case d_levels => (refine' Dv.df_mk ?a ?l ?c ?k; (case a => k_is); (case l => k_is); (case c => k_is); (case k => k_is)))
    (case d_law_row_right => (refine' Dv.df_mk ?a ?l ?c ?k; (case a => k_is); (case l => k_is); (case c => k_is); (case k => k_is)))
    (case d_law_right => (refine' Dv.df_mk ?a ?l ?c ?k; (case a => k_is); (case l => k_is); (case c => k_is); (case k => k_is)))
    (case d_law_pot => (refine' Dv.df_mk ?a ?l ?c ?k; (case a => k_is); (case l => k_is); (case c => k_is); (case k => k_is)))
    (case d_law => (refine' Dv.df_mk ?a ?l ?c ?k; (case a => k_is); (case l => k_is); (case c => k_is); (case k => k_is)))

